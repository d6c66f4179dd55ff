/- Plain mathematics of holds. -/
import Derived.Test.YtjklfjgdmklimaaRsMath
set_option linter.unusedVariables false
namespace Hold

structure St where
  room : Nat
  clock : List Int
  l : List Mesg.Msg

def key (m : Mesg.Msg) : Int × Int := (m.site, m.seq)
def find (l : List Mesg.Msg) (k : Int × Int) : Option Mesg.Msg := l.find? fun m => decide (key m = k)
def but (l : List Mesg.Msg) (k : Int × Int) : List Mesg.Msg := l.filter fun m => decide (key m ≠ k)
/-- Is a message due, by a clock? -/
def due (clock : List Int) (m : Mesg.Msg) : Bool := decide (m.seq = clock.getD m.site.toNat 0 + 1) && Vecs.below m.know clock
/-- The message of site i that is due. -/
def dueAt (s : St) (i : Nat) : Option Mesg.Msg := match find s.l ((i : Int), s.clock.getD i 0 + 1) with
  | some m => if due s.clock m then some m else none
  | none => none
/-- The first one from site i on, k sites. -/
def nextFrom (s : St) (i : Nat) : Nat → Option Mesg.Msg
  | 0 => none
  | k + 1 => match dueAt s i with
    | some m => some m
    | none => nextFrom s (i + 1) k
def next (s : St) : Option Mesg.Msg := nextFrom s 0 s.clock.length
def deliver (s : St) (m : Mesg.Msg) : St := { s with clock := s.clock.set m.site.toNat m.seq, l := but s.l (key m) }
/-- All that is told. -/
def tell : Nat → St → List Mesg.Msg × St
  | 0, s => ([], s)
  | n + 1, s => match next s with
    | some m => (m :: (tell n (deliver s m)).1, (tell n (deliver s m)).2)
    | none => ([], s)
def new (n r : Nat) : St := ⟨r, List.replicate n 0, []⟩
def put (s : St) (m : Mesg.Msg) : List Mesg.Msg × Int × St :=
  if Mesg.may m = true ∧ m.know.length = s.clock.length then
    if m.seq ≤ s.clock.getD m.site.toNat 0 ∨ find s.l (key m) = some m then ([], 7, s)
    else if due s.clock m = false ∧ s.room ≤ (but s.l (key m)).length then ([], 5, s)
    else
      let t := tell ((but s.l (key m)).length + 1) { s with l := but s.l (key m) ++ [m] }
      (t.1, 0, t.2)
  else ([], 1, s)

/-- All that a hold keeps to. -/
structure Ok (s : St) : Prop where
  sites : 1 ≤ s.clock.length ∧ s.clock.length ≤ 16
  room : s.room ≤ 1000
  full : s.l.length ≤ s.room + 1
  clock : ∀ z ∈ s.clock, Vecs.Ok z
  may : ∀ m ∈ s.l, Mesg.may m = true ∧ m.know.length = s.clock.length
  apart : s.l.Pairwise fun a b => key a ≠ key b
end Hold
