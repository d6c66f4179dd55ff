/- Plain mathematics of stores. -/
import Derived.Test.YtjklfjgdmklimaaMesgMath2
import Derived.Test.YtjklfjgdmklimaaVecMath
set_option linter.unusedVariables false
namespace Resend

structure St where
  sites : Nat
  room : Nat
  l : List Mesg.Msg

/-- A message's site and Seq. -/
def key (m : Mesg.Msg) : Int × Int := (m.site, m.seq)
def find (l : List Mesg.Msg) (k : Int × Int) : Option Mesg.Msg := l.find? fun m => decide (key m = k)
def new (n r : Nat) : St := ⟨n, r, []⟩
def keep (s : St) (m : Mesg.Msg) : Int × St :=
  if Mesg.may m = true ∧ m.know.length = s.sites then (if (find s.l (key m)).isSome then (7, s) else if s.l.length < s.room then (0, { s with l := s.l ++ [m] }) else (5, s)) else (1, s)
def get (s : St) (k : Int × Int) : Mesg.Msg × Bool := match find s.l k with | some m => (m, true) | none => (Mesg.none, false)
def left (v : List Int) (l : List Mesg.Msg) : List Mesg.Msg := l.filter fun m => !Vecs.covers v m.site m.seq
def drop (s : St) (v : List Int) : Int × Int × St :=
  if Vecs.may v = true ∧ v.length = s.sites then ((s.l.length : Int) - (left v s.l).length, 0, { s with l := left v s.l }) else (0, 1, s)

/-- All that a store keeps to. -/
structure Ok (s : St) : Prop where
  sites : 1 ≤ s.sites ∧ s.sites ≤ 16
  room : 1 ≤ s.room ∧ s.room ≤ 100000
  full : s.l.length ≤ s.room
  may : ∀ m ∈ s.l, Mesg.may m = true ∧ m.know.length = s.sites

theorem Ok.new {n r : Nat} (hn : 1 ≤ n ∧ n ≤ 16) (hr : 1 ≤ r ∧ r ≤ 100000) : Ok (new n r) := ⟨hn, hr, by simp [Resend.new], by simp [Resend.new]⟩
theorem Ok.keep {s : St} (h : Ok s) (m : Mesg.Msg) : Ok (keep s m).2 := by
  unfold Resend.keep
  split
  · rename_i hm
    split
    · exact h
    · split
      · rename_i hl
        refine ⟨h.sites, h.room, by simp; omega, fun x hx => ?_⟩
        rcases List.mem_append.1 hx with hx | hx
        · exact h.may x hx
        · rw [List.mem_singleton.1 hx]; exact hm
      · exact h
  · exact h
theorem Ok.drop {s : St} (h : Ok s) (v : List Int) : Ok (drop s v).2.2 := by
  unfold Resend.drop
  split
  · exact ⟨h.sites, h.room, Nat.le_trans (List.length_filter_le _ _) h.full, fun x hx => h.may x (List.mem_filter.1 hx).1⟩
  · exact h

/-- What may be has numbers within bounds. -/
theorem may_bounds {m : Mesg.Msg} (h : Mesg.may m = true) : 1 ≤ m.know.length ∧ m.know.length ≤ 16 ∧ (0 ≤ m.site ∧ m.site < (m.know.length : Int)) ∧ (1 ≤ m.seq ∧ m.seq ≤ 4294967295) ∧ (∀ z ∈ m.know, Vecs.Ok z) ∧ m.know.getD m.site.toNat 0 = m.seq - 1 := by
  have h1 := Mesg.may_head h
  have h2 : Mesg.headMay m = true := by
    unfold Mesg.may at h
    rw [Bool.and_eq_true] at h
    exact h.1
  unfold Mesg.headMay at h2
  simp only [Bool.and_eq_true, decide_eq_true_eq] at h2
  obtain ⟨⟨⟨⟨⟨⟨⟨a1, a2⟩, a3⟩, a4⟩, a5⟩, a6⟩, a7⟩, a8⟩ := h2
  exact ⟨a1, a2, ⟨a4, a5⟩, ⟨a6, h1.2.2.2.2.2⟩, h1.2.2.1, a8⟩
theorem may_vec {m : Mesg.Msg} (h : Mesg.may m = true) : Vecs.may m.know = true := by
  have := may_bounds h
  exact Vecs.may_iff.2 ⟨this.1, this.2.1, this.2.2.2.2.1⟩

/-- What asks are of two Vecs: of site i from the number a on, up to b. -/
def asksOf (i : Nat) (a b : Int) : List (Int × Int) := (List.range (b - a).toNat).map fun (k : Nat) => ((i : Int), a + 1 + (k : Int))
/-- .. of the sites below k. -/
def asksUp (has knows : List Int) : Nat → List (Int × Int)
  | 0 => []
  | k + 1 => asksUp has knows k ++ asksOf k (has.getD k 0) (knows.getD k 0)
def asks (has knows : List Int) (most : Int) : List (Int × Int) × Int :=
  if Vecs.together has knows = true ∧ 0 ≤ most ∧ most ≤ 1000 then ((asksUp has knows has.length).take most.toNat, 0) else ([], 1)

theorem take_full {α : Type} {xs : List α} {n : Nat} (h : n ≤ (xs.take n).length) (ys : List α) : (xs ++ ys).take n = xs.take n := by
  have : n ≤ xs.length := by rw [List.length_take] at h; omega
  rw [List.take_append_of_le_length this]
theorem take_more {α : Type} {xs : List α} {n : Nat} (h : (xs.take n).length < n) (y : α) : (xs ++ [y]).take n = xs.take n ++ [y] := by
  have h1 : xs.length < n := by rw [List.length_take] at h; omega
  rw [List.take_of_length_le (by simp; omega), List.take_of_length_le (by omega)]
theorem asksOf_len (i : Nat) (a b : Int) : (asksOf i a b).length = (b - a).toNat := by simp [asksOf]
theorem asksOf_take (i : Nat) (a b : Int) {k : Nat} (h : k < (b - a).toNat) : (asksOf i a b).take (k + 1) = (asksOf i a b).take k ++ [((i : Int), a + 1 + (k : Int))] := by
  rw [List.take_succ_eq_append_getElem (by rw [asksOf_len]; exact h)]
  congr 1
  simp [asksOf]
end Resend
