/- A line's editor, plainly: acts done to a line; words; what a key does. -/
import Derived.Test.YtakjoodlediemaaMesgMath
namespace Go.Proofs.Ytakjoodlediemaa
set_option linter.unusedVariables false

/-- A rune that is put ahead of a place, or one at a place that is cut. -/
structure EAct where
  kind : Int
  at' : Int
  rune : Int
deriving DecidableEq

namespace Ed
/-- One act. -/
def one (l : List Int) (a : EAct) : Option (List Int) :=
  if a.kind = 1 ∧ 0 ≤ a.at' ∧ a.at' ≤ l.length then some (l.take a.at'.toNat ++ a.rune :: l.drop a.at'.toNat)
  else if a.kind = 2 ∧ 0 ≤ a.at' ∧ a.at' < l.length then some (l.take a.at'.toNat ++ l.drop (a.at'.toNat + 1)) else none
/-- Acts, one behind the other. -/
def apply : List Int → List EAct → Option (List Int)
  | l, [] => some l
  | l, a :: as => match one l a with | none => none | some m => apply m as

theorem apply_app (as bs : List EAct) : ∀ l, apply l (as ++ bs) = (apply l as).bind (apply · bs) := by
  induction as with
  | nil => intro l; rfl
  | cons a as ih =>
    intro l
    simp only [List.cons_append, apply]
    cases one l a with
    | none => rfl
    | some m => exact ih m

/-- A place in a line. -/
def caret (l : List Int) (z : Int) : Nat := (min (max z 0) (l.length : Int)).toNat
theorem caret_le (l : List Int) (z : Int) : caret l z ≤ l.length := by unfold caret; omega

def letter (r : Int) : Bool := (decide (48 ≤ r) && decide (r ≤ 57)) || (decide (97 ≤ r) && decide (r ≤ 122)) || (decide (65 ≤ r) && decide (r ≤ 90)) || decide (r = 95) || decide (127 < r)

/-- How many of a list's first ones are so. -/
def run (p : Int → Bool) : List Int → Nat
  | [] => 0
  | x :: l => if p x then run p l + 1 else 0
theorem run_le (p : Int → Bool) (l : List Int) : run p l ≤ l.length := by
  induction l with
  | nil => simp [run]
  | cons x l ih => unfold run; split <;> simp <;> omega
/-- On from a place, while they are so. -/
def on (p : Int → Bool) (l : List Int) (i : Nat) : Nat := i + run p (l.drop i)
def back (p : Int → Bool) (l : List Int) (i : Nat) : Nat := i - run p (l.take i).reverse
theorem on_stop {p : Int → Bool} {l : List Int} {i : Nat} (h : l.length ≤ i) : on p l i = i := by
  unfold on; rw [List.drop_eq_nil_of_le h]; rfl
theorem on_no {p : Int → Bool} {l : List Int} {i : Nat} (h : i < l.length) (hp : p l[i] = false) : on p l i = i := by
  unfold on; rw [List.drop_eq_getElem_cons h, run, hp]; rfl
theorem on_yes {p : Int → Bool} {l : List Int} {i : Nat} (h : i < l.length) (hp : p l[i] = true) : on p l i = on p l (i + 1) := by
  unfold on; rw [List.drop_eq_getElem_cons h, run, hp]; simp; omega
theorem on_ge (p : Int → Bool) (l : List Int) (i : Nat) : i ≤ on p l i := by unfold on; omega
theorem on_le (p : Int → Bool) (l : List Int) (i : Nat) (h : i ≤ l.length) : on p l i ≤ l.length := by
  unfold on; have := run_le p (l.drop i); rw [List.length_drop] at this; omega
theorem back_zero (p : Int → Bool) (l : List Int) : back p l 0 = 0 := by simp [back]
theorem back_no {p : Int → Bool} {l : List Int} {i : Nat} (h : i < l.length) (hp : p l[i] = false) : back p l (i + 1) = i + 1 := by
  unfold back; rw [List.take_succ_eq_append_getElem h, List.reverse_append, List.reverse_cons, List.reverse_nil, List.nil_append, List.singleton_append, run, hp]; rfl
theorem back_yes {p : Int → Bool} {l : List Int} {i : Nat} (h : i < l.length) (hp : p l[i] = true) : back p l (i + 1) = back p l i := by
  unfold back; rw [List.take_succ_eq_append_getElem h, List.reverse_append, List.reverse_cons, List.reverse_nil, List.nil_append, List.singleton_append, run, hp]; simp
theorem back_le (p : Int → Bool) (l : List Int) (i : Nat) : back p l i ≤ i := by unfold back; omega

/-- The place behind the next word; the begin of the last one. -/
def wordOn (l : List Int) (i : Nat) : Nat := on letter l (on (fun r => !letter r) l i)
def wordBack (l : List Int) (i : Nat) : Nat := back letter l (back (fun r => !letter r) l i)
def word (l : List Int) (z : Int) (b : Bool) : Nat := if b then wordBack l (caret l z) else wordOn l (caret l z)
theorem wordOn_le (l : List Int) (i : Nat) (h : i ≤ l.length) : wordOn l i ≤ l.length := on_le _ _ _ (on_le _ _ _ h)
theorem wordOn_ge (l : List Int) (i : Nat) : i ≤ wordOn l i := Nat.le_trans (on_ge _ _ _) (on_ge _ _ _)
theorem wordBack_le (l : List Int) (i : Nat) : wordBack l i ≤ i := Nat.le_trans (back_le _ _ _) (back_le _ _ _)
end Ed

/-- What one key does to a state. -/
structure Tn where
  line : List Int
  at' : Nat
  long : Nat
  kill : List Int
  typed : Int
  acts : List EAct

namespace Ed
def put (t : Tn) (r : Int) : Tn × Bool := if Mesg.rune r = true ∧ t.long < 1000 then ({ t with acts := t.acts ++ [⟨1, t.at', r⟩], at' := t.at' + 1, long := t.long + 1 }, true) else (t, false)
def cutActs (from' : Nat) (l : List Int) : List EAct := l.map fun r => ⟨2, from', r⟩
def cut (t : Tn) (a b : Nat) : Tn := { t with acts := t.acts ++ cutActs a ((t.line.take b).drop a), at' := a, long := t.long - (b - a) }
def killed (t : Tn) (a b : Nat) : Tn := if a = b then t else { cut t a b with kill := (t.line.take b).drop a }
def yank (t : Tn) : List Int → Tn
  | [] => t
  | r :: l => if (put t r).2 then yank (put t r).1 l else (put t r).1
def swap (t : Tn) : Tn :=
  if t.at' = 0 ∨ t.long < 2 ∨ 1000 < t.long then t
  else if Mesg.rune (t.line.getD (min t.at' (t.long - 1) - 1) 0) then (put { cut t (min t.at' (t.long - 1) - 1) (min t.at' (t.long - 1)) with at' := min t.at' (t.long - 1) } (t.line.getD (min t.at' (t.long - 1) - 1) 0)).1
  else t

/-- What keys do. -/
inductive Deed where
  | typeRune | toBegin | toEnd | oneBack | oneOn | wordBack | wordOn | cutAhead | cutHere | killToEnd | killToBegin | killWordBack | killWordOn | yank | swap
deriving DecidableEq
def Deed.run : Deed → Tn → Tn
  | .typeRune, t => (put t t.typed).1
  | .toBegin, t => { t with at' := 0 }
  | .toEnd, t => { t with at' := t.line.length }
  | .oneBack, t => { t with at' := caret t.line (t.at' - 1) }
  | .oneOn, t => { t with at' := caret t.line (t.at' + 1) }
  | .wordBack, t => { t with at' := Ed.wordBack t.line (caret t.line t.at') }
  | .wordOn, t => { t with at' := Ed.wordOn t.line (caret t.line t.at') }
  | .cutAhead, t => cut t (caret t.line (t.at' - 1)) t.at'
  | .cutHere, t => cut t t.at' (caret t.line (t.at' + 1))
  | .killToEnd, t => killed t t.at' t.line.length
  | .killToBegin, t => killed t 0 t.at'
  | .killWordBack, t => killed t (Ed.wordBack t.line (caret t.line t.at')) t.at'
  | .killWordOn, t => killed t t.at' (Ed.wordOn t.line (caret t.line t.at'))
  | .yank, t => Ed.yank t t.kill
  | .swap, t => Ed.swap t

def doings : List ((Int × Int) × Deed) := [((1, 0), .typeRune), ((8, 0), .toBegin), ((2, 97), .toBegin), ((9, 0), .toEnd), ((2, 101), .toEnd), ((7, 0), .oneBack), ((2, 98), .oneBack), ((6, 0), .oneOn), ((2, 102), .oneOn), ((3, 98), .wordBack), ((3, 102), .wordOn), ((2, 104), .cutAhead), ((10, 0), .cutHere), ((2, 100), .cutHere), ((2, 107), .killToEnd), ((2, 117), .killToBegin), ((2, 119), .killWordBack), ((3, 127), .killWordBack), ((3, 100), .killWordOn), ((2, 121), .yank), ((2, 116), .swap)]
/-- A key without the rune, where what it does is the same with each one. -/
def name (k r : Int) : Int × Int := if k ≠ 2 ∧ k ≠ 3 then (k, 0) else (k, r)
def deed (k r : Int) : Option Deed := (doings.find? fun x => decide (x.1 = name k r)).map Prod.snd

def begun (l : List Int) (z : Int) (kl : List Int) (r : Int) : Tn := ⟨l, caret l z, l.length, kl, r, []⟩
def turned (l : List Int) (z : Int) (kl : List Int) (k r : Int) : Tn := match deed k r with | none => begun l z kl r | some d => d.run (begun l z kl r)

/-- What is told of a turn: its acts, done to the line, make one as long as it says, with the caret in it; the line is no longer than may be, or than it was. -/
structure Good (t : Tn) : Prop where
  done : ∃ m, apply t.line t.acts = some m ∧ m.length = t.long
  caret : t.at' ≤ t.long
  long : t.long ≤ max 1000 t.line.length

theorem one_put {l : List Int} {i : Nat} (r : Int) (h : i ≤ l.length) : one l ⟨1, i, r⟩ = some (l.take i ++ r :: l.drop i) := by
  unfold one
  rw [if_pos ⟨rfl, by simp, by simpa using h⟩]
  simp
theorem one_cut {l : List Int} {i : Nat} (r : Int) (h : i < l.length) : one l ⟨2, i, r⟩ = some (l.take i ++ l.drop (i + 1)) := by
  unfold one
  rw [if_neg (by simp), if_pos ⟨rfl, by simp, by simpa using h⟩]
  simp
theorem begun_good (l : List Int) (z : Int) (kl : List Int) (r : Int) : Good (begun l z kl r) := ⟨⟨l, rfl, rfl⟩, caret_le l z, by simp only [begun]; omega⟩
theorem put_good {t : Tn} (h : Good t) (r : Int) : Good (put t r).1 := by
  unfold put
  split
  · rename_i hc
    obtain ⟨⟨m, hm, hl⟩, hcar, hlong⟩ := h
    refine ⟨⟨m.take t.at' ++ r :: m.drop t.at', ?_, ?_⟩, by simp only; omega, by simp only; omega⟩
    · simp only
      rw [apply_app, hm]
      simp only [Option.bind_some, apply]
      rw [one_put r (by omega)]
    · simp only [List.length_append, List.length_take, List.length_cons, List.length_drop]
      omega
  · exact h
theorem apply_cuts (a : Nat) : ∀ (c l : List Int) , a + c.length ≤ l.length → apply l (cutActs a c) = some (l.take a ++ l.drop (a + c.length))
  | [], l, h => by simp [cutActs, apply]
  | r :: c, l, h => by
    simp only [List.length_cons] at h
    simp only [cutActs, List.map_cons, apply]
    rw [one_cut r (by omega)]
    simp only
    have ih := apply_cuts a c (l.take a ++ l.drop (a + 1)) (by simp only [List.length_append, List.length_take, List.length_drop]; omega)
    unfold cutActs at ih
    rw [ih]
    have e1 : (l.take a ++ l.drop (a + 1)).take a = l.take a := by
      rw [List.take_append_of_le_length (by rw [List.length_take]; omega), List.take_take, Nat.min_self]
    have e2 : (l.take a ++ l.drop (a + 1)).drop (a + c.length) = l.drop (a + (c.length + 1)) := by
      rw [List.drop_append, List.drop_eq_nil_of_le (by rw [List.length_take]; omega), List.nil_append, List.drop_drop, List.length_take]
      congr 1
      omega
    rw [e1, e2]
    rfl
theorem slice_length {l : List Int} {a b : Nat} (h1 : a ≤ b) (h2 : b ≤ l.length) : ((l.take b).drop a).length = b - a := by
  rw [List.length_drop, List.length_take]; omega
theorem cut_apply {t : Tn} (h0 : t.acts = []) {a b : Nat} (h1 : a ≤ b) (h2 : b ≤ t.line.length) : apply t.line (cut t a b).acts = some (t.line.take a ++ t.line.drop b) := by
  unfold cut
  simp only [h0, List.nil_append]
  rw [apply_cuts a _ _ (by rw [slice_length h1 h2]; omega), slice_length h1 h2]
  congr 3
  omega
theorem cut_good {t : Tn} (hl : t.long = t.line.length) (h0 : t.acts = []) {a b : Nat} (h1 : a ≤ b) (h2 : b ≤ t.line.length) : Good (cut t a b) := by
  refine ⟨⟨_, cut_apply h0 h1 h2, ?_⟩, ?_, ?_⟩
  · simp only [cut, List.length_append, List.length_take, List.length_drop, hl]; omega
  · simp only [cut]; omega
  · simp only [cut]; omega
theorem killed_good {t : Tn} (h : Good t) (hl : t.long = t.line.length) (h0 : t.acts = []) {a b : Nat} (h1 : a ≤ b) (h2 : b ≤ t.line.length) : Good (killed t a b) := by
  unfold killed
  split
  · exact h
  · obtain ⟨p, q, r⟩ := cut_good hl h0 h1 h2
    exact ⟨p, q, r⟩
theorem yank_good : ∀ (l : List Int) {t : Tn}, Good t → Good (yank t l)
  | [], t, h => h
  | r :: l, t, h => by
    unfold yank
    split
    · exact yank_good l (put_good h r)
    · exact put_good h r
theorem swap_good {t : Tn} (h : Good t) (hl : t.long = t.line.length) (h0 : t.acts = []) : Good (swap t) := by
  unfold swap
  split
  · exact h
  · rename_i hc
    split
    · refine put_good (t := { cut t (min t.at' (t.long - 1) - 1) (min t.at' (t.long - 1)) with at' := min t.at' (t.long - 1) }) ?_ _
      obtain ⟨p, q, r⟩ := cut_good hl h0 (a := min t.at' (t.long - 1) - 1) (b := min t.at' (t.long - 1)) (by omega) (by omega)
      refine ⟨p, ?_, r⟩
      simp only [cut]
      omega
    · exact h
theorem run_good (d : Deed) {t : Tn} (h : Good t) (hl : t.long = t.line.length) (h0 : t.acts = []) : Good (d.run t) := by
  have hc := h.caret
  obtain ⟨⟨m, hm, hml⟩, hcar, hlong⟩ := h
  have H : Good t := ⟨⟨m, hm, hml⟩, hcar, hlong⟩
  cases d with
  | typeRune => exact put_good H _
  | toBegin => exact ⟨⟨m, hm, hml⟩, by simp [Deed.run], hlong⟩
  | toEnd => exact ⟨⟨m, hm, hml⟩, by simp [Deed.run, hl], hlong⟩
  | oneBack => exact ⟨⟨m, hm, hml⟩, by simp only [Deed.run]; rw [hl]; exact caret_le _ _, hlong⟩
  | oneOn => exact ⟨⟨m, hm, hml⟩, by simp only [Deed.run]; rw [hl]; exact caret_le _ _, hlong⟩
  | wordBack => exact ⟨⟨m, hm, hml⟩, by simp only [Deed.run]; rw [hl]; exact Nat.le_trans (wordBack_le _ _) (caret_le _ _), hlong⟩
  | wordOn => exact ⟨⟨m, hm, hml⟩, by simp only [Deed.run]; rw [hl]; exact wordOn_le _ _ (caret_le _ _), hlong⟩
  | cutAhead => exact cut_good hl h0 (by unfold caret; omega) (by omega)
  | cutHere => exact cut_good hl h0 (by unfold caret; omega) (by unfold caret; omega)
  | killToEnd => exact killed_good H hl h0 (by omega) (Nat.le_refl _)
  | killToBegin => exact killed_good H hl h0 (by omega) (by omega)
  | killWordBack => exact killed_good H hl h0 (by have := wordBack_le t.line (caret t.line t.at'); unfold caret at this ⊢; omega) (by omega)
  | killWordOn => exact killed_good H hl h0 (by have := wordOn_ge t.line (caret t.line t.at'); unfold caret at this ⊢; omega) (wordOn_le _ _ (caret_le _ _))
  | yank => exact yank_good _ H
  | swap => exact swap_good H hl h0
theorem turned_good (l : List Int) (z : Int) (kl : List Int) (k r : Int) : Good (turned l z kl k r) := by
  unfold turned
  split
  · exact begun_good _ _ _ _
  · exact run_good _ (begun_good _ _ _ _) rfl rfl
end Ed
end Go.Proofs.Ytakjoodlediemaa
