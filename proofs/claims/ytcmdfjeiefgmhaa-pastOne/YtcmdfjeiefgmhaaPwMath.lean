/- Where everybody's caret is: plain facts. -/
import Derived.Test.YtcmdfjeiefgmhaaMesgMath
namespace Carets
set_option linter.unusedVariables false

/-- A site's caret; Seq 0: none is known. -/
structure Car where
  seq : Int
  epoch : Int
  ref : Int × Int
def noCar : Car := ⟨0, 0, (0, 0)⟩
def carIn (c : Car) (e : Int) : Bool := decide (c.seq ≠ 0) && decide (c.epoch = e)
theorem noCar_in (e : Int) : carIn noCar e = false := rfl
/-- Some list's caret of a place; none, beyond it. -/
def carAt (L : List Car) (i : Nat) : Car := L.getD i noCar
theorem carAt_lt {L : List Car} {i : Nat} (h : i < L.length) : carAt L i = L[i] := by
  unfold carAt
  rw [List.getD_eq_getElem?_getD, List.getElem?_eq_getElem h]
  rfl
theorem carAt_ge {L : List Car} {i : Nat} (h : L.length ≤ i) : carAt L i = noCar := by
  unfold carAt
  rw [List.getD_eq_getElem?_getD, List.getElem?_eq_none h]
  rfl
/-- What Move says, and the carets behind it. -/
def move (L : List Car) (m : Mesg.Msg) : Int × List Car :=
  if Mesg.may m = true ∧ m.know.length = L.length ∧ m.op.kind = 5 then
    (if m.seq ≤ (carAt L m.site.toNat).seq then (7, L) else (0, L.set m.site.toNat ⟨m.seq, m.op.epoch, (m.op.ref.time, m.op.ref.site)⟩))
  else (1, L)
theorem move_len (L : List Car) (m : Mesg.Msg) : (move L m).2.length = L.length := by
  unfold move
  split
  · split
    · rfl
    · simp
  · rfl
def isAt (L : List Car) (s e : Int) : Bool := decide (0 ≤ s ∧ s < L.length) && carIn (carAt L s.toNat) e
def atRef (L : List Car) (s e : Int) : Int × Int := if isAt L s e then (carAt L s.toNat).ref else (0, 0)
/-- The first k sites whose caret is in that epoch. -/
def sitesK (L : List Car) (e : Int) (k : Nat) : List Int := ((List.range k).filter fun i => carIn (carAt L i) e).map fun (i : Nat) => (i : Int)
theorem sitesK_succ (L : List Car) (e : Int) (k : Nat) : sitesK L e (k + 1) = sitesK L e k ++ (if carIn (carAt L k) e then [(k : Int)] else []) := by
  unfold sitesK
  rw [List.range_succ, List.filter_append, List.map_append]
  congr 1
  cases h : carIn (carAt L k) e <;> simp [h]
theorem sitesK_len (L : List Car) (e : Int) (k : Nat) : (sitesK L e k).length ≤ k := by
  unfold sitesK
  rw [List.length_map]
  exact Nat.le_trans (List.length_filter_le _ _) (by simp)
theorem sitesK_more (L : List Car) (e : Int) (j : Nat) : sitesK L e (L.length + j) = sitesK L e L.length := by
  induction j with
  | zero => rfl
  | succ j ih =>
    rw [show L.length + (j + 1) = L.length + j + 1 from rfl, sitesK_succ, ih, carAt_ge (by omega), noCar_in]
    simp
/-- All sixteen. -/
def full (L : List Car) : List Car := L ++ List.replicate (16 - L.length) noCar
theorem full_len {L : List Car} (h : L.length ≤ 16) : (full L).length = 16 := by
  unfold full
  rw [List.length_append, List.length_replicate]
  omega
theorem full_at {L : List Car} {i : Nat} (h : i < (full L).length) : (full L)[i] = carAt L i := by
  revert h
  unfold full
  intro h
  by_cases hi : i < L.length
  · rw [carAt_lt hi]
    rw [List.getElem_append_left hi]
  · rw [carAt_ge (by omega)]
    rw [List.getElem_append_right (by omega), List.getElem_replicate]
theorem full_set (L : List Car) (i : Nat) (h : i < L.length) (c : Car) : full (L.set i c) = (full L).set i c := by
  unfold full
  rw [List.length_set, List.set_append_left _ _ h]
/-- What a message that may be has for its site. -/
theorem may_site {m : Mesg.Msg} (h : Mesg.may m = true) : m.know.length ≤ 16 ∧ 0 ≤ m.site ∧ m.site < (m.know.length : Int) ∧ 1 ≤ m.seq := by
  have h2 : Mesg.headMay m = true := by
    unfold Mesg.may at h
    rw [Bool.and_eq_true] at h
    exact h.1
  unfold Mesg.headMay at h2
  simp only [Bool.and_eq_true, decide_eq_true_eq] at h2
  obtain ⟨⟨⟨⟨⟨⟨⟨a1, a2⟩, a3⟩, a4⟩, a5⟩, a6⟩, a7⟩, a8⟩ := h2
  exact ⟨a2, a4, a5, a6⟩
end Carets
