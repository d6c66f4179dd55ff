/- Where everybody's caret is: Nowhere, Move, At, Sites. -/
import Derived.Test.YtcmdfjeiefgmhaaPwMem
import Derived.Test.YtcmdfjeiefgmhaaQLater
import Derived.Test.YtcmdfjeiefgmhaaInts0
import Derived.StillTailTactics
namespace Go.Proofs.Ytcmdfjeiefgmhaa
open Go.RowKit Carets
set_option linter.unusedVariables false

theorem carsL_none (n : Nat) : carsL (List.replicate n noCar) = List.replicate (n * 4) (.int .i64 0) := by
  induction n with
  | zero => rfl
  | succ n ih =>
    rw [List.replicate_succ, carsL, ih, show (n + 1) * 4 = n * 4 + 4 from by omega]
    rw [show n * 4 + 4 = 4 + n * 4 from by omega, ← List.replicate_append_replicate]
    rfl

theorem past_Nowhere_no (n : Int) (h : ¬ (1 ≤ n ∧ n ≤ 16)) (w : World) : Calls Try.prog 45 #[.int .i64 n] w fun e w' => e = .returned (.tuple #[.pointer none, .int .i64 1]) ∧ Below w.heap.size w w' := by
  by_cases h1 : n < 1
  · go_enter Try.func45, Try.ntmps45
    go_wp2
    go_ret2
    exact ⟨rfl, Below.refl _ _⟩
  · have h2 : (16 : Int) < n := by omega
    clear h
    go_enter Try.func45, Try.ntmps45
    go_wp2
    go_ret2
    exact ⟨rfl, Below.refl _ _⟩
set_option maxRecDepth 100000 in
theorem past_Nowhere_yes (n : Nat) (h : 1 ≤ n ∧ n ≤ 16) (w : World) : Calls Try.prog 45 #[.int .i64 n] w fun e w' => e = .returned (.tuple #[.pointer (some ⟨w.heap.size, 0, none⟩), .int .i64 0]) ∧ WhereV w.heap.size (List.replicate n noCar) w' (fun k => k = w.heap.size) ∧ Below w.heap.size w w' := by
  have h1 : decide ((n : Int) < 1) = false := decide_eq_false (by omega)
  have h2 : decide ((16 : Int) < (n : Int)) = false := decide_eq_false (by omega)
  have h3 : decide (16 < n) = false := decide_eq_false (by omega)
  have h4 : decide (n < 1) = false := decide_eq_false (by omega)
  have H := Lib.hid (Holds.new w (.int .i64 (n : Int) :: carsL (List.replicate 16 noCar)) 127)
  have HB := Lib.hid (grew_alloc w (.cells (.int .i64 (n : Int) :: carsL (List.replicate 16 noCar)).toArray 127))
  have HN := Lib.hid h
  clear h
  go_enter Try.func45, Try.ntmps45
  go_wp2
  go_ret2
  refine ⟨rfl, ⟨?_, by rw [List.length_replicate]; exact HN.out, fun k => Iff.rfl⟩, HB.out⟩
  have e : full (List.replicate n noCar) = List.replicate 16 noCar := by
    unfold full
    rw [List.length_replicate, List.replicate_append_replicate, show n + (16 - n) = 16 from by have := HN.out; omega]
  rw [e, List.length_replicate]
  exact H.out

/-- One caret's four cells, over any later world. -/
theorem caret_isIn (c : Car) (e : Int) (w : World) : Calls Try.prog 71 #[.agg #[.int .i64 c.seq, .int .i64 c.epoch, .int .i64 c.ref.1, .int .i64 c.ref.2], .int .i64 e] w fun r w' => r = .returned (.bool (carIn c e)) ∧ Below w.heap.size w w' := by
  obtain ⟨q, ep, r1, r2⟩ := c
  have HB := Lib.hid (grew_alloc w (.cells #[.int .i64 q, .int .i64 ep, .int .i64 r1, .int .i64 r2] 124))
  simp only
  by_cases h0 : q = 0
  · have d1 : (q != 0) = false := by simp [h0]
    have HR : Hid (carIn ⟨q, ep, (r1, r2)⟩ e = false) := Lib.hid (by unfold carIn; simp [h0])
    rw [HR.out]
    clear h0
    go_enter Try.func71, Try.ntmps71
    go_wp2
    go_ret
    exact ⟨rfl, HB.out⟩
  · have d1 : (q != 0) = true := by simp [h0]
    have HR : Hid (carIn ⟨q, ep, (r1, r2)⟩ e = (ep == e)) := Lib.hid (by unfold carIn; rw [decide_eq_true h0, Bool.true_and]; rfl)
    rw [HR.out]
    clear h0
    go_enter Try.func71, Try.ntmps71
    go_wp2
    go_ret
    exact ⟨rfl, HB.out⟩

theorem past_At_nil (s e : Int) (w : World) : Calls Try.prog 49 #[.pointer none, .int .i64 s, .int .i64 e] w fun r w' => r = .returned (.tuple #[.agg #[.int .i64 0, .int .i64 0], .bool false]) ∧ Below w.heap.size w w' := by
  have HB := Lib.hid (grew_alloc w (.cells #[.int .i64 0, .int .i64 0] 34))
  go_enter Try.func49, Try.ntmps49
  go_wp2
  refine bodyPost_ret (v := .tuple #[.agg #[.int .i64 0, .int .i64 0], .bool false]) (by simp [results, Try.results49, go_sem]) rfl ?_
  exact ⟨rfl, HB.out⟩
theorem past_Sites_nil (e : Int) (w : World) : Calls Try.prog 51 #[.pointer none, .int .i64 e] w fun r w' => r = .returned (.slice none 0 0) ∧ Below w.heap.size w w' := by
  go_enter Try.func51, Try.ntmps51
  go_wp2
  go_ret
  exact ⟨rfl, Below.refl _ _⟩
end Go.Proofs.Ytcmdfjeiefgmhaa
