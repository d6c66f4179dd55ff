/- What mesg's small questions come to. -/
import Derived.Test.YtohlnhnelkoakaaMesgMath
import Derived.Test.YtohlnhnelkoakaaInts
import Derived.Test.YtohlnhnelkoakaaKeep
namespace Go.Proofs.Ytohlnhnelkoakaa
open Go.RowKit
set_option linter.unusedVariables false

theorem ret_bool {a b : Bool} (h : a = b) : Ending.returned (.bool a) = .returned (.bool b) := by rw [h]

theorem mesg_clock (n : Int) (w : World) : Calls Try.prog 47 #[.int .i64 n] w fun e w' => e = .returned (.bool (Mesg.clock n)) ∧ w = w' := by
  go_enter Try.func47, Try.ntmps47
  go_wp2
  all_goals go_ret
  all_goals exact ⟨ret_bool (by rw [Bool.eq_iff_iff]; simp [Mesg.clock]; try omega), rfl⟩

def idV (x : Mesg.Id) : Value := .agg #[.int .i64 x.time, .int .i64 x.site]

theorem mesg_isZero (x : Mesg.Id) (w : World) : Calls Try.prog 49 #[idV x] w fun e w' => e = .returned (.bool (Mesg.isZero x)) ∧ Below w.heap.size w w' := by
  unfold idV
  go_enter Try.func49, Try.ntmps49
  go_wp2
  all_goals go_ret
  all_goals exact ⟨ret_bool (by simp [Mesg.isZero, *]), grew_alloc _ _⟩

theorem mesg_Rune (n : Int) (w : World) : Calls Try.prog 15 #[.int .i64 n] w fun e w' => e = .returned (.bool (Mesg.rune n)) ∧ w = w' := by
  go_enter Try.func15, Try.ntmps15
  go_wp2
  all_goals go_ret
  all_goals exact ⟨ret_bool (by rw [Bool.eq_iff_iff]; simp [Mesg.rune]; try omega), rfl⟩

theorem mesg_hasId (n : Int) (w : World) : Calls Try.prog 23 #[.int .i64 n] w fun e w' => e = .returned (.bool (decide (n = 1 ∨ n = 6))) ∧ w = w' := by
  go_enter Try.func23, Try.ntmps23
  go_wp2
  all_goals go_ret
  all_goals exact ⟨ret_bool (by rw [Bool.eq_iff_iff]; simp; try omega), rfl⟩
theorem mesg_hasRef (n : Int) (w : World) : Calls Try.prog 24 #[.int .i64 n] w fun e w' => e = .returned (.bool (decide (n ≠ 6))) ∧ w = w' := by
  go_enter Try.func24, Try.ntmps24
  go_wp2
  all_goals go_ret
  all_goals exact ⟨ret_bool (by rw [Bool.eq_iff_iff]; simp; try omega), rfl⟩
theorem mesg_hasRune (n : Int) (w : World) : Calls Try.prog 25 #[.int .i64 n] w fun e w' => e = .returned (.bool (decide (n = 1))) ∧ w = w' := by
  go_enter Try.func25, Try.ntmps25
  go_wp2
  all_goals go_ret
  all_goals exact ⟨ret_bool (by rw [Bool.eq_iff_iff]; simp; try omega), rfl⟩

theorem mesg_idMayBe (x : Mesg.Id) (n : Nat) (w : World) : Calls Try.prog 48 #[idV x, .int .i64 (n : Int)] w fun e w' => e = .returned (.bool (Mesg.idMay x n)) ∧ Below w.heap.size w w' := by
  unfold idV
  by_cases h1 : 1 ≤ x.time
  · have hd1 : decide (1 ≤ x.time) = true := by simpa using h1
    cases hc : Mesg.clock x.time
    · have HC := Lib.hid hc
      go_enter Try.func48, Try.ntmps48
      go_wp2_with fail
      refine (mesg_clock _ _).mono ?_
      rintro e w1 ⟨rfl, rfl⟩
      rw [HC.out]
      clear hc
      go_wp2
      go_ret
      exact ⟨ret_bool (by simp [Mesg.idMay, HC.out]), grew_alloc _ _⟩
    · have HC := Lib.hid hc
      go_enter Try.func48, Try.ntmps48
      go_wp2_with fail
      refine (mesg_clock _ _).mono ?_
      rintro e w1 ⟨rfl, rfl⟩
      rw [HC.out]
      clear hc
      go_wp2
      all_goals go_ret
      all_goals exact ⟨ret_bool (by rw [Bool.eq_iff_iff]; simp [Mesg.idMay, HC.out]; try omega), grew_alloc _ _⟩
  · have hd1 : decide (1 ≤ x.time) = false := by simpa using h1
    go_enter Try.func48, Try.ntmps48
    go_wp2
    go_ret
    exact ⟨ret_bool (by simp [Mesg.idMay, hd1]), grew_alloc _ _⟩
end Go.Proofs.Ytohlnhnelkoakaa
