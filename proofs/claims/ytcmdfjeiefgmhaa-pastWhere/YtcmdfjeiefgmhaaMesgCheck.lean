/- What mesg's small questions come to. -/
import Derived.Test.YtcmdfjeiefgmhaaMesgMath
import Derived.Test.YtcmdfjeiefgmhaaInts
import Derived.Test.YtcmdfjeiefgmhaaKeep
namespace Go.Proofs.Ytcmdfjeiefgmhaa
open Go.RowKit
set_option linter.unusedVariables false

theorem ret_bool {a b : Bool} (h : a = b) : Ending.returned (.bool a) = .returned (.bool b) := by rw [h]

theorem mesg_clock (n : Int) (w : World) : Calls Try.prog 96 #[.int .i64 n] w fun e w' => e = .returned (.bool (Mesg.clock n)) ∧ w = w' := by
  go_enter Try.func96, Try.ntmps96
  go_wp2
  all_goals go_ret
  all_goals exact ⟨ret_bool (by rw [Bool.eq_iff_iff]; simp [Mesg.clock]; try omega), rfl⟩

def idM (x : Mesg.Id) : Value := .agg #[.int .i64 x.time, .int .i64 x.site]

theorem mesg_isZero (x : Mesg.Id) (w : World) : Calls Try.prog 98 #[idM x] w fun e w' => e = .returned (.bool (Mesg.isZero x)) ∧ Below w.heap.size w w' := by
  unfold idM
  go_enter Try.func98, Try.ntmps98
  go_wp2
  all_goals go_ret
  all_goals exact ⟨ret_bool (by simp [Mesg.isZero, *]), grew_alloc _ _⟩

theorem mesg_Rune (n : Int) (w : World) : Calls Try.prog 99 #[.int .i64 n] w fun e w' => e = .returned (.bool (Mesg.rune n)) ∧ w = w' := by
  go_enter Try.func99, Try.ntmps99
  go_wp2
  all_goals go_ret
  all_goals exact ⟨ret_bool (by rw [Bool.eq_iff_iff]; simp [Mesg.rune]; try omega), rfl⟩

theorem mesg_idMayBe (x : Mesg.Id) (n : Nat) (w : World) : Calls Try.prog 97 #[idM x, .int .i64 (n : Int)] w fun e w' => e = .returned (.bool (Mesg.idMay x n)) ∧ Below w.heap.size w w' := by
  unfold idM
  by_cases h1 : 1 ≤ x.time
  · have hd1 : decide (1 ≤ x.time) = true := by simpa using h1
    cases hc : Mesg.clock x.time
    · have HC := Lib.hid hc
      go_enter Try.func97, Try.ntmps97
      go_wp2_with fail
      refine (mesg_clock _ _).mono ?_
      rintro e w1 ⟨rfl, rfl⟩
      rw [HC.out]
      clear hc
      go_wp2
      go_ret
      exact ⟨ret_bool (by simp [Mesg.idMay, HC.out]), grew_alloc _ _⟩
    · have HC := Lib.hid hc
      go_enter Try.func97, Try.ntmps97
      go_wp2_with fail
      refine (mesg_clock _ _).mono ?_
      rintro e w1 ⟨rfl, rfl⟩
      rw [HC.out]
      clear hc
      go_wp2
      all_goals go_ret
      all_goals exact ⟨ret_bool (by rw [Bool.eq_iff_iff]; simp [Mesg.idMay, HC.out]; try omega), grew_alloc _ _⟩
  · have hd1 : decide (1 ≤ x.time) = false := by simpa using h1
    go_enter Try.func97, Try.ntmps97
    go_wp2
    go_ret
    exact ⟨ret_bool (by simp [Mesg.idMay, hd1]), grew_alloc _ _⟩
end Go.Proofs.Ytcmdfjeiefgmhaa
