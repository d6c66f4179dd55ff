/- What mesg's small questions come to. -/
import Derived.Test.YtjklfjgdmklimaaMesgMath
import Derived.Test.YtjklfjgdmklimaaInts
import Derived.Test.YtjklfjgdmklimaaKeep
namespace Go.Proofs.Ytjklfjgdmklimaa
open Go.RowKit
set_option linter.unusedVariables false

theorem ret_bool {a b : Bool} (h : a = b) : Ending.returned (.bool a) = .returned (.bool b) := by rw [h]

theorem mesg_clock (n : Int) (w : World) : Calls Try.prog 59 #[.int .i64 n] w fun e w' => e = .returned (.bool (Mesg.clock n)) ∧ w = w' := by
  go_enter Try.func59, Try.ntmps59
  go_wp2
  all_goals go_ret
  all_goals exact ⟨ret_bool (by rw [Bool.eq_iff_iff]; simp [Mesg.clock]; try omega), rfl⟩

def idV (x : Mesg.Id) : Value := .agg #[.int .i64 x.time, .int .i64 x.site]

theorem mesg_isZero (x : Mesg.Id) (w : World) : Calls Try.prog 61 #[idV x] w fun e w' => e = .returned (.bool (Mesg.isZero x)) ∧ Below w.heap.size w w' := by
  unfold idV
  go_enter Try.func61, Try.ntmps61
  go_wp2
  all_goals go_ret
  all_goals exact ⟨ret_bool (by simp [Mesg.isZero, *]), grew_alloc _ _⟩

theorem mesg_Rune (n : Int) (w : World) : Calls Try.prog 62 #[.int .i64 n] w fun e w' => e = .returned (.bool (Mesg.rune n)) ∧ w = w' := by
  go_enter Try.func62, Try.ntmps62
  go_wp2
  all_goals go_ret
  all_goals exact ⟨ret_bool (by rw [Bool.eq_iff_iff]; simp [Mesg.rune]; try omega), rfl⟩

theorem mesg_idMayBe (x : Mesg.Id) (n : Nat) (w : World) : Calls Try.prog 60 #[idV x, .int .i64 (n : Int)] w fun e w' => e = .returned (.bool (Mesg.idMay x n)) ∧ Below w.heap.size w w' := by
  unfold idV
  by_cases h1 : 1 ≤ x.time
  · have hd1 : decide (1 ≤ x.time) = true := by simpa using h1
    cases hc : Mesg.clock x.time
    · have HC := Lib.hid hc
      go_enter Try.func60, Try.ntmps60
      go_wp2_with fail
      refine (mesg_clock _ _).mono ?_
      rintro e w1 ⟨rfl, rfl⟩
      rw [HC.out]
      clear hc
      go_wp2
      go_ret
      exact ⟨ret_bool (by simp [Mesg.idMay, HC.out]), grew_alloc _ _⟩
    · have HC := Lib.hid hc
      go_enter Try.func60, Try.ntmps60
      go_wp2_with fail
      refine (mesg_clock _ _).mono ?_
      rintro e w1 ⟨rfl, rfl⟩
      rw [HC.out]
      clear hc
      go_wp2
      all_goals go_ret
      all_goals exact ⟨ret_bool (by rw [Bool.eq_iff_iff]; simp [Mesg.idMay, HC.out]; try omega), grew_alloc _ _⟩
  · have hd1 : decide (1 ≤ x.time) = false := by simpa using h1
    go_enter Try.func60, Try.ntmps60
    go_wp2
    go_ret
    exact ⟨ret_bool (by simp [Mesg.idMay, hd1]), grew_alloc _ _⟩
end Go.Proofs.Ytjklfjgdmklimaa
