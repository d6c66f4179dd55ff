/- What mesg's small questions come to. -/
import Derived.Test.YtakjoodlediemaaMesgMath
import Derived.Test.YtakjoodlediemaaInts
import Derived.Test.YtakjoodlediemaaKeep
namespace Go.Proofs.Ytakjoodlediemaa
open Go.RowKit
set_option linter.unusedVariables false

theorem ret_bool {a b : Bool} (h : a = b) : Ending.returned (.bool a) = .returned (.bool b) := by rw [h]

def idM (x : Mesg.Id) : Value := .agg #[.int .i64 x.time, .int .i64 x.site]

theorem mesg_Rune (n : Int) (w : World) : Calls Try.prog 55 #[.int .i64 n] w fun e w' => e = .returned (.bool (Mesg.rune n)) ∧ w = w' := by
  go_enter Try.func55, Try.ntmps55
  go_wp2
  all_goals go_ret
  all_goals exact ⟨ret_bool (by rw [Bool.eq_iff_iff]; simp [Mesg.rune]; try omega), rfl⟩

end Go.Proofs.Ytakjoodlediemaa