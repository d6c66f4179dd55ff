/- What mesg's small questions come to. -/
import Derived.Test.YtepddieblankpaaDoorMesgMath
import Derived.Test.YtepddieblankpaaDoorInts
import Derived.Test.YtepddieblankpaaDoorKeep
namespace Go.Proofs.YtepddieblankpaaDoor
open Go.RowKit
set_option linter.unusedVariables false

theorem ret_bool {a b : Bool} (h : a = b) : Ending.returned (.bool a) = .returned (.bool b) := by rw [h]

def idM (x : Mesg.Id) : Value := .agg #[.int .i64 x.time, .int .i64 x.site]

theorem mesg_Rune (n : Int) (w : World) : Calls Tryd.prog 46 #[.int .i64 n] w fun e w' => e = .returned (.bool (Mesg.rune n)) ∧ w = w' := by
  go_enter Tryd.func46, Tryd.ntmps46
  go_wp2
  all_goals go_ret
  all_goals exact ⟨ret_bool (by rw [Bool.eq_iff_iff]; simp [Mesg.rune]; try omega), rfl⟩

end Go.Proofs.YtepddieblankpaaDoor