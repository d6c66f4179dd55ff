/- What duetref04.Encode comes to. -/
import Derived.Test.YtohlnhnelkoakaaMesgRef3
import Derived.Test.YtohlnhnelkoakaaMesgRef5
import Derived.Test.YtohlnhnelkoakaaMesgApart
import Derived.Test.YtohlnhnelkoakaaPackRef2
import Derived.Deep.RegionHeld3
namespace Go.Proofs.Ytohlnhnelkoakaa
open Go.RowKit
set_option linter.unusedVariables false

theorem ref04_Encode_no (m : Mesg.Msg) (v : Value) (w : World) (hv : SliceI w v m.know) (hm : m.know.length ≤ 1000000000) (hmay : Mesg.may m = false) :
    Calls Try.prog 12 #[msgV m v] w fun e w' => e = .returned (.tuple #[.string ⟨#[]⟩, .int .i64 1]) ∧ Below w.heap.size w w' := by
  have HV := Lib.hid hv
  clear hv
  have HCK := Lib.hid (fun W h => ref04_Check m v W h hm)
  have HN : Hid (checkN m = 1) := Lib.hid (by unfold checkN; rw [hmay]; rfl)
  clear hmay
  unfold msgV at HCK ⊢
  go_enter Try.func12, Try.ntmps12
  go_wp2_with fail
  refine (HCK.out _ (HV.out.below (grew_alloc _ _))).mono ?_
  rintro e w1 ⟨rfl, hb1⟩
  rw [HN.out]
  go_wp2
  go_ret2
  exact ⟨rfl, grew (grew_alloc _ _) hb1⟩

end Go.Proofs.Ytohlnhnelkoakaa
