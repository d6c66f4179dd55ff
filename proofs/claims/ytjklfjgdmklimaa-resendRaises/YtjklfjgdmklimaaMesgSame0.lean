/- What duetref04.Same comes to. -/
import Derived.Test.YtjklfjgdmklimaaMesgCheck3
import Derived.Test.YtjklfjgdmklimaaMesgMath2
namespace Go.Proofs.Ytjklfjgdmklimaa
open Go.RowKit
set_option linter.unusedVariables false

set_option maxRecDepth 100000 in
set_option maxHeartbeats 1000000 in
theorem ref04_Same (a b : Mesg.Msg) (u v : Value) (w : World) (ha : SliceI w u a.know) (hb : SliceI w v b.know) (la : a.know.length ≤ 1000000000) (lb : b.know.length ≤ 1000000000) :
    Calls Try.prog 36 #[msgV a u, msgV b v] w fun e w' => e = .returned (.bool (decide (a = b))) ∧ Below w.heap.size w w' := by
  have HS := Lib.hid (fun W (h : Below w.heap.size w W) => ref01_Same u v a.know b.know W (ha.below h) (hb.below h) la lb)
  clear ha hb la lb
  obtain ⟨s1, s2, s3, ⟨s4, s5, ⟨s6, s7⟩, ⟨s8, s9⟩, s10⟩⟩ := a
  obtain ⟨t1, t2, t3, ⟨t4, t5, ⟨t6, t7⟩, ⟨t8, t9⟩, t10⟩⟩ := b
  unfold msgV
  go_enter Try.func36, Try.ntmps36
  go_wp2_with (first
    | (go_at_call 16; refine (HS.out _ (grew (grew_alloc _ _) (grew_alloc _ _))).mono ?_; rintro e w1 ⟨rfl, hb1⟩; have HB := Lib.hid (grew (grew_alloc _ _) (grew (grew_alloc _ _) hb1)); clear hb1))
  all_goals go_ret
  all_goals refine ⟨ret_bool ?_, by first | exact HB.out | exact grew (grew_alloc _ _) (grew_alloc _ _)⟩
  all_goals simp_all
end Go.Proofs.Ytjklfjgdmklimaa
