/- A maker that is none. -/
import Derived.Test.YteooganpnmfkbaaIdOpen
namespace Go.Proofs.Yteooganpnmfkbaa
open Go.RowKit
set_option linter.unusedVariables false

set_option maxRecDepth 100000 in
set_option maxHeartbeats 2000000 in
theorem walk_IdentNil (x : Int × Int) (w : World) (hx : I64 x.1 ∧ I64 x.2) :
    Calls Try.prog 11 #[idV x] w fun e w' => e = .returned (.bool true) ∧ Below w.heap.size w w' := by
  clear hx
  have HSEE := Lib.hid (fun W => ident_See_nil x W)
  unfold idV at HSEE ⊢
  obtain ⟨x1, x2⟩ := x
  simp only at HSEE ⊢
  have HB := Lib.hid (grew_alloc w (.cells #[.int .i64 x1, .int .i64 x2] 49))
  have HX := Lib.hid (Holds.new w [.int .i64 x1, .int .i64 x2] 49)
  go_enter Try.func11, Try.ntmps11
  go_wp2_with fail
  refine (ident_New_no (-1) _ (by decide)).mono ?_
  rintro e _ ⟨rfl, rfl⟩
  generalize w.alloc (.cells _ 49) = W1 at *
  go_wp2_with fail
  refine (ident_Make_nil _).mono ?_
  rintro e w2 ⟨rfl, hb⟩
  have HX := Lib.hid (HX.out.keep (Keep.of_grew hb Non) (fun h => h))
  have HB := Lib.hid (grew HB.out hb)
  clear hb
  simp only [idV]
  have HY := Lib.hid (Holds.new w2 [.int .i64 0, .int .i64 0] 49)
  have HX := Lib.hid (HX.out.keep (Keep.alloc Non w2 (.cells #[.int .i64 0, .int .i64 0] 49)) (fun h => h))
  have HB := Lib.hid (grew HB.out (grew_alloc w2 (.cells #[.int .i64 0, .int .i64 0] 49)))
  obtain ⟨c0, c1⟩ := HX.out.two
  go_wp2_with fail
  refine (HSEE.out _).mono ?_
  rintro e w3 ⟨rfl, hb⟩
  have HY := Lib.hid (HY.out.keep (Keep.of_grew hb Non) (fun h => h))
  have HB := Lib.hid (grew HB.out hb)
  clear hb c0 c1
  obtain ⟨d0, d1⟩ := HY.out.two
  go_wp2_with fail
  refine (ident_Time_nil _).mono ?_
  rintro e _ ⟨rfl, rfl⟩
  go_wp2_with fail
  refine (law10_live _).mono ?_
  rintro e w5 ⟨rfl, hb5⟩
  go_wp2
  go_ret
  exact ⟨rfl, grew HB.out hb5⟩
end Go.Proofs.Yteooganpnmfkbaa
