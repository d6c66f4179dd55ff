/- A hold that is none. -/
import Derived.Test.YtafcabepdaejbaaHdLive2
import Derived.Test.YtafcabepdaejbaaMesgOpen
namespace Go.Proofs.Ytafcabepdaejbaa
open Go.RowKit
set_option linter.unusedVariables false

set_option maxRecDepth 100000 in
set_option maxHeartbeats 8000000 in
theorem walk_HoldNil (m : Mesg.Msg) (u : Value) (w : World) (hw : SliceI w u m.know ∧ m.know.length ≤ maxLen) :
    Calls Try.prog 4 #[msgV m u] w fun e w' => e = .returned (.bool true) ∧ Below w.heap.size w w' := by
  obtain ⟨hu, hm⟩ := hw
  have HU := Lib.hid hu
  obtain ⟨ua, uc, rfl⟩ := hu.shape
  clear hu
  have HB := Lib.hid (grew_alloc w (.cells (msgL m (.slice ua m.know.length uc)).toArray 40))
  have HX := Lib.hid (Holds.new w (msgL m (.slice ua m.know.length uc)) 40)
  unfold msgV
  by_cases h1 : 30 < m.know.length
  · have d1 : decide ((30 : Int) < (m.know.length : Int)) = true := decide_eq_true (by omega)
    clear h1
    go_enter Try.func4, Try.ntmps4
    go_wp2_with fail
    refine (law07_live _).mono ?_
    rintro e w3 ⟨rfl, hb3⟩
    go_wp2
    go_ret
    exact ⟨rfl, grew HB.out hb3⟩
  · have d1 : decide ((30 : Int) < (m.know.length : Int)) = false := decide_eq_false (by omega)
    clear h1
    go_enter Try.func4, Try.ntmps4
    go_wp2_with fail
    refine (hold_New_no 0 5 _ (by decide)).mono ?_
    rintro e w2 ⟨rfl, hb2⟩
    have HX := Lib.hid (HX.out.keep (Keep.of_grew hb2 Non) (fun h => h))
    have HB := Lib.hid (grew HB.out hb2)
    clear hb2
    obtain ⟨⟨l0, l1, l2⟩, l3, l4, l5, l6, l7, l8, l9⟩ := msg_cells (m := m) HX.out
    go_wp2_with fail
    refine (hold_Put_nil m (.slice ua m.know.length uc) _ (HU.out.below HB.out)).mono ?_
    rintro e w3 ⟨rfl, hb3⟩
    have HB := Lib.hid (grew HB.out hb3)
    clear hb3 l0 l1 l2 l3 l4 l5 l6 l7 l8 l9
    go_wp2_with fail
    refine (hold_Clock_nil _).mono ?_
    rintro e _ ⟨rfl, rfl⟩
    go_wp2_with fail
    refine (hold_Known_nil _).mono ?_
    rintro e _ ⟨rfl, rfl⟩
    go_wp2_with fail
    refine (hold_Waits_nil _).mono ?_
    rintro e _ ⟨rfl, rfl⟩
    go_wp2_with fail
    refine (law07_live _).mono ?_
    rintro e w5 ⟨rfl, hb5⟩
    go_wp2
    go_ret
    exact ⟨rfl, grew HB.out hb5⟩
end Go.Proofs.Ytafcabepdaejbaa
