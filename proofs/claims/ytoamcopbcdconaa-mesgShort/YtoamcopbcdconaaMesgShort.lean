/- What duetlaw04.MesgShort comes to. -/
import Derived.Test.YtoamcopbcdconaaMesgOpen
namespace Go.Proofs.Ytoamcopbcdconaa
open Go.RowKit
set_option linter.unusedVariables false

set_option maxRecDepth 100000 in
set_option maxHeartbeats 1000000 in
theorem walk_MesgShort (m : Mesg.Msg) (u : Value) (w : World) (h : SliceI w u m.know ∧ m.know.length ≤ maxLen) :
    Calls Try.prog 7 #[msgV m u] w fun e w' => e = .returned (.bool true) ∧ Below w.heap.size w w' := by
  obtain ⟨hu, hm⟩ := h
  unfold maxLen at hm
  have HU := Lib.hid hu
  obtain ⟨ua, uc, rfl⟩ := hu.shape
  clear hu
  by_cases h3 : m.know.length ≤ 30
  · cases hmay : Mesg.may m
    · have HY := Lib.hid hmay
      clear hmay
      unfold msgV
      go_enter Try.func7, Try.ntmps7
      go_wp2_with fail
      refine (mesg_Encode_no m (.slice ua m.know.length uc) _ (HU.out.below (grew_alloc _ _)) (by omega) HY.out).mono ?_
      rintro e w1 ⟨rfl, hb1⟩
      go_wp2_with fail
      refine (law04_live _).mono ?_
      rintro e w2 ⟨rfl, hb2⟩
      go_wp2
      go_ret
      exact ⟨rfl, grew (grew_alloc _ _) (grew hb1 hb2)⟩
    · have HY := Lib.hid hmay
      obtain ⟨l1, l2⟩ := Mesg.bytes_len hmay
      clear hmay
      have HM := Lib.hid (Holds.new w (msgL m (.slice ua m.know.length uc)) 28)
      unfold msgV
      go_enter Try.func7, Try.ntmps7
      go_wp2_with fail
      refine (mesg_Encode_yes m (.slice ua m.know.length uc) _ (HU.out.below (grew_alloc _ _)) HY.out).mono ?_
      rintro e w1 ⟨rfl, hb1⟩
      have HM := Lib.hid (HM.out.keep (Keep.of_grew hb1 Non) (fun h => h))
      have HB := Lib.hid (grew (grew_alloc _ _) hb1)
      clear hb1
      obtain ⟨⟨d0, d1, d2⟩, _⟩ := msg_cells HM.out
      clear d0 d1
      have hsz : (str (Mesg.bytes m)).size = (Mesg.bytes m).length := rfl
      generalize str (Mesg.bytes m) = S at hsz ⊢
      rw [← hsz] at l1 l2
      clear hsz
      go_wp2_with fail
      refine (law04_live _).mono ?_
      rintro e w2 ⟨rfl, hb2⟩
      go_wp2
      go_ret
      exact ⟨rfl, grew HB.out hb2⟩
  · unfold msgV
    go_enter Try.func7, Try.ntmps7
    go_wp2_with fail
    refine (law04_live _).mono ?_
    rintro e w2 ⟨rfl, hb2⟩
    go_wp2
    go_ret
    exact ⟨rfl, grew (grew_alloc _ _) hb2⟩
end Go.Proofs.Ytoamcopbcdconaa
