/- What duetlaw04.MesgAgain comes to. -/
import Derived.Test.YtoamcopbcdconaaMesgLive
import Derived.Test.YtoamcopbcdconaaMesgMath5
namespace Go.Proofs.Ytoamcopbcdconaa
open Go.RowKit
set_option linter.unusedVariables false

set_option maxRecDepth 100000 in
set_option maxHeartbeats 1000000 in
theorem walk_MesgAgain (s : ByteArray) (w : World) (hs : s.size ≤ maxLen) :
    Calls Try.prog 6 #[.string s] w fun e w' => e = .returned (.bool true) ∧ Below w.heap.size w w' := by
  unfold maxLen at hs
  by_cases h3 : s.size ≤ 3000
  · cases hdec : Mesg.decode s.data.toList with
    | error n =>
      have HD := Lib.hid hdec
      clear hdec
      have hn : (n : Int) ≠ 0 := by have := Mesg.decode_error HD.out; omega
      go_enter Try.func6, Try.ntmps6
      go_wp2_with fail
      refine (mesg_Decode s _ (by omega)).mono ?_
      rintro e w1 ⟨he, hb1⟩
      rw [HD.out] at he
      obtain rfl := he
      rw [show msgV Mesg.none (.slice none 0 0) = .agg #[.int .i64 0, .int .i64 0, .slice none 0 0, .int .i64 0, .int .i64 0, .int .i64 0, .int .i64 0, .int .i64 0, .int .i64 0, .int .i64 0] from rfl]
      go_wp2_with fail
      refine (ref04_Same Mesg.none Mesg.none (.slice none 0 0) (.slice none 0 0) _ (SliceI.none _) (SliceI.none _) (by decide) (by decide)).mono ?_
      rintro e w2 ⟨rfl, hb2⟩
      rw [show decide (Mesg.none = Mesg.none) = true from by simp]
      go_wp2_with fail
      refine (law04_live _).mono ?_
      rintro e w3 ⟨rfl, hb3⟩
      go_wp2
      go_ret
      exact ⟨rfl, grew hb1 (grew (grew_alloc _ _) (grew hb2 hb3))⟩
    | ok m t =>
      obtain ⟨hmay, hby, rfl⟩ := Mesg.decode_back hdec
      have HD := Lib.hid hdec
      have HY := Lib.hid hmay
      have HL : Hid (m.know.length ≤ 1000000000) := Lib.hid (by have := (Mesg.may_head hmay).2.1; omega)
      have HBY : Hid (str (Mesg.bytes m) = s) := Lib.hid (by rw [hby]; rfl)
      have HC : Hid (checkN m = 0) := Lib.hid (by unfold checkN; rw [hmay]; rfl)
      clear hdec hmay hby
      go_enter Try.func6, Try.ntmps6
      go_wp2_with fail
      refine (mesg_Decode s _ (by omega)).mono ?_
      rintro e w1 ⟨he, hb1⟩
      rw [HD.out] at he
      obtain ⟨u, rfl, hu⟩ := he
      have HU := Lib.hid hu
      obtain ⟨ua, uc, rfl⟩ := hu.shape
      clear hu
      have hb2 := grew_alloc w1 (.cells (msgL m (.slice ua m.know.length uc)).toArray 28)
      have HM := Lib.hid (Holds.new w1 (msgL m (.slice ua m.know.length uc)) 28)
      have HU := Lib.hid (HU.out.below hb2)
      have HB := Lib.hid (grew hb1 hb2)
      clear hb1 hb2
      unfold msgV
      go_wp2_with fail
      refine (mesg_Encode_yes m (.slice ua m.know.length uc) _ HU.out HY.out).mono ?_
      rintro e w3 ⟨rfl, hb3⟩
      rw [HBY.out]
      have HU := Lib.hid (HU.out.below hb3)
      have HM := Lib.hid (HM.out.keep (Keep.of_grew hb3 Non) (fun h => h))
      have HB := Lib.hid (grew HB.out hb3)
      clear hb3
      obtain ⟨⟨d0, d1, d2⟩, d3, d4, d5, d6, d7, d8, d9⟩ := msg_cells HM.out
      go_wp2_with fail
      clear d0 d1 d2 d3 d4 d5 d6 d7 d8 d9
      refine (mesg_Check m (.slice ua m.know.length uc) _ HU.out HL.out).mono ?_
      rintro e w4 ⟨rfl, hb4⟩
      rw [HC.out]
      have HB := Lib.hid (grew HB.out hb4)
      clear hb4
      go_wp2_with fail
      refine (law04_live _).mono ?_
      rintro e w5 ⟨rfl, hb5⟩
      go_wp2
      go_ret
      exact ⟨rfl, grew HB.out hb5⟩
  · go_enter Try.func6, Try.ntmps6
    go_wp2_with fail
    refine (law04_live _).mono ?_
    rintro e w5 ⟨rfl, hb5⟩
    go_wp2
    go_ret
    exact ⟨rfl, hb5⟩
end Go.Proofs.Ytoamcopbcdconaa
