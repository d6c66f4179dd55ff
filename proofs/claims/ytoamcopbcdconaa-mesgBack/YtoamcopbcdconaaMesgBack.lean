/- What duetlaw04.MesgBack comes to. -/
import Derived.Test.YtoamcopbcdconaaMesgOpen
import Derived.Test.YtoamcopbcdconaaMesgMath5
namespace Go.Proofs.Ytoamcopbcdconaa
open Go.RowKit
set_option linter.unusedVariables false

set_option maxRecDepth 100000 in
set_option maxHeartbeats 2000000 in
theorem walk_MesgBack (m : Mesg.Msg) (u : Value) (cut : Int) (w : World) (h : SliceI w u m.know ∧ m.know.length ≤ maxLen) (hc : (Lit.int .i64 cut).wf = true) :
    Calls Try.prog 5 #[msgV m u, .int .i64 cut] w fun e w' => e = .returned (.bool true) ∧ Below w.heap.size w w' := by
  obtain ⟨hu, hm⟩ := h
  obtain ⟨hc1, hc2⟩ := bounds_i64 hc
  clear hc
  unfold maxLen at hm
  have HU := Lib.hid hu
  obtain ⟨ua, uc, rfl⟩ := hu.shape
  clear hu
  by_cases h3 : m.know.length ≤ 30
  · cases hmay : Mesg.may m
    · have HY := Lib.hid hmay
      clear hmay
      unfold msgV
      go_enter Try.func5, Try.ntmps5
      go_wp2_with fail
      refine (mesg_Encode_no m (.slice ua m.know.length uc) _ (HU.out.below (grew_alloc _ _)) (by omega) HY.out).mono ?_
      rintro e w1 ⟨rfl, hb1⟩
      go_wp2_with fail
      refine (law04_live _).mono ?_
      rintro e w2 ⟨rfl, hb2⟩
      go_wp2
      go_ret
      exact ⟨rfl, grew (grew_alloc _ _) (grew hb1 hb2)⟩
    · have HY := Lib.hid hmay
      have HD := Lib.hid (Mesg.decode_bytes hmay)
      have HK := Lib.hid (fun c hc => Mesg.decode_cut hmay c hc)
      obtain ⟨l1, l2⟩ := Mesg.bytes_len hmay
      clear hmay
      have HM := Lib.hid (Holds.new w (msgL m (.slice ua m.know.length uc)) 28)
      unfold msgV
      go_enter Try.func5, Try.ntmps5
      go_wp2_with fail
      refine (mesg_Encode_yes m (.slice ua m.know.length uc) _ (HU.out.below (grew_alloc _ _)) HY.out).mono ?_
      rintro e w1 ⟨rfl, hb1⟩
      have HU := Lib.hid ((HU.out.below (grew_alloc _ _)).below hb1)
      have HM := Lib.hid (HM.out.keep (Keep.of_grew hb1 Non) (fun h => h))
      have HB := Lib.hid (grew (grew_alloc _ _) hb1)
      clear hb1
      have hsz : (str (Mesg.bytes m)).size = (Mesg.bytes m).length := rfl
      have HL : Hid ((str (Mesg.bytes m)).data.toList = Mesg.bytes m) := Lib.hid rfl
      rw [← HL.out] at HD HK
      rw [← hsz] at l1 l2
      have HK : Hid (∀ c, c < (str (Mesg.bytes m)).size → Mesg.decode (List.take c (str (Mesg.bytes m)).data.toList) = .error 3) := Lib.hid (fun c hc => HK.out c (by rw [HL.out, ← hsz]; exact hc))
      clear hsz HL
      generalize str (Mesg.bytes m) = S at HD HK l1 l2 ⊢
      go_wp2_with fail
      refine (mesg_Decode S _ (by omega)).mono ?_
      rintro e w2 ⟨he, hb2⟩
      rw [HD.out] at he
      obtain ⟨v, rfl, hv⟩ := he
      have HV := Lib.hid hv
      obtain ⟨va, vc, rfl⟩ := hv.shape
      clear hv
      have hb3 := grew_alloc w2 (.cells (msgL m (.slice va m.know.length vc)).toArray 28)
      have HN := Lib.hid (Holds.new w2 (msgL m (.slice va m.know.length vc)) 28)
      have HV := Lib.hid (HV.out.below hb3)
      have HU := Lib.hid (HU.out.below (grew hb2 hb3))
      have HM := Lib.hid (HM.out.keep (Keep.of_grew (grew hb2 hb3) Non) (fun h => h))
      have HB := Lib.hid (grew HB.out (grew hb2 hb3))
      clear hb2 hb3
      obtain ⟨⟨d0, d1, d2⟩, d3, d4, d5, d6, d7, d8, d9⟩ := msg_cells HM.out
      simp only [msgL] at d0 d1 d2 d3 d4 d5 d6 d7 d8 d9
      unfold msgV
      go_wp2_with fail
      clear d0 d1 d2 d3 d4 d5 d6 d7 d8 d9
      refine (ref04_Same m m (.slice ua m.know.length uc) (.slice va m.know.length vc) _ HU.out HV.out (by omega) (by omega)).mono ?_
      rintro e w3 ⟨rfl, hb3⟩
      rw [show decide (m = m) = true from by simp]
      have HB := Lib.hid (grew HB.out hb3)
      clear hb3 HU HV HM HN
      by_cases c0 : cut < 0
      · go_wp2_with fail
        refine (law04_live _).mono ?_
        rintro e w2 ⟨rfl, hb2⟩
        go_wp2
        go_ret
        exact ⟨rfl, grew HB.out hb2⟩
      · by_cases c1 : (S.size : Int) ≤ cut
        · go_wp2_with fail
          refine (law04_live _).mono ?_
          rintro e w2 ⟨rfl, hb2⟩
          go_wp2
          go_ret
          exact ⟨rfl, grew HB.out hb2⟩
        · go_wp2_with fail
          rw [str_take]
          have HX : Hid (Mesg.decode (str (List.take cut.toNat S.data.toList)).data.toList = .error 3) := Lib.hid (HK.out cut.toNat (by omega))
          have hl : (str (List.take cut.toNat S.data.toList)).size ≤ 1000000 := by
            have e : (str (List.take cut.toNat S.data.toList)).size = (List.take cut.toNat S.data.toList).length := rfl
            rw [e, List.length_take]
            omega
          generalize str (List.take cut.toNat S.data.toList) = C at HX hl ⊢
          refine (mesg_Decode C _ hl).mono ?_
          rintro e w4 ⟨he, hb4⟩
          rw [HX.out] at he
          obtain rfl := he
          rw [show msgV Mesg.none (.slice none 0 0) = .agg #[.int .i64 0, .int .i64 0, .slice none 0 0, .int .i64 0, .int .i64 0, .int .i64 0, .int .i64 0, .int .i64 0, .int .i64 0, .int .i64 0] from rfl]
          go_wp2_with fail
          refine (law04_live _).mono ?_
          rintro e w5 ⟨rfl, hb5⟩
          go_wp2
          go_ret
          exact ⟨rfl, grew HB.out (grew hb4 (grew (grew_alloc _ _) hb5))⟩
  · unfold msgV
    go_enter Try.func5, Try.ntmps5
    go_wp2_with fail
    refine (law04_live _).mono ?_
    rintro e w2 ⟨rfl, hb2⟩
    go_wp2
    go_ret
    exact ⟨rfl, grew (grew_alloc _ _) hb2⟩
end Go.Proofs.Ytoamcopbcdconaa
