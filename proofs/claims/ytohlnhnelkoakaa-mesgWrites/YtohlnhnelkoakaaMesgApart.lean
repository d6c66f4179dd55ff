/- What duetlaw04.MesgApart comes to. -/
import Derived.Test.YtohlnhnelkoakaaMesgOpen
namespace Go.Proofs.Ytohlnhnelkoakaa
open Go.RowKit
set_option linter.unusedVariables false

theorem str_inj {a b : List UInt8} (h : str a = str b) : a = b := by
  have : (str a).data.toList = (str b).data.toList := by rw [h]
  exact this
theorem bytes_same {a b : Mesg.Msg} (ha : Mesg.may a = true) (hb : Mesg.may b = true) : decide (str (Mesg.bytes a) = str (Mesg.bytes b)) = decide (a = b) := by
  by_cases h : a = b
  · subst h; simp
  · have : ¬ str (Mesg.bytes a) = str (Mesg.bytes b) := fun e => h (Mesg.bytes_inj ha hb (str_inj e))
    simp [h, this]

/-- What Encode answers. -/
def encV (m : Mesg.Msg) : Value := if Mesg.may m then .tuple #[.string (str (Mesg.bytes m)), .int .i64 0] else .tuple #[.string ⟨#[]⟩, .int .i64 1]
theorem mesg_Encode (m : Mesg.Msg) (v : Value) (w : World) (hv : SliceI w v m.know) (hm : m.know.length ≤ 1000000000) :
    Calls Try.prog 11 #[msgV m v] w fun e w' => e = .returned (encV m) ∧ Below w.heap.size w w' := by
  unfold encV
  cases h : Mesg.may m
  · exact mesg_Encode_no m v w hv hm h
  · exact mesg_Encode_yes m v w hv h

set_option maxRecDepth 100000 in
set_option maxHeartbeats 1000000 in
theorem walk_MesgApart (a : Mesg.Msg) (u : Value) (b : Mesg.Msg) (v : Value) (w : World) (h : SliceI w u a.know ∧ a.know.length ≤ maxLen) (k : SliceI w v b.know ∧ b.know.length ≤ maxLen) :
    Calls Try.prog 8 #[msgV a u, msgV b v] w fun e w' => e = .returned (.bool true) ∧ Below w.heap.size w w' := by
  obtain ⟨hu, hm⟩ := h
  obtain ⟨hv, hn⟩ := k
  unfold maxLen at hm hn
  have HU := Lib.hid hu
  have HV := Lib.hid hv
  obtain ⟨ua, uc, rfl⟩ := hu.shape
  obtain ⟨va, vc, rfl⟩ := hv.shape
  clear hu hv
  by_cases h3 : a.know.length ≤ 30
  · by_cases h4 : b.know.length ≤ 30
    · have HB := Lib.hid (grew (grew_alloc w (.cells (msgL a (.slice ua a.know.length uc)).toArray 28)) (grew_alloc _ (.cells (msgL b (.slice va b.know.length vc)).toArray 28)))
      have HA := Lib.hid ((Holds.new w (msgL a (.slice ua a.know.length uc)) 28).keep (S := Non) (Keep.of_grew (grew_alloc _ (.cells (msgL b (.slice va b.know.length vc)).toArray 28)) Non) (fun h => h))
      have HC := Lib.hid (Holds.new (w.alloc (.cells (msgL a (.slice ua a.know.length uc)).toArray 28)) (msgL b (.slice va b.know.length vc)) 28)
      rw [show (w.alloc (.cells (msgL a (.slice ua a.know.length uc)).toArray 28)).heap.size = w.heap.size + 1 from Array.size_push _] at HC
      unfold msgV
      go_enter Try.func8, Try.ntmps8
      go_wp2_with fail
      refine (mesg_Encode a (.slice ua a.know.length uc) _ (HU.out.below HB.out) (by omega)).mono ?_
      rintro e w1 ⟨rfl, hb1⟩
      have HA := Lib.hid (HA.out.keep (Keep.of_grew hb1 Non) (fun h => h))
      have HC := Lib.hid (HC.out.keep (Keep.of_grew hb1 Non) (fun h => h))
      have HB := Lib.hid (grew HB.out hb1)
      clear hb1
      obtain ⟨⟨d0, d1, d2⟩, d3, d4, d5, d6, d7, d8, d9⟩ := msg_cells HC.out
      unfold encV
      cases hmay : Mesg.may a
      · rw [if_neg (by decide)]
        go_wp2_with fail
        clear d0 d1 d2 d3 d4 d5 d6 d7 d8 d9
        refine (mesg_Encode b (.slice va b.know.length vc) _ (HV.out.below HB.out) (by omega)).mono ?_
        rintro e w2 ⟨rfl, hb2⟩
        unfold encV
        have HB := Lib.hid (grew HB.out hb2)
        clear hb2
        cases hmay2 : Mesg.may b
        · rw [if_neg (by decide)]
          go_wp2_with fail
          refine (law04_live _).mono ?_
          rintro e w2 ⟨rfl, hb2⟩
          go_wp2
          go_ret
          exact ⟨rfl, grew HB.out hb2⟩
        · rw [if_pos rfl]
          go_wp2_with fail
          refine (law04_live _).mono ?_
          rintro e w2 ⟨rfl, hb2⟩
          go_wp2
          go_ret
          exact ⟨rfl, grew HB.out hb2⟩
      · rw [if_pos rfl]
        go_wp2_with fail
        clear d0 d1 d2 d3 d4 d5 d6 d7 d8 d9
        refine (mesg_Encode b (.slice va b.know.length vc) _ (HV.out.below HB.out) (by omega)).mono ?_
        rintro e w2 ⟨rfl, hb2⟩
        unfold encV
        have HA := Lib.hid (HA.out.keep (Keep.of_grew hb2 Non) (fun h => h))
        have HC := Lib.hid (HC.out.keep (Keep.of_grew hb2 Non) (fun h => h))
        have HB := Lib.hid (grew HB.out hb2)
        clear hb2
        cases hmay2 : Mesg.may b
        · rw [if_neg (by decide)]
          go_wp2_with fail
          refine (law04_live _).mono ?_
          rintro e w2 ⟨rfl, hb2⟩
          go_wp2
          go_ret
          exact ⟨rfl, grew HB.out hb2⟩
        · rw [if_pos rfl]
          have HE := Lib.hid (bytes_same hmay hmay2)
          clear hmay hmay2
          obtain ⟨⟨d0, d1, d2⟩, d3, d4, d5, d6, d7, d8, d9⟩ := msg_cells HA.out
          obtain ⟨⟨k0, k1, k2⟩, k3, k4, k5, k6, k7, k8, k9⟩ := msg_cells HC.out
          generalize str (Mesg.bytes a) = S at HE ⊢
          generalize str (Mesg.bytes b) = T at HE ⊢
          by_cases hst : S = T
          · have hst1 : decide (S = T) = true := by simpa using hst
            have hst2 : (S.toList == T.toList) = true := str_same hst
            go_wp2_with fail
            clear d0 d1 d2 d3 d4 d5 d6 d7 d8 d9 k0 k1 k2 k3 k4 k5 k6 k7 k8 k9
            refine (ref04_Same a b (.slice ua a.know.length uc) (.slice va b.know.length vc) _ (HU.out.below HB.out) (HV.out.below HB.out) (by omega) (by omega)).mono ?_
            rintro e w3 ⟨rfl, hb3⟩
            rw [← HE.out, hst1]
            have HB := Lib.hid (grew HB.out hb3)
            clear hb3
            go_wp2_with fail
            refine (law04_live _).mono ?_
            rintro e w4 ⟨rfl, hb4⟩
            go_wp2
            go_ret
            exact ⟨rfl, grew HB.out hb4⟩
          · have hst1 : decide (S = T) = false := by simpa using hst
            have hst2 : (S.toList == T.toList) = false := str_other hst
            go_wp2_with fail
            clear d0 d1 d2 d3 d4 d5 d6 d7 d8 d9 k0 k1 k2 k3 k4 k5 k6 k7 k8 k9
            refine (ref04_Same a b (.slice ua a.know.length uc) (.slice va b.know.length vc) _ (HU.out.below HB.out) (HV.out.below HB.out) (by omega) (by omega)).mono ?_
            rintro e w3 ⟨rfl, hb3⟩
            rw [← HE.out, hst1]
            have HB := Lib.hid (grew HB.out hb3)
            clear hb3
            go_wp2_with fail
            refine (law04_live _).mono ?_
            rintro e w4 ⟨rfl, hb4⟩
            go_wp2
            go_ret
            exact ⟨rfl, grew HB.out hb4⟩
    · unfold msgV
      go_enter Try.func8, Try.ntmps8
      go_wp2_with fail
      refine (law04_live _).mono ?_
      rintro e w2 ⟨rfl, hb2⟩
      go_wp2
      go_ret
      exact ⟨rfl, grew (grew_alloc _ _) (grew (grew_alloc _ _) hb2)⟩
  · unfold msgV
    go_enter Try.func8, Try.ntmps8
    go_wp2_with fail
    refine (law04_live _).mono ?_
    rintro e w2 ⟨rfl, hb2⟩
    go_wp2
    go_ret
    exact ⟨rfl, grew (grew_alloc _ _) (grew (grew_alloc _ _) hb2)⟩
end Go.Proofs.Ytohlnhnelkoakaa
