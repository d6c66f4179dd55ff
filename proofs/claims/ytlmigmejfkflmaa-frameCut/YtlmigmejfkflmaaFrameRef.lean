/- What the document's own answers of layer 3 come to. -/
import Derived.Test.YtlmigmejfkflmaaFrameLive
import Derived.Test.YtlmigmejfkflmaaCrcRef0
namespace Go.Proofs.Ytlmigmejfkflmaa
open Go.RowKit
set_option linter.unusedVariables false

set_option maxHeartbeats 1000000 in
theorem ref03_stuff (s : ByteArray) (w : World) (hlen : 2 * s.size ≤ 1000000) :
    Calls Try.prog 21 #[.string s] w fun e w' => e = .returned (.string ⟨(Frame.stuff s.data.toList).toArray⟩) ∧ Below w.heap.size w w' := by
  go_enter Try.func21, Try.ntmps21
  go_wp2
  go_loopw [3, 4] (fun b i wr => ∃ k : Nat, k ≤ s.size ∧ i = .int .i64 k ∧ OwnB wr b (Frame.stuff (s.data.toList.take k)) ∧ Keep (At (.slice none 0 0)) w wr ∧ Near w (.slice none 0 0) b) (fun _ i _ => s.size - (intOf i).toNat)
  case atStart => exact ⟨0, by omega, rfl, OwnB.nil _, Keep.refl _ _, near_refl _ _⟩
  case round =>
    obtain ⟨k, hk, rfl, hown, hkeep, hnear⟩ := hrel
    have HO2 := Lib.hid hown
    have HK := Lib.hid hkeep
    have HN := Lib.hid hnear
    clear hown hkeep hnear
    by_cases hlt : k < s.size
    · have hd : decide ((k : Int) < (s.size : Int)) = true := by simp; omega
      have HS := Lib.hid (stuff_snoc s k hlt)
      have hll : (Frame.stuff (s.data.toList.take k)).length ≤ 1000000 := by
        have := (Frame.stuff_len (s.data.toList.take k)).2
        rw [List.length_take] at this
        omega
      have HL := Lib.hid hll
      clear hll
      by_cases h1 : s[k] = 126
      · have hb1 : ((s[k].toNat : Int) == 126) = true := byte_is h1
        have HE : Hid (Frame.stuff1 s[k] = [125, 94]) := Lib.hid (by rw [h1]; rfl)
        clear h1
        go_wp2_with (at_builtin; refine wp_append_bytes rfl (.tmp 22) (.tmp 23) rfl _ _ [125, 94] _ rfl rfl rfl HO2.out (by have := HL.out; simp only [List.length_cons, List.length_nil]; omega) ?_; intro v1 w1 ho1 hk1 hn1)
        go_roundw
        case rel =>
          have := keep_near HK.out HN.out hk1 hn1
          exact ⟨k + 1, by omega, by go_num, by rw [HS.out, HE.out]; exact ho1, this.1, this.2⟩
        case measure => simp [intOf]; omega
      · have hb1 : ((s[k].toNat : Int) == 126) = false := byte_not h1
        by_cases h2 : s[k] = 125
        · have hb2 : ((s[k].toNat : Int) == 125) = true := byte_is h2
          have HE : Hid (Frame.stuff1 s[k] = [125, 93]) := Lib.hid (by rw [h2]; rfl)
          clear h1 h2
          go_wp2_with (at_builtin; refine wp_append_bytes rfl (.tmp 27) (.tmp 28) rfl _ _ [125, 93] _ rfl rfl rfl HO2.out (by have := HL.out; simp only [List.length_cons, List.length_nil]; omega) ?_; intro v1 w1 ho1 hk1 hn1)
          go_roundw
          case rel =>
            have := keep_near HK.out HN.out hk1 hn1
            exact ⟨k + 1, by omega, by go_num, by rw [HS.out, HE.out]; exact ho1, this.1, this.2⟩
          case measure => simp [intOf]; omega
        · have hb2 : ((s[k].toNat : Int) == 125) = false := byte_not h2
          have HE : Hid (Frame.stuff1 s[k] = [s[k]]) := Lib.hid (by simp [Frame.stuff1, h1, h2])
          clear h1 h2
          go_wp2_with (at_builtin; refine wp_append_bytes rfl (.tmp 14) (.tmp 18) rfl _ _ [s[k]] _ rfl rfl rfl HO2.out (by have := HL.out; simp only [List.length_cons, List.length_nil]; omega) ?_; intro v1 w1 ho1 hk1 hn1)
          go_roundw
          case rel =>
            have := keep_near HK.out HN.out hk1 hn1
            exact ⟨k + 1, by omega, by go_num, by rw [HS.out, HE.out]; exact ho1, this.1, this.2⟩
          case measure => simp [intOf]; omega
    · have hd : decide ((k : Int) < (s.size : Int)) = false := by simp; omega
      have e1 : s.data.toList.take k = s.data.toList := List.take_of_length_le (by rw [size_list]; omega)
      rw [e1] at HO2
      clear e1
      have hcv := HO2.out.to.text
      go_wp2
      go_ret
      exact ⟨rfl, HK.out.fresh (fun i _ h => by simp [At, Value.ownBlock] at h)⟩

theorem frameS_eq (s : ByteArray) : frameS s = (⟨#[126]⟩ ++ ⟨(Frame.stuff (sealS s).data.toList).toArray⟩) ++ ⟨#[126]⟩ := by
  apply str_ext
  rw [str_app, str_app, frameS_data, sealS_data]
  simp [Frame.frame, Frame.body]

set_option maxHeartbeats 1000000 in
theorem ref03_Pack_yes (s : ByteArray) (w : World) (hs : s.size ≤ 2000) :
    Calls Try.prog 12 #[.string s] w fun e w' => e = .returned (.tuple #[.string (frameS s), .int .i64 0]) ∧ Below w.heap.size w w' := by
  have hd : decide ((2000 : Int) < (s.size : Int)) = false := by simp; omega
  have hss : (sealS s).size = s.size + 3 := by unfold sealS; rw [size_app]; rfl
  have HSS := Lib.hid hss
  have HF := Lib.hid (frameS_eq s)
  clear hss
  go_enter Try.func12, Try.ntmps12
  go_wp2_with fail
  refine (ref02_Seal s _ (by omega)).mono ?_
  rintro e w1 ⟨rfl, hb1⟩
  go_wp2_with fail
  refine (ref03_stuff _ _ (by rw [HSS.out]; omega)).mono ?_
  rintro e w2 ⟨rfl, hb2⟩
  have hT : (ByteArray.mk (Frame.stuff (sealS s).data.toList).toArray).size ≤ 10000 := by
    have h1 := (Frame.stuff_len (sealS s).data.toList).2
    rw [size_list, HSS.out] at h1
    rw [← size_list]
    simp only
    omega
  generalize (ByteArray.mk (Frame.stuff (sealS s).data.toList).toArray) = T at *
  go_wp2
  go_ret2
  exact ⟨by rw [HF.out]; rfl, grew hb1 hb2⟩

theorem ref03_Pack_no (s : ByteArray) (w : World) (hs : 2000 < s.size) :
    Calls Try.prog 12 #[.string s] w fun e w' => e = .returned (.tuple #[.string ⟨#[]⟩, .int .i64 1]) ∧ w = w' := by
  have hd : decide ((2000 : Int) < (s.size : Int)) = true := by simp; omega
  go_enter Try.func12, Try.ntmps12
  go_wp2
  go_ret2
  exact ⟨rfl, rfl⟩

def bareV (r : Frame.At × List UInt8) : Value := match r.1 with
  | .plain => .tuple #[.string ⟨r.2.toArray⟩, .bool true]
  | _ => .tuple #[.string ⟨#[]⟩, .bool false]

theorem run_data (s : ByteArray) (k : Nat) (h : k < s.size) : Frame.run (s.data.toList.take (k + 1)) = Frame.step (Frame.run (s.data.toList.take k)) s[k] := by
  rw [run_snoc _ _ (by rw [size_list]; exact h), data_at s k h]

theorem run_stay (s : ByteArray) (k : Nat) (t : List UInt8) (h : Frame.run (s.data.toList.take k) = (.spoilt, t)) : Frame.run s.data.toList = (.spoilt, t) := by
  conv => lhs; rw [← List.take_append_drop k s.data.toList]
  rw [Frame.run_append, h, Frame.runs_spoilt]

set_option maxHeartbeats 2000000 in
theorem ref03_bare (s : ByteArray) (w : World) (hlen : s.size ≤ 1000000) :
    Calls Try.prog 25 #[.string s] w fun e w' => e = .returned (bareV (Frame.run s.data.toList)) ∧ Below w.heap.size w w' := by
  go_enter Try.func25, Try.ntmps25
  go_wp2
  go_loopw [4, 5] (fun b i wr => ∃ (k : Nat) (t : List UInt8), k ≤ s.size ∧ i = .int .i64 k ∧ t.length ≤ k ∧ Frame.run (s.data.toList.take k) = (.plain, t) ∧ OwnB wr b t ∧ Keep (At (.slice none 0 0)) w wr ∧ Near w (.slice none 0 0) b) (fun _ i _ => s.size - (intOf i).toNat)
  case atStart => exact ⟨0, [], by omega, rfl, by simp, rfl, OwnB.nil _, Keep.refl _ _, near_refl _ _⟩
  case round =>
    obtain ⟨k, t, hk, rfl, htl, hrun, hown, hkeep, hnear⟩ := hrel
    have HR := Lib.hid hrun
    have HO2 := Lib.hid hown
    have HK := Lib.hid hkeep
    have HN := Lib.hid hnear
    clear hown hkeep hnear hrun
    by_cases hlt : k < s.size
    · have hd : decide ((k : Int) < (s.size : Int)) = true := by simp; omega
      have HS := Lib.hid (run_data s k hlt)
      by_cases h1 : s[k] = 125
      · have hb1 : ((s[k].toNat : Int) != 125) = false := by have := byte_is h1; simpa [bne] using this
        have HS1 : Hid (Frame.run (s.data.toList.take (k + 1)) = (.signed, t)) := Lib.hid (by rw [HS.out, HR.out, h1]; rfl)
        clear h1
        by_cases hlt2 : k + 1 < s.size
        · have hd2 : (((k : Int) + 1) == (s.size : Int)) = false := by rw [beq_eq_false_iff_ne]; omega
          have HS2 := Lib.hid (run_data s (k + 1) hlt2)
          by_cases h94 : s[k + 1] = 94
          · have b94 : ((s[k + 1].toNat : Int) != 94) = false := by have := byte_is h94; simpa [bne] using this
            have HS3 : Hid (Frame.run (s.data.toList.take (k + 1 + 1)) = (.plain, t ++ [126])) := Lib.hid (by rw [HS2.out, HS1.out, h94]; rfl)
            have hn : (s[k + 1].toNat : Int) = 94 := by rw [h94]; rfl
            clear h94
            go_wp2_with (at_builtin; refine wp_append_bytes rfl (.tmp 40) (.tmp 45) rfl _ _ [126] _ rfl rfl rfl HO2.out (by simp only [List.length_cons, List.length_nil]; omega) ?_; intro v1 w1 ho1 hk1 hn1)
            go_roundw
            case rel =>
              have := keep_near HK.out HN.out hk1 hn1
              exact ⟨k + 1 + 1, t ++ [126], by omega, by go_num, by simp only [List.length_append, List.length_cons, List.length_nil]; omega, HS3.out, ho1, this.1, this.2⟩
            case measure => simp [intOf]; omega
          · have b94 : ((s[k + 1].toNat : Int) != 94) = true := by have := byte_not h94; simpa [bne] using this
            by_cases h93 : s[k + 1] = 93
            · have b93 : ((s[k + 1].toNat : Int) != 93) = false := by have := byte_is h93; simpa [bne] using this
              have HS3 : Hid (Frame.run (s.data.toList.take (k + 1 + 1)) = (.plain, t ++ [125])) := Lib.hid (by rw [HS2.out, HS1.out, h93]; rfl)
              have hn : (s[k + 1].toNat : Int) = 93 := by rw [h93]; rfl
              clear h93 h94
              go_wp2_with (at_builtin; refine wp_append_bytes rfl (.tmp 40) (.tmp 45) rfl _ _ [125] _ rfl rfl rfl HO2.out (by simp only [List.length_cons, List.length_nil]; omega) ?_; intro v1 w1 ho1 hk1 hn1)
              go_roundw
              case rel =>
                have := keep_near HK.out HN.out hk1 hn1
                exact ⟨k + 1 + 1, t ++ [125], by omega, by go_num, by simp only [List.length_append, List.length_cons, List.length_nil]; omega, HS3.out, ho1, this.1, this.2⟩
              case measure => simp [intOf]; omega
            · have b93 : ((s[k + 1].toNat : Int) != 93) = true := by have := byte_not h93; simpa [bne] using this
              have HE : Hid (bareV (Frame.run s.data.toList) = .tuple #[.string ⟨#[]⟩, .bool false]) := Lib.hid (by
                rw [run_stay s (k + 1 + 1) t (by rw [HS2.out, HS1.out, Frame.step_bad t _ h94 h93])]; rfl)
              clear h93 h94
              go_wp2
              go_ret2
              exact ⟨by rw [HE.out]; rfl, HK.out.fresh (fun i _ h => by simp [At, Value.ownBlock] at h)⟩
        · have hd2 : (((k : Int) + 1) == (s.size : Int)) = true := by rw [beq_iff_eq]; omega
          have HE : Hid (bareV (Frame.run s.data.toList) = .tuple #[.string ⟨#[]⟩, .bool false]) := Lib.hid (by
            have e1 : s.data.toList.take (k + 1) = s.data.toList := List.take_of_length_le (by rw [size_list]; omega)
            rw [← e1, HS1.out]; rfl)
          go_wp2
          go_ret2
          exact ⟨by rw [HE.out]; rfl, HK.out.fresh (fun i _ h => by simp [At, Value.ownBlock] at h)⟩
      · have hb1 : ((s[k].toNat : Int) != 125) = true := by have := byte_not h1; simpa [bne] using this
        have HS1 : Hid (Frame.run (s.data.toList.take (k + 1)) = (.plain, t ++ [s[k]])) := Lib.hid (by rw [HS.out, HR.out, Frame.step_other t _ h1])
        clear h1
        go_wp2_with (at_builtin; refine wp_append_bytes rfl (.tmp 16) (.tmp 20) rfl _ _ [s[k]] _ rfl rfl rfl HO2.out (by simp only [List.length_cons, List.length_nil]; omega) ?_; intro v1 w1 ho1 hk1 hn1)
        go_roundw
        case rel =>
          have := keep_near HK.out HN.out hk1 hn1
          exact ⟨k + 1, t ++ [s[k]], by omega, by go_num, by simp only [List.length_append, List.length_cons, List.length_nil]; omega, HS1.out, ho1, this.1, this.2⟩
        case measure => simp [intOf]; omega
    · have hd : decide ((k : Int) < (s.size : Int)) = false := by simp; omega
      have e1 : s.data.toList.take k = s.data.toList := List.take_of_length_le (by rw [size_list]; omega)
      rw [e1] at HR
      clear e1
      have hcv := HO2.out.to.text
      go_wp2
      go_ret2
      exact ⟨by rw [HR.out]; rfl, HK.out.fresh (fun i _ h => by simp [At, Value.ownBlock] at h)⟩
end Go.Proofs.Ytlmigmejfkflmaa
