/- The walks of the statements of layer 2 that need the code's own answers alone. -/
import Derived.Test.YtiofmcjnpnokbaaCrcLive
namespace Go.Proofs.Ytiofmcjnpnokbaa
open Go.RowKit
set_option linter.unusedVariables false

theorem sealS_size (s : ByteArray) : (sealS s).size = s.size + 3 := by
  unfold sealS
  rw [size_app]
  rfl
theorem sealS_front (s : ByteArray) : (sealS s).extract 0 ((sealS s).size - 3) = s := by
  rw [sealS_size]
  exact str_front s _
theorem sealS_sum (s : ByteArray) : Crc.sum (sealS s).data.toList = 0#24 := by
  unfold sealS
  rw [str_app]
  exact Crc.sum_sealed _

set_option maxHeartbeats 1000000 in
theorem walk_CrcsBack (s : ByteArray) (w : World) (hs : s.size ≤ maxLen) :
    Calls Try.prog 11 #[.string s] w fun e w' => e = .returned (.bool true) ∧ Below w.heap.size w w' := by
  by_cases h : s.size ≤ 3000
  · have hd : decide ((s.size : Int) ≤ 3000) = true := by simp; omega
    go_enter Try.func11, Try.ntmps11
    go_wp2_with fail
    refine (law02_short s _ hs).mono ?_
    rintro e w' ⟨rfl, rfl⟩
    go_wp2_with fail
    refine (crcs_Seal s _ (by omega)).mono ?_
    rintro e w1 ⟨rfl, hb1⟩
    go_wp2_with fail
    refine (crcs_Open_ok _ _ (by rw [sealS_size]; omega) (by rw [sealS_size]; omega) (sealS_sum s)).mono ?_
    rintro e w2 ⟨rfl, hb2⟩
    rw [sealS_front]
    go_wp2_with fail
    refine (law02_live _).mono ?_
    rintro e w3 ⟨rfl, hb3⟩
    go_wp2
    go_ret
    exact ⟨rfl, grew hb1 (grew hb2 hb3)⟩
  · have hd : decide ((s.size : Int) ≤ 3000) = false := by simp; omega
    go_enter Try.func11, Try.ntmps11
    go_wp2_with fail
    refine (law02_short s _ hs).mono ?_
    rintro e w' ⟨rfl, rfl⟩
    go_wp2_with fail
    refine (law02_live _).mono ?_
    rintro e w3 ⟨rfl, hb3⟩
    go_wp2
    go_ret
    exact ⟨rfl, hb3⟩

theorem more_of_sum (x : BitVec 24) (l : List UInt8) : Crc.more (BitVec.ofInt 24 (x.toNat : Int)) l = Crc.more x l := by
  rw [BitVec.ofInt_natCast, BitVec.ofNat_toNat, BitVec.setWidth_eq]

set_option maxHeartbeats 1000000 in
theorem walk_CrcsJoined (s t : ByteArray) (w : World) (hs : s.size ≤ maxLen) (ht : t.size ≤ maxLen) :
    Calls Try.prog 13 #[.string s, .string t] w fun e w' => e = .returned (.bool true) ∧ Below w.heap.size w w' := by
  by_cases h : s.size ≤ 3000
  · have hd : decide ((s.size : Int) ≤ 3000) = true := by simp; omega
    by_cases g : t.size ≤ 3000
    · have hg : decide ((t.size : Int) ≤ 3000) = true := by simp; omega
      have Hst := Lib.hid (size_app s t)
      have HA := Lib.hid (show Crc.sum (s.data.toList ++ t.data.toList) = Crc.more (BitVec.ofInt 24 ((Crc.sum s.data.toList).toNat : Int)) t.data.toList from by
        rw [more_of_sum]; exact Crc.more_append _ _ _)
      have HZ := Lib.hid (sealS_sum s)
      go_enter Try.func13, Try.ntmps13
      go_wp2_with fail
      refine (law02_short s _ hs).mono ?_
      rintro e w' ⟨rfl, rfl⟩
      go_wp2_with fail
      refine (law02_short t _ ht).mono ?_
      rintro e w' ⟨rfl, rfl⟩
      go_wp2_with fail
      refine (crcs_sum (s ++ t) _ (by rw [Hst.out]; unfold maxLen; omega)).mono ?_
      rintro e w1 ⟨rfl, hb1⟩
      go_wp2_with fail
      refine (crcs_sum s _ hs).mono ?_
      rintro e w2 ⟨rfl, hb2⟩
      go_wp2_with fail
      refine (crcs_more _ t _ ht).mono ?_
      rintro e w3 ⟨rfl, hb3⟩
      rw [HA.out]
      go_wp2_with fail
      refine (crcs_Seal s _ (by omega)).mono ?_
      rintro e w4 ⟨rfl, hb4⟩
      go_wp2_with fail
      refine (crcs_sum _ _ (by rw [sealS_size]; unfold maxLen; omega)).mono ?_
      rintro e w5 ⟨rfl, hb5⟩
      rw [HZ.out]
      go_wp2_with fail
      refine (crcs_more _ _ _ (by decide)).mono ?_
      rintro e w6 ⟨rfl, hb6⟩
      rw [show ((Crc.more (BitVec.ofInt 24 5) (ByteArray.mk #[]).data.toList).toNat : Int) = 5 from by decide +kernel]
      go_wp2_with fail
      refine (law02_live _).mono ?_
      rintro e w7 ⟨rfl, hb7⟩
      go_wp2
      go_ret
      exact ⟨rfl, grew hb1 (grew hb2 (grew hb3 (grew hb4 (grew hb5 (grew hb6 hb7)))))⟩
    · have hg : decide ((t.size : Int) ≤ 3000) = false := by simp; omega
      go_enter Try.func13, Try.ntmps13
      go_wp2_with fail
      refine (law02_short s _ hs).mono ?_
      rintro e w' ⟨rfl, rfl⟩
      go_wp2_with fail
      refine (law02_short t _ ht).mono ?_
      rintro e w' ⟨rfl, rfl⟩
      go_wp2_with fail
      refine (law02_live _).mono ?_
      rintro e w3 ⟨rfl, hb3⟩
      go_wp2
      go_ret
      exact ⟨rfl, hb3⟩
  · have hd : decide ((s.size : Int) ≤ 3000) = false := by simp; omega
    go_enter Try.func13, Try.ntmps13
    go_wp2_with fail
    refine (law02_short s _ hs).mono ?_
    rintro e w' ⟨rfl, rfl⟩
    go_wp2_with fail
    refine (law02_live _).mono ?_
    rintro e w3 ⟨rfl, hb3⟩
    go_wp2
    go_ret
    exact ⟨rfl, hb3⟩
end Go.Proofs.Ytiofmcjnpnokbaa
