/- The walks of the statements of layer 2 that need the code's own answers alone. -/
import Derived.Test.YtiofmcjnpnokbaaCrcLive
namespace Go.Proofs.Ytiofmcjnpnokbaa
open Go.RowKit
set_option linter.unusedVariables false

theorem sealS_size (s : ByteArray) : (sealS s).size = s.size + 3 := by
  unfold sealS
  rw [size_app]
  rfl
theorem sealS_front (s : ByteArray) : (sealS s).extract 0 ((sealS s).size - 3) = s := by
  rw [sealS_size]
  exact str_front s _
theorem sealS_sum (s : ByteArray) : Crc.sum (sealS s).data.toList = 0#24 := by
  unfold sealS
  rw [str_app]
  exact Crc.sum_sealed _

set_option maxHeartbeats 1000000 in
theorem walk_CrcsBack (s : ByteArray) (w : World) (hs : s.size ≤ maxLen) :
    Calls Try.prog 11 #[.string s] w fun e w' => e = .returned (.bool true) ∧ Below w.heap.size w w' := by
  by_cases h : s.size ≤ 3000
  · have hd : decide ((s.size : Int) ≤ 3000) = true := by simp; omega
    go_enter Try.func11, Try.ntmps11
    go_wp2_with fail
    refine (law02_short s _ hs).mono ?_
    rintro e w' ⟨rfl, rfl⟩
    go_wp2_with fail
    refine (crcs_Seal s _ (by omega)).mono ?_
    rintro e w1 ⟨rfl, hb1⟩
    go_wp2_with fail
    refine (crcs_Open_ok _ _ (by rw [sealS_size]; omega) (by rw [sealS_size]; omega) (sealS_sum s)).mono ?_
    rintro e w2 ⟨rfl, hb2⟩
    rw [sealS_front]
    go_wp2_with fail
    refine (law02_live _).mono ?_
    rintro e w3 ⟨rfl, hb3⟩
    go_wp2
    go_ret
    exact ⟨rfl, grew hb1 (grew hb2 hb3)⟩
  · have hd : decide ((s.size : Int) ≤ 3000) = false := by simp; omega
    go_enter Try.func11, Try.ntmps11
    go_wp2_with fail
    refine (law02_short s _ hs).mono ?_
    rintro e w' ⟨rfl, rfl⟩
    go_wp2_with fail
    refine (law02_live _).mono ?_
    rintro e w3 ⟨rfl, hb3⟩
    go_wp2
    go_ret
    exact ⟨rfl, hb3⟩
end Go.Proofs.Ytiofmcjnpnokbaa
