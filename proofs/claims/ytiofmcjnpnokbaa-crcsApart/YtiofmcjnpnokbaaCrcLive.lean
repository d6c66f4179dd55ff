/- What the statements of layer 2 ask of some answers that the document gives holds. -/
import Derived.Test.YtiofmcjnpnokbaaCrcSeal
namespace Go.Proofs.Ytiofmcjnpnokbaa
open Go.RowKit
set_option linter.unusedVariables false

theorem law02_short (s : ByteArray) (w : World) (hs : s.size ≤ maxLen) :
    Calls Try.prog 30 #[.string s] w fun e w' => e = .returned (.bool (decide ((s.size : Int) ≤ 3000))) ∧ w = w' := by
  unfold maxLen at hs
  go_enter Try.func30, Try.ntmps30
  go_wp2
  go_ret
  exact ⟨rfl, rfl⟩

theorem seal_ab : sealS ⟨#[97, 98]⟩ = ⟨#[97, 98, 161, 26, 45]⟩ := by decide +kernel

set_option maxHeartbeats 1000000 in
theorem law02_live (w : World) :
    Calls Try.prog 31 #[] w fun e w' => e = .returned (.bool true) ∧ Below w.heap.size w w' := by
  go_enter Try.func31, Try.ntmps31
  go_wp2_with fail
  refine (crcs_Seal _ _ (by decide)).mono ?_
  rintro e w1 ⟨rfl, hb1⟩
  rw [seal_ab]
  go_wp2_with fail
  refine (crcs_Open_ok _ _ (by decide) (by decide) (by decide +kernel)).mono ?_
  rintro e w2 ⟨rfl, hb2⟩
  rw [show (ByteArray.mk #[97, 98, 161, 26, 45]).extract 0 ((ByteArray.mk #[97, 98, 161, 26, 45]).size - 3) = ⟨#[97, 98]⟩ from by decide +kernel]
  go_wp2_with fail
  rw [show (ByteArray.mk #[120, 98]) ++ (ByteArray.mk #[97, 98, 161, 26, 45]).extract 2 5 = ⟨#[120, 98, 161, 26, 45]⟩ from by decide +kernel]
  refine (crcs_Open_bad _ _ (by decide) (by decide) (by decide +kernel)).mono ?_
  rintro e w3 ⟨rfl, hb3⟩
  go_wp2_with fail
  refine (crcs_Open_short _ _ (by decide)).mono ?_
  rintro e w4 ⟨rfl, hb4⟩
  go_wp2_with fail
  refine (crcs_sum _ _ (by decide)).mono ?_
  rintro e w5 ⟨rfl, hb5⟩
  rw [show ((Crc.sum (ByteArray.mk #[]).data.toList).toNat : Int) = 11994318 from by decide +kernel]
  go_wp2_with fail
  refine (crcs_sum _ _ (by decide)).mono ?_
  rintro e w6 ⟨rfl, hb6⟩
  rw [show ((Crc.sum (ByteArray.mk #[49, 50, 51, 52, 53, 54, 55, 56, 57]).data.toList).toNat : Int) = 2215682 from by decide +kernel]
  go_wp2
  go_ret
  exact ⟨rfl, grew hb1 (grew hb2 (grew hb3 (grew hb4 (grew hb5 hb6))))⟩
end Go.Proofs.Ytiofmcjnpnokbaa
