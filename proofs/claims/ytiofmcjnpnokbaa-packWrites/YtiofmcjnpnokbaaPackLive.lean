/- What the statements of layer 1 ask of some answers that the document gives holds. -/
import Derived.Test.YtiofmcjnpnokbaaPackList
namespace Go.Proofs.Ytiofmcjnpnokbaa
open Go.RowKit
set_option linter.unusedVariables false

theorem law01_short (s : ByteArray) (w : World) (hs : s.size ≤ maxLen) :
    Calls Try.prog 15 #[.string s] w fun e w' => e = .returned (.bool (decide ((s.size : Int) ≤ 70000))) ∧ w = w' := by
  unfold maxLen at hs
  go_enter Try.func15, Try.ntmps15
  go_wp2
  go_ret
  exact ⟨rfl, rfl⟩

theorem two_ints (w : World) (x y : Int) : SliceI (w.alloc (.cells #[.int .i64 x, .int .i64 y] 3)) (.slice (some ⟨w.heap.size, 0, none⟩) 2 2) [x, y] :=
  ⟨_, 2, rfl, by simp, .inr ⟨w.heap.size, 0, rfl, by simp, fun i hi => by
    rw [cell_of_row _ _ _ _ _ _ (heap_alloc_new _ _)]
    have hi2 : i < 2 := by simpa using hi
    rcases (by omega : i = 0 ∨ i = 1) with rfl | rfl <;> rfl⟩⟩

set_option maxRecDepth 100000 in
set_option maxHeartbeats 2000000 in
theorem law01_live (w : World) :
    Calls Try.prog 16 #[] w fun e w' => e = .returned (.bool true) ∧ Below w.heap.size w w' := by
  go_enter Try.func16, Try.ntmps16
  go_wp2_with fail
  refine (pack_Num_yes 300 _ (by omega)).mono ?_
  rintro e w1 ⟨rfl, hb1⟩
  rw [show str (Pack.num 300) = ⟨#[249, 1, 44]⟩ from by decide +kernel]
  go_wp2_with fail
  refine (pack_Num_yes 247 _ (by omega)).mono ?_
  rintro e w2 ⟨rfl, hb2⟩
  rw [show str (Pack.num 247) = ⟨#[247]⟩ from by decide +kernel]
  go_wp2_with fail
  refine (pack_Num_no (-1) _ (by omega)).mono ?_
  rintro e w3 ⟨rfl, hb3⟩
  go_wp2_with fail
  refine (pack_Take _ _ (by decide)).mono ?_
  rintro e w4 ⟨rfl, hb4⟩
  rw [show takeV (Pack.take (ByteArray.mk #[249, 1, 44, 120]).data.toList) = .tuple #[.int .i64 300, .string ⟨#[120]⟩, .int .i64 0] from by kernel_rfl]
  go_wp2_with fail
  refine (pack_Take _ _ (by decide)).mono ?_
  rintro e w5 ⟨rfl, hb5⟩
  rw [show takeV (Pack.take (ByteArray.mk #[248, 5]).data.toList) = .tuple #[.int .i64 0, .string ⟨#[]⟩, .int .i64 2] from by kernel_rfl]
  go_wp2_with fail
  refine (pack_Text _ _ (by decide)).mono ?_
  rintro e w6 ⟨rfl, hb6⟩
  rw [show textV (Pack.text (ByteArray.mk #[97, 98]).data.toList) = .tuple #[.string ⟨#[2, 97, 98]⟩, .int .i64 0] from by kernel_rfl]
  go_wp2_with fail
  refine (pack_Cut _ _ (by decide)).mono ?_
  rintro e w7 ⟨rfl, hb7⟩
  rw [show cutV (Pack.cut (ByteArray.mk #[2, 97, 98, 99]).data.toList) = .tuple #[.string ⟨#[97, 98]⟩, .string ⟨#[99]⟩, .int .i64 0] from by kernel_rfl]
  go_wp2_with fail
  refine (pack_List _ [5, 300] _ (two_ints _ _ _) (by decide)).mono ?_
  rintro e w8 ⟨rfl, hb8⟩
  rw [show textV (listR [5, 300]) = .tuple #[.string ⟨#[2, 5, 249, 1, 44]⟩, .int .i64 0] from by kernel_rfl]
  go_wp2_with fail
  refine (pack_Each _ _ (by decide)).mono ?_
  rintro e w9 ⟨he9, hb9⟩
  have he : Pack.each (ByteArray.mk #[2, 5, 249, 1, 44]).data.toList = ([5, 300], [], 0) := by decide +kernel
  rw [he] at he9
  obtain ⟨v9, rfl, hs9⟩ := he9
  clear he
  have HS := Lib.hid hs9
  clear hs9
  rw [show str [] = ⟨#[]⟩ from rfl]
  go_wp2_with fail
  refine (ref01_Same v9 _ [5, 300] [5, 300] _ (HS.out.below (grew_alloc _ _)) (two_ints _ _ _) (by decide) (by decide)).mono ?_
  rintro e w10 ⟨rfl, hb10⟩
  go_wp2
  go_ret
  exact ⟨rfl, grew hb1 (grew hb2 (grew hb3 (grew hb4 (grew hb5 (grew hb6 (grew hb7 (grew (grew_alloc _ _) (grew hb8 (grew hb9 (grew (grew_alloc _ _) hb10))))))))))⟩
end Go.Proofs.Ytiofmcjnpnokbaa
