/- Some answers that the document gives of messages. -/
import Derived.Test.YtohlnhnelkoakaaMesgSame
import Derived.Test.YtohlnhnelkoakaaMesgEnc
namespace Go.Proofs.Ytohlnhnelkoakaa
open Go.RowKit
set_option linter.unusedVariables false

theorem two_ints (w : World) (x y : Int) : SliceI (w.alloc (.cells #[.int .i64 x, .int .i64 y] 3)) (.slice (some ⟨w.heap.size, 0, none⟩) 2 2) [x, y] :=
  ⟨_, 2, rfl, by simp, .inr ⟨w.heap.size, 0, rfl, by simp, fun i hi => by
    rw [cell_of_row _ _ _ _ _ _ (heap_alloc_new _ _)]
    have hi2 : i < 2 := by simpa using hi
    rcases (by omega : i = 0 ∨ i = 1) with rfl | rfl <;> rfl⟩⟩

/-- A slice of numbers is a slice. -/
theorem SliceI.shape {w : World} {v : Value} {zs : List Int} (h : SliceI w v zs) : ∃ a cap, v = .slice a zs.length cap := by
  obtain ⟨a, cap, rfl, _⟩ := h
  exact ⟨a, cap, rfl⟩

def liveM : Mesg.Msg := ⟨1, 3, [5, 2], ⟨1, 4, ⟨300, 1⟩, ⟨7, 0⟩, 97⟩⟩
def liveB : Mesg.Msg := ⟨1, 4, [5, 2], ⟨1, 4, ⟨300, 1⟩, ⟨7, 0⟩, 97⟩⟩
theorem live_may : Mesg.may liveM = true := by decide +kernel
theorem live_bytes : Mesg.bytes liveM = [1, 3, 2, 5, 2, 1, 4, 249, 1, 44, 1, 7, 0, 97] := by decide +kernel
theorem live_dec : Mesg.decode [1, 3, 2, 5, 2, 1, 4, 249, 1, 44, 1, 7, 0, 97] = .ok liveM [] := by rw [← live_bytes]; exact Mesg.decode_bytes live_may
theorem live_dec2 : Mesg.decode [1, 3, 2, 5, 2, 1, 4, 249, 1, 44, 1, 7, 0, 97, 120] = .error 2 := by
  rw [show [1, 3, 2, 5, 2, 1, 4, 249, 1, 44, 1, 7, 0, 97, 120] = Mesg.bytes liveM ++ [120] from by rw [live_bytes]; rfl]
  unfold Mesg.decode
  rw [(Mesg.cuts_msg live_may).whole]
  rfl
theorem live_check : checkN liveM = 0 := by decide +kernel
theorem live_check2 : checkN liveB = 1 := by decide +kernel

set_option maxRecDepth 100000 in
set_option maxHeartbeats 1000000 in
theorem law04_live (w : World) : Calls Try.prog 9 #[] w fun e w' => e = .returned (.bool true) ∧ Below w.heap.size w w' := by
  go_enter Try.func9, Try.ntmps9
  go_wp2_with fail
  have HS0 := Lib.hid ((two_ints w 5 2).below (grew_alloc _ (.cells (msgL liveM (.slice (some ⟨w.heap.size, 0, none⟩) 2 2)).toArray 28)))
  have HM0 := Lib.hid (Holds.new (w.alloc (.cells #[.int .i64 5, .int .i64 2] 3)) (msgL liveM (.slice (some ⟨w.heap.size, 0, none⟩) 2 2)) 28)
  have HB0 := Lib.hid (grew (grew_alloc w (.cells #[.int .i64 5, .int .i64 2] 3)) (grew_alloc _ (.cells (msgL liveM (.slice (some ⟨w.heap.size, 0, none⟩) 2 2)).toArray 28)))
  rw [show (w.alloc (.cells #[.int .i64 5, .int .i64 2] 3)).heap.size = w.heap.size + 1 from Array.size_push _] at HM0
  refine (mesg_Encode_yes liveM (.slice (some ⟨w.heap.size, 0, none⟩) 2 2) _ HS0.out live_may).mono ?_
  rintro e w1 ⟨rfl, hb1⟩
  rw [live_bytes, show str [1, 3, 2, 5, 2, 1, 4, 249, 1, 44, 1, 7, 0, 97] = ⟨#[1, 3, 2, 5, 2, 1, 4, 249, 1, 44, 1, 7, 0, 97]⟩ from rfl]
  have HS := Lib.hid (HS0.out.below hb1)
  have HM := Lib.hid (HM0.out.keep (Keep.of_grew hb1 Non) (fun h => h))
  have HB := Lib.hid (grew HB0.out hb1)
  clear HS0 HM0 HB0 hb1
  obtain ⟨⟨d0, d1, d2⟩, d3, d4, d5, d6, d7, d8, d9⟩ := msg_cells HM.out
  go_wp2_with fail
  refine (mesg_Decode _ _ (by decide)).mono ?_
  rintro e w2 ⟨he, hb2⟩
  rw [show (ByteArray.mk #[1, 3, 2, 5, 2, 1, 4, 249, 1, 44, 1, 7, 0, 97]).data.toList = [1, 3, 2, 5, 2, 1, 4, 249, 1, 44, 1, 7, 0, 97] from rfl, live_dec] at he
  obtain ⟨u, rfl, hu⟩ := he
  obtain ⟨ua, uc, rfl⟩ := hu.shape
  rw [show liveM.know.length = 2 from rfl] at hu ⊢
  rw [show msgV liveM (.slice ua 2 uc) = .agg #[.int .i64 1, .int .i64 3, .slice ua 2 uc, .int .i64 1, .int .i64 4, .int .i64 300, .int .i64 1, .int .i64 7, .int .i64 0, .int .i64 97] from rfl]
  have hb3 := grew hb2 (grew_alloc w2 (.cells (msgL liveM (.slice ua 2 uc)).toArray 28))
  have HU := Lib.hid (hu.below (grew_alloc w2 (.cells (msgL liveM (.slice ua 2 uc)).toArray 28)))
  have HN := Lib.hid (Holds.new w2 (msgL liveM (.slice ua 2 uc)) 28)
  have HS := Lib.hid (HS.out.below hb3)
  have HM := Lib.hid (HM.out.keep (Keep.of_grew hb3 Non) (fun h => h))
  have HB := Lib.hid (grew HB.out hb3)
  clear hu hb2 hb3 d0 d1 d2 d3 d4 d5 d6 d7 d8 d9
  go_wp2_with fail
  refine (mesg_Decode _ _ (by decide)).mono ?_
  rintro e w4 ⟨he, hb4⟩
  rw [show (ByteArray.mk #[1, 3, 2, 5, 2, 1, 4, 249, 1, 44, 1, 7, 0, 97] ++ ByteArray.mk #[120]).data.toList = [1, 3, 2, 5, 2, 1, 4, 249, 1, 44, 1, 7, 0, 97, 120] from by kernel_rfl, live_dec2] at he
  obtain rfl := he
  rw [show msgV Mesg.none (.slice none 0 0) = .agg #[.int .i64 0, .int .i64 0, .slice none 0 0, .int .i64 0, .int .i64 0, .int .i64 0, .int .i64 0, .int .i64 0, .int .i64 0, .int .i64 0] from rfl]
  have hb5 := grew hb4 (grew_alloc w4 (.cells (msgL Mesg.none (.slice none 0 0)).toArray 28))
  have HU := Lib.hid (HU.out.below hb5)
  have HN := Lib.hid (HN.out.keep (Keep.of_grew hb5 Non) (fun h => h))
  have HS := Lib.hid (HS.out.below hb5)
  have HM := Lib.hid (HM.out.keep (Keep.of_grew hb5 Non) (fun h => h))
  have HB := Lib.hid (grew HB.out hb5)
  clear hb4 hb5
  obtain ⟨⟨d0, d1, d2⟩, d3, d4, d5, d6, d7, d8, d9⟩ := msg_cells HM.out
  simp only [msgL, liveM, Mesg.none, Mesg.noOp, Mesg.zero] at d0 d1 d2 d3 d4 d5 d6 d7 d8 d9
  have hb6 := grew_alloc (w4.alloc (.cells (msgL Mesg.none (.slice none 0 0)).toArray 28)) (.cells (msgL liveB (.slice (some ⟨w.heap.size, 0, none⟩) 2 2)).toArray 28)
  have HX := Lib.hid (Holds.new (w4.alloc (.cells (msgL Mesg.none (.slice none 0 0)).toArray 28)) (msgL liveB (.slice (some ⟨w.heap.size, 0, none⟩) 2 2)) 28)
  rw [show (w4.alloc (.cells (msgL Mesg.none (.slice none 0 0)).toArray 28)).heap.size = w4.heap.size + 1 from Array.size_push _] at HX
  have HU := Lib.hid (HU.out.below hb6)
  have HN := Lib.hid (HN.out.keep (Keep.of_grew hb6 Non) (fun h => h))
  have HS := Lib.hid (HS.out.below hb6)
  have HM := Lib.hid (HM.out.keep (Keep.of_grew hb6 Non) (fun h => h))
  have HB := Lib.hid (grew HB.out hb6)
  clear hb6
  obtain ⟨⟨k0, k1, k2⟩, k3, k4, k5, k6, k7, k8, k9⟩ := msg_cells HM.out
  obtain ⟨⟨n0, n1, n2⟩, n3, n4, n5, n6, n7, n8, n9⟩ := msg_cells HN.out
  simp only [msgL, liveM, liveB, Mesg.none, Mesg.noOp, Mesg.zero] at k0 k1 k2 k3 k4 k5 k6 k7 k8 k9 n0 n1 n2 n3 n4 n5 n6 n7 n8 n9
  go_wp2_with fail
  clear d0 d1 d2 d3 d4 d5 d6 d7 d8 d9 k0 k1 k2 k3 k4 k5 k6 k7 k8 k9 n0 n1 n2 n3 n4 n5 n6 n7 n8 n9
  refine (ref04_Same liveM liveM (.slice (some ⟨w.heap.size, 0, none⟩) 2 2) (.slice ua 2 uc) _ HS.out HU.out (by decide) (by decide)).mono ?_
  rintro e w7 ⟨rfl, hb7⟩
  rw [show decide (liveM = liveM) = true from by simp]
  have HS := Lib.hid (HS.out.below hb7)
  have HM := Lib.hid (HM.out.keep (Keep.of_grew hb7 Non) (fun h => h))
  have HX := Lib.hid (HX.out.keep (Keep.of_grew hb7 Non) (fun h => h))
  have HB := Lib.hid (grew HB.out hb7)
  clear hb7 HU HN
  obtain ⟨⟨d0, d1, d2⟩, d3, d4, d5, d6, d7, d8, d9⟩ := msg_cells HM.out
  simp only [liveM] at d0 d1 d2 d3 d4 d5 d6 d7 d8 d9
  go_wp2_with fail
  clear d0 d1 d2 d3 d4 d5 d6 d7 d8 d9
  refine (mesg_Check liveM (.slice (some ⟨w.heap.size, 0, none⟩) 2 2) _ HS.out (by decide)).mono ?_
  rintro e w8 ⟨rfl, hb8⟩
  rw [live_check]
  have HS := Lib.hid (HS.out.below hb8)
  have HX := Lib.hid (HX.out.keep (Keep.of_grew hb8 Non) (fun h => h))
  have HB := Lib.hid (grew HB.out hb8)
  clear hb8 HM
  obtain ⟨⟨d0, d1, d2⟩, d3, d4, d5, d6, d7, d8, d9⟩ := msg_cells HX.out
  simp only [liveB] at d0 d1 d2 d3 d4 d5 d6 d7 d8 d9
  go_wp2_with fail
  clear d0 d1 d2 d3 d4 d5 d6 d7 d8 d9
  refine (mesg_Check liveB (.slice (some ⟨w.heap.size, 0, none⟩) 2 2) _ HS.out (by decide)).mono ?_
  rintro e w9 ⟨rfl, hb9⟩
  rw [live_check2]
  have HB := Lib.hid (grew HB.out hb9)
  clear hb9
  go_wp2_with fail
  refine (mesg_Rune 97 _).mono ?_
  rintro e w10 ⟨rfl, rfl⟩
  rw [show Mesg.rune 97 = true from by decide]
  go_wp2_with fail
  refine (mesg_Rune 127 _).mono ?_
  rintro e w10 ⟨rfl, rfl⟩
  rw [show Mesg.rune 127 = false from by decide]
  go_wp2
  go_ret
  exact ⟨rfl, HB.out⟩
end Go.Proofs.Ytohlnhnelkoakaa
