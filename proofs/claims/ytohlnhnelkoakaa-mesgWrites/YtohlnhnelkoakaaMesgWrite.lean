/- The walk of MesgWrites. -/
import Derived.Test.YtohlnhnelkoakaaMesgRef13
import Derived.Test.YtohlnhnelkoakaaMesgCopy
import Derived.Test.YtohlnhnelkoakaaMesgSame
import Derived.Test.YtohlnhnelkoakaaMesgOpen
namespace Go.Proofs.Ytohlnhnelkoakaa
open Go.RowKit
set_option linter.unusedVariables false

/-- What writing a message comes to. -/
def encS (m : Mesg.Msg) : ByteArray := if Mesg.may m then str (Mesg.bytes m) else ⟨#[]⟩
theorem mesg_Encode_is (m : Mesg.Msg) (v : Value) (w : World) (hv : SliceI w v m.know) (hm : m.know.length ≤ 1000000000) :
    Calls Try.prog 11 #[msgV m v] w fun e w' => e = .returned (.tuple #[.string (encS m), .int .i64 (checkN m)]) ∧ Below w.heap.size w w' := by
  unfold encS checkN
  cases h : Mesg.may m
  · exact mesg_Encode_no m v w hv hm h
  · exact mesg_Encode_yes m v w hv h
theorem ref04_Encode_is (m : Mesg.Msg) (v : Value) (w : World) (hv : SliceI w v m.know) (hm : m.know.length ≤ 1000000000) :
    Calls Try.prog 12 #[msgV m v] w fun e w' => e = .returned (.tuple #[.string (encS m), .int .i64 (checkN m)]) ∧ Below w.heap.size w w' := by
  unfold encS checkN
  cases h : Mesg.may m
  · exact ref04_Encode_no m v w hv hm h
  · exact ref04_Encode_yes m v w hv h

set_option maxRecDepth 100000 in
set_option maxHeartbeats 8000000 in
theorem walk_MesgWrites (m : Mesg.Msg) (u : Value) (n : Int) (w : World) (h : SliceI w u m.know ∧ m.know.length ≤ maxLen) (hn : (Lit.int .i64 n).wf = true) :
    Calls Try.prog 3 #[msgV m u, .int .i64 n] w fun e w' => e = .returned (.bool true) ∧ Below w.heap.size w w' := by
  obtain ⟨hu, hm⟩ := h
  unfold maxLen at hm
  have HU := Lib.hid hu
  obtain ⟨ua, uc, rfl⟩ := hu.shape
  clear hu hn
  by_cases h3 : 30 < m.know.length
  · have hd : decide ((30 : Int) < (m.know.length : Int)) = true := decide_eq_true (by omega)
    clear h3
    unfold msgV
    go_enter Try.func3, Try.ntmps3
    go_wp2_with fail
    refine (law04_live _).mono ?_
    rintro e w2 ⟨rfl, hb2⟩
    go_wp2
    go_ret
    exact ⟨rfl, grew (grew_alloc _ _) hb2⟩
  · have hd : decide ((30 : Int) < (m.know.length : Int)) = false := decide_eq_false (by omega)
    have h30 : m.know.length ≤ 30 := by omega
    clear h3
    have HM := Lib.hid (Holds.new w (msgL m (.slice ua m.know.length uc)) 28)
    have HCOPY := Lib.hid (fun W h => ref04_Copy m (.slice ua m.know.length uc) W h (by omega))
    have HE1 := Lib.hid (fun v W h => mesg_Encode_is m v W h (by omega))
    have HE2 := Lib.hid (fun W h => ref04_Encode_is m (.slice ua m.know.length uc) W h (by omega))
    have HK1 := Lib.hid (fun v W h => mesg_Check m v W h (by omega))
    have HK2 := Lib.hid (fun W h => ref04_Check m (.slice ua m.know.length uc) W h (by omega))
    have HK3 := Lib.hid (fun v W h h' => ref04_Same m m v (.slice ua m.know.length uc) W h h' (by omega) (by omega))
    unfold msgV at HE1 HE2 HK1 HK2 HK3 HCOPY ⊢
    go_enter Try.func3, Try.ntmps3
    go_wp2_with fail
    refine (HCOPY.out _ (HU.out.below (grew_alloc _ _))).mono ?_
    rintro e w1 ⟨⟨v1, rfl, hv1⟩, hb1⟩
    have HW1 := Lib.hid hv1
    obtain ⟨oa, oc, rfl⟩ := hv1.shape
    clear hv1
    have hb2 := grew_alloc w1 (.cells (msgL m (.slice oa m.know.length oc)).toArray 28)
    have HO2 := Lib.hid (Holds.new w1 (msgL m (.slice oa m.know.length oc)) 28)
    have HM2 := Lib.hid ((HM.out.keep (Keep.of_grew hb1 Non) (fun h => h)).keep (Keep.of_grew hb2 Non) (fun h => h))
    have HU2 := Lib.hid (((HU.out.below (grew_alloc _ _)).below hb1).below hb2)
    have HW2 := Lib.hid (HW1.out.below hb2)
    have HB2 := Lib.hid (grew (grew_alloc w (.cells (msgL m (.slice ua m.know.length uc)).toArray 28)) (grew hb1 hb2))
    clear hb1 hb2 HM HU HW1
    have HE1 := Lib.hid (HE1.out (.slice oa m.know.length oc))
    have HK1 := Lib.hid (HK1.out (.slice oa m.know.length oc))
    have HK3 := Lib.hid (HK3.out (.slice oa m.know.length oc))
    go_wp2_with fail
    refine (HE1.out _ HW2.out).mono ?_
    rintro e w3 ⟨rfl, hb3⟩
    have HM3 := Lib.hid (HM2.out.keep (Keep.of_grew hb3 Non) (fun h => h))
    have HO3 := Lib.hid (HO2.out.keep (Keep.of_grew hb3 Non) (fun h => h))
    have HU3 := Lib.hid (HU2.out.below hb3)
    have HW3 := Lib.hid (HW2.out.below hb3)
    have HB3 := Lib.hid (grew HB2.out hb3)
    clear hb3 HM2 HO2 HU2 HW2 HB2
    obtain ⟨⟨p0, p1, p2⟩, p3, p4, p5, p6, p7, p8, p9⟩ := msg_cells HM3.out
    go_wp2_with fail
    refine (HE2.out _ HU3.out).mono ?_
    rintro e w4 ⟨rfl, hb4⟩
    clear p0 p1 p2 p3 p4 p5 p6 p7 p8 p9
    have HM4 := Lib.hid (HM3.out.keep (Keep.of_grew hb4 Non) (fun h => h))
    have HO4 := Lib.hid (HO3.out.keep (Keep.of_grew hb4 Non) (fun h => h))
    have HU4 := Lib.hid (HU3.out.below hb4)
    have HW4 := Lib.hid (HW3.out.below hb4)
    have HB4 := Lib.hid (grew HB3.out hb4)
    clear hb4 HM3 HO3 HU3 HW3 HB3 HE1 HE2 HCOPY
    have HMr : Hid (Holds w4.drew w.heap.size (msgL m (.slice ua m.know.length uc)) 28) := Lib.hid HM4.out
    have HOr : Hid (Holds w4.drew w1.heap.size (msgL m (.slice oa m.know.length oc)) 28) := Lib.hid HO4.out
    have HUr := Lib.hid (HU4.out.below (grew_drew w4))
    have HWr := Lib.hid (HW4.out.below (grew_drew w4))
    have HBr := Lib.hid (grew HB4.out (grew_drew w4))
    clear HU4 HW4 HB4
    obtain ⟨⟨p0, p1, p2⟩, p3, p4, p5, p6, p7, p8, p9⟩ := msg_cells HM4.out
    obtain ⟨⟨o0, o1, o2⟩, o3, o4, o5, o6, o7, o8, o9⟩ := msg_cells HO4.out
    have hss : ((encS m).toList == (encS m).toList) = true := str_same rfl
    have HSAME : Hid (decide (m = m) = true) := Lib.hid (by simp)
    generalize encS m = E at *
    generalize checkN m = K at *
    go_wp2_with fail
    go_region_held3 (fun w' => w'.cell? ⟨w.heap.size, 0, none⟩ = some (.int .i64 m.site) ∧ w'.cell? ⟨w.heap.size, 1, none⟩ = some (.int .i64 m.seq) ∧ w'.cell? ⟨w.heap.size, 2, none⟩ = some (.slice ua m.know.length uc) ∧ w'.cell? ⟨w.heap.size, 3, none⟩ = some (.int .i64 m.op.kind) ∧ w'.cell? ⟨w.heap.size, 4, none⟩ = some (.int .i64 m.op.epoch) ∧ w'.cell? ⟨w.heap.size, 5, none⟩ = some (.int .i64 m.op.id.time) ∧ w'.cell? ⟨w.heap.size, 6, none⟩ = some (.int .i64 m.op.id.site) ∧ w'.cell? ⟨w.heap.size, 7, none⟩ = some (.int .i64 m.op.ref.time) ∧ w'.cell? ⟨w.heap.size, 8, none⟩ = some (.int .i64 m.op.ref.site) ∧ w'.cell? ⟨w.heap.size, 9, none⟩ = some (.int .i64 m.op.rune) ∧ w'.cell? ⟨w1.heap.size, 0, none⟩ = some (.int .i64 m.site) ∧ w'.cell? ⟨w1.heap.size, 1, none⟩ = some (.int .i64 m.seq) ∧ w'.cell? ⟨w1.heap.size, 2, none⟩ = some (.slice oa m.know.length oc) ∧ w'.cell? ⟨w1.heap.size, 3, none⟩ = some (.int .i64 m.op.kind) ∧ w'.cell? ⟨w1.heap.size, 4, none⟩ = some (.int .i64 m.op.epoch) ∧ w'.cell? ⟨w1.heap.size, 5, none⟩ = some (.int .i64 m.op.id.time) ∧ w'.cell? ⟨w1.heap.size, 6, none⟩ = some (.int .i64 m.op.id.site) ∧ w'.cell? ⟨w1.heap.size, 7, none⟩ = some (.int .i64 m.op.ref.time) ∧ w'.cell? ⟨w1.heap.size, 8, none⟩ = some (.int .i64 m.op.ref.site) ∧ w'.cell? ⟨w1.heap.size, 9, none⟩ = some (.int .i64 m.op.rune))
      (first | exact ⟨p0, p1, p2, p3, p4, p5, p6, p7, p8, p9, o0, o1, o2, o3, o4, o5, o6, o7, o8, o9⟩ | exact ⟨p0a, p1a, p2a, p3a, p4a, p5a, p6a, p7a, p8a, p9a, o0a, o1a, o2a, o3a, o4a, o5a, o6a, o7a, o8a, o9a⟩ | exact ⟨p0b, p1b, p2b, p3b, p4b, p5b, p6b, p7b, p8b, p9b, o0b, o1b, o2b, o3b, o4b, o5b, o6b, o7b, o8b, o9b⟩ | exact ⟨p0c, p1c, p2c, p3c, p4c, p5c, p6c, p7c, p8c, p9c, o0c, o1c, o2c, o3c, o4c, o5c, o6c, o7c, o8c, o9c⟩ | exact ⟨p0d, p1d, p2d, p3d, p4d, p5d, p6d, p7d, p8d, p9d, o0d, o1d, o2d, o3d, o4d, o5d, o6d, o7d, o8d, o9d⟩)
      (first
        | (go_at_call 13; (with_reducible refine (HK1.out w4.drew HWr.out).mono ?_); rintro e wa ⟨rfl, hba⟩; have HMa := Lib.hid (HMr.out.keep (Keep.of_grew hba Non) (fun h => h)); have HOa := Lib.hid (HOr.out.keep (Keep.of_grew hba Non) (fun h => h)); have HUa := Lib.hid (HUr.out.below hba); have HWa := Lib.hid (HWr.out.below hba); have HBa := Lib.hid (grew HBr.out hba); clear hba; obtain ⟨⟨p0a, p1a, p2a⟩, p3a, p4a, p5a, p6a, p7a, p8a, p9a⟩ := msg_cells HMa.out; obtain ⟨⟨o0a, o1a, o2a⟩, o3a, o4a, o5a, o6a, o7a, o8a, o9a⟩ := msg_cells HOa.out)
        | (go_at_call 14; (with_reducible refine (HK2.out wa HUa.out).mono ?_); rintro e wb ⟨rfl, hbb⟩; have HMb := Lib.hid (HMa.out.keep (Keep.of_grew hbb Non) (fun h => h)); have HOb := Lib.hid (HOa.out.keep (Keep.of_grew hbb Non) (fun h => h)); have HUb := Lib.hid (HUa.out.below hbb); have HWb := Lib.hid (HWa.out.below hbb); have HBb := Lib.hid (grew HBa.out hbb); clear hbb; obtain ⟨⟨p0b, p1b, p2b⟩, p3b, p4b, p5b, p6b, p7b, p8b, p9b⟩ := msg_cells HMb.out; obtain ⟨⟨o0b, o1b, o2b⟩, o3b, o4b, o5b, o6b, o7b, o8b, o9b⟩ := msg_cells HOb.out)
        | (go_at_call 15; refine (mesg_Rune n _).mono ?_; rintro e wx ⟨rfl, rfl⟩)
        | (go_at_call 16; refine (ref04_Rune n _).mono ?_; rintro e wx ⟨rfl, rfl⟩)
        | (go_at_call 17; (with_reducible refine (HK3.out wb HWb.out HUb.out).mono ?_); rintro e wc ⟨rfl, hbc⟩; rw [HSAME.out]; have HMc := Lib.hid (HMb.out.keep (Keep.of_grew hbc Non) (fun h => h)); have HOc := Lib.hid (HOb.out.keep (Keep.of_grew hbc Non) (fun h => h)); have HUc := Lib.hid (HUb.out.below hbc); have HWc := Lib.hid (HWb.out.below hbc); have HBc := Lib.hid (grew HBb.out hbc); clear hbc; obtain ⟨⟨p0c, p1c, p2c⟩, p3c, p4c, p5c, p6c, p7c, p8c, p9c⟩ := msg_cells HMc.out; obtain ⟨⟨o0c, o1c, o2c⟩, o3c, o4c, o5c, o6c, o7c, o8c, o9c⟩ := msg_cells HOc.out)
        | (go_at_call 9; refine (law04_live wc).mono ?_; rintro e wd ⟨rfl, hbd⟩; have HMd := Lib.hid (HMc.out.keep (Keep.of_grew hbd Non) (fun h => h)); have HOd := Lib.hid (HOc.out.keep (Keep.of_grew hbd Non) (fun h => h)); have HUd := Lib.hid (HUc.out.below hbd); have HWd := Lib.hid (HWc.out.below hbd); have HBd := Lib.hid (grew HBc.out hbd); clear hbd; obtain ⟨⟨p0d, p1d, p2d⟩, p3d, p4d, p5d, p6d, p7d, p8d, p9d⟩ := msg_cells HMd.out; obtain ⟨⟨o0d, o1d, o2d⟩, o3d, o4d, o5d, o6d, o7d, o8d, o9d⟩ := msg_cells HOd.out))
    go_wp2
    go_ret
    exact ⟨rfl, HBd.out⟩
end Go.Proofs.Ytohlnhnelkoakaa
