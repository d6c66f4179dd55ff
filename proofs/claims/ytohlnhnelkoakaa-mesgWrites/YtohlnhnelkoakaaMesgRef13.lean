/- What duetref04.Encode comes to of a message that may be. -/
import Derived.Test.YtohlnhnelkoakaaMesgRef6
namespace Go.Proofs.Ytohlnhnelkoakaa
open Go.RowKit
set_option linter.unusedVariables false

set_option maxRecDepth 100000 in
set_option maxHeartbeats 4000000 in
theorem ref04_Encode_one (m : Mesg.Msg) (v : Value) (w : World) (hv : SliceI w v m.know) (hmay : Mesg.may m = true) (hk : m.op.kind = 1) :
    Calls Try.prog 12 #[msgV m v] w fun e w' => e = .returned (.tuple #[.string (str (Mesg.bytes m)), .int .i64 0]) ∧ Below w.heap.size w w' := by
  obtain ⟨hn1, hn16, hfk, hf1, hf2⟩ := Mesg.may_head hmay
  obtain ⟨hk1, hk8, hf4, ⟨hf5, hf6⟩, ⟨hf7, hf8⟩, hf9⟩ := Mesg.may_op hmay
  have hf3 : Mesg.Fit m.op.kind := ⟨by omega, by omega⟩
  have HV := Lib.hid hv
  clear hv
  have HCK := Lib.hid (fun W h => ref04_Check m v W h (by omega))
  have HN : Hid (checkN m = 0) := Lib.hid (by unfold checkN; rw [hmay]; rfl)
  have HL := Lib.hid (list_fit m.know (by omega) hfk)
  have hd1 : (m.op.kind == 1) = true := by rw [beq_iff_eq]; exact hk
  have hd6 : (m.op.kind != 6) = true := by simp; omega
  have hk0 : m.op.kind = 1 := hk
  have hk0' : ¬ ((1 : Int) = 6) := by omega
  have HY : Hid (str (Mesg.bytes m) = (((((str (Mesg.numsI [m.site, m.seq])) ++ str (Pack.num m.know.length ++ Mesg.numsI m.know)) ++ str (Mesg.numsI [m.op.kind, m.op.epoch])) ++ str (Mesg.numsI [m.op.id.time, m.op.id.site])) ++ str (Mesg.numsI [m.op.ref.time, m.op.ref.site])) ++ str (Mesg.numsI [m.op.rune])) := Lib.hid (by simp only [str_append]; congr 1; simp [Mesg.bytes, hk0, hk0', List.append_assoc])
  have C1 := Lib.hid (fun W u h => ref04_nums u [m.site, m.seq] W h (by simp) (fit2 hf1 hf2))
  have C2 := Lib.hid (fun W u h => ref04_nums u [m.op.kind, m.op.epoch] W h (by simp) (fit2 hf3 hf4))
  clear hmay hfk hk hk0 hk0'
  unfold msgV at HCK ⊢
  go_enter Try.func12, Try.ntmps12
  go_wp2_with fail
  refine (HCK.out _ (HV.out.below (grew_alloc _ _))).mono ?_
  rintro e w1 ⟨rfl, hb1⟩
  rw [HN.out]
  have HM := Lib.hid ((Holds.new w (msgL m v) 28).keep (Keep.of_grew hb1 Non) (fun h => h))
  have HV1 := Lib.hid ((HV.out.below (grew_alloc _ _)).below hb1)
  have HB1 : Hid (Below w.heap.size w w1) := Lib.hid (grew (grew_alloc _ _) hb1)
  clear hb1
  obtain ⟨⟨d0, d1, d2⟩, d3, d4, d5, d6, d7, d8, d9⟩ := msg_cells HM.out
  go_wp2_with fail
  refine (ref01_List v m.know w1 HV1.out (by unfold maxLen; omega)).mono ?_
  rintro e w2 ⟨rfl, hb2⟩
  rw [HL.out]
  unfold textV
  have HM2 := Lib.hid (HM.out.keep (Keep.of_grew hb2 Non) (fun h => h))
  have HB2 := Lib.hid (grew HB1.out hb2)
  clear hb2 d0 d1 d2 d3 d4 d5 d6 d7 d8 d9
  obtain ⟨⟨d0, d1, d2⟩, d3, d4, d5, d6, d7, d8, d9⟩ := msg_cells HM2.out
  have sA1 : (str (Mesg.numsI [m.site, m.seq])).size ≤ 10 := by have := numsI_len [m.site, m.seq]; rw [str_size]; simp only [List.length_cons, List.length_nil] at this; omega
  have sA2 : (str (Mesg.numsI [m.op.kind, m.op.epoch])).size ≤ 10 := by have := numsI_len [m.op.kind, m.op.epoch]; rw [str_size]; simp only [List.length_cons, List.length_nil] at this; omega
  have sKN : (str (Pack.num m.know.length ++ Mesg.numsI m.know)).size ≤ 100 := by have := numsI_len m.know; have := (Pack.num_len_le m.know.length).2; rw [str_size, List.length_append]; omega
  generalize str (Pack.num m.know.length ++ Mesg.numsI m.know) = KN at *
  generalize str (Mesg.numsI [m.site, m.seq]) = A1 at *
  generalize str (Mesg.numsI [m.op.kind, m.op.epoch]) = A2 at *
  have HG2 := Lib.hid (grew (grew_alloc w2 (.cells #[.int .i64 m.site, .int .i64 m.seq] 3)) (grew_drew _))
  have HGa := Lib.hid (grew (grew_alloc w2 (.cells #[.int .i64 m.site, .int .i64 m.seq] 3)) (grew (grew_alloc _ (.cells #[.int .i64 m.op.kind, .int .i64 m.op.epoch] 3)) (grew_drew _)))
  have HGb := Lib.hid (grew (grew_alloc w2 (.cells #[.int .i64 m.op.kind, .int .i64 m.op.epoch] 3)) (grew (grew_alloc _ (.cells #[.int .i64 m.site, .int .i64 m.seq] 3)) (grew_drew _)))
  have HS1 := Lib.hid ((two_nums w2 m.site m.seq w2.heap.size rfl).below (grew_drew _))
  have HS1a := Lib.hid (((two_nums w2 m.site m.seq w2.heap.size rfl).below (grew_alloc _ (.cells #[.int .i64 m.op.kind, .int .i64 m.op.epoch] 3))).below (grew_drew _))
  have HS2a := Lib.hid ((two_nums (w2.alloc (.cells #[.int .i64 m.site, .int .i64 m.seq] 3)) m.op.kind m.op.epoch (w2.heap.size + 1) (by simp)).below (grew_drew _))
  have HS1b := Lib.hid ((two_nums (w2.alloc (.cells #[.int .i64 m.op.kind, .int .i64 m.op.epoch] 3)) m.site m.seq (w2.heap.size + 1) (by simp)).below (grew_drew _))
  have HS2b := Lib.hid (((two_nums w2 m.op.kind m.op.epoch w2.heap.size rfl).below (grew_alloc _ (.cells #[.int .i64 m.site, .int .i64 m.seq] 3))).below (grew_drew _))
  have hz1 : ∀ W : World, (Op.stringOp .add A1 KN).run Try.prog W = .ok (.string (A1 ++ KN)) W := fun W => run_string_add_sum W A1 KN (by omega)
  have hz2 : ∀ W : World, (Op.stringOp .add (A1 ++ KN) A2).run Try.prog W = .ok (.string (A1 ++ KN ++ A2)) W := fun W => run_string_add_sum W (A1 ++ KN) A2 (by rw [ByteArray.size_append]; omega)
  go_wp2_with fail
  go_region_held3 (fun w' => w'.cell? ⟨w.heap.size, 0, none⟩ = some (.int .i64 m.site) ∧ w'.cell? ⟨w.heap.size, 1, none⟩ = some (.int .i64 m.seq) ∧ w'.cell? ⟨w.heap.size, 3, none⟩ = some (.int .i64 m.op.kind) ∧ w'.cell? ⟨w.heap.size, 4, none⟩ = some (.int .i64 m.op.epoch))
    (go_keep)
    (first
      | (go_at_call 28; (with_reducible refine (C1.out ((w2.alloc (.cells #[.int .i64 m.site, .int .i64 m.seq] 3)).drew) (.slice (some ⟨w2.heap.size, 0, none⟩) 2 2) HS1.out).mono ?_); rintro e w3 ⟨rfl, hb3⟩; have hg3 := grew HG2.out hb3; have HM3 := Lib.hid (HM2.out.keep (Keep.of_grew hg3 Non) (fun h => h)); have HB3 := Lib.hid (grew HB2.out hg3); clear hb3 hg3; obtain ⟨⟨e0, e1, e2⟩, e3, e4, e5, e6, e7, e8, e9⟩ := msg_cells HM3.out)
      | (go_at_call 28; (with_reducible refine (C1.out (((w2.alloc (.cells #[.int .i64 m.site, .int .i64 m.seq] 3)).alloc (.cells #[.int .i64 m.op.kind, .int .i64 m.op.epoch] 3)).drew) (.slice (some ⟨w2.heap.size, 0, none⟩) 2 2) HS1a.out).mono ?_); rintro e w3 ⟨rfl, hb3⟩; have hg3 := grew HGa.out hb3; have HM3 := Lib.hid (HM2.out.keep (Keep.of_grew hg3 Non) (fun h => h)); have HB3 := Lib.hid (grew HB2.out hg3); have HS2 := Lib.hid (HS2a.out.below hb3); clear hb3 hg3; obtain ⟨⟨e0, e1, e2⟩, e3, e4, e5, e6, e7, e8, e9⟩ := msg_cells HM3.out)
      | (go_at_call 28; (with_reducible refine (C1.out (((w2.alloc (.cells #[.int .i64 m.op.kind, .int .i64 m.op.epoch] 3)).alloc (.cells #[.int .i64 m.site, .int .i64 m.seq] 3)).drew) (.slice (some ⟨w2.heap.size + 1, 0, none⟩) 2 2) HS1b.out).mono ?_); rintro e w3 ⟨rfl, hb3⟩; have hg3 := grew HGb.out hb3; have HM3 := Lib.hid (HM2.out.keep (Keep.of_grew hg3 Non) (fun h => h)); have HB3 := Lib.hid (grew HB2.out hg3); have HS2 := Lib.hid (HS2b.out.below hb3); clear hb3 hg3; obtain ⟨⟨e0, e1, e2⟩, e3, e4, e5, e6, e7, e8, e9⟩ := msg_cells HM3.out)
      | (go_at_call 28; (with_reducible refine (C2.out (w3.alloc (.cells #[.int .i64 m.op.kind, .int .i64 m.op.epoch] 3)) (.slice (some ⟨w3.heap.size, 0, none⟩) 2 2) (two_nums w3 m.op.kind m.op.epoch w3.heap.size rfl)).mono ?_); rintro e w4 ⟨rfl, hb4⟩; have hg4 := grew (grew_alloc w3 (.cells #[.int .i64 m.op.kind, .int .i64 m.op.epoch] 3)) hb4; have HM4 := Lib.hid (HM3.out.keep (Keep.of_grew hg4 Non) (fun h => h)); have HB4 := Lib.hid (grew HB3.out hg4); clear hb4 hg4; obtain ⟨⟨g0, g1, g2⟩, g3, g4, g5, g6, g7, g8, g9⟩ := msg_cells HM4.out)
      | (go_at_call 28; (with_reducible refine (C2.out w3 _ HS2.out).mono ?_); rintro e w4 ⟨rfl, hb4⟩; have hg4 := hb4; have HM4 := Lib.hid (HM3.out.keep (Keep.of_grew hg4 Non) (fun h => h)); have HB4 := Lib.hid (grew HB3.out hg4); clear hb4 hg4; obtain ⟨⟨g0, g1, g2⟩, g3, g4, g5, g6, g7, g8, g9⟩ := msg_cells HM4.out))
  all_goals
    clear HS1 HS1a HS2a HS1b HS2b HG2 HGa HGb hz1 hz2 C1 C2 HM3 HB3 d0 d1 d2 d3 d4 d5 d6 d7 d8 d9 e0 e1 e2 e3 e4 e5 e6 e7 e8 e9
    go_wp2_with fail
    refine (ref04_nums _ [m.op.id.time, m.op.id.site] _ (two_nums _ _ _ _ (by first | rfl | simp)) (by simp) (fit2 hf5 hf6)).mono ?_
    rintro e w5 ⟨rfl, hb⟩
    have HM5 := Lib.hid (HM4.out.keep (Keep.of_grew (grew (grew_alloc _ _) hb) Non) (fun h => h))
    have HB5 := Lib.hid (grew HB4.out (grew (grew_alloc _ _) hb))
    clear hb HM4 HB4 g0 g1 g2 g3 g4 g5 g6 g7 g8 g9
    have sB0 : (str (Mesg.numsI [m.op.id.time, m.op.id.site])).size ≤ 10 := by have := numsI_len [m.op.id.time, m.op.id.site]; rw [str_size]; simp only [List.length_cons, List.length_nil] at this; omega
    generalize str (Mesg.numsI [m.op.id.time, m.op.id.site]) = B0 at *
    obtain ⟨⟨h0, h1, h2⟩, h3, h4, h5, h6, h7, h8, h9⟩ := msg_cells HM5.out
    go_wp2_with fail
    refine (ref04_nums _ [m.op.ref.time, m.op.ref.site] _ (two_nums _ _ _ _ (by first | rfl | simp)) (by simp) (fit2 hf7 hf8)).mono ?_
    rintro e w6 ⟨rfl, hb⟩
    have HM6 := Lib.hid (HM5.out.keep (Keep.of_grew (grew (grew_alloc _ _) hb) Non) (fun h => h))
    have HB6 := Lib.hid (grew HB5.out (grew (grew_alloc _ _) hb))
    clear hb HM5 HB5 h0 h1 h2 h3 h4 h5 h6 h7 h8 h9
    have sB1 : (str (Mesg.numsI [m.op.ref.time, m.op.ref.site])).size ≤ 10 := by have := numsI_len [m.op.ref.time, m.op.ref.site]; rw [str_size]; simp only [List.length_cons, List.length_nil] at this; omega
    generalize str (Mesg.numsI [m.op.ref.time, m.op.ref.site]) = B1 at *
    obtain ⟨⟨i0, i1, i2⟩, i3, i4, i5, i6, i7, i8, i9⟩ := msg_cells HM6.out
    go_wp2_with fail
    refine (ref04_nums _ [m.op.rune] _ (one_num _ _ _ (by first | rfl | simp)) (by simp) (fun z hz => by rw [List.mem_singleton.1 hz]; exact hf9)).mono ?_
    rintro e w7 ⟨rfl, hb⟩
    have HM7 := Lib.hid (HM6.out.keep (Keep.of_grew (grew (grew_alloc _ _) hb) Non) (fun h => h))
    have HB7 := Lib.hid (grew HB6.out (grew (grew_alloc _ _) hb))
    clear hb HM6 HB6 i0 i1 i2 i3 i4 i5 i6 i7 i8 i9
    have sB2 : (str (Mesg.numsI [m.op.rune])).size ≤ 10 := by have := numsI_len [m.op.rune]; rw [str_size]; simp only [List.length_cons, List.length_nil] at this; omega
    generalize str (Mesg.numsI [m.op.rune]) = B2 at *
    obtain ⟨⟨j0, j1, j2⟩, j3, j4, j5, j6, j7, j8, j9⟩ := msg_cells HM7.out
    go_wp2
    go_ret2
    exact ⟨by rw [HY.out]; rfl, HB7.out⟩

set_option maxRecDepth 100000 in
set_option maxHeartbeats 4000000 in
theorem ref04_Encode_six (m : Mesg.Msg) (v : Value) (w : World) (hv : SliceI w v m.know) (hmay : Mesg.may m = true) (hk : m.op.kind = 6) :
    Calls Try.prog 12 #[msgV m v] w fun e w' => e = .returned (.tuple #[.string (str (Mesg.bytes m)), .int .i64 0]) ∧ Below w.heap.size w w' := by
  obtain ⟨hn1, hn16, hfk, hf1, hf2⟩ := Mesg.may_head hmay
  obtain ⟨hk1, hk8, hf4, ⟨hf5, hf6⟩, ⟨hf7, hf8⟩, hf9⟩ := Mesg.may_op hmay
  have hf3 : Mesg.Fit m.op.kind := ⟨by omega, by omega⟩
  have HV := Lib.hid hv
  clear hv
  have HCK := Lib.hid (fun W h => ref04_Check m v W h (by omega))
  have HN : Hid (checkN m = 0) := Lib.hid (by unfold checkN; rw [hmay]; rfl)
  have HL := Lib.hid (list_fit m.know (by omega) hfk)
  have hd1 : (m.op.kind == 1) = false := by rw [beq_eq_false_iff_ne]; omega
  have hd6 : (m.op.kind == 6) = true := by rw [beq_iff_eq]; exact hk
  have hd6' : (m.op.kind != 6) = false := by simp; omega
  have hk0 : m.op.kind = 6 := hk
  have hk0' : ¬ ((6 : Int) = 1) := by omega
  have HY : Hid (str (Mesg.bytes m) = (((str (Mesg.numsI [m.site, m.seq])) ++ str (Pack.num m.know.length ++ Mesg.numsI m.know)) ++ str (Mesg.numsI [m.op.kind, m.op.epoch])) ++ str (Mesg.numsI [m.op.id.time, m.op.id.site])) := Lib.hid (by simp only [str_append]; congr 1; simp [Mesg.bytes, hk0, hk0', List.append_assoc])
  have C1 := Lib.hid (fun W u h => ref04_nums u [m.site, m.seq] W h (by simp) (fit2 hf1 hf2))
  have C2 := Lib.hid (fun W u h => ref04_nums u [m.op.kind, m.op.epoch] W h (by simp) (fit2 hf3 hf4))
  clear hmay hfk hk hk0 hk0'
  unfold msgV at HCK ⊢
  go_enter Try.func12, Try.ntmps12
  go_wp2_with fail
  refine (HCK.out _ (HV.out.below (grew_alloc _ _))).mono ?_
  rintro e w1 ⟨rfl, hb1⟩
  rw [HN.out]
  have HM := Lib.hid ((Holds.new w (msgL m v) 28).keep (Keep.of_grew hb1 Non) (fun h => h))
  have HV1 := Lib.hid ((HV.out.below (grew_alloc _ _)).below hb1)
  have HB1 : Hid (Below w.heap.size w w1) := Lib.hid (grew (grew_alloc _ _) hb1)
  clear hb1
  obtain ⟨⟨d0, d1, d2⟩, d3, d4, d5, d6, d7, d8, d9⟩ := msg_cells HM.out
  go_wp2_with fail
  refine (ref01_List v m.know w1 HV1.out (by unfold maxLen; omega)).mono ?_
  rintro e w2 ⟨rfl, hb2⟩
  rw [HL.out]
  unfold textV
  have HM2 := Lib.hid (HM.out.keep (Keep.of_grew hb2 Non) (fun h => h))
  have HB2 := Lib.hid (grew HB1.out hb2)
  clear hb2 d0 d1 d2 d3 d4 d5 d6 d7 d8 d9
  obtain ⟨⟨d0, d1, d2⟩, d3, d4, d5, d6, d7, d8, d9⟩ := msg_cells HM2.out
  have sA1 : (str (Mesg.numsI [m.site, m.seq])).size ≤ 10 := by have := numsI_len [m.site, m.seq]; rw [str_size]; simp only [List.length_cons, List.length_nil] at this; omega
  have sA2 : (str (Mesg.numsI [m.op.kind, m.op.epoch])).size ≤ 10 := by have := numsI_len [m.op.kind, m.op.epoch]; rw [str_size]; simp only [List.length_cons, List.length_nil] at this; omega
  have sKN : (str (Pack.num m.know.length ++ Mesg.numsI m.know)).size ≤ 100 := by have := numsI_len m.know; have := (Pack.num_len_le m.know.length).2; rw [str_size, List.length_append]; omega
  generalize str (Pack.num m.know.length ++ Mesg.numsI m.know) = KN at *
  generalize str (Mesg.numsI [m.site, m.seq]) = A1 at *
  generalize str (Mesg.numsI [m.op.kind, m.op.epoch]) = A2 at *
  have HG2 := Lib.hid (grew (grew_alloc w2 (.cells #[.int .i64 m.site, .int .i64 m.seq] 3)) (grew_drew _))
  have HGa := Lib.hid (grew (grew_alloc w2 (.cells #[.int .i64 m.site, .int .i64 m.seq] 3)) (grew (grew_alloc _ (.cells #[.int .i64 m.op.kind, .int .i64 m.op.epoch] 3)) (grew_drew _)))
  have HGb := Lib.hid (grew (grew_alloc w2 (.cells #[.int .i64 m.op.kind, .int .i64 m.op.epoch] 3)) (grew (grew_alloc _ (.cells #[.int .i64 m.site, .int .i64 m.seq] 3)) (grew_drew _)))
  have HS1 := Lib.hid ((two_nums w2 m.site m.seq w2.heap.size rfl).below (grew_drew _))
  have HS1a := Lib.hid (((two_nums w2 m.site m.seq w2.heap.size rfl).below (grew_alloc _ (.cells #[.int .i64 m.op.kind, .int .i64 m.op.epoch] 3))).below (grew_drew _))
  have HS2a := Lib.hid ((two_nums (w2.alloc (.cells #[.int .i64 m.site, .int .i64 m.seq] 3)) m.op.kind m.op.epoch (w2.heap.size + 1) (by simp)).below (grew_drew _))
  have HS1b := Lib.hid ((two_nums (w2.alloc (.cells #[.int .i64 m.op.kind, .int .i64 m.op.epoch] 3)) m.site m.seq (w2.heap.size + 1) (by simp)).below (grew_drew _))
  have HS2b := Lib.hid (((two_nums w2 m.op.kind m.op.epoch w2.heap.size rfl).below (grew_alloc _ (.cells #[.int .i64 m.site, .int .i64 m.seq] 3))).below (grew_drew _))
  have hz1 : ∀ W : World, (Op.stringOp .add A1 KN).run Try.prog W = .ok (.string (A1 ++ KN)) W := fun W => run_string_add_sum W A1 KN (by omega)
  have hz2 : ∀ W : World, (Op.stringOp .add (A1 ++ KN) A2).run Try.prog W = .ok (.string (A1 ++ KN ++ A2)) W := fun W => run_string_add_sum W (A1 ++ KN) A2 (by rw [ByteArray.size_append]; omega)
  go_wp2_with fail
  go_region_held3 (fun w' => w'.cell? ⟨w.heap.size, 0, none⟩ = some (.int .i64 m.site) ∧ w'.cell? ⟨w.heap.size, 1, none⟩ = some (.int .i64 m.seq) ∧ w'.cell? ⟨w.heap.size, 3, none⟩ = some (.int .i64 m.op.kind) ∧ w'.cell? ⟨w.heap.size, 4, none⟩ = some (.int .i64 m.op.epoch))
    (go_keep)
    (first
      | (go_at_call 28; (with_reducible refine (C1.out ((w2.alloc (.cells #[.int .i64 m.site, .int .i64 m.seq] 3)).drew) (.slice (some ⟨w2.heap.size, 0, none⟩) 2 2) HS1.out).mono ?_); rintro e w3 ⟨rfl, hb3⟩; have hg3 := grew HG2.out hb3; have HM3 := Lib.hid (HM2.out.keep (Keep.of_grew hg3 Non) (fun h => h)); have HB3 := Lib.hid (grew HB2.out hg3); clear hb3 hg3; obtain ⟨⟨e0, e1, e2⟩, e3, e4, e5, e6, e7, e8, e9⟩ := msg_cells HM3.out)
      | (go_at_call 28; (with_reducible refine (C1.out (((w2.alloc (.cells #[.int .i64 m.site, .int .i64 m.seq] 3)).alloc (.cells #[.int .i64 m.op.kind, .int .i64 m.op.epoch] 3)).drew) (.slice (some ⟨w2.heap.size, 0, none⟩) 2 2) HS1a.out).mono ?_); rintro e w3 ⟨rfl, hb3⟩; have hg3 := grew HGa.out hb3; have HM3 := Lib.hid (HM2.out.keep (Keep.of_grew hg3 Non) (fun h => h)); have HB3 := Lib.hid (grew HB2.out hg3); have HS2 := Lib.hid (HS2a.out.below hb3); clear hb3 hg3; obtain ⟨⟨e0, e1, e2⟩, e3, e4, e5, e6, e7, e8, e9⟩ := msg_cells HM3.out)
      | (go_at_call 28; (with_reducible refine (C1.out (((w2.alloc (.cells #[.int .i64 m.op.kind, .int .i64 m.op.epoch] 3)).alloc (.cells #[.int .i64 m.site, .int .i64 m.seq] 3)).drew) (.slice (some ⟨w2.heap.size + 1, 0, none⟩) 2 2) HS1b.out).mono ?_); rintro e w3 ⟨rfl, hb3⟩; have hg3 := grew HGb.out hb3; have HM3 := Lib.hid (HM2.out.keep (Keep.of_grew hg3 Non) (fun h => h)); have HB3 := Lib.hid (grew HB2.out hg3); have HS2 := Lib.hid (HS2b.out.below hb3); clear hb3 hg3; obtain ⟨⟨e0, e1, e2⟩, e3, e4, e5, e6, e7, e8, e9⟩ := msg_cells HM3.out)
      | (go_at_call 28; (with_reducible refine (C2.out (w3.alloc (.cells #[.int .i64 m.op.kind, .int .i64 m.op.epoch] 3)) (.slice (some ⟨w3.heap.size, 0, none⟩) 2 2) (two_nums w3 m.op.kind m.op.epoch w3.heap.size rfl)).mono ?_); rintro e w4 ⟨rfl, hb4⟩; have hg4 := grew (grew_alloc w3 (.cells #[.int .i64 m.op.kind, .int .i64 m.op.epoch] 3)) hb4; have HM4 := Lib.hid (HM3.out.keep (Keep.of_grew hg4 Non) (fun h => h)); have HB4 := Lib.hid (grew HB3.out hg4); clear hb4 hg4; obtain ⟨⟨g0, g1, g2⟩, g3, g4, g5, g6, g7, g8, g9⟩ := msg_cells HM4.out)
      | (go_at_call 28; (with_reducible refine (C2.out w3 _ HS2.out).mono ?_); rintro e w4 ⟨rfl, hb4⟩; have hg4 := hb4; have HM4 := Lib.hid (HM3.out.keep (Keep.of_grew hg4 Non) (fun h => h)); have HB4 := Lib.hid (grew HB3.out hg4); clear hb4 hg4; obtain ⟨⟨g0, g1, g2⟩, g3, g4, g5, g6, g7, g8, g9⟩ := msg_cells HM4.out))
  all_goals
    clear HS1 HS1a HS2a HS1b HS2b HG2 HGa HGb hz1 hz2 C1 C2 HM3 HB3 d0 d1 d2 d3 d4 d5 d6 d7 d8 d9 e0 e1 e2 e3 e4 e5 e6 e7 e8 e9
    go_wp2_with fail
    refine (ref04_nums _ [m.op.id.time, m.op.id.site] _ (two_nums _ _ _ _ (by first | rfl | simp)) (by simp) (fit2 hf5 hf6)).mono ?_
    rintro e w5 ⟨rfl, hb⟩
    have HM5 := Lib.hid (HM4.out.keep (Keep.of_grew (grew (grew_alloc _ _) hb) Non) (fun h => h))
    have HB5 := Lib.hid (grew HB4.out (grew (grew_alloc _ _) hb))
    clear hb HM4 HB4 g0 g1 g2 g3 g4 g5 g6 g7 g8 g9
    have sB0 : (str (Mesg.numsI [m.op.id.time, m.op.id.site])).size ≤ 10 := by have := numsI_len [m.op.id.time, m.op.id.site]; rw [str_size]; simp only [List.length_cons, List.length_nil] at this; omega
    generalize str (Mesg.numsI [m.op.id.time, m.op.id.site]) = B0 at *
    obtain ⟨⟨h0, h1, h2⟩, h3, h4, h5, h6, h7, h8, h9⟩ := msg_cells HM5.out
    go_wp2
    go_ret2
    exact ⟨by rw [HY.out]; rfl, HB5.out⟩

set_option maxRecDepth 100000 in
set_option maxHeartbeats 4000000 in
theorem ref04_Encode_more (m : Mesg.Msg) (v : Value) (w : World) (hv : SliceI w v m.know) (hmay : Mesg.may m = true) (hk : m.op.kind ≠ 1) (hk6 : m.op.kind ≠ 6) :
    Calls Try.prog 12 #[msgV m v] w fun e w' => e = .returned (.tuple #[.string (str (Mesg.bytes m)), .int .i64 0]) ∧ Below w.heap.size w w' := by
  obtain ⟨hn1, hn16, hfk, hf1, hf2⟩ := Mesg.may_head hmay
  obtain ⟨hk1, hk8, hf4, ⟨hf5, hf6⟩, ⟨hf7, hf8⟩, hf9⟩ := Mesg.may_op hmay
  have hf3 : Mesg.Fit m.op.kind := ⟨by omega, by omega⟩
  have HV := Lib.hid hv
  clear hv
  have HCK := Lib.hid (fun W h => ref04_Check m v W h (by omega))
  have HN : Hid (checkN m = 0) := Lib.hid (by unfold checkN; rw [hmay]; rfl)
  have HL := Lib.hid (list_fit m.know (by omega) hfk)
  have hd1 : (m.op.kind == 1) = false := by rw [beq_eq_false_iff_ne]; omega
  have hd6 : (m.op.kind == 6) = false := by rw [beq_eq_false_iff_ne]; omega
  have hd6' : (m.op.kind != 6) = true := by simp; omega
  have hk0 := hk
  have hk0' := hk6
  have HY : Hid (str (Mesg.bytes m) = (((str (Mesg.numsI [m.site, m.seq])) ++ str (Pack.num m.know.length ++ Mesg.numsI m.know)) ++ str (Mesg.numsI [m.op.kind, m.op.epoch])) ++ str (Mesg.numsI [m.op.ref.time, m.op.ref.site])) := Lib.hid (by simp only [str_append]; congr 1; simp [Mesg.bytes, hk0, hk0', List.append_assoc])
  have C1 := Lib.hid (fun W u h => ref04_nums u [m.site, m.seq] W h (by simp) (fit2 hf1 hf2))
  have C2 := Lib.hid (fun W u h => ref04_nums u [m.op.kind, m.op.epoch] W h (by simp) (fit2 hf3 hf4))
  clear hmay hfk hk hk6 hk0 hk0'
  unfold msgV at HCK ⊢
  go_enter Try.func12, Try.ntmps12
  go_wp2_with fail
  refine (HCK.out _ (HV.out.below (grew_alloc _ _))).mono ?_
  rintro e w1 ⟨rfl, hb1⟩
  rw [HN.out]
  have HM := Lib.hid ((Holds.new w (msgL m v) 28).keep (Keep.of_grew hb1 Non) (fun h => h))
  have HV1 := Lib.hid ((HV.out.below (grew_alloc _ _)).below hb1)
  have HB1 : Hid (Below w.heap.size w w1) := Lib.hid (grew (grew_alloc _ _) hb1)
  clear hb1
  obtain ⟨⟨d0, d1, d2⟩, d3, d4, d5, d6, d7, d8, d9⟩ := msg_cells HM.out
  go_wp2_with fail
  refine (ref01_List v m.know w1 HV1.out (by unfold maxLen; omega)).mono ?_
  rintro e w2 ⟨rfl, hb2⟩
  rw [HL.out]
  unfold textV
  have HM2 := Lib.hid (HM.out.keep (Keep.of_grew hb2 Non) (fun h => h))
  have HB2 := Lib.hid (grew HB1.out hb2)
  clear hb2 d0 d1 d2 d3 d4 d5 d6 d7 d8 d9
  obtain ⟨⟨d0, d1, d2⟩, d3, d4, d5, d6, d7, d8, d9⟩ := msg_cells HM2.out
  have sA1 : (str (Mesg.numsI [m.site, m.seq])).size ≤ 10 := by have := numsI_len [m.site, m.seq]; rw [str_size]; simp only [List.length_cons, List.length_nil] at this; omega
  have sA2 : (str (Mesg.numsI [m.op.kind, m.op.epoch])).size ≤ 10 := by have := numsI_len [m.op.kind, m.op.epoch]; rw [str_size]; simp only [List.length_cons, List.length_nil] at this; omega
  have sKN : (str (Pack.num m.know.length ++ Mesg.numsI m.know)).size ≤ 100 := by have := numsI_len m.know; have := (Pack.num_len_le m.know.length).2; rw [str_size, List.length_append]; omega
  generalize str (Pack.num m.know.length ++ Mesg.numsI m.know) = KN at *
  generalize str (Mesg.numsI [m.site, m.seq]) = A1 at *
  generalize str (Mesg.numsI [m.op.kind, m.op.epoch]) = A2 at *
  have HG2 := Lib.hid (grew (grew_alloc w2 (.cells #[.int .i64 m.site, .int .i64 m.seq] 3)) (grew_drew _))
  have HGa := Lib.hid (grew (grew_alloc w2 (.cells #[.int .i64 m.site, .int .i64 m.seq] 3)) (grew (grew_alloc _ (.cells #[.int .i64 m.op.kind, .int .i64 m.op.epoch] 3)) (grew_drew _)))
  have HGb := Lib.hid (grew (grew_alloc w2 (.cells #[.int .i64 m.op.kind, .int .i64 m.op.epoch] 3)) (grew (grew_alloc _ (.cells #[.int .i64 m.site, .int .i64 m.seq] 3)) (grew_drew _)))
  have HS1 := Lib.hid ((two_nums w2 m.site m.seq w2.heap.size rfl).below (grew_drew _))
  have HS1a := Lib.hid (((two_nums w2 m.site m.seq w2.heap.size rfl).below (grew_alloc _ (.cells #[.int .i64 m.op.kind, .int .i64 m.op.epoch] 3))).below (grew_drew _))
  have HS2a := Lib.hid ((two_nums (w2.alloc (.cells #[.int .i64 m.site, .int .i64 m.seq] 3)) m.op.kind m.op.epoch (w2.heap.size + 1) (by simp)).below (grew_drew _))
  have HS1b := Lib.hid ((two_nums (w2.alloc (.cells #[.int .i64 m.op.kind, .int .i64 m.op.epoch] 3)) m.site m.seq (w2.heap.size + 1) (by simp)).below (grew_drew _))
  have HS2b := Lib.hid (((two_nums w2 m.op.kind m.op.epoch w2.heap.size rfl).below (grew_alloc _ (.cells #[.int .i64 m.site, .int .i64 m.seq] 3))).below (grew_drew _))
  have hz1 : ∀ W : World, (Op.stringOp .add A1 KN).run Try.prog W = .ok (.string (A1 ++ KN)) W := fun W => run_string_add_sum W A1 KN (by omega)
  have hz2 : ∀ W : World, (Op.stringOp .add (A1 ++ KN) A2).run Try.prog W = .ok (.string (A1 ++ KN ++ A2)) W := fun W => run_string_add_sum W (A1 ++ KN) A2 (by rw [ByteArray.size_append]; omega)
  go_wp2_with fail
  go_region_held3 (fun w' => w'.cell? ⟨w.heap.size, 0, none⟩ = some (.int .i64 m.site) ∧ w'.cell? ⟨w.heap.size, 1, none⟩ = some (.int .i64 m.seq) ∧ w'.cell? ⟨w.heap.size, 3, none⟩ = some (.int .i64 m.op.kind) ∧ w'.cell? ⟨w.heap.size, 4, none⟩ = some (.int .i64 m.op.epoch))
    (go_keep)
    (first
      | (go_at_call 28; (with_reducible refine (C1.out ((w2.alloc (.cells #[.int .i64 m.site, .int .i64 m.seq] 3)).drew) (.slice (some ⟨w2.heap.size, 0, none⟩) 2 2) HS1.out).mono ?_); rintro e w3 ⟨rfl, hb3⟩; have hg3 := grew HG2.out hb3; have HM3 := Lib.hid (HM2.out.keep (Keep.of_grew hg3 Non) (fun h => h)); have HB3 := Lib.hid (grew HB2.out hg3); clear hb3 hg3; obtain ⟨⟨e0, e1, e2⟩, e3, e4, e5, e6, e7, e8, e9⟩ := msg_cells HM3.out)
      | (go_at_call 28; (with_reducible refine (C1.out (((w2.alloc (.cells #[.int .i64 m.site, .int .i64 m.seq] 3)).alloc (.cells #[.int .i64 m.op.kind, .int .i64 m.op.epoch] 3)).drew) (.slice (some ⟨w2.heap.size, 0, none⟩) 2 2) HS1a.out).mono ?_); rintro e w3 ⟨rfl, hb3⟩; have hg3 := grew HGa.out hb3; have HM3 := Lib.hid (HM2.out.keep (Keep.of_grew hg3 Non) (fun h => h)); have HB3 := Lib.hid (grew HB2.out hg3); have HS2 := Lib.hid (HS2a.out.below hb3); clear hb3 hg3; obtain ⟨⟨e0, e1, e2⟩, e3, e4, e5, e6, e7, e8, e9⟩ := msg_cells HM3.out)
      | (go_at_call 28; (with_reducible refine (C1.out (((w2.alloc (.cells #[.int .i64 m.op.kind, .int .i64 m.op.epoch] 3)).alloc (.cells #[.int .i64 m.site, .int .i64 m.seq] 3)).drew) (.slice (some ⟨w2.heap.size + 1, 0, none⟩) 2 2) HS1b.out).mono ?_); rintro e w3 ⟨rfl, hb3⟩; have hg3 := grew HGb.out hb3; have HM3 := Lib.hid (HM2.out.keep (Keep.of_grew hg3 Non) (fun h => h)); have HB3 := Lib.hid (grew HB2.out hg3); have HS2 := Lib.hid (HS2b.out.below hb3); clear hb3 hg3; obtain ⟨⟨e0, e1, e2⟩, e3, e4, e5, e6, e7, e8, e9⟩ := msg_cells HM3.out)
      | (go_at_call 28; (with_reducible refine (C2.out (w3.alloc (.cells #[.int .i64 m.op.kind, .int .i64 m.op.epoch] 3)) (.slice (some ⟨w3.heap.size, 0, none⟩) 2 2) (two_nums w3 m.op.kind m.op.epoch w3.heap.size rfl)).mono ?_); rintro e w4 ⟨rfl, hb4⟩; have hg4 := grew (grew_alloc w3 (.cells #[.int .i64 m.op.kind, .int .i64 m.op.epoch] 3)) hb4; have HM4 := Lib.hid (HM3.out.keep (Keep.of_grew hg4 Non) (fun h => h)); have HB4 := Lib.hid (grew HB3.out hg4); clear hb4 hg4; obtain ⟨⟨g0, g1, g2⟩, g3, g4, g5, g6, g7, g8, g9⟩ := msg_cells HM4.out)
      | (go_at_call 28; (with_reducible refine (C2.out w3 _ HS2.out).mono ?_); rintro e w4 ⟨rfl, hb4⟩; have hg4 := hb4; have HM4 := Lib.hid (HM3.out.keep (Keep.of_grew hg4 Non) (fun h => h)); have HB4 := Lib.hid (grew HB3.out hg4); clear hb4 hg4; obtain ⟨⟨g0, g1, g2⟩, g3, g4, g5, g6, g7, g8, g9⟩ := msg_cells HM4.out))
  all_goals
    clear HS1 HS1a HS2a HS1b HS2b HG2 HGa HGb hz1 hz2 C1 C2 HM3 HB3 d0 d1 d2 d3 d4 d5 d6 d7 d8 d9 e0 e1 e2 e3 e4 e5 e6 e7 e8 e9
    go_wp2_with fail
    refine (ref04_nums _ [m.op.ref.time, m.op.ref.site] _ (two_nums _ _ _ _ (by first | rfl | simp)) (by simp) (fit2 hf7 hf8)).mono ?_
    rintro e w5 ⟨rfl, hb⟩
    have HM5 := Lib.hid (HM4.out.keep (Keep.of_grew (grew (grew_alloc _ _) hb) Non) (fun h => h))
    have HB5 := Lib.hid (grew HB4.out (grew (grew_alloc _ _) hb))
    clear hb HM4 HB4 g0 g1 g2 g3 g4 g5 g6 g7 g8 g9
    have sB0 : (str (Mesg.numsI [m.op.ref.time, m.op.ref.site])).size ≤ 10 := by have := numsI_len [m.op.ref.time, m.op.ref.site]; rw [str_size]; simp only [List.length_cons, List.length_nil] at this; omega
    generalize str (Mesg.numsI [m.op.ref.time, m.op.ref.site]) = B0 at *
    obtain ⟨⟨h0, h1, h2⟩, h3, h4, h5, h6, h7, h8, h9⟩ := msg_cells HM5.out
    go_wp2
    go_ret2
    exact ⟨by rw [HY.out]; rfl, HB5.out⟩

theorem ref04_Encode_yes (m : Mesg.Msg) (v : Value) (w : World) (hv : SliceI w v m.know) (hmay : Mesg.may m = true) :
    Calls Try.prog 12 #[msgV m v] w fun e w' => e = .returned (.tuple #[.string (str (Mesg.bytes m)), .int .i64 0]) ∧ Below w.heap.size w w' := by
  by_cases h1 : m.op.kind = 1
  · exact ref04_Encode_one m v w hv hmay h1
  · by_cases h6 : m.op.kind = 6
    · exact ref04_Encode_six m v w hv hmay h6
    · exact ref04_Encode_more m v w hv hmay h1 h6
end Go.Proofs.Ytohlnhnelkoakaa
