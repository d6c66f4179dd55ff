/- What mesg.numbers and mesg.Encode come to. -/
import Derived.Test.YtohlnhnelkoakaaMesgCheck3
import Derived.Test.YtohlnhnelkoakaaMesgMath2
import Derived.Test.YtohlnhnelkoakaaBuilder
import Derived.Test.YtohlnhnelkoakaaPackList
namespace Go.Proofs.Ytohlnhnelkoakaa
open Go.RowKit
set_option linter.unusedVariables false

theorem numsI_take (zs : List Int) (k : Nat) (h : k < zs.length) : Mesg.numsI (zs.take (k + 1)) = Mesg.numsI (zs.take k) ++ Pack.num zs[k].toNat := by
  rw [List.take_succ_eq_append_getElem h, Mesg.numsI_append]
  congr 1
  simp [Mesg.numsI, Pack.nums]
theorem numsI_len (zs : List Int) : (Mesg.numsI zs).length ≤ 5 * zs.length := by
  have := nums_len (zs.map Int.toNat)
  rw [List.length_map] at this
  exact this

set_option maxHeartbeats 1000000 in
theorem mesg_numbers (v : Value) (zs : List Int) (w : World) (hv : SliceI w v zs) (hm : zs.length ≤ 1000) (hf : ∀ z ∈ zs, Mesg.Fit z) :
    Calls Try.prog 22 #[v] w fun e w' => e = .returned (.string (str (Mesg.numsI zs))) ∧ Below w.heap.size w w' := by
  obtain ⟨a, cap, rfl, hcap, hrow⟩ := hv
  have HROW := Lib.hid hrow
  have HF := Lib.hid hf
  clear hrow hf
  go_enter Try.func22, Try.ntmps22
  go_wp2
  go_loopw [10] (fun i wr => ∃ k : Nat, k ≤ zs.length ∧ i = .int .i64 k ∧ Bld wr w.heap.size w.heap.size (Mesg.numsI (zs.take k)) ∧ Below w.heap.size w wr) (fun i _ => zs.length - (intOf i).toNat)
  case atStart => exact ⟨0, by omega, rfl, Bld.new w, grew_alloc _ _⟩
  case round =>
    obtain ⟨k, hk, rfl, hbld, hbel⟩ := hrel
    have HBD := Lib.hid hbld
    have HB := Lib.hid hbel
    clear hbld hbel
    by_cases hlt : k < zs.length
    · have hdk : decide ((k : Int) < (zs.length : Int)) = true := by simp; omega
      have hdn : decide (k < zs.length) = true := by simpa using hlt
      have hik : (k : Int) < (zs.length : Int) := by omega
      rcases HROW.out with h | ⟨blk, off, rfl, hblk, hcells⟩
      · rw [h] at hlt; simp at hlt
      · have hcell : wr.cell? ⟨blk, off + k, none⟩ = some (.int .i64 zs[k]) := by
          rw [HB.out.cell (p := ⟨blk, off + k, none⟩) hblk]; exact hcells k hlt
        clear hcells
        obtain ⟨f0, f1⟩ := HF.out _ (List.getElem_mem hlt)
        have HS := Lib.hid (numsI_take zs k hlt)
        have hl := numsI_len (zs.take k)
        rw [List.length_take] at hl
        have hnl := (Pack.num_len_le zs[k].toNat).2
        obtain ⟨n, hn⟩ : ∃ n : Nat, zs[k] = (n : Int) := ⟨zs[k].toNat, by omega⟩
        rw [hn] at hcell f0 f1 HS hnl
        simp only [Int.toNat_natCast] at HS hnl
        clear hn
        go_wp2_with fail
        refine (pack_Num_yes n _ (by omega)).mono ?_
        rintro e w1 ⟨rfl, hb1⟩
        have HBD1 := Lib.hid (HBD.out.below hb1)
        have HB1 := Lib.hid (grew HB.out hb1)
        clear hb1
        go_wp2_with fail
        refine (bld_WriteString w.heap.size w.heap.size _ (str (Pack.num n)) w1 HBD1.out (by rw [str_size]; omega) HB1.out.size).mono ?_
        rintro e w2 ⟨rfl, hbld2, hb2⟩
        rw [str_data] at hbld2
        have HBD2 := Lib.hid hbld2
        have HB2 := Lib.hid (HB1.out.trans hb2)
        clear hbld2 hb2
        go_wp2
        go_roundw
        case rel => exact ⟨k + 1, by omega, by go_num, by rw [HS.out]; exact HBD2.out, HB2.out⟩
        case measure => simp [intOf]; omega
    · have hdn : decide (k < zs.length) = false := by simpa using hlt
      have e1 : zs.take k = zs := List.take_of_length_le (by omega)
      rw [e1] at HBD
      clear e1
      go_wp2_with fail
      refine (bld_String w.heap.size w.heap.size _ wr HBD.out HB.out.size).mono ?_
      rintro e w1 ⟨rfl, hb1⟩
      go_wp2
      go_ret
      exact ⟨rfl, HB.out.trans hb1⟩

theorem two_nums (w : World) (x y : Int) (g : Nat) (hg : g = w.heap.size) : SliceI (w.alloc (.cells #[.int .i64 x, .int .i64 y] 3)) (.slice (some ⟨g, 0, none⟩) 2 2) [x, y] :=
  ⟨_, 2, rfl, by simp, .inr ⟨g, 0, rfl, by simp [hg], fun i hi => by
    subst hg
    rw [cell_of_row _ _ _ _ _ _ (heap_alloc_new _ _)]
    have hi2 : i < 2 := by simpa using hi
    rcases (by omega : i = 0 ∨ i = 1) with rfl | rfl <;> rfl⟩⟩
theorem one_num (w : World) (x : Int) (g : Nat) (hg : g = w.heap.size) : SliceI (w.alloc (.cells #[.int .i64 x] 3)) (.slice (some ⟨g, 0, none⟩) 1 1) [x] :=
  ⟨_, 1, rfl, by simp, .inr ⟨g, 0, rfl, by simp [hg], fun i hi => by
    subst hg
    rw [cell_of_row _ _ _ _ _ _ (heap_alloc_new _ _)]
    have hi2 : i < 1 := by simpa using hi
    rcases (by omega : i = 0) with rfl
    rfl⟩⟩

theorem fit2 {x y : Int} (hx : Mesg.Fit x) (hy : Mesg.Fit y) : ∀ z ∈ [x, y], Mesg.Fit z := by
  intro z hz
  simp at hz
  rcases hz with rfl | rfl
  · exact hx
  · exact hy

theorem list_fit (zs : List Int) (h : zs.length ≤ 1000) (hf : ∀ z ∈ zs, Mesg.Fit z) : listR zs = (Pack.num zs.length ++ Mesg.numsI zs, 0) := by
  unfold listR
  have hf' : ∀ z ∈ zs, Fits z := fun z hz => ⟨(hf z hz).1, (hf z hz).2⟩
  rw [if_neg (by omega), if_pos hf']
  rfl

/-- Where Encode stands: the message's box, the builder, what is written. -/
structure Enc (w : World) (m : Mesg.Msg) (v : Value) (wr : World) (b : Nat) (l : List UInt8) : Prop where
  box : Holds wr w.heap.size (msgL m v) 28
  bld : Bld wr (w.heap.size + 1) b l
  below : Below w.heap.size w wr
  far : w.heap.size < b

theorem Enc.grew {w : World} {m : Mesg.Msg} {v : Value} {wr w1 : World} {b : Nat} {l : List UInt8} (h : Enc w m v wr b l) (hb : Below wr.heap.size wr w1) : Enc w m v w1 b l :=
  ⟨h.box.keep (Keep.of_grew hb Non) (fun h => h), h.bld.below hb, Go.Proofs.Ytohlnhnelkoakaa.grew h.below hb, h.far⟩
theorem Enc.put {w : World} {m : Mesg.Msg} {v : Value} {wr w1 : World} {b : Nat} {l l' : List UInt8} (h : Enc w m v wr b l) (hl : Bld w1 (w.heap.size + 1) b l') (hb : Below (w.heap.size + 1) wr w1) : Enc w m v w1 b l' :=
  ⟨h.box.keep (Keep.of_below hb) (fun h => by omega), hl, h.below.trans (hb.mono (by omega)), h.far⟩
theorem Enc.room {w : World} {m : Mesg.Msg} {v : Value} {wr : World} {b : Nat} {l : List UInt8} (h : Enc w m v wr b l) : w.heap.size + 1 ≤ wr.heap.size := h.box.lt

/-- A text is put behind. -/
theorem enc_write {w : World} {m : Mesg.Msg} {v : Value} {wr : World} {b : Nat} {l : List UInt8} (h : Enc w m v wr b l) (x : List UInt8) (hl : l.length ≤ 100000) (hx : x.length ≤ 100000) :
    Calls Try.prog 21 #[.pointer (some ⟨b, 0, none⟩), .string (str x)] wr fun e w' => e = .returned (.tuple #[.int .i64 (str x).size, .nilIface]) ∧ Enc w m v w' b (l ++ x) := by
  refine (bld_WriteString (w.heap.size + 1) b l (str x) wr h.bld (by rw [str_size]; omega) h.room).mono ?_
  rintro e w1 ⟨h1, h2, h3⟩
  rw [str_data] at h2
  exact ⟨h1, h.put h2 h3⟩

set_option maxHeartbeats 400000 in
theorem mesg_Encode_no (m : Mesg.Msg) (v : Value) (w : World) (hv : SliceI w v m.know) (hm : m.know.length ≤ 1000000000) (hmay : Mesg.may m = false) :
    Calls Try.prog 11 #[msgV m v] w fun e w' => e = .returned (.tuple #[.string ⟨#[]⟩, .int .i64 1]) ∧ Below w.heap.size w w' := by
  have HV := Lib.hid hv
  clear hv
  have HCK := Lib.hid (fun W h => mesg_Check m v W h hm)
  have HN : Hid (checkN m = 1) := Lib.hid (by unfold checkN; rw [hmay]; rfl)
  clear hmay
  unfold msgV at HCK ⊢
  go_enter Try.func11, Try.ntmps11
  go_wp2_with fail
  refine (HCK.out _ (HV.out.below (grew_alloc _ _))).mono ?_
  rintro e w1 ⟨rfl, hb1⟩
  rw [HN.out]
  go_wp2
  go_ret2
  exact ⟨rfl, grew (grew_alloc _ _) hb1⟩
set_option maxRecDepth 100000 in
set_option maxHeartbeats 2000000 in
theorem mesg_Encode_yes (m : Mesg.Msg) (v : Value) (w : World) (hv : SliceI w v m.know) (hmay : Mesg.may m = true) :
    Calls Try.prog 11 #[msgV m v] w fun e w' => e = .returned (.tuple #[.string (str (Mesg.bytes m)), .int .i64 0]) ∧ Below w.heap.size w w' := by
  obtain ⟨hn1, hn16, hfk, hf1, hf2⟩ := Mesg.may_head hmay
  obtain ⟨hk1, hk8, hf4, ⟨hf5, hf6⟩, ⟨hf7, hf8⟩, hf9⟩ := Mesg.may_op hmay
  have hf3 : Mesg.Fit m.op.kind := ⟨by omega, by omega⟩
  have HV := Lib.hid hv
  clear hv
  have HCK := Lib.hid (fun W h => mesg_Check m v W h (by omega))
  have HN : Hid (checkN m = 0) := Lib.hid (by unfold checkN; rw [hmay]; rfl)
  have HL := Lib.hid (list_fit m.know (by omega) hfk)
  clear hmay hfk
  unfold msgV at HCK ⊢
  by_cases hk : m.op.kind = 1
  · have HI : Hid (decide (m.op.kind = 1 ∨ m.op.kind = 6) = true) := Lib.hid (by simp; omega)
    have HF : Hid (decide (m.op.kind ≠ 6) = true) := Lib.hid (by simp; omega)
    have HU : Hid (decide (m.op.kind = 1) = true) := Lib.hid (by simp; omega)
    have HY : Hid (Mesg.bytes m = ((((([] ++ Mesg.numsI [m.site, m.seq]) ++ (Pack.num m.know.length ++ Mesg.numsI m.know)) ++ Mesg.numsI [m.op.kind, m.op.epoch]) ++ Mesg.numsI [m.op.id.time, m.op.id.site]) ++ Mesg.numsI [m.op.ref.time, m.op.ref.site]) ++ Mesg.numsI [m.op.rune]) := Lib.hid (by simp [Mesg.bytes, hk, List.append_assoc])
    clear hk
    go_enter Try.func11, Try.ntmps11
    go_wp2_with fail
    refine (HCK.out _ (HV.out.below (grew_alloc _ _))).mono ?_
    rintro e w1 ⟨rfl, hb1⟩
    rw [HN.out]
    have HM := Lib.hid ((Holds.new w (msgL m v) 28).keep (Keep.of_grew hb1 Non) (fun h => h))
    have HV1 := Lib.hid ((HV.out.below (grew_alloc _ _)).below hb1)
    have HB1 : Hid (Below w.heap.size w w1) := Lib.hid (grew (grew_alloc _ _) hb1)
    clear hb1
    obtain ⟨⟨d0, d1, d2⟩, d3, d4, d5, d6, d7, d8, d9⟩ := msg_cells HM.out
    go_wp2_with fail
    refine (pack_List v m.know w1 HV1.out (by unfold maxLen; omega)).mono ?_
    rintro e w2 ⟨rfl, hb2⟩
    rw [HL.out]
    unfold textV
    have HM2 := Lib.hid (HM.out.keep (Keep.of_grew hb2 Non) (fun h => h))
    have HB2 := Lib.hid (grew HB1.out hb2)
    have hlt2 := HM2.out.lt
    have HE2 : Hid (Enc w m v (w2.alloc (.cells #[.pointer none, .slice none 0 0] 46)) w2.heap.size []) := Lib.hid ⟨HM2.out.keep (Keep.alloc Non _ _) (fun h => h), (Bld.new w2).drop hlt2, grew HB2.out (grew_alloc _ _), hlt2⟩
    clear hb2 d0 d1 d2 d3 d4 d5 d6 d7 d8 d9
    obtain ⟨⟨d0, d1, d2⟩, d3, d4, d5, d6, d7, d8, d9⟩ := msg_cells HM2.out
    generalize hKN : str (Pack.num m.know.length ++ Mesg.numsI m.know) = KN at *
    have HKN := Lib.hid hKN
    clear hKN
    go_wp2_with fail
    refine (mesg_numbers _ [m.site, m.seq] _ (two_nums _ _ _ _ (by first | rfl | simp)) (by simp) (fit2 hf1 hf2)).mono ?_
    rintro e w3 ⟨rfl, hb3⟩
    have HE3 := Lib.hid (HE2.out.grew (grew (grew_alloc _ _) hb3))
    clear hb3 d0 d1 d2 d3 d4 d5 d6 d7 d8 d9
    go_wp2_with fail
    refine (enc_write HE3.out (Mesg.numsI [m.site, m.seq]) (by simp) (by have := numsI_len [m.site, m.seq]; simp only [List.length_cons, List.length_nil] at this; omega)).mono ?_
    rintro e w4 ⟨rfl, he4⟩
    have HE4 := Lib.hid he4
    clear he4
    obtain ⟨⟨d0, d1, d2⟩, d3, d4, d5, d6, d7, d8, d9⟩ := msg_cells HE4.out.box
    clear d0 d1 d2 d3 d4 d5 d6 d7 d8 d9
    go_wp2_with fail
    rw [← HKN.out]
    refine (enc_write HE4.out (Pack.num m.know.length ++ Mesg.numsI m.know) (by have a1 := numsI_len [m.site, m.seq]; have a2 := numsI_len m.know; have a3 := (Pack.num_len_le m.know.length).2; have a4 := numsI_len [m.op.kind, m.op.epoch]; have a5 := numsI_len [m.op.id.time, m.op.id.site]; have a6 := numsI_len [m.op.ref.time, m.op.ref.site]; simp only [List.length_append, List.length_cons, List.length_nil] at a1 a4 a5 a6 ⊢; omega) (by rw [List.length_append]; have := numsI_len m.know; have := (Pack.num_len_le m.know.length).2; omega)).mono ?_
    rintro e w5 ⟨rfl, he5⟩
    have HE5 := Lib.hid he5
    clear he5
    obtain ⟨⟨d0, d1, d2⟩, d3, d4, d5, d6, d7, d8, d9⟩ := msg_cells HE5.out.box
    go_wp2_with fail
    refine (mesg_numbers _ [m.op.kind, m.op.epoch] _ (two_nums _ _ _ _ (by first | rfl | simp)) (by simp) (fit2 hf3 hf4)).mono ?_
    rintro e w6 ⟨rfl, hb6⟩
    have HE6 := Lib.hid (HE5.out.grew (grew (grew_alloc _ _) hb6))
    clear hb6 d0 d1 d2 d3 d4 d5 d6 d7 d8 d9
    go_wp2_with fail
    refine (enc_write HE6.out (Mesg.numsI [m.op.kind, m.op.epoch]) (by have a1 := numsI_len [m.site, m.seq]; have a2 := numsI_len m.know; have a3 := (Pack.num_len_le m.know.length).2; have a4 := numsI_len [m.op.kind, m.op.epoch]; have a5 := numsI_len [m.op.id.time, m.op.id.site]; have a6 := numsI_len [m.op.ref.time, m.op.ref.site]; simp only [List.length_append, List.length_cons, List.length_nil] at a1 a4 a5 a6 ⊢; omega) (by have := numsI_len [m.op.kind, m.op.epoch]; simp only [List.length_cons, List.length_nil] at this; omega)).mono ?_
    rintro e w7 ⟨rfl, he7⟩
    have HE7 := Lib.hid he7
    clear he7
    obtain ⟨⟨d0, d1, d2⟩, d3, d4, d5, d6, d7, d8, d9⟩ := msg_cells HE7.out.box
    go_wp2_with fail
    refine (mesg_hasId _ _).mono ?_
    rintro e wx ⟨rfl, rfl⟩
    rw [HI.out]
    go_wp2_with fail
    refine (mesg_numbers _ [m.op.id.time, m.op.id.site] _ (two_nums _ _ _ _ (by first | rfl | simp)) (by simp) (fit2 hf5 hf6)).mono ?_
    rintro e w8 ⟨rfl, hb8⟩
    have HE8 := Lib.hid (HE7.out.grew (grew (grew_alloc _ _) hb8))
    clear hb8 d0 d1 d2 d3 d4 d5 d6 d7 d8 d9
    go_wp2_with fail
    refine (enc_write HE8.out (Mesg.numsI [m.op.id.time, m.op.id.site]) (by have a1 := numsI_len [m.site, m.seq]; have a2 := numsI_len m.know; have a3 := (Pack.num_len_le m.know.length).2; have a4 := numsI_len [m.op.kind, m.op.epoch]; have a5 := numsI_len [m.op.id.time, m.op.id.site]; have a6 := numsI_len [m.op.ref.time, m.op.ref.site]; simp only [List.length_append, List.length_cons, List.length_nil] at a1 a4 a5 a6 ⊢; omega) (by have := numsI_len [m.op.id.time, m.op.id.site]; simp only [List.length_cons, List.length_nil] at this; omega)).mono ?_
    rintro e w9 ⟨rfl, he9⟩
    have HE9 := Lib.hid he9
    clear he9
    obtain ⟨⟨d0, d1, d2⟩, d3, d4, d5, d6, d7, d8, d9⟩ := msg_cells HE9.out.box
    go_wp2_with fail
    refine (mesg_hasRef _ _).mono ?_
    rintro e wx ⟨rfl, rfl⟩
    rw [HF.out]
    go_wp2_with fail
    refine (mesg_numbers _ [m.op.ref.time, m.op.ref.site] _ (two_nums _ _ _ _ (by first | rfl | simp)) (by simp) (fit2 hf7 hf8)).mono ?_
    rintro e w10 ⟨rfl, hb10⟩
    have HE10 := Lib.hid (HE9.out.grew (grew (grew_alloc _ _) hb10))
    clear hb10 d0 d1 d2 d3 d4 d5 d6 d7 d8 d9
    go_wp2_with fail
    refine (enc_write HE10.out (Mesg.numsI [m.op.ref.time, m.op.ref.site]) (by have a1 := numsI_len [m.site, m.seq]; have a2 := numsI_len m.know; have a3 := (Pack.num_len_le m.know.length).2; have a4 := numsI_len [m.op.kind, m.op.epoch]; have a5 := numsI_len [m.op.id.time, m.op.id.site]; have a6 := numsI_len [m.op.ref.time, m.op.ref.site]; simp only [List.length_append, List.length_cons, List.length_nil] at a1 a4 a5 a6 ⊢; omega) (by have := numsI_len [m.op.ref.time, m.op.ref.site]; simp only [List.length_cons, List.length_nil] at this; omega)).mono ?_
    rintro e w11 ⟨rfl, he11⟩
    have HE11 := Lib.hid he11
    clear he11
    obtain ⟨⟨d0, d1, d2⟩, d3, d4, d5, d6, d7, d8, d9⟩ := msg_cells HE11.out.box
    go_wp2_with fail
    refine (mesg_hasRune _ _).mono ?_
    rintro e wx ⟨rfl, rfl⟩
    rw [HU.out]
    go_wp2_with fail
    refine (mesg_numbers _ [m.op.rune] _ (one_num _ _ _ (by first | rfl | simp)) (by simp) (fun z hz => by rw [List.mem_singleton.1 hz]; exact hf9)).mono ?_
    rintro e w12 ⟨rfl, hb12⟩
    have HE12 := Lib.hid (HE11.out.grew (grew (grew_alloc _ _) hb12))
    clear hb12 d0 d1 d2 d3 d4 d5 d6 d7 d8 d9
    go_wp2_with fail
    refine (enc_write HE12.out (Mesg.numsI [m.op.rune]) (by have a1 := numsI_len [m.site, m.seq]; have a2 := numsI_len m.know; have a3 := (Pack.num_len_le m.know.length).2; have a4 := numsI_len [m.op.kind, m.op.epoch]; have a5 := numsI_len [m.op.id.time, m.op.id.site]; have a6 := numsI_len [m.op.ref.time, m.op.ref.site]; simp only [List.length_append, List.length_cons, List.length_nil] at a1 a4 a5 a6 ⊢; omega) (by have := numsI_len [m.op.rune]; simp only [List.length_cons, List.length_nil] at this; omega)).mono ?_
    rintro e w13 ⟨rfl, he13⟩
    have HE13 := Lib.hid he13
    clear he13
    obtain ⟨⟨d0, d1, d2⟩, d3, d4, d5, d6, d7, d8, d9⟩ := msg_cells HE13.out.box
    go_wp2_with fail
    refine (bld_String (w.heap.size + 1) _ _ _ HE13.out.bld HE13.out.room).mono ?_
    rintro e wz ⟨rfl, hbz⟩
    rw [← HY.out]
    go_wp2
    go_ret2
    exact ⟨rfl, HE13.out.below.trans (hbz.mono (by omega))⟩
  · by_cases hk6 : m.op.kind = 6
    · have HI : Hid (decide (m.op.kind = 1 ∨ m.op.kind = 6) = true) := Lib.hid (by simp; omega)
      have HF : Hid (decide (m.op.kind ≠ 6) = false) := Lib.hid (by simp; omega)
      have HU : Hid (decide (m.op.kind = 1) = false) := Lib.hid (by simp; omega)
      have HY : Hid (Mesg.bytes m = ((([] ++ Mesg.numsI [m.site, m.seq]) ++ (Pack.num m.know.length ++ Mesg.numsI m.know)) ++ Mesg.numsI [m.op.kind, m.op.epoch]) ++ Mesg.numsI [m.op.id.time, m.op.id.site]) := Lib.hid (by simp [Mesg.bytes, hk6, List.append_assoc])
      clear hk hk6
      go_enter Try.func11, Try.ntmps11
      go_wp2_with fail
      refine (HCK.out _ (HV.out.below (grew_alloc _ _))).mono ?_
      rintro e w1 ⟨rfl, hb1⟩
      rw [HN.out]
      have HM := Lib.hid ((Holds.new w (msgL m v) 28).keep (Keep.of_grew hb1 Non) (fun h => h))
      have HV1 := Lib.hid ((HV.out.below (grew_alloc _ _)).below hb1)
      have HB1 : Hid (Below w.heap.size w w1) := Lib.hid (grew (grew_alloc _ _) hb1)
      clear hb1
      obtain ⟨⟨d0, d1, d2⟩, d3, d4, d5, d6, d7, d8, d9⟩ := msg_cells HM.out
      go_wp2_with fail
      refine (pack_List v m.know w1 HV1.out (by unfold maxLen; omega)).mono ?_
      rintro e w2 ⟨rfl, hb2⟩
      rw [HL.out]
      unfold textV
      have HM2 := Lib.hid (HM.out.keep (Keep.of_grew hb2 Non) (fun h => h))
      have HB2 := Lib.hid (grew HB1.out hb2)
      have hlt2 := HM2.out.lt
      have HE2 : Hid (Enc w m v (w2.alloc (.cells #[.pointer none, .slice none 0 0] 46)) w2.heap.size []) := Lib.hid ⟨HM2.out.keep (Keep.alloc Non _ _) (fun h => h), (Bld.new w2).drop hlt2, grew HB2.out (grew_alloc _ _), hlt2⟩
      clear hb2 d0 d1 d2 d3 d4 d5 d6 d7 d8 d9
      obtain ⟨⟨d0, d1, d2⟩, d3, d4, d5, d6, d7, d8, d9⟩ := msg_cells HM2.out
      generalize hKN : str (Pack.num m.know.length ++ Mesg.numsI m.know) = KN at *
      have HKN := Lib.hid hKN
      clear hKN
      go_wp2_with fail
      refine (mesg_numbers _ [m.site, m.seq] _ (two_nums _ _ _ _ (by first | rfl | simp)) (by simp) (fit2 hf1 hf2)).mono ?_
      rintro e w3 ⟨rfl, hb3⟩
      have HE3 := Lib.hid (HE2.out.grew (grew (grew_alloc _ _) hb3))
      clear hb3 d0 d1 d2 d3 d4 d5 d6 d7 d8 d9
      go_wp2_with fail
      refine (enc_write HE3.out (Mesg.numsI [m.site, m.seq]) (by simp) (by have := numsI_len [m.site, m.seq]; simp only [List.length_cons, List.length_nil] at this; omega)).mono ?_
      rintro e w4 ⟨rfl, he4⟩
      have HE4 := Lib.hid he4
      clear he4
      obtain ⟨⟨d0, d1, d2⟩, d3, d4, d5, d6, d7, d8, d9⟩ := msg_cells HE4.out.box
      clear d0 d1 d2 d3 d4 d5 d6 d7 d8 d9
      go_wp2_with fail
      rw [← HKN.out]
      refine (enc_write HE4.out (Pack.num m.know.length ++ Mesg.numsI m.know) (by have a1 := numsI_len [m.site, m.seq]; have a2 := numsI_len m.know; have a3 := (Pack.num_len_le m.know.length).2; have a4 := numsI_len [m.op.kind, m.op.epoch]; have a5 := numsI_len [m.op.id.time, m.op.id.site]; have a6 := numsI_len [m.op.ref.time, m.op.ref.site]; simp only [List.length_append, List.length_cons, List.length_nil] at a1 a4 a5 a6 ⊢; omega) (by rw [List.length_append]; have := numsI_len m.know; have := (Pack.num_len_le m.know.length).2; omega)).mono ?_
      rintro e w5 ⟨rfl, he5⟩
      have HE5 := Lib.hid he5
      clear he5
      obtain ⟨⟨d0, d1, d2⟩, d3, d4, d5, d6, d7, d8, d9⟩ := msg_cells HE5.out.box
      go_wp2_with fail
      refine (mesg_numbers _ [m.op.kind, m.op.epoch] _ (two_nums _ _ _ _ (by first | rfl | simp)) (by simp) (fit2 hf3 hf4)).mono ?_
      rintro e w6 ⟨rfl, hb6⟩
      have HE6 := Lib.hid (HE5.out.grew (grew (grew_alloc _ _) hb6))
      clear hb6 d0 d1 d2 d3 d4 d5 d6 d7 d8 d9
      go_wp2_with fail
      refine (enc_write HE6.out (Mesg.numsI [m.op.kind, m.op.epoch]) (by have a1 := numsI_len [m.site, m.seq]; have a2 := numsI_len m.know; have a3 := (Pack.num_len_le m.know.length).2; have a4 := numsI_len [m.op.kind, m.op.epoch]; have a5 := numsI_len [m.op.id.time, m.op.id.site]; have a6 := numsI_len [m.op.ref.time, m.op.ref.site]; simp only [List.length_append, List.length_cons, List.length_nil] at a1 a4 a5 a6 ⊢; omega) (by have := numsI_len [m.op.kind, m.op.epoch]; simp only [List.length_cons, List.length_nil] at this; omega)).mono ?_
      rintro e w7 ⟨rfl, he7⟩
      have HE7 := Lib.hid he7
      clear he7
      obtain ⟨⟨d0, d1, d2⟩, d3, d4, d5, d6, d7, d8, d9⟩ := msg_cells HE7.out.box
      go_wp2_with fail
      refine (mesg_hasId _ _).mono ?_
      rintro e wx ⟨rfl, rfl⟩
      rw [HI.out]
      go_wp2_with fail
      refine (mesg_numbers _ [m.op.id.time, m.op.id.site] _ (two_nums _ _ _ _ (by first | rfl | simp)) (by simp) (fit2 hf5 hf6)).mono ?_
      rintro e w8 ⟨rfl, hb8⟩
      have HE8 := Lib.hid (HE7.out.grew (grew (grew_alloc _ _) hb8))
      clear hb8 d0 d1 d2 d3 d4 d5 d6 d7 d8 d9
      go_wp2_with fail
      refine (enc_write HE8.out (Mesg.numsI [m.op.id.time, m.op.id.site]) (by have a1 := numsI_len [m.site, m.seq]; have a2 := numsI_len m.know; have a3 := (Pack.num_len_le m.know.length).2; have a4 := numsI_len [m.op.kind, m.op.epoch]; have a5 := numsI_len [m.op.id.time, m.op.id.site]; have a6 := numsI_len [m.op.ref.time, m.op.ref.site]; simp only [List.length_append, List.length_cons, List.length_nil] at a1 a4 a5 a6 ⊢; omega) (by have := numsI_len [m.op.id.time, m.op.id.site]; simp only [List.length_cons, List.length_nil] at this; omega)).mono ?_
      rintro e w9 ⟨rfl, he9⟩
      have HE9 := Lib.hid he9
      clear he9
      obtain ⟨⟨d0, d1, d2⟩, d3, d4, d5, d6, d7, d8, d9⟩ := msg_cells HE9.out.box
      go_wp2_with fail
      refine (mesg_hasRef _ _).mono ?_
      rintro e wx ⟨rfl, rfl⟩
      rw [HF.out]
      go_wp2_with fail
      refine (mesg_hasRune _ _).mono ?_
      rintro e wx ⟨rfl, rfl⟩
      rw [HU.out]
      go_wp2_with fail
      refine (bld_String (w.heap.size + 1) _ _ _ HE9.out.bld HE9.out.room).mono ?_
      rintro e wz ⟨rfl, hbz⟩
      rw [← HY.out]
      go_wp2
      go_ret2
      exact ⟨rfl, HE9.out.below.trans (hbz.mono (by omega))⟩
    · have HI : Hid (decide (m.op.kind = 1 ∨ m.op.kind = 6) = false) := Lib.hid (by simp; omega)
      have HF : Hid (decide (m.op.kind ≠ 6) = true) := Lib.hid (by simp; omega)
      have HU : Hid (decide (m.op.kind = 1) = false) := Lib.hid (by simp; omega)
      have HY : Hid (Mesg.bytes m = ((([] ++ Mesg.numsI [m.site, m.seq]) ++ (Pack.num m.know.length ++ Mesg.numsI m.know)) ++ Mesg.numsI [m.op.kind, m.op.epoch]) ++ Mesg.numsI [m.op.ref.time, m.op.ref.site]) := Lib.hid (by simp [Mesg.bytes, hk, hk6, List.append_assoc])
      clear hk hk6
      go_enter Try.func11, Try.ntmps11
      go_wp2_with fail
      refine (HCK.out _ (HV.out.below (grew_alloc _ _))).mono ?_
      rintro e w1 ⟨rfl, hb1⟩
      rw [HN.out]
      have HM := Lib.hid ((Holds.new w (msgL m v) 28).keep (Keep.of_grew hb1 Non) (fun h => h))
      have HV1 := Lib.hid ((HV.out.below (grew_alloc _ _)).below hb1)
      have HB1 : Hid (Below w.heap.size w w1) := Lib.hid (grew (grew_alloc _ _) hb1)
      clear hb1
      obtain ⟨⟨d0, d1, d2⟩, d3, d4, d5, d6, d7, d8, d9⟩ := msg_cells HM.out
      go_wp2_with fail
      refine (pack_List v m.know w1 HV1.out (by unfold maxLen; omega)).mono ?_
      rintro e w2 ⟨rfl, hb2⟩
      rw [HL.out]
      unfold textV
      have HM2 := Lib.hid (HM.out.keep (Keep.of_grew hb2 Non) (fun h => h))
      have HB2 := Lib.hid (grew HB1.out hb2)
      have hlt2 := HM2.out.lt
      have HE2 : Hid (Enc w m v (w2.alloc (.cells #[.pointer none, .slice none 0 0] 46)) w2.heap.size []) := Lib.hid ⟨HM2.out.keep (Keep.alloc Non _ _) (fun h => h), (Bld.new w2).drop hlt2, grew HB2.out (grew_alloc _ _), hlt2⟩
      clear hb2 d0 d1 d2 d3 d4 d5 d6 d7 d8 d9
      obtain ⟨⟨d0, d1, d2⟩, d3, d4, d5, d6, d7, d8, d9⟩ := msg_cells HM2.out
      generalize hKN : str (Pack.num m.know.length ++ Mesg.numsI m.know) = KN at *
      have HKN := Lib.hid hKN
      clear hKN
      go_wp2_with fail
      refine (mesg_numbers _ [m.site, m.seq] _ (two_nums _ _ _ _ (by first | rfl | simp)) (by simp) (fit2 hf1 hf2)).mono ?_
      rintro e w3 ⟨rfl, hb3⟩
      have HE3 := Lib.hid (HE2.out.grew (grew (grew_alloc _ _) hb3))
      clear hb3 d0 d1 d2 d3 d4 d5 d6 d7 d8 d9
      go_wp2_with fail
      refine (enc_write HE3.out (Mesg.numsI [m.site, m.seq]) (by simp) (by have := numsI_len [m.site, m.seq]; simp only [List.length_cons, List.length_nil] at this; omega)).mono ?_
      rintro e w4 ⟨rfl, he4⟩
      have HE4 := Lib.hid he4
      clear he4
      obtain ⟨⟨d0, d1, d2⟩, d3, d4, d5, d6, d7, d8, d9⟩ := msg_cells HE4.out.box
      clear d0 d1 d2 d3 d4 d5 d6 d7 d8 d9
      go_wp2_with fail
      rw [← HKN.out]
      refine (enc_write HE4.out (Pack.num m.know.length ++ Mesg.numsI m.know) (by have a1 := numsI_len [m.site, m.seq]; have a2 := numsI_len m.know; have a3 := (Pack.num_len_le m.know.length).2; have a4 := numsI_len [m.op.kind, m.op.epoch]; have a5 := numsI_len [m.op.id.time, m.op.id.site]; have a6 := numsI_len [m.op.ref.time, m.op.ref.site]; simp only [List.length_append, List.length_cons, List.length_nil] at a1 a4 a5 a6 ⊢; omega) (by rw [List.length_append]; have := numsI_len m.know; have := (Pack.num_len_le m.know.length).2; omega)).mono ?_
      rintro e w5 ⟨rfl, he5⟩
      have HE5 := Lib.hid he5
      clear he5
      obtain ⟨⟨d0, d1, d2⟩, d3, d4, d5, d6, d7, d8, d9⟩ := msg_cells HE5.out.box
      go_wp2_with fail
      refine (mesg_numbers _ [m.op.kind, m.op.epoch] _ (two_nums _ _ _ _ (by first | rfl | simp)) (by simp) (fit2 hf3 hf4)).mono ?_
      rintro e w6 ⟨rfl, hb6⟩
      have HE6 := Lib.hid (HE5.out.grew (grew (grew_alloc _ _) hb6))
      clear hb6 d0 d1 d2 d3 d4 d5 d6 d7 d8 d9
      go_wp2_with fail
      refine (enc_write HE6.out (Mesg.numsI [m.op.kind, m.op.epoch]) (by have a1 := numsI_len [m.site, m.seq]; have a2 := numsI_len m.know; have a3 := (Pack.num_len_le m.know.length).2; have a4 := numsI_len [m.op.kind, m.op.epoch]; have a5 := numsI_len [m.op.id.time, m.op.id.site]; have a6 := numsI_len [m.op.ref.time, m.op.ref.site]; simp only [List.length_append, List.length_cons, List.length_nil] at a1 a4 a5 a6 ⊢; omega) (by have := numsI_len [m.op.kind, m.op.epoch]; simp only [List.length_cons, List.length_nil] at this; omega)).mono ?_
      rintro e w7 ⟨rfl, he7⟩
      have HE7 := Lib.hid he7
      clear he7
      obtain ⟨⟨d0, d1, d2⟩, d3, d4, d5, d6, d7, d8, d9⟩ := msg_cells HE7.out.box
      go_wp2_with fail
      refine (mesg_hasId _ _).mono ?_
      rintro e wx ⟨rfl, rfl⟩
      rw [HI.out]
      go_wp2_with fail
      refine (mesg_hasRef _ _).mono ?_
      rintro e wx ⟨rfl, rfl⟩
      rw [HF.out]
      go_wp2_with fail
      refine (mesg_numbers _ [m.op.ref.time, m.op.ref.site] _ (two_nums _ _ _ _ (by first | rfl | simp)) (by simp) (fit2 hf7 hf8)).mono ?_
      rintro e w8 ⟨rfl, hb8⟩
      have HE8 := Lib.hid (HE7.out.grew (grew (grew_alloc _ _) hb8))
      clear hb8 d0 d1 d2 d3 d4 d5 d6 d7 d8 d9
      go_wp2_with fail
      refine (enc_write HE8.out (Mesg.numsI [m.op.ref.time, m.op.ref.site]) (by have a1 := numsI_len [m.site, m.seq]; have a2 := numsI_len m.know; have a3 := (Pack.num_len_le m.know.length).2; have a4 := numsI_len [m.op.kind, m.op.epoch]; have a5 := numsI_len [m.op.id.time, m.op.id.site]; have a6 := numsI_len [m.op.ref.time, m.op.ref.site]; simp only [List.length_append, List.length_cons, List.length_nil] at a1 a4 a5 a6 ⊢; omega) (by have := numsI_len [m.op.ref.time, m.op.ref.site]; simp only [List.length_cons, List.length_nil] at this; omega)).mono ?_
      rintro e w9 ⟨rfl, he9⟩
      have HE9 := Lib.hid he9
      clear he9
      obtain ⟨⟨d0, d1, d2⟩, d3, d4, d5, d6, d7, d8, d9⟩ := msg_cells HE9.out.box
      go_wp2_with fail
      refine (mesg_hasRune _ _).mono ?_
      rintro e wx ⟨rfl, rfl⟩
      rw [HU.out]
      go_wp2_with fail
      refine (bld_String (w.heap.size + 1) _ _ _ HE9.out.bld HE9.out.room).mono ?_
      rintro e wz ⟨rfl, hbz⟩
      rw [← HY.out]
      go_wp2
      go_ret2
      exact ⟨rfl, HE9.out.below.trans (hbz.mono (by omega))⟩
end Go.Proofs.Ytohlnhnelkoakaa
