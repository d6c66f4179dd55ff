/- What Get of the reference's store comes to. -/
import Derived.Test.YtkpiiagogdhalaaRsRef
namespace Go.Proofs.Ytkpiiagogdhalaa
open Go.RowKit Go.Maps
set_option linter.unusedVariables false

theorem find_first {xs : List (Mesg.Msg × Value)} {K : Int × Int} {k : Nat} (hk : k < xs.length) (hno : ∀ j (hj : j < xs.length), j < k → Resend.key xs[j].1 ≠ K) (he : Resend.key xs[k].1 = K) : Resend.find (xs.map Prod.fst) K = some xs[k].1 := by
  unfold Resend.find
  rw [List.find?_eq_some_iff_getElem]
  refine ⟨by simpa using he, k, by simpa using hk, by simp, fun j hj => ?_⟩
  have := hno j (by omega) hj
  simpa using this
theorem find_no {xs : List (Mesg.Msg × Value)} {K : Int × Int} (hno : ∀ j (hj : j < xs.length), Resend.key xs[j].1 ≠ K) : Resend.find (xs.map Prod.fst) K = none := by
  unfold Resend.find
  rw [List.find?_eq_none]
  intro m hm
  obtain ⟨q, hq, rfl⟩ := List.mem_map.1 hm
  obtain ⟨i, hi, rfl⟩ := List.mem_iff_getElem.1 hq
  simpa using hno i hi

set_option maxRecDepth 100000 in
set_option maxHeartbeats 4000000 in
theorem ref08_Get {w : World} {F : Nat → Prop} {p : Nat} {s : Resend.St} (h0 : IsRStore w F p s) (a b : Int) :
    Calls Try.prog 37 #[.pointer (some ⟨p, 0, none⟩), .agg #[.int .i64 a, .int .i64 b]] w fun e w' => ∃ r, e = .returned r ∧ OutM w w' r (Resend.get s (a, b)) ∧ Below w.heap.size w w' := by
  obtain ⟨V, xs, h⟩ := h0
  have HW := Lib.hid h
  have hfl : xs.length ≤ 100000 := by
    have h1 := h.ok.full
    have h2 := h.ok.room
    rw [← h.is] at h1
    simp at h1
    omega
  obtain ⟨va, vc, rfl⟩ := h.own.form
  obtain ⟨HK0, HZ0, HB0, hz2⟩ := two_blocks w [.int .i64 a, .int .i64 b] (msgL Mesg.none (.slice none 0 0)) 64 40
  have HK := Lib.hid HK0
  have HZ := Lib.hid HZ0
  have HB := Lib.hid HB0
  have HS2 := Lib.hid hz2
  clear h HK0 HZ0 HB0 hz2
  go_enter Try.func37, Try.ntmps37
  go_wp2_with fail
  unfold msgL Mesg.none Mesg.noOp Mesg.zero at HK HZ HB HS2
  generalize (w.alloc (.cells _ 64)).alloc (.cells _ 40) = W at *
  go_loopw [6] (fun i wr => ∃ k : Nat, k ≤ xs.length ∧ i = .int .i64 k ∧ (∀ j (hj : j < xs.length), j < k → Resend.key xs[j].1 ≠ (a, b)) ∧ Below W.heap.size W wr) (fun i _ => xs.length - (intOf i).toNat)
  case atStart => exact ⟨0, by omega, rfl, fun j _ hj => absurd hj (by omega), Below.refl _ _⟩
  case round =>
    obtain ⟨k, hk, rfl, hno, hbr⟩ := hrel
    have HNO := Lib.hid hno
    have HBR := Lib.hid hbr
    have HW1 := Lib.hid (HW.out.below (grew HB.out hbr))
    have p2 := HW1.out.box.cell 2 (by simp)
    simp only [List.getElem_cons_succ, List.getElem_cons_zero] at p2
    have HK1 := Lib.hid (HK.out.keep (Keep.of_grew hbr Non) (fun h => h))
    have HZ1 := Lib.hid (HZ.out.keep (Keep.of_grew hbr Non) (fun h => h))
    clear hno hbr
    by_cases hlt : k < xs.length
    · have hdk : decide ((k : Int) < (xs.length : Int)) = true := decide_eq_true (by omega)
      have hdn : decide (k < xs.length) = true := decide_eq_true hlt
      have hik : (k : Int) < (xs.length : Int) := by omega
      obtain ⟨bv, rfl, hbv, hcell⟩ := OwnM.at HW1.out.own hlt
      have k0 := HK1.out.cell 0 (by simp)
      have k1 := HK1.out.cell 1 (by simp)
      simp only [List.getElem_cons_succ, List.getElem_cons_zero] at k0 k1
      have HCELL := Lib.hid hcell
      have HKN := Lib.hid (HW1.out.know xs[k] (List.getElem_mem hlt)).1
      have HF1 : Hid (Resend.key xs[k].1 = (a, b) → Resend.get s (a, b) = (xs[k].1, true)) := Lib.hid (fun e => by
        unfold Resend.get
        rw [← HW.out.is, find_first hlt HNO.out e])
      have HF2 : Hid (Resend.key xs[k].1 ≠ (a, b) → ∀ j (hj : j < xs.length), j < k + 1 → Resend.key xs[j].1 ≠ (a, b)) := Lib.hid (fun e j hj hjk => by
        by_cases h : j < k
        · exact HNO.out j hj h
        · have : j = k := by omega
          subst this; exact e)
      have hmay := HW.out.ok.may xs[k].1 (by rw [← HW.out.is]; exact List.mem_map_of_mem (List.getElem_mem hlt))
      have hbd := (Resend.may_bounds hmay.1).2.1
      have HK1N := Lib.hid (Resend.may_bounds hmay.1).1
      clear hcell hbv hmay
      generalize xs[k] = q at *
      obtain ⟨m, u⟩ := q
      simp only at HCELL HKN HF1 HF2 hbd HK1N
      obtain ⟨ua, uc, rfl⟩ := HKN.out.shape
      have c0 : wr.cell? ⟨bv, k * 10, none⟩ = some (.int .i64 m.site) := HCELL.out 0 _ rfl
      have c1 : wr.cell? ⟨bv, k * 10 + 1, none⟩ = some (.int .i64 m.seq) := HCELL.out 1 _ rfl
      by_cases e0 : m.site = a
      · by_cases e1 : m.seq = b
        · have b0 : (m.site == a) = true := by simpa using e0
          have b1 : (m.seq == b) = true := by simpa using e1
          have HR := Lib.hid (HF1.out (by unfold Resend.key; rw [e0, e1]))
          clear e0 e1 hlt
          have c2 : wr.cell? ⟨bv, k * 10 + 2, none⟩ = some (.slice ua m.know.length uc) := HCELL.out 2 _ rfl
          have c3 : wr.cell? ⟨bv, k * 10 + 3, none⟩ = some (.int .i64 m.op.kind) := HCELL.out 3 _ rfl
          have c4 : wr.cell? ⟨bv, k * 10 + 4, none⟩ = some (.int .i64 m.op.epoch) := HCELL.out 4 _ rfl
          have c5 : wr.cell? ⟨bv, k * 10 + 5, none⟩ = some (.int .i64 m.op.id.time) := HCELL.out 5 _ rfl
          have c6 : wr.cell? ⟨bv, k * 10 + 6, none⟩ = some (.int .i64 m.op.id.site) := HCELL.out 6 _ rfl
          have c7 : wr.cell? ⟨bv, k * 10 + 7, none⟩ = some (.int .i64 m.op.ref.time) := HCELL.out 7 _ rfl
          have c8 : wr.cell? ⟨bv, k * 10 + 8, none⟩ = some (.int .i64 m.op.ref.site) := HCELL.out 8 _ rfl
          have c9 : wr.cell? ⟨bv, k * 10 + 9, none⟩ = some (.int .i64 m.op.rune) := HCELL.out 9 _ rfl
          go_wp2_with fail
          go_quiet (fail)
          go_wp2_with fail
          refine (ref04_Copy_far m (.slice ua m.know.length uc) _ (HKN.out.below (grew_drewN _ _)) (by omega)).mono ?_
          rintro e w5 ⟨⟨v, rfl, hsl, hfar⟩, hb5⟩
          have HSL := Lib.hid hsl
          have HFAR := Lib.hid (fun g hg => Nat.le_trans HBR.out.size (hfar g hg))
          have HB5 := Lib.hid (grew HBR.out (grew (grew_drewN _ _) hb5))
          have HZ5 := Lib.hid (Holds.keep (cs := msgL Mesg.none (.slice none 0 0)) HZ1.out (Keep.of_grew (grew (grew_drewN _ _) hb5) Non) (fun h => h))
          obtain ⟨ga, gc, rfl⟩ := hsl.shape
          clear hsl hfar hb5 c0 c1 c2 c3 c4 c5 c6 c7 c8 c9 k0 k1 p2
          simp only [msgV]
          obtain ⟨⟨d0, d1, d2⟩, d3, d4, d5, d6, d7, d8, d9⟩ := msg_cells HZ5.out
          have f0 := HZ5.out.frozen 0
          have f1 := HZ5.out.frozen 1
          have f2 := HZ5.out.frozen 2
          have f3 := HZ5.out.frozen 3
          have f4 := HZ5.out.frozen 4
          have f5 := HZ5.out.frozen 5
          have f6 := HZ5.out.frozen 6
          have f7 := HZ5.out.frozen 7
          have f8 := HZ5.out.frozen 8
          have f9 := HZ5.out.frozen 9
          go_wp2
          have HF := Lib.hid (setMsg_holds HZ5.out m (.slice ga m.know.length gc))
          obtain ⟨⟨r0, r1, r2⟩, r3, r4, r5, r6, r7, r8, r9⟩ := msg_cells HF.out
          unfold setMsg at r0 r1 r2 r3 r4 r5 r6 r7 r8 r9
          refine bodyPost_ret (v := .tuple #[.agg #[.int .i64 m.site, .int .i64 m.seq, .slice ga m.know.length gc, .int .i64 m.op.kind, .int .i64 m.op.epoch, .int .i64 m.op.id.time, .int .i64 m.op.id.site, .int .i64 m.op.ref.time, .int .i64 m.op.ref.site, .int .i64 m.op.rune], .bool true]) (by simp [results, Try.results37, go_sem, r0, r1, r2, r3, r4, r5, r6, r7, r8, r9]) rfl ?_
          have q1 := setMsg_keep w5 (w.heap.size + 1) m (.slice ga m.know.length gc)
          have hbw := grew HB.out HB5.out
          refine ⟨_, rfl, ⟨.slice ga m.know.length gc, by rw [HR.out]; rfl, ?_, fun g' hg' => ?_⟩, hbw.trans (q1.below hbw.size (fun i e => by have e : i = w.heap.size + 1 := e; omega))⟩
          · rw [HR.out]
            refine HSL.out.keep q1 (fun g' hg' e => ?_)
            have e : g' = w.heap.size + 1 := e
            have := HFAR.out g' hg'
            have := HS2.out
            omega
          · have h1 := HFAR.out g' hg'
            have h2 := HB.out.size
            refine ⟨by omega, Nat.lt_of_lt_of_le ?_ q1.size⟩
            exact SliceI.block_lt HSL.out HK1N.out hg'
        · have b0 : (m.site == a) = true := by simpa using e0
          have b1 : (m.seq == b) = false := by simpa using e1
          have HNX := Lib.hid (HF2.out (fun e => e1 (congrArg Prod.snd e)))
          clear e0 e1
          go_wp2_with fail
          go_quiet (fail)
          go_wp2
          go_roundw
          case rel => exact ⟨k + 1, by omega, by go_num, HNX.out, grew HBR.out (grew_drewN _ _)⟩
          case measure => simp [intOf]; omega
      · have b0 : (m.site == a) = false := by simpa using e0
        have HNX := Lib.hid (HF2.out (fun e => e0 (congrArg Prod.fst e)))
        clear e0
        go_wp2_with fail
        go_quiet (fail)
        go_wp2
        go_roundw
        case rel => exact ⟨k + 1, by omega, by go_num, HNX.out, grew HBR.out (grew_drewN _ _)⟩
        case measure => simp [intOf]; omega
    · have hdn : decide (k < xs.length) = false := decide_eq_false hlt
      have hdk : decide ((k : Int) < (xs.length : Int)) = false := decide_eq_false (by omega)
      have HR : Hid (Resend.get s (a, b) = (Mesg.none, false)) := Lib.hid (by
        unfold Resend.get
        rw [← HW.out.is, find_no (fun j hj => HNO.out j hj (by omega))])
      clear hlt
      obtain ⟨⟨d0, d1, d2⟩, d3, d4, d5, d6, d7, d8, d9⟩ := msg_cells (m := Mesg.none) (v := .slice none 0 0) HZ1.out
      have f0 := HZ1.out.frozen 0
      have f1 := HZ1.out.frozen 1
      have f2 := HZ1.out.frozen 2
      have f3 := HZ1.out.frozen 3
      have f4 := HZ1.out.frozen 4
      have f5 := HZ1.out.frozen 5
      have f6 := HZ1.out.frozen 6
      have f7 := HZ1.out.frozen 7
      have f8 := HZ1.out.frozen 8
      have f9 := HZ1.out.frozen 9
      simp only [Mesg.none, Mesg.noOp, Mesg.zero] at d0 d1 d2 d3 d4 d5 d6 d7 d8 d9
      go_wp2
      have HF := Lib.hid (setMsg_holds (x := Mesg.none) (u := .slice none 0 0) HZ1.out Mesg.none (.slice none 0 0))
      obtain ⟨⟨r0, r1, r2⟩, r3, r4, r5, r6, r7, r8, r9⟩ := msg_cells HF.out
      unfold setMsg Mesg.none Mesg.noOp Mesg.zero at r0 r1 r2 r3 r4 r5 r6 r7 r8 r9
      simp only at r0 r1 r2 r3 r4 r5 r6 r7 r8 r9
      refine bodyPost_ret (v := .tuple #[.agg #[.int .i64 0, .int .i64 0, .slice none 0 0, .int .i64 0, .int .i64 0, .int .i64 0, .int .i64 0, .int .i64 0, .int .i64 0, .int .i64 0], .bool false]) (by simp [results, Try.results37, go_sem, r0, r1, r2, r3, r4, r5, r6, r7, r8, r9]) rfl ?_
      have q1 := setMsg_keep wr (w.heap.size + 1) Mesg.none (.slice none 0 0)
      have hbw := grew HB.out HBR.out
      refine ⟨_, rfl, ⟨.slice none 0 0, by rw [HR.out]; rfl, ?_, fun g' hg' => by cases hg'⟩, hbw.trans (q1.below hbw.size (fun i e => by have e : i = w.heap.size + 1 := e; omega))⟩
      rw [HR.out]
      exact ⟨none, 0, rfl, Nat.le_refl 0, .inl rfl⟩
end Go.Proofs.Ytkpiiagogdhalaa
