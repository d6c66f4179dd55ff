/- What Get of resend comes to. -/
import Derived.Test.YtjklfjgdmklimaaRsKeep2
import Derived.BigRegion
namespace Go.Proofs.Ytjklfjgdmklimaa
open Go.RowKit Go.Maps
set_option linter.unusedVariables false

/-- A message and whether there is one. -/
def OutM (w0 w : World) (r : Value) (q : Mesg.Msg × Bool) : Prop := ∃ u, r = .tuple #[msgV q.1 u, .bool q.2] ∧ SliceI w u q.1.know ∧ ∀ g, u.ownBlock = some g → w0.heap.size ≤ g ∧ g < w.heap.size

set_option maxRecDepth 100000 in
set_option maxHeartbeats 1000000 in
theorem resend_Get_nil (a b : Int) (w : World) :
    Calls Try.prog 28 #[.pointer none, .agg #[.int .i64 a, .int .i64 b]] w fun e w' => e = .returned (.tuple #[msgV Mesg.none (.slice none 0 0), .bool false]) ∧ Below w.heap.size w w' := by
  obtain ⟨_, HR0, HB0, _⟩ := two_blocks w [.int .i64 a, .int .i64 b] (msgL Mesg.none (.slice none 0 0)) 64 40
  obtain ⟨⟨r0, r1, r2⟩, r3, r4, r5, r6, r7, r8, r9⟩ := msg_cells HR0
  have HB := Lib.hid HB0
  clear HR0 HB0
  unfold msgL Mesg.none Mesg.noOp Mesg.zero at r0 r1 r2 r3 r4 r5 r6 r7 r8 r9
  go_enter Try.func28, Try.ntmps28
  go_wp2
  refine bodyPost_ret (v := .tuple #[.agg #[.int .i64 0, .int .i64 0, .slice none 0 0, .int .i64 0, .int .i64 0, .int .i64 0, .int .i64 0, .int .i64 0, .int .i64 0, .int .i64 0], .bool false]) (by simp [results, Try.results28, go_sem, r0, r1, r2, r3, r4, r5, r6, r7, r8, r9]) rfl ?_
  exact ⟨rfl, HB.out⟩

set_option maxRecDepth 100000 in
set_option maxHeartbeats 4000000 in
theorem resend_Get {w : World} {F : Nat → Prop} {p : Nat} {s : Resend.St} (h0 : IsStore w F p s) (a b : Int) (ha : I64 a) (hb : I64 b) :
    Calls Try.prog 28 #[.pointer (some ⟨p, 0, none⟩), .agg #[.int .i64 a, .int .i64 b]] w fun e w' => ∃ r, e = .returned r ∧ OutM w w' r (Resend.get s (a, b)) ∧ Below w.heap.size w w' := by
  obtain ⟨mp, S, es, h⟩ := h0
  have HW := Lib.hid h
  have HI := Lib.hid (And.intro ha hb)
  obtain ⟨HK0, HZ0, HB0, hz2⟩ := two_blocks w [.int .i64 a, .int .i64 b] (msgL Mesg.none (.slice none 0 0)) 64 40
  have HK := Lib.hid HK0
  have HZ := Lib.hid HZ0
  have HB := Lib.hid HB0
  have HS2 := Lib.hid hz2
  clear h ha hb HK0 HZ0 HB0 hz2
  go_enter Try.func28, Try.ntmps28
  go_wp2_with fail
  unfold msgL Mesg.none Mesg.noOp Mesg.zero at HK HZ HB HS2
  generalize (w.alloc (.cells _ 64)).alloc (.cells _ 40) = W at *
  have HW2 := Lib.hid (HW.out.below HB.out)
  have k0 := HK.out.cell 0 (by simp)
  have k1 := HK.out.cell 1 (by simp)
  have p2 := HW2.out.box.cell 2 (by simp)
  have HK3 := Lib.hid (HK.out.keep (S := Non) (Keep.alloc _ _ (.cells (msgL Mesg.none (.slice none 0 0)).toArray 40)) (fun h => h))
  have k0' := HK3.out.cell 0 (by simp)
  have k1' := HK3.out.cell 1 (by simp)
  have HW3 := Lib.hid (HW2.out.below (grew_alloc _ (.cells (msgL Mesg.none (.slice none 0 0)).toArray 40)))
  have p2' := HW3.out.box.cell 2 (by simp)
  simp only [List.getElem_cons_succ, List.getElem_cons_zero] at k0 k1 p2 k0' k1' p2'
  simp only [msgL, Mesg.none, Mesg.noOp, Mesg.zero] at k0' k1' p2'
  have HLK : Hid (∀ W', Below W.heap.size W W' → (Instr.lookup 85 (.map (some mp)) (.agg #[.int .i64 a, .int .i64 b]) true).run Try.prog W' = .ok (.tuple #[(match at? es (a, b) with | some x => x.val | none => msgV Mesg.none (.slice none 0 0)), .bool (at? es (a, b)).isSome]) W') := Lib.hid (fun W' hb => MsgMap.look ask_key (HW2.out.map.below hb) ask_map HI.out.1 HI.out.2)
  cases hat : at? es (a, b) with
  | some x =>
    have HR : Hid (Resend.get s (a, b) = (x.m, true)) := Lib.hid (by unfold Resend.get; rw [find_is HW.out.is, hat]; rfl)
    have HX := Lib.hid (HW.out.map.know x (at_some hat).1).1
    have hmay := HW.out.ok.may x.m (by rw [← HW.out.is]; exact List.mem_map_of_mem (at_some hat).1)
    have hbd := Resend.may_bounds hmay.1
    have HKN : Hid (1 ≤ x.m.know.length ∧ x.m.know.length ≤ 1000000) := Lib.hid ⟨hbd.1, by omega⟩
    rw [hat] at HLK
    clear hat hmay hbd
    have q1 := HLK.out W.drew (grew_drew _)
    have q2 := HLK.out ((W.alloc (.cells (msgL Mesg.none (.slice none 0 0)).toArray 40)).drew) (grew (grew_alloc _ _) (grew_drew _))
    simp only [Ent.val, Ent.sl, msgV, msgL, Mesg.none, Mesg.noOp, Mesg.zero, Option.isSome_some] at q1 q2
    go_region
    all_goals
      clear q1 q2 k0 k1 p2 k0' k1' p2' HLK HK3 HW3
      have HB4 := Lib.hid (grew (grew_alloc W (.cells (msgL x.m x.sl).toArray 40)) (grew_drew _))
      have HN4 := Lib.hid (Holds.new W (msgL x.m x.sl) 40)
      unfold msgL Ent.sl at HB4 HN4
      obtain ⟨⟨l0, l1, l2⟩, l3, l4, l5, l6, l7, l8, l9⟩ := msg_cells (m := x.m) HN4.out
      go_wp2_with fail
      refine (rs_copied x.m x.sl _ (HX.out.below (grew HB.out HB4.out)) HKN.out.1 HKN.out.2).mono ?_
      rintro e w5 ⟨g, cap, rfl, hsl, hg, hb5⟩
      have HSL := Lib.hid hsl
      have HG := Lib.hid (Nat.le_trans HB4.out.size hg)
      have HLT := Lib.hid (Ent.lt (x := ⟨x.m, g, cap⟩) hsl HKN.out.1)
      have HB5 := Lib.hid (grew HB4.out hb5)
      clear hsl hg hb5 l0 l1 l2 l3 l4 l5 l6 l7 l8 l9
      have HZ5 := Lib.hid (Holds.keep (cs := msgL Mesg.none (.slice none 0 0)) HZ.out (Keep.of_grew HB5.out Non) (fun h => h))
      simp only [Ent.val, Ent.sl, msgV]
      obtain ⟨⟨d0, d1, d2⟩, d3, d4, d5, d6, d7, d8, d9⟩ := msg_cells HZ5.out
      have f0 := HZ5.out.frozen 0
      have f1 := HZ5.out.frozen 1
      have f2 := HZ5.out.frozen 2
      have f3 := HZ5.out.frozen 3
      have f4 := HZ5.out.frozen 4
      have f5 := HZ5.out.frozen 5
      have f6 := HZ5.out.frozen 6
      have f7 := HZ5.out.frozen 7
      have f8 := HZ5.out.frozen 8
      have f9 := HZ5.out.frozen 9
      go_wp2
      have HF := Lib.hid (setMsg_holds HZ5.out x.m (.slice (some ⟨g, 0, none⟩) x.m.know.length cap))
      obtain ⟨⟨r0, r1, r2⟩, r3, r4, r5, r6, r7, r8, r9⟩ := msg_cells HF.out
      unfold setMsg at r0 r1 r2 r3 r4 r5 r6 r7 r8 r9
      refine bodyPost_ret (v := .tuple #[.agg #[.int .i64 x.m.site, .int .i64 x.m.seq, .slice (some ⟨g, 0, none⟩) x.m.know.length cap, .int .i64 x.m.op.kind, .int .i64 x.m.op.epoch, .int .i64 x.m.op.id.time, .int .i64 x.m.op.id.site, .int .i64 x.m.op.ref.time, .int .i64 x.m.op.ref.site, .int .i64 x.m.op.rune], .bool true]) (by simp [results, Try.results28, go_sem, r0, r1, r2, r3, r4, r5, r6, r7, r8, r9]) rfl ?_
      have q1 := setMsg_keep w5 (w.heap.size + 1) x.m (.slice (some ⟨g, 0, none⟩) x.m.know.length cap)
      have hbw := grew HB.out HB5.out
      refine ⟨_, rfl, ⟨.slice (some ⟨g, 0, none⟩) x.m.know.length cap, by rw [HR.out]; rfl, ?_, fun g' hg' => by
        have e : g = g' := Option.some.inj hg'
        subst e
        exact ⟨by have := HG.out; have := HB.out.size; omega, Nat.lt_of_lt_of_le HLT.out q1.size⟩⟩, hbw.trans (q1.below hbw.size (fun i e => by have e : i = w.heap.size + 1 := e; omega))⟩
      rw [HR.out]
      refine HSL.out.keep q1 (fun g' hg' e => ?_)
      have e : g' = w.heap.size + 1 := e
      have : g = g' := Option.some.inj hg'
      have := HG.out
      have := HS2.out
      omega
  | none =>
    have HR : Hid (Resend.get s (a, b) = (Mesg.none, false)) := Lib.hid (by unfold Resend.get; rw [find_is HW.out.is, hat]; rfl)
    rw [hat] at HLK
    clear hat
    have q1 := HLK.out W.drew (grew_drew _)
    have q2 := HLK.out ((W.alloc (.cells (msgL Mesg.none (.slice none 0 0)).toArray 40)).drew) (grew (grew_alloc _ _) (grew_drew _))
    simp only [msgV, msgL, Mesg.none, Mesg.noOp, Mesg.zero, Option.isSome_none] at q1 q2
    go_region
    all_goals
      clear q1 q2 k0 k1 p2 k0' k1' p2' HLK HK3 HW3
      have HB4 := Lib.hid (grew (grew_alloc W (.cells (msgL Mesg.none (.slice none 0 0)).toArray 40)) (grew_drew _))
      have HN4 := Lib.hid (Holds.new W (msgL Mesg.none (.slice none 0 0)) 40)
      obtain ⟨⟨l0, l1, l2⟩, l3, l4, l5, l6, l7, l8, l9⟩ := msg_cells HN4.out
      unfold msgL Mesg.none Mesg.noOp Mesg.zero at l0 l1 l2 l3 l4 l5 l6 l7 l8 l9
      unfold msgL Mesg.none Mesg.noOp Mesg.zero at HB4 HN4
      go_wp2_with fail
      refine (rs_copied_nil Mesg.none _).mono ?_
      rintro e w5 ⟨rfl, hb5⟩
      have HB5 := Lib.hid (grew HB4.out hb5)
      clear hb5 l0 l1 l2 l3 l4 l5 l6 l7 l8 l9
      have HZ5 := Lib.hid (Holds.keep (cs := msgL Mesg.none (.slice none 0 0)) HZ.out (Keep.of_grew HB5.out Non) (fun h => h))
      generalize hnn : Mesg.none = nn at HZ5 HR ⊢
      have HNN := Lib.hid hnn
      clear hnn
      simp only [msgV]
      obtain ⟨⟨d0, d1, d2⟩, d3, d4, d5, d6, d7, d8, d9⟩ := msg_cells HZ5.out
      have f0 := HZ5.out.frozen 0
      have f1 := HZ5.out.frozen 1
      have f2 := HZ5.out.frozen 2
      have f3 := HZ5.out.frozen 3
      have f4 := HZ5.out.frozen 4
      have f5 := HZ5.out.frozen 5
      have f6 := HZ5.out.frozen 6
      have f7 := HZ5.out.frozen 7
      have f8 := HZ5.out.frozen 8
      have f9 := HZ5.out.frozen 9
      go_wp2
      have HF := Lib.hid (setMsg_holds HZ5.out nn (.slice none 0 0))
      obtain ⟨⟨r0, r1, r2⟩, r3, r4, r5, r6, r7, r8, r9⟩ := msg_cells HF.out
      unfold setMsg at r0 r1 r2 r3 r4 r5 r6 r7 r8 r9
      refine bodyPost_ret (v := .tuple #[.agg #[.int .i64 nn.site, .int .i64 nn.seq, .slice none 0 0, .int .i64 nn.op.kind, .int .i64 nn.op.epoch, .int .i64 nn.op.id.time, .int .i64 nn.op.id.site, .int .i64 nn.op.ref.time, .int .i64 nn.op.ref.site, .int .i64 nn.op.rune], .bool false]) (by simp [results, Try.results28, go_sem, r0, r1, r2, r3, r4, r5, r6, r7, r8, r9]) rfl ?_
      have q1 := setMsg_keep w5 (w.heap.size + 1) nn (.slice none 0 0)
      have hbw := grew HB.out HB5.out
      refine ⟨_, rfl, ⟨.slice none 0 0, by rw [HR.out]; rfl, ?_, fun g' hg' => by cases hg'⟩, hbw.trans (q1.below hbw.size (fun i e => by have e : i = w.heap.size + 1 := e; omega))⟩
      rw [HR.out, ← HNN.out]
      exact ⟨none, 0, rfl, Nat.le_refl 0, .inl rfl⟩
end Go.Proofs.Ytjklfjgdmklimaa
