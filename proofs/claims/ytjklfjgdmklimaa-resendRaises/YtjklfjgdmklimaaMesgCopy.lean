/- What duetref04.Copy comes to. -/
import Derived.Test.YtjklfjgdmklimaaMesgSame0
import Derived.Test.YtjklfjgdmklimaaMesgSet
namespace Go.Proofs.Ytjklfjgdmklimaa
open Go.RowKit
set_option linter.unusedVariables false

/-- 'append([]int(nil), l...)'. -/
theorem wp_append_copy {ops : Array Oper} {rest : List Oper} {o : Oper} {a : Act} {w : World} {Q : Exit → Act → World → Prop} (hgd : o.guard = none) (s x : Operand)
    (ho : o.op = .call { callee := .builtin .append, args := #[s, x], argTypes := #[34, 34] })
    (u : Value) (zs : List Int) (hs : a.eval s = .slice none 0 0) (hx : a.eval x = u) (hsrc : SliceI w u zs) (hlen : zs.length ≤ 1000000000)
    (h : ∀ v' w', OwnI w' v' zs → Below w.heap.size w w' → (∀ g, v'.ownBlock = some g → w.heap.size ≤ g) → wpList Try.prog ops Q rest (a.put o.dst v') w') :
    wpList Try.prog ops Q (o :: rest) a w := by
  have hnil : ∀ k : Nat, ¬ At (.slice none 0 0) k := fun k hk => by simp [At, Value.ownBlock] at hk
  obtain ⟨ad, cap, rfl, hcap, hrow⟩ := hsrc
  rcases Nat.eq_zero_or_pos zs.length with h0 | hpos
  · have hz : zs = [] := List.eq_nil_of_length_eq_zero h0
    subst hz
    cases ad with
    | none =>
      obtain ⟨i0, hi, hz0, hz1, hz2⟩ := info_parts info_i64
      refine wpList_plain hgd fun K hK => ?_
      have hr : (Builtin.append_ #[34, 34] o.type #[.slice none 0 0, .slice none 0 cap]).run Try.prog w = .ok (.slice none 0 0) w := by
        simp [Builtin.append_, run_underlying Try.underlying34, sizeOf, typeInfo, hi, Builtin.lenOf, Builtin.firstCells]
      unfold Oper.wp execOp
      simp only [ho, resolve, invoke, builtin, Sem.run_bind, Sem.run_pure, Result.andThen_ok, List.map_toArray, List.map_cons, List.map_nil, hs, hx, List.length_nil, hr]
      exact hK _ _ (h _ w (OwnI.nil w) (Below.refl _ _) (fun g hg => by simp [Value.ownBlock] at hg))
    | some ad =>
      refine wp_append_any hgd s x ho Try.underlying34 info_i64 rfl (by decide) (by decide) (.slice none 0 0) 0 [] hs (OwnI.nil w) ad 0 cap [] hx rfl (by simp) (by simp) (by omega) ?_
      intro v' w' k1 k2 k3
      exact h v' w' k1 (k2.fresh (fun i _ => hnil i)) (fun g hg => (k3 g hg).resolve_left (hnil g))
  · rcases hrow with hz | ⟨b, off, rfl, hb, hcell⟩
    · rw [hz] at hpos; simp at hpos
    · refine wp_append_any hgd s x ho Try.underlying34 info_i64 rfl (by decide) (by decide) (.slice none 0 0) 0 [] hs (OwnI.nil w) ⟨b, off, none⟩ zs.length cap (intCells zs) hx (by simp [intCells]) ?_ ?_ (by omega) ?_
      · intro j v hj
        simp only [intCells, List.getElem?_map, Option.map_eq_some_iff] at hj
        obtain ⟨z, hz, rfl⟩ := hj
        obtain ⟨hj1, rfl⟩ := List.getElem?_eq_some_iff.1 hz
        have e : (⟨b, off, none⟩ : Addr).add j = ⟨b, off + j, none⟩ := by simp [Addr.add]
        rw [e]
        exact hcell j hj1
      · intro v hv
        simp only [intCells, List.mem_map] at hv
        obtain ⟨z, _, rfl⟩ := hv
        rfl
      · intro v' w' k1 k2 k3
        refine h v' w' ?_ (k2.fresh (fun i _ => hnil i)) (fun g hg => (k3 g hg).resolve_left (hnil g))
        unfold OwnI
        simpa using k1

set_option maxRecDepth 100000 in
set_option maxHeartbeats 1000000 in
theorem ref04_Copy_far (m : Mesg.Msg) (v : Value) (w : World) (hv : SliceI w v m.know) (hm : m.know.length ≤ 1000000000) :
    Calls Try.prog 38 #[msgV m v] w fun e w' => (∃ u, e = .returned (msgV m u) ∧ SliceI w' u m.know ∧ ∀ g, u.ownBlock = some g → w.heap.size ≤ g) ∧ Below w.heap.size w w' := by
  have HV := Lib.hid hv
  obtain ⟨va, vc, rfl⟩ := hv.shape
  clear hv
  unfold msgV
  go_enter Try.func38, Try.ntmps38
  have z1 : (w.alloc (.cells (msgL m (.slice va m.know.length vc)).toArray 40)).heap.size = w.heap.size + 1 := Array.size_push _
  have z2 : ((w.alloc (.cells (msgL m (.slice va m.know.length vc)).toArray 40)).alloc (.cells (msgL Mesg.none (.slice none 0 0)).toArray 40)).heap.size = w.heap.size + 1 + 1 := by rw [← z1]; exact Array.size_push _
  have HZ3 : Hid ((((w.alloc (.cells (msgL m (.slice va m.know.length vc)).toArray 40)).alloc (.cells (msgL Mesg.none (.slice none 0 0)).toArray 40)).alloc (.cells (msgL m (.slice va m.know.length vc)).toArray 40)).heap.size = w.heap.size + 1 + 1 + 1) := Lib.hid (by rw [← z2]; exact Array.size_push _)
  have HB := Lib.hid (grew (grew_alloc w (.cells (msgL m (.slice va m.know.length vc)).toArray 40)) (grew (grew_alloc _ (.cells (msgL Mesg.none (.slice none 0 0)).toArray 40)) (grew_alloc _ (.cells (msgL m (.slice va m.know.length vc)).toArray 40))))
  have HR := Lib.hid ((Holds.new (w.alloc (.cells (msgL m (.slice va m.know.length vc)).toArray 40)) (msgL Mesg.none (.slice none 0 0)) 40).keep (S := Non) (Keep.of_grew (grew_alloc _ (.cells (msgL m (.slice va m.know.length vc)).toArray 40)) Non) (fun h => h))
  have HO := Lib.hid (Holds.new ((w.alloc (.cells (msgL m (.slice va m.know.length vc)).toArray 40)).alloc (.cells (msgL Mesg.none (.slice none 0 0)).toArray 40)) (msgL m (.slice va m.know.length vc)) 40)
  rw [z1] at HR
  rw [z2] at HO
  clear z1 z2
  go_wp2_with (at_builtin; refine wp_append_copy rfl (.const (.slice none 0 0)) (.tmp 6) rfl (.slice va m.know.length vc) m.know rfl rfl (HV.out.below HB.out) hm ?_; intro v4 w4 ho4 hb4 hfar4; have HFAR := Lib.hid (HZ3.out ▸ hfar4); clear hfar4; have HU := Lib.hid ho4; obtain ⟨ua, uc, rfl⟩ := ho4.slice.shape; clear ho4; have HR := Lib.hid (HR.out.keep (Keep.of_grew hb4 Non) (fun h => h)); have HO := Lib.hid (HO.out.keep (Keep.of_grew hb4 Non) (fun h => h)); have HB := Lib.hid (grew HB.out hb4); clear hb4; have o2 := (msg_cells HO.out).1.2.2; have q2 := HO.out.frozen 2; have HO5 := Lib.hid (HO.out.set 2 (.slice ua m.know.length uc) (by simp [msgL])); have HR5 := Lib.hid (HR.out.keep (Keep.setCell w4 (w.heap.size + 1 + 1) 2 (.slice ua m.know.length uc)) (fun e => by have e : w.heap.size + 1 = w.heap.size + 1 + 1 := e; omega)); obtain ⟨⟨l0, l1, l2⟩, l3, l4, l5, l6, l7, l8, l9⟩ := msg_cells (m := m) (v := .slice ua m.know.length uc) HO5.out; obtain ⟨⟨d0, d1, d2⟩, d3, d4, d5, d6, d7, d8, d9⟩ := msg_cells HR5.out; have f0 := HR5.out.frozen 0; have f1 := HR5.out.frozen 1; have f2 := HR5.out.frozen 2; have f3 := HR5.out.frozen 3; have f4 := HR5.out.frozen 4; have f5 := HR5.out.frozen 5; have f6 := HR5.out.frozen 6; have f7 := HR5.out.frozen 7; have f8 := HR5.out.frozen 8; have f9 := HR5.out.frozen 9)
  have HF := Lib.hid (setMsg_holds HR5.out m (.slice ua m.know.length uc))
  obtain ⟨⟨r0, r1, r2⟩, r3, r4, r5, r6, r7, r8, r9⟩ := msg_cells HF.out
  unfold setMsg at r0 r1 r2 r3 r4 r5 r6 r7 r8 r9
  refine bodyPost_ret (v := .agg #[.int .i64 m.site, .int .i64 m.seq, .slice ua m.know.length uc, .int .i64 m.op.kind, .int .i64 m.op.epoch, .int .i64 m.op.id.time, .int .i64 m.op.id.site, .int .i64 m.op.ref.time, .int .i64 m.op.ref.site, .int .i64 m.op.rune]) (by simp [results, Try.results38, go_sem, r0, r1, r2, r3, r4, r5, r6, r7, r8, r9]) rfl ?_
  have q1 : Keep (Just (w.heap.size + 1 + 1)) w4 (w4.setCell ⟨w.heap.size + 1 + 1, 2, none⟩ (.slice ua m.know.length uc)) := Keep.setCell _ _ _ _
  have q2 := setMsg_keep (w4.setCell ⟨w.heap.size + 1 + 1, 2, none⟩ (.slice ua m.know.length uc)) (w.heap.size + 1) m (.slice ua m.know.length uc)
  have hl1 := HB.out.size
  have hl2 := q1.size
  refine ⟨⟨_, rfl, ((HU.out.slice.keep q1 (fun g hg e => by have e : g = w.heap.size + 1 + 1 := e; have := HFAR.out g hg; omega)).keep q2 (fun g hg e => by have e : g = w.heap.size + 1 := e; have := HFAR.out g hg; omega)), fun g hg => by have := HFAR.out g hg; omega⟩, ?_⟩
  exact HB.out.trans ((q1.below hl1 (fun i e => by have e : i = w.heap.size + 1 + 1 := e; omega)).trans (q2.below (by omega) (fun i e => by have e : i = w.heap.size + 1 := e; omega)))
theorem ref04_Copy (m : Mesg.Msg) (v : Value) (w : World) (hv : SliceI w v m.know) (hm : m.know.length ≤ 1000000000) :
    Calls Try.prog 38 #[msgV m v] w fun e w' => (∃ u, e = .returned (msgV m u) ∧ SliceI w' u m.know) ∧ Below w.heap.size w w' := by
  refine (ref04_Copy_far m v w hv hm).mono ?_
  rintro e w1 ⟨⟨u, he, hs, _⟩, hb⟩
  exact ⟨⟨u, he, hs⟩, hb⟩
end Go.Proofs.Ytjklfjgdmklimaa
