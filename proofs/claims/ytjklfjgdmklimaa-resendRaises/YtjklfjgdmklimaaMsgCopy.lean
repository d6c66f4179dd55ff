/- slices.Clone of a message's list; a message copied. -/
import Derived.Test.YtjklfjgdmklimaaMsgMap
import Derived.Test.YtjklfjgdmklimaaMesgSet
import Derived.Test.YtjklfjgdmklimaaVecMake
import Derived.Test.YtjklfjgdmklimaaStrs
namespace Go.Proofs.Ytjklfjgdmklimaa
open Go.RowKit Go.Maps
set_option linter.unusedVariables false

set_option maxHeartbeats 1000000 in
theorem ints_Clone (v : Value) (zs : List Int) (w : World) (hv : SliceI w v zs) (h1 : 1 ≤ zs.length) (hm : zs.length ≤ 1000000) :
    Calls Try.prog 34 #[v] w fun e w' => ∃ v', e = .returned v' ∧ ∃ g cap, Fresh w w' v' zs g cap := by
  obtain ⟨a, cap, rfl, hcap, hrow⟩ := hv
  rcases hrow with rfl | ⟨b, off, rfl, hb, hcells⟩
  · simp at h1
  · have HN : Hid (∀ j u, (intCells zs)[j]? = some u → (w.alloc (.cells #[] 3)).cell? ((⟨b, off, none⟩ : Addr).add j) = some u) := Lib.hid (cells_news (fun i hi => by
      rw [(grew_alloc w _).cell (p := ⟨b, off + i, none⟩) hb]; exact hcells i hi))
    have HO : Hid (Owns (w.alloc (.cells #[] 3)) 3 1 (.slice (some ⟨w.heap.size, 0, none⟩) 0 0) 0 []) := Lib.hid (by
      have := World.ownsRow_lit (base := 0) (e := 3) (size := 1) w #[] 0 (Nat.zero_le _) (by unfold maxLen; omega) rfl
      exact this)
    have H1 := Lib.hid h1
    have HM := Lib.hid hm
    have hnil : (binOp .eql 34 (.slice (some ⟨b, off, none⟩) zs.length cap) (.slice none 0 0)).run Try.prog w = .ok (.bool false) w := by
      simp only [binOp]
      simp [run_equal_slice_nil w 34 3 _ _ _ Try.underlying34]
    clear hcells hcap hb h1 hm
    go_enter Try.func34, Try.ntmps34
    go_wp2_with (at_builtin; refine wp_append_any rfl (.tmp 5) (.tmp 6) rfl Try.underlying34 info_i64 rfl (by decide) (by decide) _ 0 [] rfl HO.out ⟨b, off, none⟩ zs.length cap (intCells zs) rfl (by rw [intCells_len, Nat.mul_one]) HN.out (intCells_one zs) (by have := HM.out; omega) ?_; intro v' w' ho hk hn)
    go_ret
    refine ⟨_, rfl, fresh_of H1.out (by rw [Nat.zero_add, List.nil_append] at ho; exact ho) ?_ ?_⟩
    · intro g hg
      rcases hn g hg with k | k
      · have : w.heap.size = g := Option.some.inj k
        omega
      · simp at k; omega
    · refine (((Keep.alloc _ w _).trans hk (fun i _ hi => hi)).fresh fun i hi hs => ?_)
      have : w.heap.size = i := Option.some.inj hs
      omega


theorem ints_Clone_nil (w : World) :
    Calls Try.prog 34 #[.slice none 0 0] w fun e w' => e = .returned (.slice none 0 0) ∧ w = w' := by
  have hnil : (binOp .eql 34 (.slice none 0 0) (.slice none 0 0)).run Try.prog w = .ok (.bool true) w := by
    simp only [binOp]
    simp [run_equal_slice_nil w 34 3 _ _ _ Try.underlying34]
  go_enter Try.func34, Try.ntmps34
  go_wp2
  go_ret
  exact ⟨rfl, rfl⟩

theorem ints_Clone_nil2 (w : World) :
    Calls Try.prog 34 #[.slice none 0 0] w fun e w' => e = .returned (.slice none 0 0) ∧ Below w.heap.size w w' := by
  refine (ints_Clone_nil w).mono ?_
  rintro e _ ⟨rfl, rfl⟩
  exact ⟨rfl, Below.refl _ _⟩

/-- What lies behind two blocks put at the end. -/
theorem two_blocks (w : World) (A B : List Value) (t u : TypeId) : Holds ((w.alloc (.cells A.toArray t)).alloc (.cells B.toArray u)) w.heap.size A t ∧ Holds ((w.alloc (.cells A.toArray t)).alloc (.cells B.toArray u)) (w.heap.size + 1) B u ∧ Below w.heap.size w ((w.alloc (.cells A.toArray t)).alloc (.cells B.toArray u)) ∧ ((w.alloc (.cells A.toArray t)).alloc (.cells B.toArray u)).heap.size = w.heap.size + 1 + 1 := by
  have z1 : (w.alloc (.cells A.toArray t)).heap.size = w.heap.size + 1 := Array.size_push _
  have z2 : ((w.alloc (.cells A.toArray t)).alloc (.cells B.toArray u)).heap.size = w.heap.size + 1 + 1 := by rw [← z1]; exact Array.size_push _
  refine ⟨(Holds.new w A t).keep (S := Non) (Keep.alloc _ _ _) (fun h => h), ?_, grew (grew_alloc _ _) (grew_alloc _ _), z2⟩
  have := Holds.new (w.alloc (.cells A.toArray t)) B u
  rw [z1] at this
  exact this

set_option maxRecDepth 100000 in
set_option maxHeartbeats 1000000 in
theorem rs_copied (m : Mesg.Msg) (v : Value) (w : World) (hv : SliceI w v m.know) (h1 : 1 ≤ m.know.length) (hm : m.know.length ≤ 1000000) :
    Calls Try.prog 47 #[msgV m v] w fun e w' => ∃ g cap, e = .returned (Ent.val ⟨m, g, cap⟩) ∧ SliceI w' (Ent.sl ⟨m, g, cap⟩) m.know ∧ w.heap.size ≤ g ∧ Below w.heap.size w w' := by
  have HV := Lib.hid hv
  have HM := Lib.hid (And.intro h1 hm)
  obtain ⟨va, vc, rfl⟩ := hv.shape
  clear hv h1 hm
  unfold Ent.val Ent.sl msgV
  simp only
  obtain ⟨HO0, HR0, HB0, hz2⟩ := two_blocks w (msgL m (.slice va m.know.length vc)) (msgL Mesg.none (.slice none 0 0)) 40 40
  have HZ := Lib.hid hz2
  have HO := Lib.hid HO0
  have HR := Lib.hid HR0
  have HB := Lib.hid HB0
  have o2 := (msg_cells HO0).1.2.2
  clear hz2 HO0 HR0 HB0
  go_enter Try.func47, Try.ntmps47
  go_wp2_with fail
  refine (ints_Clone _ m.know _ (HV.out.below HB.out) HM.out.1 HM.out.2).mono ?_
  rintro e w4 ⟨v4, rfl, g, cap, hf⟩
  have HF4 := Lib.hid hf
  obtain rfl := hf.val
  have HO := Lib.hid (HO.out.keep (Keep.of_grew hf.bel Non) (fun h => h))
  have HR := Lib.hid (HR.out.keep (Keep.of_grew hf.bel Non) (fun h => h))
  clear hf
  have q2 := HO.out.frozen 2
  have o2 := (msg_cells HO.out).1.2.2
  have HO5 := Lib.hid (HO.out.set 2 (.slice (some ⟨g, 0, none⟩) m.know.length cap) (by simp [msgL]))
  have HR5 := Lib.hid (HR.out.keep (Keep.setCell w4 w.heap.size 2 (.slice (some ⟨g, 0, none⟩) m.know.length cap)) (fun e => by have e : w.heap.size + 1 = w.heap.size := e; omega))
  obtain ⟨⟨l0, l1, l2⟩, l3, l4, l5, l6, l7, l8, l9⟩ := msg_cells (m := m) (v := .slice (some ⟨g, 0, none⟩) m.know.length cap) HO5.out
  obtain ⟨⟨d0, d1, d2⟩, d3, d4, d5, d6, d7, d8, d9⟩ := msg_cells HR5.out
  have f0 := HR5.out.frozen 0
  have f1 := HR5.out.frozen 1
  have f2 := HR5.out.frozen 2
  have f3 := HR5.out.frozen 3
  have f4 := HR5.out.frozen 4
  have f5 := HR5.out.frozen 5
  have f6 := HR5.out.frozen 6
  have f7 := HR5.out.frozen 7
  have f8 := HR5.out.frozen 8
  have f9 := HR5.out.frozen 9
  go_wp2
  have HF := Lib.hid (setMsg_holds HR5.out m (.slice (some ⟨g, 0, none⟩) m.know.length cap))
  obtain ⟨⟨r0, r1, r2⟩, r3, r4, r5, r6, r7, r8, r9⟩ := msg_cells HF.out
  unfold setMsg at r0 r1 r2 r3 r4 r5 r6 r7 r8 r9
  refine bodyPost_ret (v := .agg #[.int .i64 m.site, .int .i64 m.seq, .slice (some ⟨g, 0, none⟩) m.know.length cap, .int .i64 m.op.kind, .int .i64 m.op.epoch, .int .i64 m.op.id.time, .int .i64 m.op.id.site, .int .i64 m.op.ref.time, .int .i64 m.op.ref.site, .int .i64 m.op.rune]) (by simp [results, Try.results47, go_sem, r0, r1, r2, r3, r4, r5, r6, r7, r8, r9]) rfl ?_
  have q1 : Keep (Just w.heap.size) w4 (w4.setCell ⟨w.heap.size, 2, none⟩ (.slice (some ⟨g, 0, none⟩) m.know.length cap)) := Keep.setCell _ _ _ _
  have q2 := setMsg_keep (w4.setCell ⟨w.heap.size, 2, none⟩ (.slice (some ⟨g, 0, none⟩) m.know.length cap)) (w.heap.size + 1) m (.slice (some ⟨g, 0, none⟩) m.know.length cap)
  have hb4 := grew HB.out HF4.out.bel
  have hl1 := hb4.size
  have hl2 := q1.size
  have hnew := HF4.out.new
  rw [HZ.out] at hnew
  refine ⟨g, cap, rfl, (HF4.out.own.slice.keep q1 (fun g' hg e => ?_)).keep q2 (fun g' hg e => ?_), by omega, ?_⟩
  · have e : g' = w.heap.size := e
    have : g = g' := Option.some.inj hg
    omega
  · have e : g' = w.heap.size + 1 := e
    have : g = g' := Option.some.inj hg
    omega
  · exact hb4.trans ((q1.below hl1 (fun i e => by have e : i = w.heap.size := e; omega)).trans (q2.below (by omega) (fun i e => by have e : i = w.heap.size + 1 := e; omega)))

set_option maxRecDepth 100000 in
set_option maxHeartbeats 1000000 in
theorem rs_copied_nil (m : Mesg.Msg) (w : World) :
    Calls Try.prog 47 #[msgV m (.slice none 0 0)] w fun e w' => e = .returned (msgV m (.slice none 0 0)) ∧ Below w.heap.size w w' := by
  unfold msgV
  obtain ⟨HO0, HR0, HB0, hz2⟩ := two_blocks w (msgL m (.slice none 0 0)) (msgL Mesg.none (.slice none 0 0)) 40 40
  have HZ := Lib.hid hz2
  have HO := Lib.hid HO0
  have HR := Lib.hid HR0
  have HB := Lib.hid HB0
  have o2 := (msg_cells HO0).1.2.2
  clear hz2 HO0 HR0 HB0
  go_enter Try.func47, Try.ntmps47
  go_wp2_with fail
  refine (ints_Clone_nil2 _).mono ?_
  rintro e w4 ⟨rfl, hb4⟩
  have HO := Lib.hid (HO.out.keep (Keep.of_grew hb4 Non) (fun h => h))
  have HR := Lib.hid (HR.out.keep (Keep.of_grew hb4 Non) (fun h => h))
  have HB := Lib.hid (grew HB.out hb4)
  clear hb4
  have q2 := HO.out.frozen 2
  have o2 := (msg_cells HO.out).1.2.2
  have HO5 := Lib.hid (HO.out.set 2 (.slice none 0 0) (by simp [msgL]))
  have HR5 := Lib.hid (HR.out.keep (Keep.setCell w4 w.heap.size 2 (.slice none 0 0)) (fun e => by have e : w.heap.size + 1 = w.heap.size := e; omega))
  obtain ⟨⟨l0, l1, l2⟩, l3, l4, l5, l6, l7, l8, l9⟩ := msg_cells (m := m) (v := .slice none 0 0) HO5.out
  obtain ⟨⟨d0, d1, d2⟩, d3, d4, d5, d6, d7, d8, d9⟩ := msg_cells HR5.out
  have f0 := HR5.out.frozen 0
  have f1 := HR5.out.frozen 1
  have f2 := HR5.out.frozen 2
  have f3 := HR5.out.frozen 3
  have f4 := HR5.out.frozen 4
  have f5 := HR5.out.frozen 5
  have f6 := HR5.out.frozen 6
  have f7 := HR5.out.frozen 7
  have f8 := HR5.out.frozen 8
  have f9 := HR5.out.frozen 9
  go_wp2
  have HF := Lib.hid (setMsg_holds HR5.out m (.slice none 0 0))
  obtain ⟨⟨r0, r1, r2⟩, r3, r4, r5, r6, r7, r8, r9⟩ := msg_cells HF.out
  unfold setMsg at r0 r1 r2 r3 r4 r5 r6 r7 r8 r9
  refine bodyPost_ret (v := .agg #[.int .i64 m.site, .int .i64 m.seq, .slice none 0 0, .int .i64 m.op.kind, .int .i64 m.op.epoch, .int .i64 m.op.id.time, .int .i64 m.op.id.site, .int .i64 m.op.ref.time, .int .i64 m.op.ref.site, .int .i64 m.op.rune]) (by simp [results, Try.results47, go_sem, r0, r1, r2, r3, r4, r5, r6, r7, r8, r9]) rfl ?_
  have q1 : Keep (Just w.heap.size) w4 (w4.setCell ⟨w.heap.size, 2, none⟩ (.slice none 0 0)) := Keep.setCell _ _ _ _
  have q2 := setMsg_keep (w4.setCell ⟨w.heap.size, 2, none⟩ (.slice none 0 0)) (w.heap.size + 1) m (.slice none 0 0)
  have hl1 := HB.out.size
  have hl2 := q1.size
  exact ⟨rfl, HB.out.trans ((q1.below hl1 (fun i e => by have e : i = w.heap.size := e; omega)).trans (q2.below (by omega) (fun i e => by have e : i = w.heap.size + 1 := e; omega)))⟩
end Go.Proofs.Ytjklfjgdmklimaa
