/- The reference's work on a state: runes cut. -/
import Derived.Test.YtakjoodlediemaaEdRefP
namespace Go.Proofs.Ytakjoodlediemaa
open Go.RowKit
set_option linter.unusedVariables false

/-- k runes cut at a place. -/
def Wk.cut (t : Wk) (f k : Nat) : Wk := ⟨t.line.take f ++ t.line.drop (f + k), t.at', t.kill, t.acts ++ Ed.cutActs f ((t.line.drop f).take k)⟩
def Wk.gone (t : Wk) (f k : Nat) : List Int := (t.line.drop f).take k
/-- Where one stands then. -/
def Wk.cutAt (t : Wk) (f c : Nat) : Nat := if c = 0 then t.at' else f
theorem Wk.cut_zero (t : Wk) (f : Nat) : t.cut f 0 = t := by
  obtain ⟨l, a, kl, ac⟩ := t
  simp [Wk.cut, Ed.cutActs]
theorem Wk.cut_len (t : Wk) {f k : Nat} (h : f + k ≤ t.line.length) : (t.cut f k).line.length + k = t.line.length := by
  simp [Wk.cut]; omega
theorem Wk.cut_at (t : Wk) {f k : Nat} (h : f + k < t.line.length) (h' : f < (t.cut f k).line.length) : (t.cut f k).line[f] = t.line[f + k] := by
  simp only [Wk.cut]
  rw [List.getElem_append_right (by simp; omega)]
  simp only [List.length_take, List.getElem_drop]
  congr 1
  omega
theorem Wk.gone_more (t : Wk) {f k : Nat} (h : f + k < t.line.length) : t.gone f (k + 1) = t.gone f k ++ [t.line[f + k]] := by
  unfold Wk.gone
  rw [List.take_succ_eq_append_getElem (by simp; omega), List.getElem_drop]
theorem Wk.cut_more (t : Wk) {f k : Nat} (h : f + k < t.line.length) : t.cut f (k + 1) = ⟨(Ed.apply (t.cut f k).line [⟨2, f, t.line[f + k]⟩]).getD [], t.at', t.kill, (t.cut f k).acts ++ [⟨2, f, t.line[f + k]⟩]⟩ := by
  have hg := t.gone_more h
  unfold Wk.gone at hg
  have hl : f < (t.cut f k).line.length := by have := t.cut_len (f := f) (k := k) (by omega); omega
  have e1 : Ed.one (t.cut f k).line ⟨2, f, t.line[f + k]⟩ = some ((t.cut f k).line.take f ++ (t.cut f k).line.drop (f + 1)) := by
    unfold Ed.one
    rw [if_neg (by simp), if_pos ⟨rfl, by simp, by simpa using hl⟩]
    simp
  have e : Ed.apply (t.cut f k).line [⟨2, f, t.line[f + k]⟩] = some ((t.cut f k).line.take f ++ (t.cut f k).line.drop (f + 1)) := by
    simp only [Ed.apply, e1]
  rw [e]
  have h1 : (t.cut f k).line.take f = t.line.take f := List.take_left' (by simp; omega)
  have h2 : (t.cut f k).line.drop (f + 1) = t.line.drop (f + (k + 1)) := by
    rw [← List.drop_drop (i := 1) (j := f)]
    rw [show (t.cut f k).line.drop f = t.line.drop (f + k) from List.drop_left' (by simp; omega), List.drop_drop]
    congr 1
  rw [Option.getD_some, h1, h2]
  show (⟨_, _, _, t.acts ++ Ed.cutActs f ((t.line.drop f).take (k + 1))⟩ : Wk) = ⟨_, _, _, (t.acts ++ Ed.cutActs f ((t.line.drop f).take k)) ++ _⟩
  rw [hg]
  simp [Ed.cutActs]

section
variable {w0 w w' : World} {g : Nat} {LV KV AV GV : Value} {t : Wk} {go : List Int}
/-- A work, and numbers of the call's own beside it. -/
structure CutW (w0 w : World) (g : Nat) (LV KV AV GV : Value) (t : Wk) (go : List Int) : Prop where
  wk : WkW w0 w g LV KV AV t
  own : OwnI w GV go
  off : ∀ b, GV.ownBlock = some b → w0.heap.size ≤ b ∧ b ≠ g ∧ AV.ownBlock ≠ some b ∧ Off LV t.line b ∧ Off KV t.kill b
theorem CutW.below (h : CutW w0 w g LV KV AV GV t go) (hb : Below w.heap.size w w') : CutW w0 w' g LV KV AV GV t go := ⟨h.wk.below hb, h.own.below hb, h.off⟩
/-- Numbers put behind its own. -/
theorem CutW.more {GV' : Value} {go' : List Int} (h : CutW w0 w g LV KV AV GV t go) (ho : OwnI w' GV' go') (hk : Keep (At GV) w w') (hn : Near w GV GV') : CutW w0 w' g LV KV AV GV' t go' :=
  ⟨⟨h.wk.box.keep hk (fun e => (h.off g e).2.1 rfl), h.wk.line.keepOff hk (fun b e => (h.off b e).2.2.2.1), h.wk.kill.keepOff hk (fun b e => (h.off b e).2.2.2.2), Owns.keep h.wk.acts hk (fun b hb e => (h.off b e).2.2.1 hb), h.wk.low, h.wk.offL, h.wk.offK, h.wk.offA, h.wk.bel.trans (hk.below h.wk.bel.size (fun i e => (h.off i e).1))⟩, ho, fun b hb => by
    rcases hn b hb with k | k
    · exact h.off b k
    · exact ⟨Nat.le_trans h.wk.bel.size k, by have := h.wk.box.lt; omega, fun e => by have := Owns.lt h.wk.acts e; omega, h.wk.line.off k, h.wk.kill.off k⟩⟩
/-- Acts put behind its own, and the row put back. -/
theorem CutW.act {AV' : Value} {A : List EAct} (h : CutW w0 w g LV KV AV GV t go) (ho : OwnRA w' AV' A) (hk : Keep (At AV) w w') (hn : Near w AV AV') : CutW w0 (w'.setCell ⟨g, 3, none⟩ AV') g LV KV AV' GV ⟨t.line, t.at', t.kill, A⟩ go :=
  ⟨(h.wk.act ho hk hn).2, (h.own.keep hk (fun b hb e => (h.off b hb).2.2.1 e)).keep (Keep.setCell w' g 3 AV') (fun b hb e => (h.off b hb).2.1 e), fun b hb => ⟨(h.off b hb).1, (h.off b hb).2.1, fun e => by
    rcases hn b e with k | k
    · exact (h.off b hb).2.2.1 k
    · have := Owns.lt h.own hb; omega, (h.off b hb).2.2.2⟩⟩
/-- Its line put, that lies in new blocks. -/
theorem CutW.lined {L : List Int} {LV' : Value} {w1 : World} (h : CutW w0 w1 g LV KV AV GV t go) (hb : Below w1.heap.size w1 w) (hs : SliceI w LV' L) (hf : ∀ b, LV'.ownBlock = some b → w1.heap.size ≤ b) : CutW w0 (w.setCell ⟨g, 0, none⟩ LV') g LV' KV AV GV ⟨L, t.at', t.kill, t.acts⟩ go :=
  ⟨(h.wk.below hb).lined hs (h.wk.fresh (M := L) hf).1 (h.wk.fresh (M := L) hf).2, (h.own.below hb).keep (Keep.setCell w g 0 LV') (fun b hb e => (h.off b hb).2.1 e), fun b hb => ⟨(h.off b hb).1, (h.off b hb).2.1, (h.off b hb).2.2.1, .inr (fun e => by have := hf b e; have := Owns.lt h.own hb; omega), (h.off b hb).2.2.2.2⟩⟩
end

set_option maxRecDepth 100000 in
set_option maxHeartbeats 8000000 in
theorem ref18_cut {w0 w : World} {g : Nat} {LV KV AV : Value} {t : Wk} (h : WkW w0 w g LV KV AV t) (hl : t.line.length ≤ 100000) (hn : t.acts.length ≤ 100000) {f c : Nat} (hf : f + c ≤ t.line.length) :
    Calls Try.prog 49 #[.pointer (some ⟨g, 0, none⟩), .int .i64 (f : Nat), .int .i64 ((f + c : Nat) : Int)] w fun e w' => ∃ LV KV AV GV, e = .returned GV ∧ CutW w0 w' g LV KV AV GV ⟨(t.cut f c).line, t.cutAt f c, t.kill, (t.cut f c).acts⟩ (t.gone f c) := by
  have HQ := Lib.hid (And.intro hl (And.intro hn hf))
  have H0 : Hid (CutW w0 w g LV KV AV (.slice none 0 0) (t.cut f 0) (t.gone f 0)) := Lib.hid ⟨by rw [Wk.cut_zero]; exact h, by unfold Wk.gone; rw [List.take_zero]; exact OwnI.nil _, fun b hb => (by cases hb)⟩
  obtain ⟨tt, hto⟩ : ∃ tt, f + c = tt := ⟨_, rfl⟩
  have HTO := Lib.hid hto
  rw [hto]
  clear h hl hn hf hto
  go_enter Try.func49, Try.ntmps49
  go_wp2
  go_loopw [7, 8] (fun s7 i wr => ∃ (k : Nat) (j : Nat), i = .int .i64 j ∧ j = f + k ∧ k ≤ c ∧ ∃ LV KV AV, CutW w0 wr g LV KV AV s7 (t.cut f k) (t.gone f k)) (fun _ i _ => tt - (intOf i).toNat)
  case atStart => exact ⟨0, f, rfl, rfl, by omega, _, _, _, H0.out⟩
  case round =>
    obtain ⟨k, j, rfl, hj, hk, LV1, KV1, AV1, hC⟩ := hrel
    have H := Lib.hid hC
    clear hC H0
    obtain ⟨la, lc, rfl⟩ := H.out.wk.line.shape
    obtain ⟨aa, ac, rfl⟩ := H.out.wk.acts.shape
    obtain ⟨ga, gc, rfl⟩ := H.out.own.slice.shape
    have HCL := Lib.hid (t.cut_len (f := f) (k := k) (by have := HQ.out; omega))
    have HJ := Lib.hid hj
    by_cases hlt : k < c
    · have d1 : decide ((j : Int) < (tt : Int)) = true := decide_eq_true (by have := HTO.out; omega)
      have d2 : decide (j < tt) = true := decide_eq_true (by have := HTO.out; omega)
      have hfk : f + k < t.line.length := by have := HQ.out; omega
      have hfl : f < (t.cut f k).line.length := by have := HCL.out; omega
      have HCM := Lib.hid (t.cut_more hfk)
      have HGM := Lib.hid (t.gone_more hfk)
      have HAT := Lib.hid (t.cut_at hfk hfl)
      obtain ⟨rn, hrn⟩ : ∃ rn, t.line[f + k] = rn := ⟨_, rfl⟩
      rw [hrn] at HCM HGM HAT
      have HLE : Hid ((t.cut f k).line.length ≤ 100000 ∧ (t.cut f k).acts.length ≤ 300000 ∧ (t.gone f k).length ≤ 100000) := Lib.hid (by
        have := HQ.out
        refine ⟨by have := HCL.out; omega, ?_, ?_⟩
        · simp [Wk.cut, Ed.cutActs]; omega
        · simp [Wk.gone]; omega)
      have c0 := H.out.wk.cells.1
      have f1 : (f : Int) < ((t.cut f k).line.length : Int) := by omega
      obtain ⟨b0, o0, e0, hb0, hcell⟩ := slice_cell H.out.wk.line hfl
      rw [HAT.out] at hcell
      subst e0
      have HKC : Hid (k < c) := Lib.hid hlt
      clear hfk hrn hlt hj hk HAT
      obtain ⟨T, hT⟩ : ∃ T, t.cut f k = T := ⟨_, rfl⟩
      obtain ⟨G, hG⟩ : ∃ G, t.gone f k = G := ⟨_, rfl⟩
      rw [hT] at H HCM HLE c0 f1 hfl HCL
      rw [hG] at H HGM HLE
      try rw [hT]
      try rw [hG]
      have HTT : Hid (T.at' = t.at' ∧ T.kill = t.kill) := Lib.hid (by rw [← hT]; exact ⟨rfl, rfl⟩)
      clear hT hG
      have HX0 := Lib.hid (Holds.new wr [.int .i64 2, .int .i64 (f : Nat), .int .i64 rn] 69)
      have H1 := Lib.hid (H.out.below (grew_alloc wr (.cells #[.int .i64 2, .int .i64 (f : Nat), .int .i64 rn] 69)))
      have HXG : Hid (wr.heap.size ≠ g ∧ (∀ b, (Value.slice aa T.acts.length ac).ownBlock = some b → b ≠ wr.heap.size) ∧ ∀ b, (Value.slice ga G.length gc).ownBlock = some b → b ≠ wr.heap.size) := Lib.hid ⟨by have := H.out.wk.box.lt; omega, fun b hb => by have := Owns.lt H.out.wk.acts hb; omega, fun b hb => by have := Owns.lt H.out.own hb; omega⟩
      have HNEW : Hid (∀ (W : World) b, b = W.heap.size → SliceI (W.alloc (.cells #[.int .i64 rn] 3)) (.slice (some ⟨b, 0, none⟩) 1 1) [rn]) := Lib.hid (fun W b e => by subst e; exact lit_nums W [rn] _)
      go_wp2_with (at_builtin
                   have H1b := Lib.hid (H1.out.below (grew_alloc _ (.cells #[.int .i64 rn] 3)))
                   have HX1 := Lib.hid (HX0.out.keep (Keep.alloc Non _ (.cells #[.int .i64 rn] 3)) (fun h => h))
                   refine wp_append_nums rfl (.tmp 28) (.tmp 31) rfl (.slice ga G.length gc) G rfl H1b.out.own _ [rn] rfl (HNEW.out _ _ (by simp)) (by have := HLE.out; simp; omega) ?_
                   intro v2 w2 ho2 hk2 hn2
                   obtain ⟨ua, uc, e1⟩ := ho2.slice.shape
                   subst e1
                   have H2 := Lib.hid (H1b.out.more ho2 hk2 hn2)
                   have HX2 := Lib.hid (HX1.out.keep hk2 (fun e => HXG.out.2.2 _ e rfl))
                   clear ho2 hk2 hn2)
      clear c0 hcell
      obtain ⟨xb, hxb⟩ : ∃ xb, wr.heap.size = xb := ⟨_, rfl⟩
      rw [hxb] at HX2 HXG ⊢
      clear hxb HX0
      have c3 := H2.out.wk.cells.2.2.2
      have f3 := H2.out.wk.box.frozen 3
      have x0 := HX2.out.cell 0 (by simp)
      have x1 := HX2.out.cell 1 (by simp)
      have x2 := HX2.out.cell 2 (by simp)
      simp only [List.getElem_cons_zero, List.getElem_cons_succ] at x0 x1 x2
      have y3 : (w2.alloc (.cells #[.int .i64 2, .int .i64 (f : Nat), .int .i64 rn] 69)).cell? ⟨g, 3, none⟩ = some (.slice aa T.acts.length ac) := (H2.out.wk.below (grew_alloc _ _)).cells.2.2.2
      have HX6 : Hid (∀ w6, Keep (At (.slice aa T.acts.length ac)) w2 w6 → w6.cell? ⟨g, 3, none⟩ = some (.slice aa T.acts.length ac) ∧ w6.frozen? ⟨g, 3, none⟩ = false) := Lib.hid (fun w6 hk => by
        have hh := H2.out.wk.box.keep hk (fun e => (H2.out.wk.offA g e).2.1 rfl)
        exact ⟨hh.cell 3 (by simp), hh.frozen 3⟩)
      have HONE : Hid (∀ u ∈ [Value.int .i64 2, .int .i64 (f : Nat), .int .i64 rn], u.oneCell' = true) := Lib.hid (by intro u hu; simp at hu; rcases hu with rfl | rfl | rfl <;> rfl)
      have HOW : Hid (Owns w2 69 3 (.slice aa T.acts.length ac) T.acts.length (actCells T.acts)) := Lib.hid H2.out.wk.acts
      go_region_law ((refine step_append_lit (w := w2) rfl (.tmp 37) (.tmp 39) rfl Try.underlying35 info_actR rfl (by decide) (by decide) (.slice aa T.acts.length ac) T.acts.length (actCells T.acts) rfl HOW.out 1 [.int .i64 2, .int .i64 (f : Nat), .int .i64 rn] _ rfl rfl rfl HONE.out (by have := HLE.out; omega) ?_; intro va2 cap2 w3 ho2 hk2 hn2; have HM2 := Lib.hid (And.intro ho2 (And.intro hk2 hn2)); obtain ⟨z3, zf⟩ := HX6.out w3 hk2; clear ho2 hk2 hn2))
      all_goals
        clear c3 f3 x0 x1 x2 y3 z3 zf
        have HW4 : Hid (CutW w0 (w3.setCell ⟨g, 3, none⟩ (.slice va2 (T.acts.length + 1) cap2)) g (.slice (some ⟨b0, o0, none⟩) T.line.length lc) KV1 (.slice va2 (T.acts.length + 1) cap2) (.slice ua (G ++ [rn]).length uc) ⟨T.line, T.at', T.kill, T.acts ++ [⟨2, f, rn⟩]⟩ (G ++ [rn])) := Lib.hid (H2.out.act (A := T.acts ++ [⟨2, f, rn⟩]) (by unfold OwnRA; rw [List.length_append, actCells_app]; exact HM2.out.1) HM2.out.2.1 HM2.out.2.2)
        have HX4 := Lib.hid ((HX2.out.keep HM2.out.2.1 (fun e => HXG.out.2.1 _ e rfl)).keep (Keep.setCell w3 g 3 (.slice va2 (T.acts.length + 1) cap2)) (fun e => HXG.out.1 e))
        generalize w3.setCell ⟨g, 3, none⟩ (.slice va2 (T.acts.length + 1) cap2) = W4 at *
        have HAP : Hid (∀ W u, Below W4.heap.size W4 W → SliceG 3 EAct.cells W u [⟨2, f, rn⟩] → Calls Try.prog 15 #[.slice (some ⟨b0, o0, none⟩) T.line.length lc, u] W fun e w' => ∃ V, e = .returned (.tuple #[V, .bool (Ed.apply T.line [⟨2, f, rn⟩]).isSome]) ∧ SliceI w' V ((Ed.apply T.line [⟨2, f, rn⟩]).getD []) ∧ (∀ b, V.ownBlock = some b → W4.heap.size ≤ b) ∧ Below W4.heap.size W4 w') := Lib.hid (fun W u hb hu => (ref18_Apply _ u T.line _ W (HW4.out.wk.line.below hb) hu (by have := HLE.out; omega) (by simp)).mono fun e w' ⟨V, h1, h2, h3, h4⟩ => ⟨V, h1, h2, fun b hb' => Nat.le_trans hb.size (h3 b hb'), grew hb h4⟩)
        have c0 := HW4.out.wk.cells.1
        have x0 := HX4.out.cell 0 (by simp)
        have x1 := HX4.out.cell 1 (by simp)
        have x2 := HX4.out.cell 2 (by simp)
        simp only [List.getElem_cons_zero, List.getElem_cons_succ] at x0 x1 x2
        have y0 : (W4.alloc (.cells #[.int .i64 2, .int .i64 (f : Nat), .int .i64 rn] 69)).cell? ⟨g, 0, none⟩ = some (.slice (some ⟨b0, o0, none⟩) T.line.length lc) := (HW4.out.wk.below (grew_alloc _ _)).cells.1
        have HLA := Lib.hid (lit_act W4 ⟨2, f, rn⟩)
        go_wp2_with fail
        go_region_with ((go_at_call 15; refine (HAP.out _ _ (by first | exact grew (grew_alloc _ _) (grew_drew _) | exact grew_alloc _ _) (by first | exact HLA.out.below (grew_drew _) | exact HLA.out)).mono ?_; rintro e W5 ⟨V, rfl, hv, hf, hb5⟩; have HV := Lib.hid (And.intro hv (And.intro hf hb5)); clear hv hf hb5))
        all_goals
          obtain ⟨va, vc, rfl⟩ := HV.out.1.shape
          have H6 := Lib.hid (HW4.out.lined HV.out.2.2 HV.out.1 HV.out.2.1)
          have H5 := Lib.hid (HW4.out.wk.below HV.out.2.2)
          clear c0 x0 x1 x2 y0
          have k0 := H5.out.cells.1
          have z0 := H5.out.box.frozen 0
          have hjb : j ≤ 200000 := by have := HJ.out; have := HKC.out; have := HQ.out; omega
          generalize (Ed.apply T.line [⟨2, (f : Int), rn⟩]).getD [] = M at *
          go_wp2
          go_roundw
          case rel => exact ⟨k + 1, j + 1, by go_num, by have := HJ.out; omega, by have := HKC.out; omega, _, _, _, by rw [HCM.out, HGM.out, ← HTT.out.1, ← HTT.out.2]; have h6 := H6.out; rw [show (G ++ [rn]).length = G.length + 1 from by simp] at h6; exact h6⟩
          case measure => simp [intOf]; have := HJ.out; have := HKC.out; have := HTO.out; omega
    · obtain rfl : k = c := by omega
      have d1 : decide ((j : Int) < (tt : Int)) = false := decide_eq_false (by have := HTO.out; omega)
      have d2 : decide (j < tt) = false := decide_eq_false (by have := HTO.out; omega)
      by_cases h0 : k = 0
      · have e1 : decide ((f : Int) < (tt : Int)) = false := decide_eq_false (by have := HTO.out; omega)
        have e2 : decide (f < tt) = false := decide_eq_false (by have := HTO.out; omega)
        have HE : Hid (t.cutAt f k = t.at') := Lib.hid (if_pos h0)
        clear h0 hlt hj hk
        go_wp2
        go_ret
        exact ⟨_, _, _, _, rfl, by rw [HE.out]; exact H.out⟩
      · have e1 : decide ((f : Int) < (tt : Int)) = true := decide_eq_true (by have := HTO.out; omega)
        have e2 : decide (f < tt) = true := decide_eq_true (by have := HTO.out; omega)
        have HE : Hid (t.cutAt f k = f) := Lib.hid (if_neg h0)
        have k1 := H.out.wk.cells.2.1
        have z1 := H.out.wk.box.frozen 1
        have H7 := Lib.hid (H.out.wk.caret f)
        clear h0 hlt hj hk
        go_wp2
        go_ret
        exact ⟨_, _, _, _, rfl, by rw [HE.out]; exact ⟨H7.out, H.out.own.keep (Keep.setCell wr g 1 _) (fun b hb e => (H.out.off b hb).2.1 e), H.out.off⟩⟩
end Go.Proofs.Ytakjoodlediemaa
