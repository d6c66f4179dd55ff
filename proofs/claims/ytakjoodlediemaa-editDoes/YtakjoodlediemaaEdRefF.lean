/- The reference's Do. -/
import Derived.Test.YtakjoodlediemaaEdRefE
import Derived.Deep.RegionHeld3
import Derived.Deep.Cut
import Derived.Deep.CutBlock
namespace Go.Proofs.Ytakjoodlediemaa
open Go.RowKit
set_option linter.unusedVariables false

/-- 'append(v, u...)' at numbers in a region that draws its order. -/
theorem step_append_nums {w : World} {ops : Array Oper} {o : Oper} {a : Act} {K : Act → World → Prop} {Q : Exit → Act → World → Prop} {E : Prop} (hgd : o.guard = none) (s x : Operand)
    (ho : o.op = .call { callee := .builtin .append, args := #[s, x], argTypes := #[22, 22] })
    (v : Value) (xs : List Int) (hs : a.eval s = v) (hown : OwnI w v xs) (u : Value) (ys : List Int) (hx : a.eval x = u) (hu : SliceI w u ys) (hlen : xs.length + ys.length ≤ 1000000000)
    (h : ∀ va cap w', OwnI w' (.slice va (xs ++ ys).length cap) (xs ++ ys) → Keep (At v) w w' → Near w v (.slice va (xs ++ ys).length cap) → K (a.put o.dst (.slice va (xs ++ ys).length cap)) w') :
    if Region.wanted o (yielded ops a.tmps) = true then Oper.wp Try.prog o a w K Q else E := by
  obtain ⟨ad, cap, rfl, hcap, hrow⟩ := hu
  cases ad with
  | none =>
    obtain rfl : ys = [] := by
      rcases hrow with h | ⟨b, off, h, _⟩
      · exact h
      · cases h
    obtain ⟨i0, hi, hz0, hz1, hz2⟩ := info_parts info_i64
    have hw : Region.wanted o (yielded ops a.tmps) = true := by simp [Region.wanted, hgd]
    rw [if_pos hw]
    have hr : (Builtin.append_ #[22, 22] o.type #[v, .slice none 0 cap]).run Try.prog w = .ok v w := by
      rcases hown.2 with ⟨rfl, _⟩ | ⟨g, cp, cur, rfl, _, _, hn, _⟩
      · simp [Builtin.append_, run_underlying Try.underlying22, sizeOf, typeInfo, hi, Builtin.lenOf, Builtin.firstCells]
      · simp [Builtin.append_, run_underlying Try.underlying22, sizeOf, typeInfo, hi, Builtin.lenOf, Builtin.firstCells, hn, storeCells]
    obtain ⟨va, c, hvf⟩ := hown.slice.shape
    unfold Oper.wp execOp
    simp only [ho, resolve, invoke, builtin, Sem.run_bind, Sem.run_pure, Result.andThen_ok, List.map_toArray, List.map_cons, List.map_nil, hs, hx, List.length_nil, hr]
    have hh := h va c w
    rw [List.append_nil, ← hvf] at hh
    exact hh hown (Keep.refl _ _) (fun g hg => .inl hg)
  | some ad =>
    refine step_append_form hgd s x ho Try.underlying22 info_i64 rfl (by decide) (by decide) v xs.length (intCells xs) hs hown ad ys.length cap (intCells ys) hx (by simp [intCells]) ?_ (nums_one ys) hlen ?_
    · rcases hrow with rfl | ⟨b, off, e, hb, hcells⟩
      · intro j u hu; simp [intCells] at hu
      · injection e with e
        subst e
        exact cells_news hcells
    · intro va cap w' k1 k2 k3
      have e : (xs ++ ys).length = xs.length + ys.length := List.length_append
      have hh := h va cap w'
      unfold OwnI at hh
      rw [e, show intCells (xs ++ ys) = intCells xs ++ intCells ys from by simp [intCells]] at hh
      exact hh k1 k2 k3

/-- What a key does. -/
def Wk.deed (t : Wk) (k r : Int) : Wk :=
  if k = 1 then (t.put r).1 else if k = 2 then t.ctrl r
  else if k = 3 then (if r = 98 then t.goto (Ed.wordBack t.line t.at') else if r = 102 then t.goto (Ed.wordOn t.line t.at') else if r = 100 then t.kil t.at' (Ed.wordOn t.line t.at' - t.at') else if r = 127 then t.kil (Ed.wordBack t.line t.at') (t.at' - Ed.wordBack t.line t.at') else t)
  else if k = 6 then t.ctrl 102 else if k = 7 then t.ctrl 98 else if k = 8 then t.ctrl 97 else if k = 9 then t.ctrl 101 else if k = 10 then t.ctrl 100 else t

theorem Wk.cut_le (t : Wk) (f c : Nat) : (t.cut f c).line.length ≤ t.line.length ∧ (t.gone f c).length ≤ t.line.length := by
  simp [Wk.cut, Wk.gone]; omega
theorem Wk.kil_le (t : Wk) (f c : Nat) : (t.kil f c).line.length ≤ t.line.length ∧ (t.kil f c).kill.length ≤ t.line.length + t.kill.length := by
  have := t.cut_le f c
  unfold Wk.kil
  split
  · exact ⟨by omega, by omega⟩
  · exact ⟨this.1, by have := this.2; simp only; omega⟩
theorem Wk.yank_le : ∀ (l : List Int) (t : Wk), (t.yank l).line.length ≤ t.line.length + l.length ∧ (t.yank l).kill = t.kill
  | [], t => ⟨by simp [Wk.yank], rfl⟩
  | r :: l, t => by
    have hp := t.put_le r
    have hy := Wk.yank_le l (t.put r).1
    unfold Wk.yank
    split
    · exact ⟨by simp only [List.length_cons]; omega, hy.2.trans hp.2.2.2⟩
    · exact ⟨by simp only [List.length_cons]; omega, hp.2.2.2⟩
theorem Wk.swp_le (t : Wk) : t.swp.line.length ≤ t.line.length + 1 ∧ t.swp.kill = t.kill := by
  unfold Wk.swp
  split
  · exact ⟨by omega, rfl⟩
  · have hp := Wk.put_le ⟨(t.cut (t.swapI - 1) 1).line, t.swapI, t.kill, (t.cut (t.swapI - 1) 1).acts⟩ (t.line.getD (t.swapI - 1) 0)
    have hc := t.cut_le (t.swapI - 1) 1
    exact ⟨by have := hp.1; simp only at this; omega, hp.2.2.2⟩
theorem Wk.ctrl_le (t : Wk) (c : Int) : (t.ctrl c).line.length ≤ t.line.length + t.kill.length + 1 ∧ (t.ctrl c).kill.length ≤ t.line.length + t.kill.length := by
  have h1 := fun f c => t.cut_le f c
  have h2 := fun f c => t.kil_le f c
  have h3 := Wk.yank_le t.kill t
  have h4 := t.swp_le
  unfold Wk.ctrl
  repeat' split
  all_goals first
    | (simp only [Wk.goto]; omega)
    | (simp only [Wk.cutTo]; have := h1 (t.at' - 1) (t.at' - (t.at' - 1)); omega)
    | (simp only [Wk.cutTo]; have := h1 t.at' (min (t.at' + 1) t.line.length - t.at'); omega)
    | (have := h2 t.at' (t.line.length - t.at'); omega)
    | (have := h2 0 t.at'; omega)
    | (have := h2 (Ed.wordBack t.line t.at') (t.at' - Ed.wordBack t.line t.at'); omega)
    | (rw [h3.2]; omega)
    | (rw [h4.2]; omega)
    | omega
theorem Wk.deed_le (t : Wk) (k r : Int) : (t.deed k r).line.length ≤ t.line.length + t.kill.length + 1 ∧ (t.deed k r).kill.length ≤ t.line.length + t.kill.length := by
  have h1 := t.put_le r
  have h2 := fun f c => t.kil_le f c
  have h3 := fun c => t.ctrl_le c
  unfold Wk.deed
  repeat' split
  all_goals first
    | exact h3 _
    | (rw [h1.2.2.2]; omega)
    | (simp only [Wk.goto]; omega)
    | (have := h2 t.at' (Ed.wordOn t.line t.at' - t.at'); omega)
    | (have := h2 (Ed.wordBack t.line t.at') (t.at' - Ed.wordBack t.line t.at'); omega)
    | omega
theorem do_results (tmps : Array Value) (g : Nat) (L K A : Value) (i : Int) (W : World) (h0 : W.cell? ⟨g, 0, none⟩ = some L) (h1 : W.cell? ⟨g, 1, none⟩ = some (.int .i64 i)) (h2 : W.cell? ⟨g, 2, none⟩ = some K) (t4 : tmps.getD 4 undef = .pointer (some ⟨g, 0, none⟩)) (t5 : tmps.getD 5 undef = A) :
    (results Try.f9 tmps).run Try.prog W = .ok (.tuple #[.agg #[L, .int .i64 i, K], A]) W := by
  have u4 : tmps[4]?.getD undef = .pointer (some ⟨g, 0, none⟩) := by simpa using t4
  have u5 : tmps[5]?.getD undef = A := by simpa using t5
  simp [results, Try.results9, go_sem, u4, u5, h0, h1, h2]

set_option maxRecDepth 100000 in
set_option maxHeartbeats 16000000 in
theorem ref18_Do (lv kv : Value) (l kl : List Int) (z k r : Int) (w : World) (hv : SliceI w lv l) (hkv : SliceI w kv kl) (hl : l.length ≤ 10000) (hkl : kl.length ≤ 10000) :
    Calls Try.prog 9 #[.agg #[lv, .int .i64 z, kv], .agg #[.int .i64 k, .int .i64 r]] w fun e w' => ∃ LV KV AV, e = .returned (.tuple #[.agg #[LV, .int .i64 (((⟨l, Ed.caret l z, kl, []⟩ : Wk).deed k r).at' : Nat), KV], AV]) ∧ SliceI w' LV ((⟨l, Ed.caret l z, kl, []⟩ : Wk).deed k r).line ∧ SliceI w' KV ((⟨l, Ed.caret l z, kl, []⟩ : Wk).deed k r).kill ∧ SliceG 3 EAct.cells w' AV ((⟨l, Ed.caret l z, kl, []⟩ : Wk).deed k r).acts ∧ Below w.heap.size w w' := by
  obtain ⟨va, vc, rfl⟩ := hv.shape
  obtain ⟨ka, kc, rfl⟩ := hkv.shape
  have HCA := Lib.hid (fun W => ref18_held va vc l z W)
  have HCL := Lib.hid (Ed.caret_le l z)
  have HV := Lib.hid hv
  have HK := Lib.hid hkv
  clear hv hkv
  generalize Ed.caret l z = at' at *
  have HS0 := Lib.hid (((Holds.new w [.slice va l.length vc, .int .i64 z, .slice ka kl.length kc] 24).keep (Keep.alloc Non _ (.cells #[.int .i64 k, .int .i64 r] 26)) (fun h => h)).keep (Keep.alloc Non _ (.cells #[.slice none 0 0, .int .i64 0, .slice none 0 0] 24)) (fun h => h))
  have HK0 := Lib.hid ((Holds.new (w.alloc (.cells #[.slice va l.length vc, .int .i64 z, .slice ka kl.length kc] 24)) [.int .i64 k, .int .i64 r] 26).keep (Keep.alloc Non _ (.cells #[.slice none 0 0, .int .i64 0, .slice none 0 0] 24)) (fun h => h))
  have HZ0 := Lib.hid (Holds.new ((w.alloc (.cells #[.slice va l.length vc, .int .i64 z, .slice ka kl.length kc] 24)).alloc (.cells #[.int .i64 k, .int .i64 r] 26)) [.slice none 0 0, .int .i64 0, .slice none 0 0] 24)
  have HG0 := Lib.hid (grew (grew (grew_alloc w (.cells #[.slice va l.length vc, .int .i64 z, .slice ka kl.length kc] 24)) (grew_alloc _ (.cells #[.int .i64 k, .int .i64 r] 26))) (grew_alloc _ (.cells #[.slice none 0 0, .int .i64 0, .slice none 0 0] 24)))
  have HSZ : Hid ((((w.alloc (.cells #[.slice va l.length vc, .int .i64 z, .slice ka kl.length kc] 24)).alloc (.cells #[.int .i64 k, .int .i64 r] 26)).alloc (.cells #[.slice none 0 0, .int .i64 0, .slice none 0 0] 24)).heap.size = w.heap.size + 1 + 1 + 1) := Lib.hid (by simp)
  go_enter Try.func9, Try.ntmps9
  go_wp2_with fail
  simp only [World.size_alloc] at HK0 HZ0
  generalize ((w.alloc (.cells #[.slice va l.length vc, .int .i64 z, .slice ka kl.length kc] 24)).alloc (.cells #[.int .i64 k, .int .i64 r] 26)).alloc (.cells #[.slice none 0 0, .int .i64 0, .slice none 0 0] 24) = W0 at *
  obtain ⟨g, hg⟩ : ∃ g, w.heap.size + 1 + 1 + 1 = g := ⟨_, rfl⟩
  obtain ⟨b4, hb4⟩ : ∃ b4, w.heap.size + 1 + 1 = b4 := ⟨_, rfl⟩
  obtain ⟨b3, hb3⟩ : ∃ b3, w.heap.size + 1 = b3 := ⟨_, rfl⟩
  obtain ⟨b2, hb2⟩ : ∃ b2, w.heap.size = b2 := ⟨_, rfl⟩
  have HN : Hid (b2 < b3 ∧ b3 < b4 ∧ b4 < g ∧ W0.heap.size = g ∧ w.heap.size = b2) := Lib.hid (by have := HSZ.out; omega)
  have e23 : b2 ≠ g := by omega
  have e33 : b3 ≠ g := by omega
  have e43 : b4 ≠ g := by omega
  rw [hg] at HSZ ⊢
  rw [hb4] at HZ0 ⊢
  rw [hb3] at HK0 ⊢
  rw [hb2] at HS0 ⊢
  clear hg hb4 hb3 hb2
  refine (HCA.out _).mono ?_
  rintro e w1 ⟨rfl, h1⟩
  subst h1
  have HG1 := Lib.hid (Holds.new W0 [.slice va l.length vc, .int .i64 z, .slice ka kl.length kc, .slice none 0 0] 64)
  rw [HSZ.out] at HG1
  have HA1 := Lib.hid (grew_alloc W0 (.cells #[.slice va l.length vc, .int .i64 z, .slice ka kl.length kc, .slice none 0 0] 64))
  generalize W0.alloc (.cells #[.slice va l.length vc, .int .i64 z, .slice ka kl.length kc, .slice none 0 0] 64) = W1 at *
  have HVO : Hid (SliceI W0 (.slice va l.length vc) l ∧ SliceI W0 (.slice ka kl.length kc) kl) := Lib.hid ⟨HV.out.below HG0.out, HK.out.below HG0.out⟩
  have HW1 : Hid (WkW W0 (W1.setCell ⟨g, 1, none⟩ (.int .i64 (at' : Nat))) g (.slice va l.length vc) (.slice ka kl.length kc) (.slice none 0 0) ⟨l, at', kl, []⟩) := Lib.hid (by
    have hs := Keep.setCell W1 g 1 (.int .i64 (at' : Nat))
    have hn := HN.out
    exact ⟨HG1.out.set 1 _ (by simp), (HVO.out.1.below HA1.out).keepOff hs (fun b e => by rw [show b = g from e]; exact HVO.out.1.off (by omega)), (HVO.out.2.below HA1.out).keepOff hs (fun b e => by rw [show b = g from e]; exact HVO.out.2.off (by omega)), OwnRA.nil _, by omega, HVO.out.1.off (by omega), HVO.out.2.off (by omega), fun b hb => (by cases hb), HA1.out.setCell (by simp only; omega) _⟩)
  have c1 := HG1.out.cell 1 (by simp)
  have f1 := HG1.out.frozen 1
  have x0 := (HK0.out.keep (Keep.of_grew HA1.out Non) (fun h => h)).cell 0 (by simp)
  simp only [List.getElem_cons_succ, List.getElem_cons_zero] at c1 x0
  go_upto_block 0 with fail
  clear c1 f1 x0
  generalize W1.setCell ⟨g, 1, none⟩ (.int .i64 (at' : Nat)) = W2 at *
  have HS2 := Lib.hid (HS0.out.keep (Keep.of_below HW1.out.bel) (by have := HN.out; omega))
  have HK2 := Lib.hid (HK0.out.keep (Keep.of_below HW1.out.bel) (by have := HN.out; omega))
  have y0 := HS2.out.cell 0 (by simp)
  have x1 := HK2.out.cell 1 (by simp)
  simp only [List.getElem_cons_succ, List.getElem_cons_zero] at y0 x1
  have hcl := HCL.out
  go_cut [7] from 28 to 101 (fun s7 wx => s7 = .int .i64 (at' : Nat) ∧ WkStep W0 wx g ((⟨l, at', kl, []⟩ : Wk).deed k r))
  case first =>
    by_cases q1 : k = 1
    · subst q1
      have HC := Lib.hid (ref18_put HW1.out (by simp only; omega) (by simp only; omega) (by simp) r)
      go_wp2_with fail
      refine HC.out.mono ?_
      rintro e W3 ⟨rfl, hS⟩
      have HS := Lib.hid hS
      clear hS
      go_wp2
      go_meet
      exact ⟨rfl, HS.out⟩
    by_cases q2 : k = 2
    · subst q2
      have HC := Lib.hid (ref18_ctrl HW1.out (by simp only; omega) (by simp) hcl (by simp only; omega) HVO.out.2 r)
      go_wp2_with fail
      refine HC.out.mono ?_
      rintro e W3 ⟨⟨u, rfl⟩, hS⟩
      have HS := Lib.hid hS
      clear hS
      go_wp2
      go_meet
      exact ⟨rfl, HS.out⟩
    by_cases q6 : k = 6
    · subst q6
      have HC := Lib.hid (ref18_ctrl HW1.out (by simp only; omega) (by simp) hcl (by simp only; omega) HVO.out.2 102)
      go_wp2_with fail
      refine HC.out.mono ?_
      rintro e W3 ⟨⟨u, rfl⟩, hS⟩
      have HS := Lib.hid hS
      clear hS
      go_wp2
      go_meet
      exact ⟨rfl, HS.out⟩
    by_cases q7 : k = 7
    · subst q7
      have HC := Lib.hid (ref18_ctrl HW1.out (by simp only; omega) (by simp) hcl (by simp only; omega) HVO.out.2 98)
      go_wp2_with fail
      refine HC.out.mono ?_
      rintro e W3 ⟨⟨u, rfl⟩, hS⟩
      have HS := Lib.hid hS
      clear hS
      go_wp2
      go_meet
      exact ⟨rfl, HS.out⟩
    by_cases q8 : k = 8
    · subst q8
      have HC := Lib.hid (ref18_ctrl HW1.out (by simp only; omega) (by simp) hcl (by simp only; omega) HVO.out.2 97)
      go_wp2_with fail
      refine HC.out.mono ?_
      rintro e W3 ⟨⟨u, rfl⟩, hS⟩
      have HS := Lib.hid hS
      clear hS
      go_wp2
      go_meet
      exact ⟨rfl, HS.out⟩
    by_cases q9 : k = 9
    · subst q9
      have HC := Lib.hid (ref18_ctrl HW1.out (by simp only; omega) (by simp) hcl (by simp only; omega) HVO.out.2 101)
      go_wp2_with fail
      refine HC.out.mono ?_
      rintro e W3 ⟨⟨u, rfl⟩, hS⟩
      have HS := Lib.hid hS
      clear hS
      go_wp2
      go_meet
      exact ⟨rfl, HS.out⟩
    by_cases q10 : k = 10
    · subst q10
      have HC := Lib.hid (ref18_ctrl HW1.out (by simp only; omega) (by simp) hcl (by simp only; omega) HVO.out.2 100)
      go_wp2_with fail
      refine HC.out.mono ?_
      rintro e W3 ⟨⟨u, rfl⟩, hS⟩
      have HS := Lib.hid hS
      clear hS
      go_wp2
      go_meet
      exact ⟨rfl, HS.out⟩
    by_cases q3 : k = 3
    · subst q3
      have HWB := Lib.hid (ref18_Word_back _ l (at' : Int) W2 HW1.out.line (by unfold maxLen; omega))
      have HWO := Lib.hid (ref18_Word_on _ l (at' : Int) W2 HW1.out.line (by unfold maxLen; omega))
      rw [Ed.caret_in hcl] at HWB HWO
      have hwb := Ed.wordBack_le l at'
      have hwo := Ed.wordOn_ge l at'
      have hwl := Ed.wordOn_le l at' hcl
      have k1 := HW1.out.cells.2.1
      have z1 := HW1.out.box.frozen 1
      by_cases p98 : r = 98
      · subst p98
        have HE : Hid ((⟨l, at', kl, []⟩ : Wk).deed 3 98 = (⟨l, at', kl, []⟩ : Wk).goto (Ed.wordBack l at')) := Lib.hid rfl
        have HM := Lib.hid (HW1.out.caret (Ed.wordBack l at'))
        generalize Ed.wordBack l at' = x at *
        go_wp2_with fail
        refine HWB.out.mono ?_
        rintro e w3 ⟨rfl, h3⟩
        subst h3
        go_wp2
        go_meet
        exact ⟨rfl, by rw [HE.out]; exact ⟨_, _, _, HM.out⟩⟩
      by_cases p102 : r = 102
      · subst p102
        have HE : Hid ((⟨l, at', kl, []⟩ : Wk).deed 3 102 = (⟨l, at', kl, []⟩ : Wk).goto (Ed.wordOn l at')) := Lib.hid rfl
        have HM := Lib.hid (HW1.out.caret (Ed.wordOn l at'))
        generalize Ed.wordOn l at' = x at *
        go_wp2_with fail
        refine HWO.out.mono ?_
        rintro e w3 ⟨rfl, h3⟩
        subst h3
        go_wp2
        go_meet
        exact ⟨rfl, by rw [HE.out]; exact ⟨_, _, _, HM.out⟩⟩
      by_cases p100 : r = 100
      · subst p100
        have HE : Hid ((⟨l, at', kl, []⟩ : Wk).deed 3 100 = (⟨l, at', kl, []⟩ : Wk).kil at' (Ed.wordOn l at' - at')) := Lib.hid rfl
        have HC := Lib.hid (ref18_kill HW1.out (by simp only; omega) (by simp) (f := at') (c := Ed.wordOn l at' - at') (tt := Ed.wordOn l at') (by simp only; omega) (by omega))
        generalize Ed.wordOn l at' = x at *
        go_wp2_with fail
        refine HWO.out.mono ?_
        rintro e w3 ⟨rfl, h3⟩
        subst h3
        go_wp2_with fail
        refine HC.out.mono ?_
        rintro e W3 ⟨⟨u, rfl⟩, hS⟩
        have HS := Lib.hid hS
        clear hS
        go_wp2
        go_meet
        exact ⟨rfl, by rw [HE.out]; exact HS.out⟩
      by_cases p127 : r = 127
      · subst p127
        have HE : Hid ((⟨l, at', kl, []⟩ : Wk).deed 3 127 = (⟨l, at', kl, []⟩ : Wk).kil (Ed.wordBack l at') (at' - Ed.wordBack l at')) := Lib.hid rfl
        have HC := Lib.hid (ref18_kill HW1.out (by simp only; omega) (by simp) (f := Ed.wordBack l at') (c := at' - Ed.wordBack l at') (tt := at') (by simp only; omega) (by omega))
        generalize Ed.wordBack l at' = x at *
        go_wp2_with fail
        refine HWB.out.mono ?_
        rintro e w3 ⟨rfl, h3⟩
        subst h3
        go_wp2_with fail
        refine HC.out.mono ?_
        rintro e W3 ⟨⟨u, rfl⟩, hS⟩
        have HS := Lib.hid hS
        clear hS
        go_wp2
        go_meet
        exact ⟨rfl, by rw [HE.out]; exact HS.out⟩
      have HE : Hid ((⟨l, at', kl, []⟩ : Wk).deed 3 r = (⟨l, at', kl, []⟩ : Wk)) := Lib.hid (by simp [Wk.deed, p98, p102, p100, p127])
      have d98 : (r == 98) = false := beq_eq_false_iff_ne.2 p98
      have e98 : decide (r = 98) = false := decide_eq_false p98
      have d102 : (r == 102) = false := beq_eq_false_iff_ne.2 p102
      have e102 : decide (r = 102) = false := decide_eq_false p102
      have d100 : (r == 100) = false := beq_eq_false_iff_ne.2 p100
      have e100 : decide (r = 100) = false := decide_eq_false p100
      have d127 : (r == 127) = false := beq_eq_false_iff_ne.2 p127
      have e127 : decide (r = 127) = false := decide_eq_false p127
      clear p98 p102 p100 p127
      go_wp2
      go_meet
      exact ⟨rfl, by rw [HE.out]; exact ⟨_, _, _, HW1.out⟩⟩
    have HE : Hid ((⟨l, at', kl, []⟩ : Wk).deed k r = (⟨l, at', kl, []⟩ : Wk)) := Lib.hid (by simp [Wk.deed, q1, q2, q3, q6, q7, q8, q9, q10])
    have d1 : (k == 1) = false := beq_eq_false_iff_ne.2 q1
    have f1 : decide (k = 1) = false := decide_eq_false q1
    have d2 : (k == 2) = false := beq_eq_false_iff_ne.2 q2
    have f2 : decide (k = 2) = false := decide_eq_false q2
    have d3 : (k == 3) = false := beq_eq_false_iff_ne.2 q3
    have f3 : decide (k = 3) = false := decide_eq_false q3
    have d6 : (k == 6) = false := beq_eq_false_iff_ne.2 q6
    have f6 : decide (k = 6) = false := decide_eq_false q6
    have d7 : (k == 7) = false := beq_eq_false_iff_ne.2 q7
    have f7 : decide (k = 7) = false := decide_eq_false q7
    have d8 : (k == 8) = false := beq_eq_false_iff_ne.2 q8
    have f8 : decide (k = 8) = false := decide_eq_false q8
    have d9 : (k == 9) = false := beq_eq_false_iff_ne.2 q9
    have f9 : decide (k = 9) = false := decide_eq_false q9
    have d10 : (k == 10) = false := beq_eq_false_iff_ne.2 q10
    have f10 : decide (k = 10) = false := decide_eq_false q10
    clear q1 q2 q3 q6 q7 q8 q9 q10
    go_wp2
    go_meet
    exact ⟨rfl, by rw [HE.out]; exact ⟨_, _, _, HW1.out⟩⟩
  case rest =>
    obtain ⟨rfl, LV, KV, AV, hW⟩ := hcut
    obtain ⟨D, hD⟩ : ∃ D, (⟨l, at', kl, []⟩ : Wk).deed k r = D := ⟨_, rfl⟩
    rw [hD] at hW
    have HD := Lib.hid hD
    have HW := Lib.hid hW
    have HLD : Hid (D.line.length ≤ 1000000 ∧ D.kill.length ≤ 1000000) := Lib.hid (by have := Wk.deed_le ⟨l, at', kl, []⟩ k r; rw [hD] at this; simp only at this; omega)
    clear hD y0 x1
    obtain ⟨_, c1, _, _⟩ := hW.cells
    clear hW
    have HX8 := Lib.hid (Holds.new wc [.slice none 0 0, .int .i64 (D.at' : Nat), .slice none 0 0] 24)
    have HB8 := Lib.hid (grew_alloc wc (.cells #[.slice none 0 0, .int .i64 (D.at' : Nat), .slice none 0 0] 24))
    have HS8 : Hid (wc.heap.size < (wc.alloc (.cells #[.slice none 0 0, .int .i64 (D.at' : Nat), .slice none 0 0] 24)).heap.size) := Lib.hid (by simp)
    go_wp2_with fail
    generalize wc.alloc (.cells #[.slice none 0 0, .int .i64 (D.at' : Nat), .slice none 0 0] 24) = W8 at *
    have HW8 := Lib.hid (HW.out.below HB8.out)
    obtain ⟨b8, hb8⟩ : ∃ b8, wc.heap.size = b8 := ⟨_, rfl⟩
    have HN8 : Hid (W0.heap.size ≤ b8 ∧ g < b8 ∧ b8 < W8.heap.size) := Lib.hid (by have := HW.out.bel.size; have := HW.out.box.lt; have := HS8.out; omega)
    have HE8 : Hid (wc.heap.size ≤ b8) := Lib.hid (Nat.le_of_eq hb8)
    rw [hb8] at HX8 ⊢
    clear hb8 c1
    have c0 := HW8.out.cells.1
    have d0 := HX8.out.cell 0 (by simp)
    have z0 := HX8.out.frozen 0
    simp only [List.getElem_cons_zero] at d0
    obtain ⟨la, lc, rfl⟩ := HW8.out.line.shape
    have HX9 : Hid (∀ w6, Keep (At (.slice none 0 0)) W8.drew w6 → w6.cell? ⟨b8, 0, none⟩ = some (.slice none 0 0) ∧ w6.frozen? ⟨b8, 0, none⟩ = false) := Lib.hid (fun w6 hk => by
      have hh := (HX8.out.keep (Keep.of_grew (grew_drew _) Non) (fun h => h)).keep hk (fun e => by cases e)
      exact ⟨hh.cell 0 (by simp), hh.frozen 0⟩)
    go_region_law ((refine step_append_nums rfl (.tmp 109) (.tmp 114) rfl (.slice none 0 0) [] rfl (OwnI.nil _) _ D.line rfl (HW8.out.line.below (grew_drew _)) (by have := HLD.out; simp; omega) ?_; intro va2 cap2 w3 ho2 hk2 hn2; have HM2 := Lib.hid (And.intro ho2 (And.intro hk2 hn2)); obtain ⟨y0, yf⟩ := HX9.out w3 hk2; clear ho2 hk2 hn2))
    all_goals
      have HC10 : Hid (Below wc.heap.size wc (w3.setCell ⟨b8, 0, none⟩ (.slice va2 D.line.length cap2))) := Lib.hid ((grew HB8.out (grew (grew_drew _) (HM2.out.2.1.fresh (fun i _ e => by cases e)))).setCell HE8.out _)
      have HX10 := Lib.hid (((HX8.out.keep (Keep.of_grew (grew_drew _) Non) (fun h => h)).keep HM2.out.2.1 (fun e => by cases e)).set 0 (.slice va2 D.line.length cap2) (by simp))
      have HF10 : Hid (∀ b, (Value.slice va2 D.line.length cap2).ownBlock = some b → b8 < b) := Lib.hid (fun b hb => by
        rcases HM2.out.2.2 b hb with k | k
        · cases k
        · have := HN8.out; have hd : W8.drew.heap.size = W8.heap.size := rfl; omega)
      have HL10 : Hid (OwnI (w3.setCell ⟨b8, 0, none⟩ (.slice va2 D.line.length cap2)) (.slice va2 D.line.length cap2) D.line) := Lib.hid (OwnI.keep HM2.out.1 (Keep.setCell w3 b8 0 _) (fun b hb e => by have := HF10.out b hb; have e' : b = b8 := e; omega))
      have HS10 : Hid (b8 < (w3.setCell ⟨b8, 0, none⟩ (.slice va2 D.line.length cap2)).heap.size) := Lib.hid (HX10.out.lt)
      clear c0 d0 z0 y0 yf
      generalize w3.setCell ⟨b8, 0, none⟩ (.slice va2 D.line.length cap2) = W10 at *
      have HW10 := Lib.hid (HW.out.below HC10.out)
      have c2 := HW10.out.cells.2.2.1
      have d2 := HX10.out.cell 2 (by simp)
      have z2 := HX10.out.frozen 2
      simp only [List.set_cons_zero, List.getElem_cons_succ, List.getElem_cons_zero] at d2
      obtain ⟨ma, mc, rfl⟩ := HW10.out.kill.shape
      have HX11 : Hid (∀ w6, Keep (At (.slice none 0 0)) W10.drew w6 → w6.cell? ⟨b8, 2, none⟩ = some (.slice none 0 0) ∧ w6.frozen? ⟨b8, 2, none⟩ = false) := Lib.hid (fun w6 hk => by
        have hh := (HX10.out.keep (Keep.of_grew (grew_drew _) Non) (fun h => h)).keep hk (fun e => by cases e)
        exact ⟨hh.cell 2 (by simp), hh.frozen 2⟩)
      go_wp2_with fail
      go_region_law ((refine step_append_nums rfl (.tmp 118) (.tmp 123) rfl (.slice none 0 0) [] rfl (OwnI.nil _) _ D.kill rfl (HW10.out.kill.below (grew_drew _)) (by have := HLD.out; simp; omega) ?_; intro va3 cap3 w5 ho2 hk2 hn2; have HM3 := Lib.hid (And.intro ho2 (And.intro hk2 hn2)); obtain ⟨y2, yg⟩ := HX11.out w5 hk2; clear ho2 hk2 hn2))
      all_goals
        have hB5 := HM3.out.2.1.fresh (fun i _ e => by cases e)
        have HC12 : Hid (Below wc.heap.size wc (w5.setCell ⟨b8, 2, none⟩ (.slice va3 D.kill.length cap3))) := Lib.hid ((grew HC10.out (grew (grew_drew _) hB5)).setCell HE8.out _)
        have HX12 := Lib.hid (((HX10.out.keep (Keep.of_grew (grew_drew _) Non) (fun h => h)).keep HM3.out.2.1 (fun e => by cases e)).set 2 (.slice va3 D.kill.length cap3) (by simp))
        have HF12 : Hid (∀ b, (Value.slice va3 D.kill.length cap3).ownBlock = some b → b8 < b) := Lib.hid (fun b hb => by
          rcases HM3.out.2.2 b hb with k | k
          · cases k
          · have := HS10.out; have hd : W10.drew.heap.size = W10.heap.size := rfl; omega)
        have HL12 : Hid (OwnI (w5.setCell ⟨b8, 2, none⟩ (.slice va3 D.kill.length cap3)) (.slice va2 D.line.length cap2) D.line) := Lib.hid (((HL10.out.below (grew_drew _)).below hB5).keep (Keep.setCell w5 b8 2 _) (fun b hb e => by have := HF10.out b hb; have e' : b = b8 := e; omega))
        have HK12 : Hid (OwnI (w5.setCell ⟨b8, 2, none⟩ (.slice va3 D.kill.length cap3)) (.slice va3 D.kill.length cap3) D.kill) := Lib.hid (OwnI.keep HM3.out.1 (Keep.setCell w5 b8 2 _) (fun b hb e => by have := HF12.out b hb; have e' : b = b8 := e; omega))
        clear c2 d2 z2 y2 yg hB5
        generalize w5.setCell ⟨b8, 2, none⟩ (.slice va3 D.kill.length cap3) = W12 at *
        have HW12 := Lib.hid (HW.out.below HC12.out)
        have c3 := HW12.out.cells.2.2.2
        have d0 := HX12.out.cell 0 (by simp)
        have d1 := HX12.out.cell 1 (by simp)
        have d2 := HX12.out.cell 2 (by simp)
        simp only [List.set_cons_zero, List.set_cons_succ, List.getElem_cons_succ, List.getElem_cons_zero] at d0 d1 d2
        have HZ12 := Lib.hid (HZ0.out.keep (Keep.of_below HW12.out.bel) (by have := HN.out; omega))
        have e0 := HZ12.out.cell 0 (by simp)
        have e1 := HZ12.out.cell 1 (by simp)
        have e2 := HZ12.out.cell 2 (by simp)
        have g0 := HZ12.out.frozen 0
        have g1 := HZ12.out.frozen 1
        have g2 := HZ12.out.frozen 2
        simp only [List.getElem_cons_succ, List.getElem_cons_zero] at e0 e1 e2
        go_wp2_with fail
        go_region
        have HKF : Hid (Keep (Just b4) W12 (((W12.setCell ⟨b4, 0, none⟩ (.slice va2 D.line.length cap2)).setCell ⟨b4, 1, none⟩ (.int .i64 (D.at' : Nat))).setCell ⟨b4, 2, none⟩ (.slice va3 D.kill.length cap3)).drew) := Lib.hid ((((Keep.setCell W12 b4 0 _).trans (Keep.setCell _ b4 1 _) (fun _ _ h => h)).trans (Keep.setCell _ b4 2 _) (fun _ _ h => h)).trans (Keep.of_grew (grew_drew _) _) (fun _ _ h => h))
        have HZF := Lib.hid ((((HZ12.out.set 0 (.slice va2 D.line.length cap2) (by simp)).set 1 (.int .i64 (D.at' : Nat)) (by simp)).set 2 (.slice va3 D.kill.length cap3) (by simp)).keep (Keep.of_grew (grew_drew _) Non) (fun h => h))
        clear c3 d0 d1 d2 e0 e1 e2 g0 g1 g2
        generalize (((W12.setCell ⟨b4, 0, none⟩ (.slice va2 D.line.length cap2)).setCell ⟨b4, 1, none⟩ (.int .i64 (D.at' : Nat))).setCell ⟨b4, 2, none⟩ (.slice va3 D.kill.length cap3)).drew = WF at *
        have k0 := HZF.out.cell 0 (by simp)
        have k1 := HZF.out.cell 1 (by simp)
        have k2 := HZF.out.cell 2 (by simp)
        simp only [List.set_cons_zero, List.set_cons_succ, List.getElem_cons_succ, List.getElem_cons_zero] at k0 k1 k2
        go_wp2
        refine bodyPost_ret (do_results _ b4 _ _ AV _ _ k0 k1 k2 rfl rfl) rfl ?_
        rw [HD.out]
        refine ⟨_, _, _, rfl, ?_, ?_, ?_, ?_⟩
        · exact (HL12.out.keep HKF.out (fun b hb e => by have := HF10.out b hb; have := HN8.out; have := HN.out; have e' : b = b4 := e; omega)).slice
        · exact (HK12.out.keep HKF.out (fun b hb e => by have := HF12.out b hb; have := HN8.out; have := HN.out; have e' : b = b4 := e; omega)).slice
        · exact OwnRA.slice (Owns.keep HW12.out.acts HKF.out (fun b hb e => by have := (HW12.out.offA b hb).1; have := HN.out; have e' : b = b4 := e; omega))
        · have hbel := HG0.out.trans (HW12.out.bel.mono HG0.out.size)
          exact hbel.trans (HKF.out.below hbel.size (fun i e => by have e' : i = b4 := e; have := HN.out; omega))
end Go.Proofs.Ytakjoodlediemaa
