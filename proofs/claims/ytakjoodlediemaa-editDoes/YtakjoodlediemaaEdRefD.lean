/- The reference's work on a state: what is killed; two runes turned round. -/
import Derived.Test.YtakjoodlediemaaEdRefC
namespace Go.Proofs.Ytakjoodlediemaa
open Go.RowKit
set_option linter.unusedVariables false

def Wk.kil (t : Wk) (f c : Nat) : Wk := if c = 0 then t else ⟨(t.cut f c).line, f, t.gone f c, (t.cut f c).acts⟩
theorem Wk.gone_len (t : Wk) {f c : Nat} (h : f + c ≤ t.line.length) : (t.gone f c).length = c := by simp [Wk.gone]; omega

set_option maxRecDepth 100000 in
set_option maxHeartbeats 4000000 in
theorem ref18_kill {w0 w : World} {g : Nat} {LV KV AV : Value} {t : Wk} (h : WkW w0 w g LV KV AV t) (hl : t.line.length ≤ 100000) (hn : t.acts.length ≤ 100000) {f c tt : Nat} (hf : f + c ≤ t.line.length) (ht : f + c = tt) :
    Calls Try.prog 27 #[.pointer (some ⟨g, 0, none⟩), .int .i64 (f : Nat), .int .i64 (tt : Nat)] w fun e w' => (∃ u, e = .returned u) ∧ WkStep w0 w' g (t.kil f c) := by
  have HC := Lib.hid (ref18_cut h hl hn hf)
  have HGL := Lib.hid (t.gone_len hf)
  have HCZ := Lib.hid (Wk.cut_zero t f)
  subst ht
  clear h hl hn hf
  obtain ⟨z, hz⟩ : ∃ z : Int, ((f + c : Nat) : Int) = z := ⟨_, rfl⟩
  rw [hz] at HC ⊢
  clear hz
  go_enter Try.func27, Try.ntmps27
  go_wp2_with fail
  refine HC.out.mono ?_
  rintro e W2 ⟨LV, KV, AV, GV, rfl, hC⟩
  have H := Lib.hid hC
  obtain ⟨ga, gc, rfl⟩ := hC.own.slice.shape
  clear hC HC
  by_cases h0 : c = 0
  · subst h0
    have HE : Hid (t.kil f 0 = t) := Lib.hid (if_pos rfl)
    have d1 : decide ((0 : Int) < ((t.gone f 0).length : Int)) = false := decide_eq_false (by rw [HGL.out]; omega)
    have d2 : decide (0 < (t.gone f 0).length) = false := decide_eq_false (by rw [HGL.out]; omega)
    go_wp2
    go_end0
    rw [HE.out]
    have hw := H.out.wk
    rw [HCZ.out, show t.cutAt f 0 = t.at' from if_pos rfl] at hw
    exact ⟨⟨_, rfl⟩, _, _, _, hw⟩
  · have HE : Hid (t.kil f c = ⟨(t.cut f c).line, f, t.gone f c, (t.cut f c).acts⟩) := Lib.hid (if_neg h0)
    have d1 : decide ((0 : Int) < ((t.gone f c).length : Int)) = true := decide_eq_true (by rw [HGL.out]; omega)
    have d2 : decide (0 < (t.gone f c).length) = true := decide_eq_true (by rw [HGL.out]; omega)
    have hw := H.out.wk
    rw [show t.cutAt f c = f from if_neg h0] at hw
    have H7 := Lib.hid (hw.killed H.out.own.slice (.inr (fun e => (H.out.off g e).2.1 rfl)) (fun b hb => .inr (fun e => (H.out.off b e).2.2.1 hb)))
    have k2 := H.out.wk.cells.2.2.1
    have z2 := H.out.wk.box.frozen 2
    clear hw h0
    go_wp2
    go_end0
    rw [HE.out]
    exact ⟨⟨_, rfl⟩, _, _, _, H7.out⟩

def Wk.swapI (t : Wk) : Nat := min t.at' (t.line.length - 1)
def Wk.swp (t : Wk) : Wk := if t.line.length < 2 ∨ t.at' = 0 ∨ 1000 < t.line.length ∨ Mesg.rune (t.line.getD (t.swapI - 1) 0) = false then t else (Wk.put ⟨(t.cut (t.swapI - 1) 1).line, t.swapI, t.kill, (t.cut (t.swapI - 1) 1).acts⟩ (t.line.getD (t.swapI - 1) 0)).1

set_option maxRecDepth 100000 in
set_option maxHeartbeats 4000000 in
theorem ref18_swap {w0 w : World} {g : Nat} {LV KV AV : Value} {t : Wk} (h : WkW w0 w g LV KV AV t) (hl : t.line.length ≤ 90000) (hn : t.acts.length ≤ 90000) (ha : t.at' ≤ t.line.length) :
    Calls Try.prog 50 #[.pointer (some ⟨g, 0, none⟩)] w fun e w' => (∃ u, e = .returned u) ∧ WkStep w0 w' g t.swp := by
  have H := Lib.hid h
  obtain ⟨c0, c1, _, _⟩ := h.cells
  obtain ⟨la, lc, rfl⟩ := h.line.shape
  have stay : ∀ (q : t.line.length < 2 ∨ t.at' = 0 ∨ 1000 < t.line.length ∨ Mesg.rune (t.line.getD (t.swapI - 1) 0) = false), t.swp = t := fun q => if_pos q
  have go : ∀ (q : ¬ (t.line.length < 2 ∨ t.at' = 0 ∨ 1000 < t.line.length ∨ Mesg.rune (t.line.getD (t.swapI - 1) 0) = false)), t.swp = (Wk.put ⟨(t.cut (t.swapI - 1) 1).line, t.swapI, t.kill, (t.cut (t.swapI - 1) 1).acts⟩ (t.line.getD (t.swapI - 1) 0)).1 := fun q => if_neg q
  have HQ := Lib.hid (And.intro hl (And.intro hn ha))
  by_cases q1 : t.line.length < 2
  · have HE := Lib.hid (stay (.inl q1))
    have d1 : decide ((t.line.length : Int) < 2) = true := decide_eq_true (by omega)
    have d2 : decide (t.line.length < 2) = true := decide_eq_true q1
    clear h stay go q1
    go_enter Try.func50, Try.ntmps50
    go_wp2
    refine bodyPost_ret (results_none rfl _ _ _) rfl ?_
    rw [HE.out]
    exact ⟨⟨_, rfl⟩, _, _, _, H.out⟩
  have d1 : decide ((t.line.length : Int) < 2) = false := decide_eq_false (by omega)
  have d2 : decide (t.line.length < 2) = false := decide_eq_false q1
  by_cases q2 : t.at' = 0
  · have HE := Lib.hid (stay (.inr (.inl q2)))
    have e1 : ((t.at' : Int) == 0) = true := by rw [beq_iff_eq]; omega
    have e2 : decide ((t.at' : Int) = 0) = true := decide_eq_true (by omega)
    have e3 : decide (t.at' = 0) = true := decide_eq_true q2
    clear h stay go q2
    go_enter Try.func50, Try.ntmps50
    go_wp2
    refine bodyPost_ret (results_none rfl _ _ _) rfl ?_
    rw [HE.out]
    exact ⟨⟨_, rfl⟩, _, _, _, H.out⟩
  have e1 : ((t.at' : Int) == 0) = false := by rw [beq_eq_false_iff_ne]; omega
  have e2 : decide ((t.at' : Int) = 0) = false := decide_eq_false (by omega)
  have e3 : decide (t.at' = 0) = false := decide_eq_false q2
  obtain ⟨j, hj⟩ : ∃ j, t.swapI = j + 1 := ⟨t.swapI - 1, by unfold Wk.swapI; omega⟩
  have hjl : j < t.line.length ∧ j + 1 ≤ t.line.length := by unfold Wk.swapI at hj; omega
  have hcase : (t.at' = j + 1 ∧ j + 1 < t.line.length) ∨ (t.line.length = j + 2 ∧ t.at' = j + 2) := by unfold Wk.swapI at hj; omega
  have m2 : wrap64 ((t.line.length : Int) - 1) = (t.line.length : Int) - 1 := IntWalk.wrap64_in _ ⟨by omega, by omega⟩
  have m3 : wrap64 ((j : Int) + 1 - 1) = (j : Int) := by rw [IntWalk.wrap64_in _ ⟨by omega, by omega⟩]; omega
  obtain ⟨b0, o0, e0, hb0, hcell⟩ := slice_cell h.line hjl.1
  have hgd : t.line.getD (t.swapI - 1) 0 = t.line[j] := by rw [hj]; simp [List.getD, List.getElem?_eq_getElem hjl.1]
  rw [hgd, hj] at go
  rw [hgd] at stay
  subst e0
  rw [show j + 1 - 1 = j from by omega] at go
  have HJ := Lib.hid hjl
  have f1 : (j : Int) < (t.line.length : Int) := by omega
  have f0 : (0 : Int) ≤ (j : Int) := by omega
  have f2 : decide (j < t.line.length) = true := decide_eq_true hjl.1
  have HC := Lib.hid (ref18_cut h (by omega) (by omega) (f := j) (c := 1) hjl.2)
  have hz : ((j + 1 : Nat) : Int) = (j : Int) + 1 := by omega
  rw [hz] at HC
  have HGO : Hid (t.gone j 1 = [t.line[j]]) := Lib.hid (by
    have := t.gone_more (f := j) (k := 0) (by omega)
    simpa [Wk.gone] using this)
  have HCL := Lib.hid (t.cut_len (f := j) (k := 1) hjl.2)
  have HCA : Hid ((t.cut j 1).acts.length ≤ 100000) := Lib.hid (by simp [Wk.cut, Ed.cutActs]; omega)
  rcases hcase with ⟨hA, hA2⟩ | ⟨hA, hA2⟩
  · have hat : (t.at' : Int) = (j : Int) + 1 := by omega
    have n1 : ¬ ((t.line.length : Int) - 1 < (j : Int) + 1) := by omega
    have n2 : decide ((t.line.length : Int) - 1 < (j : Int) + 1) = false := decide_eq_false n1
    have e4 : ((j : Int) + 1 == 0) = false := by rw [beq_eq_false_iff_ne]; omega
    have e5 : decide ((j : Int) + 1 = 0) = false := decide_eq_false (by omega)
    clear hA hA2
    by_cases q3 : 1000 < t.line.length
    · have HE := Lib.hid (stay (.inr (.inr (.inl q3))))
      have g1 : decide ((1000 : Int) < (t.line.length : Int)) = true := decide_eq_true (by omega)
      have g2 : decide (1000 < t.line.length) = true := decide_eq_true q3
      clear h stay go q1 q2 q3 hj hgd hz
      go_enter Try.func50, Try.ntmps50
      go_wp2
      refine bodyPost_ret (results_none rfl _ _ _) rfl ?_
      rw [HE.out]
      exact ⟨⟨_, rfl⟩, _, _, _, H.out⟩
    have g1 : decide ((1000 : Int) < (t.line.length : Int)) = false := decide_eq_false (by omega)
    have g2 : decide (1000 < t.line.length) = false := decide_eq_false q3
    obtain ⟨rn, hrn⟩ : ∃ rn, t.line[j] = rn := ⟨_, rfl⟩
    rw [hrn] at stay go hcell HGO
    have HRU := Lib.hid (ref04_Rune rn w)
    cases hr : Mesg.rune rn with
    | false =>
      have HE := Lib.hid (stay (.inr (.inr (.inr hr))))
      rw [hr] at HRU
      clear h stay go q1 q2 q3 hj hgd hz hrn hr
      go_enter Try.func50, Try.ntmps50
      go_wp2_with fail
      refine HRU.out.mono ?_
      rintro e w1 ⟨rfl, h1⟩
      subst h1
      go_wp2
      refine bodyPost_ret (results_none rfl _ _ _) rfl ?_
      rw [HE.out]
      exact ⟨⟨_, rfl⟩, _, _, _, H.out⟩
    | true =>
      have HE := Lib.hid (go (by rw [hr]; simp; omega))
      rw [hr] at HRU
      clear h stay go q1 q2 q3 hj hgd hrn hr
      go_enter Try.func50, Try.ntmps50
      go_wp2_with fail
      refine HRU.out.mono ?_
      rintro e w1 ⟨rfl, h1⟩
      subst h1
      go_wp2_with fail
      refine HC.out.mono ?_
      rintro e W2 ⟨LV2, KV2, AV2, GV2, rfl, hC⟩
      have H2 := Lib.hid (hC.wk.caret (j + 1))
      rw [hz] at H2
      rw [HGO.out] at hC
      obtain ⟨ga, gc, rfl⟩ := hC.own.slice.shape
      obtain ⟨b2, o2, e2', hb2, hcell2⟩ := slice_cell hC.own.slice (k := 0) (by simp)
      subst e2'
      have k1 := hC.wk.cells.2.1
      have z1 := hC.wk.box.frozen 1
      have hne : b2 ≠ g := (hC.off b2 rfl).2.1
      have hcell3 : (W2.setCell ⟨g, 1, none⟩ (.int .i64 ((j : Int) + 1))).cell? ⟨b2, o2 + 0, none⟩ = some (.int .i64 rn) := by
        rw [World.cell?_setCell_other _ _ _ _ (by first | (simp; done) | (simp; omega))]
        exact hcell2
      simp only [Nat.add_zero, List.length_singleton] at hcell3 ⊢
      clear hcell2 hC HC c0 c1 hcell
      go_wp2_with fail
      have HP := Lib.hid (ref18_put H2.out (by have := HCL.out; have := HQ.out; simp only; omega) (by have := HQ.out; have := HJ.out; simp only; omega) HCA.out rn)
      refine HP.out.mono ?_
      rintro e W3 ⟨rfl, hS⟩
      have HS := Lib.hid hS
      clear hS HP
      go_wp2
      go_end0
      rw [HE.out]
      exact ⟨⟨_, rfl⟩, HS.out⟩
  · have hat : (t.at' : Int) = (j : Int) + 2 := by omega
    have hln : (t.line.length : Int) - 1 = (j : Int) + 1 := by omega
    have n1 : (j : Int) + 1 < (j : Int) + 2 := by omega
    have n2 : decide ((j : Int) + 1 < (j : Int) + 2) = true := decide_eq_true n1
    have e4 : ((j : Int) + 2 == 0) = false := by rw [beq_eq_false_iff_ne]; omega
    have e5 : decide ((j : Int) + 2 = 0) = false := decide_eq_false (by omega)
    clear hA hA2
    by_cases q3 : 1000 < t.line.length
    · have HE := Lib.hid (stay (.inr (.inr (.inl q3))))
      have g1 : decide ((1000 : Int) < (t.line.length : Int)) = true := decide_eq_true (by omega)
      have g2 : decide (1000 < t.line.length) = true := decide_eq_true q3
      clear h stay go q1 q2 q3 hj hgd hz
      go_enter Try.func50, Try.ntmps50
      go_wp2
      refine bodyPost_ret (results_none rfl _ _ _) rfl ?_
      rw [HE.out]
      exact ⟨⟨_, rfl⟩, _, _, _, H.out⟩
    have g1 : decide ((1000 : Int) < (t.line.length : Int)) = false := decide_eq_false (by omega)
    have g2 : decide (1000 < t.line.length) = false := decide_eq_false q3
    obtain ⟨rn, hrn⟩ : ∃ rn, t.line[j] = rn := ⟨_, rfl⟩
    rw [hrn] at stay go hcell HGO
    have HRU := Lib.hid (ref04_Rune rn w)
    cases hr : Mesg.rune rn with
    | false =>
      have HE := Lib.hid (stay (.inr (.inr (.inr hr))))
      rw [hr] at HRU
      clear h stay go q1 q2 q3 hj hgd hz hrn hr
      go_enter Try.func50, Try.ntmps50
      go_wp2_with fail
      refine HRU.out.mono ?_
      rintro e w1 ⟨rfl, h1⟩
      subst h1
      go_wp2
      refine bodyPost_ret (results_none rfl _ _ _) rfl ?_
      rw [HE.out]
      exact ⟨⟨_, rfl⟩, _, _, _, H.out⟩
    | true =>
      have HE := Lib.hid (go (by rw [hr]; simp; omega))
      rw [hr] at HRU
      clear h stay go q1 q2 q3 hj hgd hrn hr
      go_enter Try.func50, Try.ntmps50
      go_wp2_with fail
      refine HRU.out.mono ?_
      rintro e w1 ⟨rfl, h1⟩
      subst h1
      go_wp2_with fail
      refine HC.out.mono ?_
      rintro e W2 ⟨LV2, KV2, AV2, GV2, rfl, hC⟩
      have H2 := Lib.hid (hC.wk.caret (j + 1))
      rw [hz] at H2
      rw [HGO.out] at hC
      obtain ⟨ga, gc, rfl⟩ := hC.own.slice.shape
      obtain ⟨b2, o2, e2', hb2, hcell2⟩ := slice_cell hC.own.slice (k := 0) (by simp)
      subst e2'
      have k1 := hC.wk.cells.2.1
      have z1 := hC.wk.box.frozen 1
      have hne : b2 ≠ g := (hC.off b2 rfl).2.1
      have hcell3 : (W2.setCell ⟨g, 1, none⟩ (.int .i64 ((j : Int) + 1))).cell? ⟨b2, o2 + 0, none⟩ = some (.int .i64 rn) := by
        rw [World.cell?_setCell_other _ _ _ _ (by first | (simp; done) | (simp; omega))]
        exact hcell2
      simp only [Nat.add_zero, List.length_singleton] at hcell3 ⊢
      clear hcell2 hC HC c0 c1 hcell
      go_wp2_with fail
      have HP := Lib.hid (ref18_put H2.out (by have := HCL.out; have := HQ.out; simp only; omega) (by have := HQ.out; have := HJ.out; simp only; omega) HCA.out rn)
      refine HP.out.mono ?_
      rintro e W3 ⟨rfl, hS⟩
      have HS := Lib.hid hS
      clear hS HP
      go_wp2
      go_end0
      rw [HE.out]
      exact ⟨⟨_, rfl⟩, HS.out⟩
end Go.Proofs.Ytakjoodlediemaa
