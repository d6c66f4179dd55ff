/- The reference's search: Rub. -/
import Derived.Test.YtepddieblankpaaDoorSeRefU
namespace Go.Proofs.YtepddieblankpaaDoor
open Go.RowKit
attribute [local go_sem] Oper.semAt_some
set_option linter.unusedVariables false
section
variable {B : Nat} {w wr w' : World} {p : Nat} {VL VQ : Value} {ts : List ByteArray} {q : List Int} {o : Option Nat} {pl : Int}

theorem own_pop {w : World} {v : Value} {q : List Int} {n : Nat} (h : OwnI w v q) (hn : q.length = n + 1) : ∃ g cap, v = .slice (some ⟨g, 0, none⟩) (n + 1) cap ∧ n + 1 ≤ cap ∧ OwnI w (.slice (some ⟨g, 0, none⟩) n cap) q.dropLast := by
  have hh := h
  unfold OwnI Owns at hh
  rw [hn] at hh
  rcases hh.2 with ⟨_, h0⟩ | ⟨g, cap, cur, e, hb, hg, hc, hm, hs, ht⟩
  · omega
  · refine ⟨g, cap, e, hc, ?_⟩
    subst e
    have hne : q ≠ [] := by intro e; subst e; simp at hn
    have hq : intCells q = intCells q.dropLast ++ [.int .i64 (q.getLast hne)] := by
      conv => lhs; rw [← List.dropLast_concat_getLast hne]
      simp [intCells]
    have hl : q.dropLast.length = n := by rw [List.length_dropLast]; omega
    unfold OwnI Owns
    rw [hl]
    rw [hq] at hh
    exact ownsRow_pop (by simp [intCells]; omega) hh

set_option maxRecDepth 100000 in
set_option maxHeartbeats 4000000 in
theorem ref19_Rub (h : RS B w p ts q o) : Calls Tryd.prog 21 #[.pointer (some ⟨p, 0, none⟩)] w (RStep B w p ts (Srch.rubTo ts q o)) := by
  obtain ⟨VL, VQ, h, hat⟩ := h
  have HA := Lib.hid hat
  have H := Lib.hid h
  obtain ⟨c0, c1, c2, f0, f1, f2⟩ := h.cells
  have hfew := h.few
  have hlen := h.len
  obtain ⟨vl, vc, rfl⟩ := OwnS.form h.lines
  by_cases hq : q = []
  · subst hq
    obtain ⟨qa, qc, rfl⟩ := h.qs.slice.shape
    have HE : Hid (Srch.rubTo ts [] o = (false, [], o)) := Lib.hid (if_pos rfl)
    clear h hat
    go_enter Tryd.func21, Tryd.ntmps21
    go_wp2
    go_ret
    rw [HE.out]
    exact ⟨rfl, ⟨_, _, H.out, HA.out⟩, Below.refl _ _⟩
  obtain ⟨n, hn⟩ : ∃ n, q.length = n + 1 := ⟨q.length - 1, by have : q.length ≠ 0 := fun e => hq (List.eq_nil_of_length_eq_zero e); omega⟩
  obtain ⟨g, qc, rfl, hcap, hpop⟩ := own_pop h.qs hn
  have HPOP := Lib.hid hpop
  have HE : Hid (Srch.rubTo ts q o = ((Srch.rubPl ts q.dropLast).isSome, q.dropLast, Srch.rubPl ts q.dropLast)) := Lib.hid (if_neg hq)
  have HL : Hid (q.dropLast.length = n) := Lib.hid (by rw [List.length_dropLast]; omega)
  have HFQ : Hid (B ≤ g ∧ g ≠ p ∧ (Value.slice vl ts.length vc).ownBlock ≠ some g) := Lib.hid (h.fq g rfl)
  have hw : wrap64 (((n + 1 : Nat) : Int) - 1) = (n : Int) := by rw [IntWalk.wrap64_in _ ⟨by omega, by omega⟩]; omega
  have e1 : (((n + 1 : Nat) : Int) == 0) = false := by rw [beq_eq_false_iff_ne]; omega
  have e2 : decide (((n + 1 : Nat) : Int) = 0) = false := decide_eq_false (by omega)
  have hwn : wrap64 (n : Int) = (n : Int) := IntWalk.wrap64_in _ ⟨by omega, by omega⟩
  have hwi : IntKind.i64.wrap (n : Int) = (n : Int) := IntWalk.i64_in _ ⟨by omega, by omega⟩
  have b0 : (0 : Int) ≤ (n : Int) := by omega
  have b1 : (n : Int) ≤ (qc : Int) := by omega
  have b2 : decide (n ≤ qc) = true := decide_eq_true (by omega)
  have H1 : Hid (RSv B (w.setCell ⟨p, 1, none⟩ (.slice (some ⟨g, 0, none⟩) n qc)).drew p (.slice vl ts.length vc) (.slice (some ⟨g, 0, none⟩) n qc) ts q.dropLast (Srch.plR o)) := Lib.hid (RSv.below
      ⟨h.box.set 1 _ (by simp), h.lines.keep (Keep.setCell _ p 1 _) (fun g hg e => (h.fl g hg).2 e), hpop.keep (Keep.setCell _ p 1 _) (fun g' hg e => by cases hg; exact HFQ.out.2.1 e), h.low, h.fl, fun g' hg => (by cases hg; exact HFQ.out), fun r hr => h.ok r (List.dropLast_subset _ hr), by rw [List.length_dropLast]; omega, h.few, h.short, by simpa [World.setCell] using h.base⟩ (grew_drew _))
  have HB1 : Hid (Below B w (w.setCell ⟨p, 1, none⟩ (.slice (some ⟨g, 0, none⟩) n qc)).drew) := Lib.hid (((Below.refl B w).setCell h.low _).trans (((grew_drew _).mono (by simpa [World.setCell] using h.base))))
  have HN := Lib.hid hn
  clear h hat hpop hq hn
  generalize ((n + 1 : Nat) : Int) = z at *
  go_enter Tryd.func21, Tryd.ntmps21
  go_wp2_with fail
  go_region
  generalize (w.setCell ⟨p, 1, none⟩ (.slice (some ⟨g, 0, none⟩) n qc)).drew = w1 at *
  obtain ⟨c0, c1, c2, f0, f1, f2⟩ := H1.out.cells
  have HR2 := Lib.hid (H1.out.place (-1))
  have HB2 : Hid (Below B w (w1.setCell ⟨p, 2, none⟩ (.int .i64 (-1)))) := Lib.hid (HB1.out.setCell H1.out.low _)
  by_cases hn0 : n = 0
  · subst hn0
    have HE0 : Hid (Srch.rubPl ts q.dropLast = none) := Lib.hid (if_pos (List.eq_nil_of_length_eq_zero HL.out))
    go_wp2
    go_ret
    rw [HE.out, HE0.out]
    exact ⟨rfl, ⟨_, _, HR2.out, fun z hz => (by cases hz)⟩, HB2.out⟩
  · have HE0 : Hid (Srch.rubPl ts q.dropLast = Srch.lastFit ts (Ut.text q.dropLast) ts.length) := Lib.hid (if_neg (fun e => hn0 (by rw [← HL.out, e]; rfl)))
    have g1 : decide ((0 : Int) < (n : Int)) = true := decide_eq_true (by omega)
    have g2 : decide (0 < n) = true := decide_eq_true (by omega)
    clear hn0
    go_wp2_with fail
    refine (ref19_last HR2.out (k0 := ts.length) (Nat.le_refl _) (z0 := (ts.length : Int) - 1) rfl).mono ?_
    rintro e w3 ⟨rfl, hb⟩
    have H3 := Lib.hid (HR2.out.below hb)
    have HB3 := Lib.hid (HB2.out.trans (HR2.out.off hb))
    have HAT := Lib.hid (lastFit_at (ts := ts) (q := Ut.text q.dropLast) (k := ts.length) (Nat.le_refl _))
    clear hb c0 c1 c2 f0 f1 f2
    obtain ⟨c0, c1, c2, f0, f1, f2⟩ := H3.out.cells
    cases e0 : Srch.lastFit ts (Ut.text q.dropLast) ts.length with
    | none =>
      have HM := Lib.hid (H3.out.place (-1))
      rw [e0] at HE0
      rw [show Srch.plR none = -1 from rfl]
      clear e0
      go_wp2
      go_ret
      rw [HE.out, HE0.out]
      exact ⟨rfl, ⟨_, _, HM.out, fun z hz => (by cases hz)⟩, HB3.out.setCell H1.out.low _⟩
    | some y =>
      have HM := Lib.hid (H3.out.place (y : Int))
      have HAY := Lib.hid (HAT.out y e0)
      rw [e0] at HE0
      rw [show Srch.plR (some y) = (y : Int) from rfl]
      have g3 : decide ((0 : Int) ≤ (y : Int)) = true := decide_eq_true (by omega)
      clear e0
      go_wp2
      go_ret
      rw [HE.out, HE0.out]
      exact ⟨rfl, ⟨_, _, HM.out, fun z hz => (by cases hz; exact HAY.out)⟩, HB3.out.setCell H1.out.low _⟩
end
end Go.Proofs.YtepddieblankpaaDoor
