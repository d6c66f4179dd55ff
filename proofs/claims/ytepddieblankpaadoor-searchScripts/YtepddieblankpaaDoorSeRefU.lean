/- The reference's search: Type, Rub. -/
import Derived.Test.YtepddieblankpaaDoorSeRefT
namespace Go.Proofs.YtepddieblankpaaDoor
open Go.RowKit
attribute [local go_sem] Oper.semAt_some
set_option linter.unusedVariables false
section
variable {B : Nat} {w wr w' : World} {p : Nat} {VL VQ : Value} {ts : List ByteArray} {q : List Int} {o : Option Nat} {pl : Int}

set_option maxRecDepth 100000 in
set_option maxHeartbeats 4000000 in
theorem ref19_Type (h : RS B w p ts q o) (r : Int) : Calls Tryd.prog 19 #[.pointer (some ⟨p, 0, none⟩), .int .i64 r] w (RStep B w p ts (Srch.typeTo ts q o r)) := by
  obtain ⟨VL, VQ, h, hat⟩ := h
  have HA := Lib.hid hat
  have H := Lib.hid h
  obtain ⟨c0, c1, c2, f0, f1, f2⟩ := h.cells
  have hfew := h.few
  have hlen := h.len
  obtain ⟨vl, vc, rfl⟩ := OwnS.form h.lines
  obtain ⟨qa, qc, rfl⟩ := h.qs.slice.shape
  have HRU := Lib.hid (ref04_Rune r w)
  clear h hat
  cases hr : Mesg.rune r with
  | false =>
    have HE : Hid (Srch.typeTo ts q o r = (false, q, o)) := Lib.hid (by unfold Srch.typeTo; rw [hr, if_neg (by simp)])
    rw [hr] at HRU
    clear hr
    go_enter Tryd.func19, Tryd.ntmps19
    go_wp2_with fail
    refine HRU.out.mono ?_
    rintro e w1 ⟨rfl, h1⟩
    subst h1
    go_wp2
    go_ret
    rw [HE.out]
    exact ⟨rfl, ⟨_, _, H.out, HA.out⟩, Below.refl _ _⟩
  | true =>
    rw [hr] at HRU
    by_cases hl : 200 ≤ q.length
    · have HE : Hid (Srch.typeTo ts q o r = (false, q, o)) := Lib.hid (by unfold Srch.typeTo; rw [if_neg (by simp; omega)])
      have d1 : decide ((200 : Int) ≤ (q.length : Int)) = true := decide_eq_true (by omega)
      have d2 : decide (200 ≤ q.length) = true := decide_eq_true hl
      clear hr hl
      go_enter Tryd.func19, Tryd.ntmps19
      go_wp2_with fail
      refine HRU.out.mono ?_
      rintro e w1 ⟨rfl, h1⟩
      subst h1
      go_wp2
      go_ret
      rw [HE.out]
      exact ⟨rfl, ⟨_, _, H.out, HA.out⟩, Below.refl _ _⟩
    · have HE : Hid (Srch.typeTo ts q o r = ((Srch.lastFit ts (Ut.text (q ++ [r])) (Srch.upTo ts o)).isSome, q ++ [r], Srch.lastFit ts (Ut.text (q ++ [r])) (Srch.upTo ts o))) := Lib.hid (by unfold Srch.typeTo; rw [hr, if_pos (by simp; omega)])
      have d1 : decide ((200 : Int) ≤ (q.length : Int)) = false := decide_eq_false (by omega)
      have d2 : decide (200 ≤ q.length) = false := decide_eq_false hl
      have HL : Hid (q.length < 200) := Lib.hid (by omega)
      have HOK : Hid (∃ n : Nat, r = n ∧ Ut.Ok n) := Lib.hid (by
        obtain ⟨r1, r2, r3⟩ := rune_range hr
        exact ⟨r.toNat, by omega, by unfold Ut.Ok; omega⟩)
      clear hr hl
      go_enter Tryd.func19, Tryd.ntmps19
      go_wp2_with fail
      refine HRU.out.mono ?_
      rintro e w1 ⟨rfl, h1⟩
      subst h1
      cases o with
      | none =>
        rw [show Srch.plR (none) = -1 from rfl] at c2
        go_wp2_with (at_builtin
                     refine wp_append_num rfl (.tmp 21) (.tmp 23) rfl (.slice qa q.length qc) q r rfl rfl H.out.qs (by have := HL.out; omega) ?_
                     intro v1 w1 ho1 hk1 hn1
                     obtain ⟨ua, uc, e1⟩ := ho1.slice.shape
                     subst e1
                     have HB1 := Lib.hid (hk1.below H.out.base (fun i e => (H.out.fq i e).1))
                     have HBX := Lib.hid (H.out.box.keep hk1 (fun e => (H.out.fq _ e).2.1 rfl))
                     have HLN := Lib.hid (H.out.lines.keep hk1 (fun g hg e => (H.out.fq g e).2.2 hg))
                     have HO1 := Lib.hid ho1
                     have HN1 := Lib.hid hn1
                     have HS1 := Lib.hid hk1.size
                     clear ho1 hk1 hn1 c0 c1 c2 f0 f1 f2
                     have c0 := HBX.out.cell 0 (by simp)
                     have c1 := HBX.out.cell 1 (by simp)
                     have c2 := HBX.out.cell 2 (by simp)
                     have f1 := HBX.out.frozen 1
                     simp only [List.getElem_cons_zero, List.getElem_cons_succ] at c0 c1 c2
                     rw [show Srch.plR (none) = -1 from rfl] at c2)
        have hfq : ∀ g, (Value.slice ua (q ++ [r]).length uc).ownBlock = some g → B ≤ g ∧ g ≠ p ∧ (Value.slice vl ts.length vc).ownBlock ≠ some g := fun g hg => by
          rcases HN1.out g hg with k | k
          · exact H.out.fq g k
          · have hb := H.out.base
            have hp := H.out.box.lt
            refine ⟨by omega, by omega, fun e => ?_⟩
            have := Owns.lt H.out.lines e
            omega
        have HR2 : Hid (RSv B (w1.setCell ⟨p, 1, none⟩ (.slice ua (q ++ [r]).length uc)) p (.slice vl ts.length vc) (.slice ua (q ++ [r]).length uc) ts (q ++ [r]) (-1)) := Lib.hid
          ⟨HBX.out.set 1 _ (by simp), HLN.out.keep (Keep.setCell w1 p 1 _) (fun g hg e => (H.out.fl g hg).2 e), HO1.out.keep (Keep.setCell w1 p 1 _) (fun g hg e => (hfq g hg).2.1 e), H.out.low, H.out.fl, hfq,
            fun a ha => by
              rcases List.mem_append.1 ha with ha | ha
              · exact H.out.ok a ha
              · rw [List.mem_singleton.1 ha]; exact HOK.out, by have := HL.out; simp; omega, H.out.few, H.out.short, by have := HS1.out; have := H.out.base; simp [World.setCell]; omega⟩
        have HB2 : Hid (Below B w (w1.setCell ⟨p, 1, none⟩ (.slice ua (q ++ [r]).length uc))) := Lib.hid (HB1.out.setCell H.out.low _)
        clear hfq c0 c1 c2 f1
        try simp only [List.length_append, List.length_cons, List.length_nil] at HR2 HB2
        generalize w1.setCell ⟨p, 1, none⟩ (.slice ua (q.length + 1) uc) = w2 at *
        refine (ref19_last HR2.out (k0 := ts.length) (Nat.le_refl _) (z0 := (ts.length : Int) - 1) rfl).mono ?_
        rintro e w3 ⟨rfl, hb⟩
        have H3 := Lib.hid (HR2.out.below hb)
        have HB3 := Lib.hid (HB2.out.trans (HR2.out.off hb))
        have HAT := Lib.hid (lastFit_at (ts := ts) (q := Ut.text (q ++ [r])) (k := ts.length) (Nat.le_refl _))
        clear hb HB2 HR2
        obtain ⟨c0, c1, c2, f0, f1, f2⟩ := H3.out.cells
        rw [show Srch.upTo ts (none) = ts.length from rfl] at HE
        cases e0 : Srch.lastFit ts (Ut.text (q ++ [r])) (ts.length) with
        | none =>
          have HM := Lib.hid (H3.out.place (-1))
          rw [e0] at HE
          rw [show Srch.plR none = -1 from rfl]
          clear e0
          go_wp2
          go_ret
          rw [HE.out]
          exact ⟨rfl, ⟨_, _, HM.out, fun z hz => (by cases hz)⟩, HB3.out.setCell H.out.low _⟩
        | some y =>
          have HM := Lib.hid (H3.out.place (y : Int))
          have HAY := Lib.hid (HAT.out y e0)
          rw [e0] at HE
          rw [show Srch.plR (some y) = (y : Int) from rfl]
          have g2 : decide ((0 : Int) ≤ (y : Int)) = true := decide_eq_true (by omega)
          clear e0
          go_wp2
          go_ret
          rw [HE.out]
          exact ⟨rfl, ⟨_, _, HM.out, fun z hz => (by cases hz; exact HAY.out)⟩, HB3.out.setCell H.out.low _⟩
      | some x =>
        have hx := (HA.out x rfl).1
        have g1 : decide ((x : Int) < 0) = false := decide_eq_false (by omega)
        rw [show Srch.plR (some x) = (x : Int) from rfl] at c2
        go_wp2_with (at_builtin
                     refine wp_append_num rfl (.tmp 21) (.tmp 23) rfl (.slice qa q.length qc) q r rfl rfl H.out.qs (by have := HL.out; omega) ?_
                     intro v1 w1 ho1 hk1 hn1
                     obtain ⟨ua, uc, e1⟩ := ho1.slice.shape
                     subst e1
                     have HB1 := Lib.hid (hk1.below H.out.base (fun i e => (H.out.fq i e).1))
                     have HBX := Lib.hid (H.out.box.keep hk1 (fun e => (H.out.fq _ e).2.1 rfl))
                     have HLN := Lib.hid (H.out.lines.keep hk1 (fun g hg e => (H.out.fq g e).2.2 hg))
                     have HO1 := Lib.hid ho1
                     have HN1 := Lib.hid hn1
                     have HS1 := Lib.hid hk1.size
                     clear ho1 hk1 hn1 c0 c1 c2 f0 f1 f2
                     have c0 := HBX.out.cell 0 (by simp)
                     have c1 := HBX.out.cell 1 (by simp)
                     have c2 := HBX.out.cell 2 (by simp)
                     have f1 := HBX.out.frozen 1
                     simp only [List.getElem_cons_zero, List.getElem_cons_succ] at c0 c1 c2
                     rw [show Srch.plR (some x) = (x : Int) from rfl] at c2)
        have hfq : ∀ g, (Value.slice ua (q ++ [r]).length uc).ownBlock = some g → B ≤ g ∧ g ≠ p ∧ (Value.slice vl ts.length vc).ownBlock ≠ some g := fun g hg => by
          rcases HN1.out g hg with k | k
          · exact H.out.fq g k
          · have hb := H.out.base
            have hp := H.out.box.lt
            refine ⟨by omega, by omega, fun e => ?_⟩
            have := Owns.lt H.out.lines e
            omega
        have HR2 : Hid (RSv B (w1.setCell ⟨p, 1, none⟩ (.slice ua (q ++ [r]).length uc)) p (.slice vl ts.length vc) (.slice ua (q ++ [r]).length uc) ts (q ++ [r]) (x : Int)) := Lib.hid
          ⟨HBX.out.set 1 _ (by simp), HLN.out.keep (Keep.setCell w1 p 1 _) (fun g hg e => (H.out.fl g hg).2 e), HO1.out.keep (Keep.setCell w1 p 1 _) (fun g hg e => (hfq g hg).2.1 e), H.out.low, H.out.fl, hfq,
            fun a ha => by
              rcases List.mem_append.1 ha with ha | ha
              · exact H.out.ok a ha
              · rw [List.mem_singleton.1 ha]; exact HOK.out, by have := HL.out; simp; omega, H.out.few, H.out.short, by have := HS1.out; have := H.out.base; simp [World.setCell]; omega⟩
        have HB2 : Hid (Below B w (w1.setCell ⟨p, 1, none⟩ (.slice ua (q ++ [r]).length uc))) := Lib.hid (HB1.out.setCell H.out.low _)
        clear hfq c0 c1 c2 f1
        try simp only [List.length_append, List.length_cons, List.length_nil] at HR2 HB2
        generalize w1.setCell ⟨p, 1, none⟩ (.slice ua (q.length + 1) uc) = w2 at *
        refine (ref19_last HR2.out (k0 := x + 1) hx (z0 := (x : Int)) (by omega)).mono ?_
        rintro e w3 ⟨rfl, hb⟩
        have H3 := Lib.hid (HR2.out.below hb)
        have HB3 := Lib.hid (HB2.out.trans (HR2.out.off hb))
        have HAT := Lib.hid (lastFit_at (ts := ts) (q := Ut.text (q ++ [r])) (k := x + 1) hx)
        clear hb HB2 HR2
        obtain ⟨c0, c1, c2, f0, f1, f2⟩ := H3.out.cells
        rw [show Srch.upTo ts (some x) = x + 1 from rfl] at HE
        cases e0 : Srch.lastFit ts (Ut.text (q ++ [r])) (x + 1) with
        | none =>
          have HM := Lib.hid (H3.out.place (-1))
          rw [e0] at HE
          rw [show Srch.plR none = -1 from rfl]
          clear e0
          go_wp2
          go_ret
          rw [HE.out]
          exact ⟨rfl, ⟨_, _, HM.out, fun z hz => (by cases hz)⟩, HB3.out.setCell H.out.low _⟩
        | some y =>
          have HM := Lib.hid (H3.out.place (y : Int))
          have HAY := Lib.hid (HAT.out y e0)
          rw [e0] at HE
          rw [show Srch.plR (some y) = (y : Int) from rfl]
          have g2 : decide ((0 : Int) ≤ (y : Int)) = true := decide_eq_true (by omega)
          clear e0
          go_wp2
          go_ret
          rw [HE.out]
          exact ⟨rfl, ⟨_, _, HM.out, fun z hz => (by cases hz; exact HAY.out)⟩, HB3.out.setCell H.out.low _⟩
end
end Go.Proofs.YtepddieblankpaaDoor
