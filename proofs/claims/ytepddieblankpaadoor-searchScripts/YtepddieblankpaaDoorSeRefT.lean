/- The reference's search: New, Type, Rub, Back, On. -/
import Derived.Test.YtepddieblankpaaDoorSeRefS
namespace Go.Proofs.YtepddieblankpaaDoor
open Go.RowKit
attribute [local go_sem] Oper.semAt_some
set_option linter.unusedVariables false

/-- A step of the reference. -/
def RStep (B : Nat) (wr : World) (p : Nat) (ts : List ByteArray) (x : Bool × List Int × Option Nat) (e : Ending) (w' : World) : Prop :=
  e = .returned (.bool x.1) ∧ RS B w' p ts x.2.1 x.2.2 ∧ Below B wr w'
section
variable {B : Nat} {w wr w' : World} {p : Nat} {VL VQ : Value} {ts : List ByteArray} {q : List Int} {o : Option Nat} {pl : Int}

set_option maxRecDepth 100000 in
set_option maxHeartbeats 2000000 in
theorem ref19_New (v : Value) (ts : List ByteArray) (w : World) (hv : SliceS w v ts) (hn : ts.length ≤ 40) (hs : ∀ t ∈ ts, t.size ≤ 300) :
    Calls Tryd.prog 17 #[v] w fun e w' => ∃ (p : Nat), e = .returned (.pointer (some ⟨p, 0, none⟩)) ∧ RS w.heap.size w' p ts [] none ∧ Below w.heap.size w w' := by
  have HV := Lib.hid hv
  obtain ⟨a, cap, rfl⟩ : ∃ a cap, v = .slice a ts.length cap := by obtain ⟨a, cap, e, _⟩ := hv; exact ⟨a, cap, e⟩
  have HN := Lib.hid hn
  have HSH := Lib.hid hs
  clear hv hn hs
  have HH0 := Lib.hid (Holds.new w [.slice none 0 0, .slice none 0 0, .int .i64 (-1)] 38)
  have HB0 := Lib.hid (grew_alloc w (.cells #[.slice none 0 0, .slice none 0 0, .int .i64 (-1)] 38))
  have HS0 : Hid (w.heap.size < (w.alloc (.cells #[.slice none 0 0, .slice none 0 0, .int .i64 (-1)] 38)).heap.size) := Lib.hid (by simp)
  go_enter Tryd.func17, Tryd.ntmps17
  go_wp2_with (at_builtin
               refine wp_append_strs rfl (.tmp 10) (.tmp 11) rfl (.slice none 0 0) _ [] ts rfl rfl (OwnS.nil _) (HV.out.below HB0.out) (by have := HN.out; simp; omega) ?_
               intro v1 w1 ho1 hk1 hn1
               obtain ⟨ua, uc, e1⟩ := OwnS.form ho1
               subst e1
               have HH1 := Lib.hid (HH0.out.keep hk1 (fun e => by cases e))
               have HO1 : Hid (OwnS w1 (.slice ua ts.length uc) ts) := Lib.hid ho1
               have HB1 := Lib.hid (grew HB0.out (hk1.fresh (fun _ _ e => by cases e)))
               have HF1 : Hid (∀ g, (Value.slice ua ts.length uc).ownBlock = some g → w.heap.size < g) := Lib.hid (fun g hg => Nat.lt_of_lt_of_le HS0.out ((hn1 g hg).resolve_left (fun e => by cases e)))
               have HS1 : Hid (w.heap.size < w1.heap.size) := Lib.hid (Nat.lt_of_lt_of_le HS0.out hk1.size)
               clear ho1 hk1 hn1
               have c1 := HH1.out.cell 0 (by simp)
               have f1 := HH1.out.frozen 0
               simp only [List.getElem_cons_zero] at c1)
  go_ret
  refine ⟨_, rfl, ⟨_, _, ⟨HH1.out.set 0 (.slice ua ts.length uc) (by simp), HO1.out.keep (Keep.setCell w1 w.heap.size 0 _) (fun g hg e => Nat.lt_irrefl _ (Nat.lt_of_lt_of_le (HF1.out g hg) (Nat.le_of_eq e))), OwnI.nil _, Nat.le_refl _, fun g hg => ⟨Nat.le_of_lt (HF1.out g hg), Nat.ne_of_gt (HF1.out g hg)⟩, fun g hg => (by cases hg), by simp, by simp, HN.out, HSH.out, by have := HS1.out; simp [World.setCell]; omega⟩, fun x hx => (by cases hx)⟩, HB1.out.setCell (Nat.le_refl _) _⟩

theorem RSv.off (h : RSv B w p VL VQ ts q pl) (hb : Below w.heap.size w w') : Below B w w' := hb.mono h.base

set_option maxRecDepth 100000 in
set_option maxHeartbeats 2000000 in
theorem ref19_Back (h : RS B w p ts q o) : Calls Tryd.prog 23 #[.pointer (some ⟨p, 0, none⟩)] w (RStep B w p ts (Srch.backTo ts q o)) := by
  obtain ⟨VL, VQ, h, hat⟩ := h
  have HA := Lib.hid hat
  have H := Lib.hid h
  obtain ⟨_, _, c2, _, _, f2⟩ := h.cells
  have hfew := h.few
  have hpl := h.low
  cases o with
  | none =>
    clear h hat
    go_enter Tryd.func23, Tryd.ntmps23
    rw [show Srch.plR none = -1 from rfl] at c2
    go_wp2
    go_ret
    exact ⟨rfl, ⟨VL, VQ, H.out, HA.out⟩, Below.refl _ _⟩
  | some x =>
    obtain ⟨hx, hfx⟩ := hat x rfl
    have HLA := Lib.hid (ref19_last h (k0 := x) (Nat.le_of_lt hx) (z0 := (x : Int) - 1) rfl)
    have HAT := Lib.hid (lastFit_at (ts := ts) (q := Ut.text q) (k := x) (Nat.le_of_lt hx))
    have d1 : decide ((x : Int) < 0) = false := decide_eq_false (by omega)
    have hw : wrap64 ((x : Int) - 1) = (x : Int) - 1 := IntWalk.wrap64_in _ ⟨by omega, by omega⟩
    rw [show Srch.plR (some x) = (x : Int) from rfl] at c2
    clear h hfx hat
    go_enter Tryd.func23, Tryd.ntmps23
    go_wp2_with fail
    refine HLA.out.mono ?_
    rintro e w1 ⟨rfl, hb⟩
    have H1 := Lib.hid (H.out.below hb)
    have HB := Lib.hid (H.out.off hb)
    clear hb HLA
    obtain ⟨_, _, c3, _, _, f3⟩ := H1.out.cells
    cases e0 : Srch.lastFit ts (Ut.text q) x with
    | none =>
      have HE : Hid (Srch.backTo ts q (some x) = (false, q, some x)) := Lib.hid (by simp only [Srch.backTo, e0, Srch.stays, Option.isSome])
      rw [show Srch.plR none = -1 from rfl]
      clear e0
      go_wp2
      go_ret
      rw [HE.out]
      exact ⟨rfl, ⟨VL, VQ, H1.out, HA.out⟩, HB.out⟩
    | some y =>
      have HE : Hid (Srch.backTo ts q (some x) = (true, q, some y)) := Lib.hid (by simp only [Srch.backTo, e0, Srch.stays, Option.isSome])
      have HM := Lib.hid (H1.out.place (y : Int))
      have HAY := Lib.hid (HAT.out y e0)
      rw [show Srch.plR (some y) = (y : Int) from rfl]
      have d2 : decide ((y : Int) < 0) = false := decide_eq_false (by omega)
      clear e0 c2 f2
      go_wp2
      go_ret
      rw [HE.out]
      exact ⟨rfl, ⟨VL, VQ, HM.out, fun z hz => (by cases hz; exact HAY.out)⟩, HB.out.setCell hpl _⟩

set_option maxRecDepth 100000 in
set_option maxHeartbeats 2000000 in
theorem ref19_On (h : RS B w p ts q o) : Calls Tryd.prog 25 #[.pointer (some ⟨p, 0, none⟩)] w (RStep B w p ts (Srch.onTo ts q o)) := by
  obtain ⟨VL, VQ, h, hat⟩ := h
  have HA := Lib.hid hat
  have H := Lib.hid h
  obtain ⟨_, _, c2, _, _, f2⟩ := h.cells
  have hfew := h.few
  have hpl := h.low
  cases o with
  | none =>
    clear h hat
    go_enter Tryd.func25, Tryd.ntmps25
    rw [show Srch.plR none = -1 from rfl] at c2
    go_wp2
    go_ret
    exact ⟨rfl, ⟨VL, VQ, H.out, HA.out⟩, Below.refl _ _⟩
  | some x =>
    obtain ⟨hx, hfx⟩ := hat x rfl
    have d1 : decide ((x : Int) < 0) = false := decide_eq_false (by omega)
    have hw : wrap64 ((x : Int) + 1) = (x : Int) + 1 := IntWalk.wrap64_in _ ⟨by omega, by omega⟩
    have hz : ((x + 1 : Nat) : Int) = (x : Int) + 1 := by omega
    rw [show Srch.plR (some x) = (x : Int) from rfl] at c2
    obtain ⟨vl, vc, rfl⟩ := OwnS.form h.lines
    clear h hfx hat
    go_enter Tryd.func25, Tryd.ntmps25
    have HZ := Lib.hid hz
    clear hz
    go_wp2
    go_loopw [3] (fun i wr => ∃ k : Nat, i = .int .i64 (k : Int) ∧ x + 1 ≤ k ∧ k ≤ ts.length ∧ Hid (Srch.nextFit ts (Ut.text q) (x + 1) = Srch.nextFit ts (Ut.text q) k) ∧ Below w.heap.size w wr) (fun i _ => ts.length - (intOf i).toNat)
    case atStart => exact ⟨x + 1, by rw [HZ.out], Nat.le_refl _, hx, Lib.hid rfl, Below.refl _ _⟩
    case round =>
      obtain ⟨k, rfl, hk1, hk2, HN, hB⟩ := hrel
      have HB := Lib.hid hB
      have HR := Lib.hid (H.out.below hB)
      obtain ⟨b0, _, b2, _, _, g2⟩ := HR.out.cells
      clear hB c2 f2
      by_cases hlt : k < ts.length
      · have e1 : decide ((k : Int) < (ts.length : Int)) = true := decide_eq_true (by omega)
        have e2 : decide (k < ts.length) = true := decide_eq_true hlt
        have HH := Lib.hid (Srch.nextFit_here (q := Ut.text q) hlt)
        have HFI := Lib.hid (ref19_fits HR.out (i := k) hlt)
        go_wp2_with fail
        refine HFI.out.mono ?_
        rintro e w2 ⟨rfl, hb2⟩
        have HB2 := Lib.hid (grew HB.out hb2)
        have HR2 := Lib.hid (HR.out.below hb2)
        obtain ⟨_, _, a2, _, _, n2⟩ := HR2.out.cells
        clear hb2 HFI b0 b2 g2
        cases hf : Srch.fits (Ut.text q) (ts.getD k ByteArray.empty) with
        | true =>
          have HE : Hid (Srch.onTo ts q (some x) = (true, q, some k)) := Lib.hid (by simp only [Srch.onTo, HN.out, HH.out, hf, if_true, Srch.stays, Option.isSome])
          have HM := Lib.hid (HR2.out.place (k : Int))
          have HFK := Lib.hid hf
          clear hf
          go_wp2
          go_ret
          rw [HE.out]
          exact ⟨rfl, ⟨_, VQ, HM.out, fun z hz => by cases hz; exact ⟨hlt, HFK.out⟩⟩, (H.out.off HB2.out).setCell hpl _⟩
        | false =>
          have HE : Hid (Srch.nextFit ts (Ut.text q) (x + 1) = Srch.nextFit ts (Ut.text q) (k + 1)) := Lib.hid (by rw [HN.out, HH.out, hf, if_neg (by simp)])
          clear hf
          go_wp2
          go_roundw
          case rel => exact ⟨k + 1, by go_num, by omega, by omega, HE, HB2.out⟩
          case measure => simp [intOf]; omega
      · have e1 : decide ((k : Int) < (ts.length : Int)) = false := decide_eq_false (by omega)
        have e2 : decide (k < ts.length) = false := decide_eq_false hlt
        have HE : Hid (Srch.onTo ts q (some x) = (false, q, some x)) := Lib.hid (by
          have := Srch.nextFit_past (ts := ts) (q := Ut.text q) (k := k) (by omega)
          simp only [Srch.onTo, HN.out, this, Srch.stays, Option.isSome])
        go_wp2
        go_ret
        rw [HE.out]
        exact ⟨rfl, ⟨_, VQ, HR.out, HA.out⟩, H.out.off HB.out⟩
end
end Go.Proofs.YtepddieblankpaaDoor
