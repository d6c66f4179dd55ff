/- The walk of SearchBrowses. -/
import Derived.Test.YtepddieblankpaaDoorSeRefB
import Derived.Test.YtepddieblankpaaDoorSeOpen
import Derived.BigQuiet
namespace Go.Proofs.YtepddieblankpaaDoor
open Go.RowKit
attribute [local go_sem] Oper.semAt_some
set_option linter.unusedVariables false

/-- Both Browses, alike. -/
structure BB (w wr : World) (pb : Nat) (a : Option Addr) (cb : Nat) (p2 : Nat) (V : Value) (tb : List ByteArray) (own : ByteArray) (k n : Nat) : Prop where
  bro : Bro wr pb a cb tb own k
  ref : RBro wr p2 V (tb ++ [own]) k
  len : tb.length = n
  apart : ∀ b, BroB pb a b → ¬ (b = p2 ∨ V.ownBlock = some b)
  far : ∀ b, (BroB pb a b ∨ b = p2 ∨ V.ownBlock = some b) → w.heap.size ≤ b
  bel : Below w.heap.size w wr

section
variable {w wr w' : World} {pb p2 cb k k' n : Nat} {a : Option Addr} {V : Value} {tb tb' : List ByteArray} {own own' : ByteArray}
theorem BB.below (h : BB w wr pb a cb p2 V tb own k n) (hb : Below wr.heap.size wr w') : BB w w' pb a cb p2 V tb own k n :=
  ⟨h.bro.below hb, h.ref.below hb, h.len, h.apart, h.far, grew h.bel hb⟩
theorem BB.draw (h : BB w wr pb a cb p2 V tb own k n) (m : Nat) : BB w (wr.drewN m) pb a cb p2 V tb own k n := h.below (grew_drewN _ _)
theorem BB.line (h : BB w wr pb a cb p2 V tb own k n) : (tb ++ [own])[k]'h.ref.lt = lineOf tb own k := by
  have := line_at tb own h.bro.le
  rw [List.getElem?_eq_getElem h.ref.lt] at this
  injection this
/-- Both moved. -/
theorem BB.both {w1 w2 : World} (h : BB w wr pb a cb p2 V tb own k n) (h1 : Bro w1 pb a cb tb own k') (e1 : Keep (Just pb) wr w1) (h2 : RBro w1 p2 V (tb ++ [own]) k → RBro w2 p2 V (tb ++ [own]) k' ∧ Keep (Just p2) w1 w2) : BB w w2 pb a cb p2 V tb own k' n := by
  obtain ⟨g, hk⟩ := h2 (h.ref.keep e1 (fun b hb e => h.apart b (.inl e) hb))
  refine ⟨h1.keep hk (fun b hb e => h.apart b hb (.inl e)), g, h.len, h.apart, h.far, ?_⟩
  exact (h.bel.trans (e1.below h.bel.size (fun i e => by have := h.far i (.inl (.inl e)); exact this))).trans (hk.below (Nat.le_trans h.bel.size e1.size) (fun i e => h.far i (.inr (.inl e))))
theorem BB.cells {g m cV : Nat} (h : BB w wr pb a cb p2 (.slice (some ⟨g, 0, none⟩) m cV) tb own k n) : wr.cell? ⟨p2, 0, none⟩ = some (.slice (some ⟨g, 0, none⟩) m cV) ∧ wr.cell? ⟨p2, 1, none⟩ = some (.int .i64 (k : Int)) ∧ wr.cell? ⟨g, k, none⟩ = some (.string (lineOf tb own k)) ∧ wr.frozen? ⟨g, k, none⟩ = false ∧ k < m := by
  obtain ⟨g', c', e, h1, h2, h3, h4⟩ := h.ref.row
  have hl := h.ref.lt
  injection e with e1 e2 e3
  injection e1 with e1
  injection e1 with e1
  subst e1 e2 e3
  rw [h.line] at h3
  exact ⟨h.ref.box.cell 0 (by simp), h.ref.box.cell 1 (by simp), h3, h4, hl⟩
/-- Both edited. -/
theorem BB.edit {g m cV : Nat} {w1 : World} {s : ByteArray} (h : BB w wr pb a cb p2 (.slice (some ⟨g, 0, none⟩) m cV) tb own k n) (h1 : Bro w1 pb a cb (setTs tb k s) (setOwn tb own k s) k) (e1 : Keep (BroB pb a) wr w1) :
    w1.cell? ⟨p2, 0, none⟩ = some (.slice (some ⟨g, 0, none⟩) m cV) ∧ w1.cell? ⟨p2, 1, none⟩ = some (.int .i64 (k : Int)) ∧ w1.cell? ⟨g, k, none⟩ = some (.string (lineOf tb own k)) ∧ w1.frozen? ⟨g, k, none⟩ = false ∧ k < m ∧ BB w (w1.setCell ⟨g, k, none⟩ (.string s)) pb a cb p2 (.slice (some ⟨g, 0, none⟩) m cV) (setTs tb k s) (setOwn tb own k s) k n := by
  obtain ⟨c0, c1, c2, f2, hk⟩ := h.cells
  obtain ⟨g', c', e, q1, q2, _, _⟩ := h.ref.row
  injection e with e1' e2' e3'
  injection e1' with e1'
  injection e1' with e1'
  subst e1' e2' e3'
  have np : ¬ BroB pb a p2 := fun e => h.apart _ e (.inl rfl)
  have ng : ¬ BroB pb a g := fun e => h.apart _ e (.inr rfl)
  have lp := h.ref.box.lt
  have r1 := h.ref.keep e1 (fun b hb e => h.apart b e hb)
  have r2 := r1.set s
  have b2 := h.bel.trans (e1.below h.bel.size (fun i e => h.far i (.inl e)))
  refine ⟨by rw [e1.cell lp np]; exact c0, by rw [e1.cell lp np]; exact c1, by rw [e1.cell q2 ng]; exact c2, by rw [e1.frozen q2 ng]; exact f2, hk, ⟨h1.keep (Keep.setCell w1 g k _) (fun b hb e => ng (by rw [← show b = g from e]; exact hb)), ?_, by rw [setTs_len]; exact h.len, h.apart, h.far, b2.setCell (h.far g (.inr (.inr rfl))) _⟩⟩
  rw [lines_set tb own h.bro.le s]
  exact r2
end

set_option maxRecDepth 100000 in
set_option maxHeartbeats 4000000 in
theorem walk_SearchBrowses0 (v : Value) (ts : List ByteArray) (own : ByteArray) (sv : Value) (ss : List (Int × ByteArray)) (w : World) (hv : SliceS w v ts) (hn : ts.length ≤ maxLen) (ho : own.size ≤ maxLen) (hs : SliceG 2 stpL w sv ss) (hsn : ss.length ≤ maxLen) (hk : Kit w) :
    Calls Tryd.prog 6 #[v, .string own, sv] w fun e w' => e = .returned (.bool true) ∧ Below w.heap.size w w' := by
  have HV := Lib.hid hv
  have HS := Lib.hid hs
  have HK := Lib.hid hk
  have HF := Lib.hid (law19_few v ts w hv hn)
  have HLV : Hid (∀ w1, Below w.heap.size w w1 → Calls Tryd.prog 15 #[] w1 fun e w' => e = .returned (.bool true) ∧ Below w.heap.size w w') := Lib.hid (fun w1 hb => (law19_live w1 (hk.below hb)).mono fun e w' ⟨h1, h2⟩ => ⟨h1, grew hb h2⟩)
  obtain ⟨va, vc, rfl⟩ : ∃ a cap, v = .slice a ts.length cap := by obtain ⟨a, cap, e, _⟩ := hv; exact ⟨a, cap, e⟩
  obtain ⟨sa, sc, rfl⟩ := hs.shape
  unfold maxLen at hn ho hsn
  clear hv hs hk
  go_enter Tryd.func6, Tryd.ntmps6
  go_wp2_with fail
  refine HF.out.mono ?_
  rintro e w1 ⟨rfl, h1⟩
  subst h1
  cases hfew : Srch.few ts with
  | false =>
    go_wp2_with fail
    refine (HLV.out _ (Below.refl _ _)).mono ?_
    rintro e w1 ⟨rfl, hb⟩
    have HB := Lib.hid hb
    clear hb
    go_wp2
    go_ret
    exact ⟨rfl, HB.out⟩
  | true =>
    obtain ⟨hl40, HALL⟩ := Srch.few_spec hfew
    have HST := Lib.hid (browse_Start (.slice va ts.length vc) ts own w HV.out (by omega))
    clear HALL hfew HF
    by_cases hbig : 300 < own.size
    · have d1 : decide ((300 : Int) < (own.size : Int)) = true := decide_eq_true (by omega)
      clear hbig
      go_wp2_with fail
      refine (HLV.out _ (Below.refl _ _)).mono ?_
      rintro e w1 ⟨rfl, hb⟩
      have HB := Lib.hid hb
      clear hb
      go_wp2
      go_ret
      exact ⟨rfl, HB.out⟩
    have d1 : decide ((300 : Int) < (own.size : Int)) = false := decide_eq_false (by omega)
    clear hbig
    go_wp2_with fail
    refine HST.out.mono ?_
    rintro e w1 ⟨pb, a, cb, rfl, h1, h2, hb1⟩
    have H1 := Lib.hid (And.intro h1 (And.intro h2 hb1))
    clear h1 h2 hb1 HST
    go_wp2_with fail
    refine (ref19_Start (.slice va ts.length vc) ts own w1 (HV.out.below H1.out.2.2) (by omega)).mono ?_
    rintro e w2 ⟨p2, V, rfl, h1, h2, hb2⟩
    have HBB : Hid (BB w w2 pb a cb p2 V ts own ts.length ts.length) := Lib.hid ⟨H1.out.1.below hb2, h1, rfl, fun b hb e => by
        have := h2 b e
        have hlt := (H1.out.2.1 b hb).2
        omega, fun b hb => by
        rcases hb with hb | hb
        · exact (H1.out.2.1 b hb).1
        · exact Nat.le_trans H1.out.2.2.size (h2 b hb), grew H1.out.2.2 hb2⟩
    clear h1 h2 hb2 H1
    go_wp2_with fail
    refine (browse_Line HBB.out.bro).mono ?_
    rintro e w3 ⟨rfl, n3, rfl⟩
    have HBB3 := Lib.hid (HBB.out.draw n3)
    clear HBB
    rw [show lineOf ts own ts.length = own from by unfold lineOf; simp [List.getD]]
    obtain ⟨g, cV, rfl⟩ : ∃ g cV, V = .slice (some ⟨g, 0, none⟩) (ts.length + 1) cV := by
      obtain ⟨g, c, e, _⟩ := HBB3.out.ref.row
      exact ⟨g, c, by rw [e]; simp⟩
    go_wp2_with fail
    go_loopw [9] (fun i wr => ∃ (r : Nat) (tb : List ByteArray) (oo : ByteArray) (k : Nat), r ≤ ss.length ∧ i = .int .i64 r ∧ BB w wr pb a cb p2 (.slice (some ⟨g, 0, none⟩) (ts.length + 1) cV) tb oo k ts.length) (fun i _ => ss.length - (intOf i).toNat)
    case atStart => exact ⟨0, ts, own, ts.length, by omega, rfl, HBB3.out⟩
    case round =>
      obtain ⟨r, tb, oo, k, hr, rfl, hBB⟩ := hrel
      have HB := Lib.hid hBB
      have HSr := Lib.hid (HS.out.below hBB.bel)
      clear hBB HBB3
      by_cases hlt : r < ss.length
      · have e1 : decide ((r : Int) < (ss.length : Int)) = true := decide_eq_true (by omega)
        have e2 : decide (r < ss.length) = true := decide_eq_true hlt
        have hia : (r : Int) < (ss.length : Int) := by omega
        by_cases h100 : r < 100
        · have e3 : decide ((r : Int) < 100) = true := decide_eq_true (by omega)
          obtain ⟨b, o', e, hbl, hc⟩ := HS.out.at hlt
          cases e
          have c0 := (HB.out.bel.cell (p := ⟨b, o' + r * 2 + 0, none⟩) hbl).trans (hc 0 _ rfl)
          have c1 := (HB.out.bel.cell (p := ⟨b, o' + r * 2 + 1, none⟩) hbl).trans (hc 1 _ rfl)
          simp only [Nat.add_zero] at c0
          generalize ss[r] = st at *
          obtain ⟨d, tx⟩ := st
          simp only at c0 c1
          clear hc h100
          by_cases hd0 : d = 0
          · subst hd0
            go_wp2_with fail
            refine (browse_Up HB.out.bro).mono ?_
            rintro e w3 ⟨rfl, h1, h2⟩
            have H3 := Lib.hid (And.intro h1 h2)
            clear h1 h2
            go_wp2_with fail
            refine (ref19_Up (HB.out.ref.keep H3.out.2 (fun b hb e => HB.out.apart b (.inl e) hb))).mono ?_
            rintro e w4 ⟨rfl, h1, h2⟩
            have HX := Lib.hid (HB.out.both H3.out.1 H3.out.2 (fun _ => ⟨h1, h2⟩))
            clear h1 h2 H3
            generalize decide (0 < k) = x at *
            generalize k - 1 = k2 at *
            clear HB
            obtain ⟨y0, y1, y2, _, hkm⟩ := HX.out.cells
            have y3 : (k2 : Int) < ((ts.length + 1 : Nat) : Int) := by omega
            have HLN : Hid (∀ m, Calls Tryd.prog 32 #[.pointer (some ⟨pb, 0, none⟩)] (w4.drewN m) fun e w' => e = .returned (.string (lineOf tb oo k2)) ∧ ∃ n, w' = w4.drewN n) := Lib.hid (fun m => (browse_Line (HX.out.draw m).bro).mono fun e w' ⟨h1, n, h2⟩ => ⟨h1, m + n, by rw [h2, World.drewN_drewN]⟩)
            generalize lineOf tb oo k2 = line at y2 HLN
            go_wp2_with fail
            go_quiet ((go_at_call 32; exact HLN.out _))
            go_wp2
            go_roundw
            case rel => exact ⟨r + 1, _, _, _, by omega, by go_num, HX.out.draw _⟩
            case measure => simp [intOf]; omega
          by_cases hd1 : d = 1
          · subst hd1
            go_wp2_with fail
            refine (browse_Down HB.out.bro).mono ?_
            rintro e w3 ⟨rfl, h1, h2⟩
            rw [HB.out.len] at h1
            rw [HB.out.len]
            have H3 := Lib.hid (And.intro h1 h2)
            clear h1 h2
            go_wp2_with fail
            refine (ref19_Down (n := ts.length) (HB.out.ref.keep H3.out.2 (fun b hb e => HB.out.apart b (.inl e) hb)) (by simp [HB.out.len])).mono ?_
            rintro e w4 ⟨rfl, h1, h2⟩
            have HX := Lib.hid (HB.out.both H3.out.1 H3.out.2 (fun _ => ⟨h1, h2⟩))
            clear h1 h2 H3
            generalize canDown ts.length k = x at *
            generalize downTo ts.length k = k2 at *
            clear HB
            obtain ⟨y0, y1, y2, _, hkm⟩ := HX.out.cells
            have y3 : (k2 : Int) < ((ts.length + 1 : Nat) : Int) := by omega
            have HLN : Hid (∀ m, Calls Tryd.prog 32 #[.pointer (some ⟨pb, 0, none⟩)] (w4.drewN m) fun e w' => e = .returned (.string (lineOf tb oo k2)) ∧ ∃ n, w' = w4.drewN n) := Lib.hid (fun m => (browse_Line (HX.out.draw m).bro).mono fun e w' ⟨h1, n, h2⟩ => ⟨h1, m + n, by rw [h2, World.drewN_drewN]⟩)
            generalize lineOf tb oo k2 = line at y2 HLN
            go_wp2_with fail
            go_quiet ((go_at_call 32; exact HLN.out _))
            go_wp2
            go_roundw
            case rel => exact ⟨r + 1, _, _, _, by omega, by go_num, HX.out.draw _⟩
            case measure => simp [intOf]; omega
          have g0 : (d == 0) = false := beq_eq_false_iff_ne.2 hd0
          have g1 : (d == 1) = false := beq_eq_false_iff_ne.2 hd1
          have g2 : decide (d = 0) = false := decide_eq_false hd0
          have g3 : decide (d = 1) = false := decide_eq_false hd1
          clear hd0 hd1
          go_wp2_with fail
          refine (browse_Edit HB.out.bro tx).mono ?_
          rintro e w3 ⟨⟨u, rfl⟩, h1, h2⟩
          obtain ⟨x0, x1, x2, x3, x4, hx⟩ := HB.out.edit h1 h2
          have x5 : (k : Int) < ((ts.length + 1 : Nat) : Int) := by omega
          have xc : w3.cell? ⟨b, o' + r * 2 + 1, none⟩ = some (.string tx) := by rw [h2.cell (Nat.lt_of_lt_of_le hbl HB.out.bel.size) (fun e => absurd (HB.out.far b (.inl e)) (by omega))]; exact c1
          have HX := Lib.hid hx
          clear h1 h2 hx
          generalize lineOf tb oo k = old at x2
          go_wp2_with fail
          go_region
          have HX2 := Lib.hid (HX.out.draw 1)
          rw [← World.drew_is_drewN] at HX2
          clear HB x0 x1 x2 x3 x5 xc HX
          generalize (w3.setCell ⟨g, k, none⟩ (.string tx)).drew = w4 at *
          obtain ⟨y0, y1, y2, _, hkm⟩ := HX2.out.cells
          have y3 : (k : Int) < ((ts.length + 1 : Nat) : Int) := by omega
          have HLN : Hid (∀ m, Calls Tryd.prog 32 #[.pointer (some ⟨pb, 0, none⟩)] (w4.drewN m) fun e w' => e = .returned (.string (lineOf (setTs tb k tx) (setOwn tb oo k tx) k)) ∧ ∃ n, w' = w4.drewN n) := Lib.hid (fun m => (browse_Line (HX2.out.draw m).bro).mono fun e w' ⟨h1, n, h2⟩ => ⟨h1, m + n, by rw [h2, World.drewN_drewN]⟩)
          generalize lineOf (setTs tb k tx) (setOwn tb oo k tx) k = line at y2 HLN
          go_wp2_with fail
          go_quiet ((go_at_call 32; exact HLN.out _))
          go_wp2
          go_roundw
          case rel => exact ⟨r + 1, _, _, _, by omega, by go_num, HX2.out.draw _⟩
          case measure => simp [intOf]; omega
        · have e3 : decide ((r : Int) < 100) = false := decide_eq_false (by omega)
          go_wp2_with fail
          refine (HLV.out _ HB.out.bel).mono ?_
          rintro e w4 ⟨rfl, hb⟩
          have HB4 := Lib.hid hb
          clear hb
          go_wp2
          go_ret
          exact ⟨rfl, HB4.out⟩
      · have e1 : decide ((r : Int) < (ss.length : Int)) = false := decide_eq_false (by omega)
        have e2 : decide (r < ss.length) = false := decide_eq_false hlt
        go_wp2_with fail
        refine (HLV.out _ HB.out.bel).mono ?_
        rintro e w4 ⟨rfl, hb⟩
        have HB4 := Lib.hid hb
        clear hb
        go_wp2
        go_ret
        exact ⟨rfl, HB4.out⟩

theorem walk_SearchBrowses (a : Option Addr) (len cap : Nat) (zs : List ByteArray) (own : ByteArray) (sv : Value) (ss : List (Int × ByteArray)) (w : World) (hv : IsStrs w a len cap zs) (ho : own.size ≤ maxLen) (hs : SliceG 2 stpL w sv ss ∧ ss.length ≤ maxLen ∧ ∀ o ∈ ss, In64 o.1) (hk : Kit w) :
    Calls Tryd.prog 6 #[.slice a len cap, .string own, sv] w fun e w' => e = .returned (.bool true) ∧ Below w.heap.size w w' := by
  obtain ⟨ts, h1, h2, h3⟩ := hv.slice
  exact walk_SearchBrowses0 _ ts own sv ss w h1 h2 ho hs.1 hs.2.1 hk
end Go.Proofs.YtepddieblankpaaDoor
