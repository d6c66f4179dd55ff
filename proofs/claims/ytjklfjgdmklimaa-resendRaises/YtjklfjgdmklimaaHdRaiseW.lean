/- What is asked for and put is told: the walk. -/
import Derived.Test.YtjklfjgdmklimaaHdPair
import Derived.Test.YtjklfjgdmklimaaRsLive2
import Derived.Test.YtjklfjgdmklimaaRsAsksN
import Derived.Test.YtjklfjgdmklimaaRsAsksR
import Derived.Test.YtjklfjgdmklimaaHdClk
import Derived.BigQuiet
namespace Go.Proofs.Ytjklfjgdmklimaa
open Go.RowKit Go.Maps
set_option linter.unusedVariables false

theorem sliceI_every {w : World} {a : Option Addr} {n cap : Nat} {zs : List Int} (h : SliceI w (.slice a n cap) zs) (h0 : 0 < zs.length) : ∃ b off, a = some ⟨b, off, none⟩ ∧ b < w.heap.size ∧ ∀ i (hi : i < zs.length), w.cell? ⟨b, off + i, none⟩ = some (.int .i64 zs[i]) := by
  obtain ⟨a', cap', e, _, h⟩ := h
  injection e with e1 _ _
  subst e1
  rcases h with h | ⟨b, off, rfl, hlt, hc⟩
  · subst h; simp at h0
  · exact ⟨b, off, rfl, hlt, hc⟩
/-- The counts of the first i sites are within their bounds. -/
def Counts (cs ss : List Int) (i : Nat) : Prop := ∀ j, j < i → 0 ≤ ss.getD j 0 ∧ cs.getD j 0 ≤ 20 ∧ ss.getD j 0 ≤ cs.getD j 0
theorem getD_in {zs : List Int} {i : Nat} (h : i < zs.length) : zs.getD i 0 = zs[i] := by rw [List.getD_eq_getElem?_getD, List.getElem?_eq_getElem h]; rfl

theorem SH.append {w0 w w' : World} {p q : Nat} {st : Resend.St} {sh : Hold.St} {O : Nat → Prop} {v v' : Value} (h : SH w0 p q st sh O w) (hk : Keep (At v) w w') (hn : Near w v v') (hv : ∀ b, At v b → O b ∧ w0.heap.size ≤ b) (hlt : ∀ g, v'.ownBlock = some g → g < w'.heap.size) : SH w0 p q st sh (fun b => O b ∨ v'.ownBlock = some b) w' := by
  obtain ⟨Fa, Fb, h1, h2, h3, h4, h5, h6, h7, h8⟩ := h
  refine ⟨Fa, Fb, h1.keep hk (fun b hb e => (h8 b (hv b e).1).1 hb), h2.keep hk (fun b hb e => (h8 b (hv b e).1).2.1 hb), h3, h4, h5, h6.trans (hk.below h6.size (fun i e => (hv i e).2)), h7, fun b hb => ?_⟩
  rcases hb with hb | hb
  · exact ⟨(h8 b hb).1, (h8 b hb).2.1, Nat.lt_of_lt_of_le (h8 b hb).2.2 hk.size⟩
  · rcases hn b hb with k | k
    · have := h8 b (hv b k).1
      exact ⟨this.1, this.2.1, hlt b hb⟩
    · exact ⟨fun e => by have := h1.lt b e; omega, fun e => by have := h2.lt b e; omega, hlt b hb⟩
theorem counts_all {cs ss : List Int} {N : Nat} (hc : cs.length = N) (hs : ss.length = N) (h : Counts cs ss N) (i : Nat) : 0 ≤ ss.getD i 0 ∧ cs.getD i 0 ≤ 20 ∧ ss.getD i 0 ≤ cs.getD i 0 := by
  by_cases hi : i < N
  · exact h i hi
  · rw [List.getD_eq_getElem?_getD, List.getD_eq_getElem?_getD, List.getElem?_eq_none (by omega), List.getElem?_eq_none (by omega)]
    simp
theorem asks_all {cs ss : List Int} {N : Nat} (hN : 1 ≤ N ∧ N ≤ 4) (hc : cs.length = N) (hs : ss.length = N) (h : ∀ i, 0 ≤ ss.getD i 0 ∧ cs.getD i 0 ≤ 20 ∧ ss.getD i 0 ≤ cs.getD i 0) : Resend.asks ss cs 1000 = (Resend.asksUp ss cs N, 0) := by
  have hl := Hold.asks_len (cs := cs) (ss := ss) (fun i => ⟨(h i).1, (h i).2.1⟩) N
  have ht : Vecs.together ss cs = true := by
    refine Vecs.together_iff.2 ⟨Vecs.may_iff.2 ⟨by omega, by omega, fun z hz => ?_⟩, Vecs.may_iff.2 ⟨by omega, by omega, fun z hz => ?_⟩, by omega⟩
    · obtain ⟨j, hj, rfl⟩ := List.getElem_of_mem hz
      have := h j
      rw [getD_in hj] at this
      exact ⟨by omega, by omega⟩
    · obtain ⟨j, hj, rfl⟩ := List.getElem_of_mem hz
      have := h j
      rw [getD_in hj] at this
      exact ⟨by omega, by omega⟩
  unfold Resend.asks
  rw [if_pos ⟨ht, by omega, by omega⟩, hs, List.take_of_length_le (by show _ ≤ (1000 : Int).toNat; omega)]
/-- Where the last loop stands. -/
structure RaiseW (w w4 : World) (p q N : Nat) (st : Resend.St) (X : List Mesg.Msg) (V : Value) (L : List (Int × Int)) (told : Value) (t : Nat) (ts : List (Mesg.Msg × Value)) (sh : Hold.St) (wr : World) : Prop where
  live : SH w p q st sh (fun b => V.ownBlock = some b ∨ told.ownBlock = some b) wr
  own : OwnM wr told ts
  asks : OwnA wr 64 V L
  raised : Hold.Raised N X L t ts.length sh
  new : ∀ g, told.ownBlock = some g → w4.heap.size ≤ g
  size : w4.heap.size ≤ wr.heap.size

set_option maxRecDepth 100000 in
set_option maxHeartbeats 16000000 in
theorem walk_ResendRaises (a0 : Option Addr) (len0 cap0 : Nat) (z0 : List Int) (a1 : Option Addr) (len1 cap1 : Nat) (z1 : List Int) (w : World) (h0 : IsRow .i64 w a0 len0 cap0 z0) (h1 : IsRow .i64 w a1 len1 cap1 z1) :
    Calls Try.prog 7 #[.slice a0 len0 cap0, .slice a1 len1 cap1] w fun e w' => e = .returned (.bool true) ∧ Below w.heap.size w w' := by
  obtain ⟨xs, hx, hlx, hmx, _⟩ := h0.slice
  obtain ⟨ys, hy, hly, hmy, _⟩ := h1.slice
  have HX := Lib.hid (And.intro hx hlx)
  have HY := Lib.hid (And.intro hy hly)
  unfold maxLen at hmx hmy
  have hm0 : len0 ≤ 9223372036854775807 := by omega
  have hm1 : len1 ≤ 9223372036854775807 := by omega
  clear h0 h1 hx hy hlx hly hmx hmy
  have HOUT : Hid (∀ W, Calls Try.prog 24 #[] W fun e w' => e = .returned (.bool true) ∧ Below W.heap.size W w') := Lib.hid (fun W => law08_live W)
  by_cases c1 : len0 < 1
  · have d1 : decide ((len0 : Int) < 1) = true := decide_eq_true (by omega)
    have d1' : decide (len0 < 1) = true := decide_eq_true (by omega)
    clear c1
    go_enter Try.func7, Try.ntmps7
    go_wp2_with fail
    refine (HOUT.out _).mono ?_
    rintro e w3 ⟨rfl, hb3⟩
    go_wp2
    go_ret
    exact ⟨rfl, hb3⟩
  · have d1 : decide ((len0 : Int) < 1) = false := decide_eq_false (by omega)
    have d1' : decide (len0 < 1) = false := decide_eq_false (by omega)
    by_cases c2 : 4 < len0
    · have d2 : decide ((4 : Int) < (len0 : Int)) = true := decide_eq_true (by omega)
      have d2' : decide (4 < len0) = true := decide_eq_true (by omega)
      clear c1 c2
      go_enter Try.func7, Try.ntmps7
      go_wp2_with fail
      refine (HOUT.out _).mono ?_
      rintro e w3 ⟨rfl, hb3⟩
      go_wp2
      go_ret
      exact ⟨rfl, hb3⟩
    · have d2 : decide ((4 : Int) < (len0 : Int)) = false := decide_eq_false (by omega)
      have d2' : decide (4 < len0) = false := decide_eq_false (by omega)
      by_cases c3 : len1 = len0
      · subst c3
        have hN : 1 ≤ len1 ∧ len1 ≤ 4 := by omega
        have d3 : ((len1 : Int) != (len1 : Int)) = false := by simp
        clear c1 c2
        go_enter Try.func7, Try.ntmps7
        go_wp2_with fail
        refine (resend_New_yes len1 100 _ (by omega) (by omega)).mono ?_
        rintro e w2 ⟨p, F, rfl, h1, h2, h3⟩
        have HA := Lib.hid (And.intro h1 (And.intro h2 h3))
        clear h1 h2 h3
        go_wp2_with fail
        refine (sh_New len1 100 w w2 HA.out.2.2 (by omega) (by omega) HA.out.1 HA.out.2.1).mono ?_
        rintro e w3 ⟨q, rfl, h1⟩
        have HS := Lib.hid h1
        clear h1 HA
        go_wp2_with fail
        go_loopw [9] (fun i' wr => ∃ (i : Nat) (st : Resend.St) (sh : Hold.St) (X : List Mesg.Msg), i ≤ len1 ∧ i' = .int .i64 i ∧ SH w p q st sh (fun _ => False) wr ∧ Hold.Made len1 xs ys i 0 st sh X ∧ Counts xs ys i) (fun i' _ => len1 - (intOf i').toNat)
        case atStart => exact ⟨0, _, _, _, by omega, rfl, HS.out, Hold.Made.zero len1 xs ys, fun j h => by omega⟩
        case round =>
          clear HS
          obtain ⟨i, st, sh, X, hi, rfl, hS, hM, hC⟩ := hrel
          have HS := Lib.hid hS
          have HM := Lib.hid hM
          have HC := Lib.hid hC
          clear hS hM hC
          by_cases hlt : i < len1
          · have e1 : decide ((i : Int) < (len1 : Int)) = true := decide_eq_true (by omega)
            have e1' : decide (i < len1) = true := decide_eq_true (by omega)
            have hia : (i : Int) < (len1 : Int) := by omega
            have hxl : i < xs.length := by have := HX.out.2; omega
            have hyl : i < ys.length := by have := HY.out.2; omega
            obtain ⟨bx, ox, e, hbx, hcx⟩ := sliceI_every HX.out.1 (by omega)
            subst e
            obtain ⟨by_, oy, e, hby, hcy⟩ := sliceI_every HY.out.1 (by omega)
            subst e
            have HCX : Hid (∀ W, Below w.heap.size w W → W.cell? ⟨bx, ox + i, none⟩ = some (.int .i64 (xs.getD i 0))) := Lib.hid (fun W h => by rw [h.cell (p := ⟨bx, ox + i, none⟩) hbx, hcx i hxl, getD_in hxl])
            have HCY : Hid (∀ W, Below w.heap.size w W → W.cell? ⟨by_, oy + i, none⟩ = some (.int .i64 (ys.getD i 0))) := Lib.hid (fun W h => by rw [h.cell (p := ⟨by_, oy + i, none⟩) hby, hcy i hyl, getD_in hyl])
            have x0 := HCX.out _ HS.out.bel
            have y0 := HCY.out _ HS.out.bel
            have HCN : Hid (0 ≤ ys.getD i 0 ∧ xs.getD i 0 ≤ 20 ∧ ys.getD i 0 ≤ xs.getD i 0 → Counts xs ys (i + 1)) := Lib.hid (fun h j hj => by
              by_cases e : j = i
              · subst e; exact h
              · exact HC.out j (by omega))
            clear hcx hcy
            generalize hcv : xs.getD i 0 = c at x0 HCX HCN
            generalize hsv : ys.getD i 0 = s at y0 HCY HCN
            have HCV := Lib.hid (And.intro hcv hsv)
            clear hcv hsv
            by_cases g1 : c < 0
            · have f1 : decide (c < 0) = true := decide_eq_true g1
              go_wp2
              go_quiet (fail)
              have HB1 := Lib.hid (grew HS.out.bel (grew_drewN wr nq))
              go_wp2_with fail
              refine (HOUT.out _).mono ?_
              rintro e w9 ⟨rfl, hb⟩
              have HBE := Lib.hid (grew HB1.out hb)
              clear hb
              go_wp2
              go_ret
              exact ⟨rfl, HBE.out⟩
            · have f1 : decide (c < 0) = false := decide_eq_false g1
              by_cases g2 : 20 < c
              · have f2 : decide (20 < c) = true := decide_eq_true g2
                go_wp2
                go_quiet (fail)
                have HB1 := Lib.hid (grew HS.out.bel (grew_drewN wr nq))
                go_wp2_with fail
                refine (HOUT.out _).mono ?_
                rintro e w9 ⟨rfl, hb⟩
                have HBE := Lib.hid (grew HB1.out hb)
                clear hb
                go_wp2
                go_ret
                exact ⟨rfl, HBE.out⟩
              · have f2 : decide (20 < c) = false := decide_eq_false g2
                by_cases g3 : s < 0
                · have f3 : decide (s < 0) = true := decide_eq_true g3
                  go_wp2
                  go_quiet (fail)
                  have HB1 := Lib.hid (grew HS.out.bel (grew_drewN wr nq))
                  go_wp2_with fail
                  refine (HOUT.out _).mono ?_
                  rintro e w9 ⟨rfl, hb⟩
                  have HBE := Lib.hid (grew HB1.out hb)
                  clear hb
                  go_wp2
                  go_ret
                  exact ⟨rfl, HBE.out⟩
                · have f3 : decide (s < 0) = false := decide_eq_false g3
                  by_cases g4 : c < s
                  · have f4 : decide (c < s) = true := decide_eq_true g4
                    go_wp2
                    go_quiet (fail)
                    have HB1 := Lib.hid (grew HS.out.bel (grew_drewN wr nq))
                    go_wp2_with fail
                    refine (HOUT.out _).mono ?_
                    rintro e w9 ⟨rfl, hb⟩
                    have HBE := Lib.hid (grew HB1.out hb)
                    clear hb
                    go_wp2
                    go_ret
                    exact ⟨rfl, HBE.out⟩
                  · have f4 : decide (c < s) = false := decide_eq_false g4
                    have HCN := Lib.hid (HCN.out ⟨by omega, by omega, by omega⟩)
                    go_wp2
                    go_quiet (fail)
                    have HS := Lib.hid (HS.out.grew (O' := fun _ => False) (grew_drewN wr nq) (fun b h => h.elim))
                    clear x0 y0
                    go_wp2_with fail
                    go_loopw [10] (fun k' wv => ∃ (k : Nat) (st : Resend.St) (sh : Hold.St) (X : List Mesg.Msg), (k : Int) ≤ c ∧ k' = .int .i64 k ∧ SH w p q st sh (fun _ => False) wv ∧ Hold.Made len1 xs ys i k st sh X) (fun k' _ => c.toNat - (intOf k').toNat)
                    case atStart => exact ⟨0, _, _, _, by omega, rfl, HS.out, HM.out⟩
                    case round =>
                      clear HS HM
                      obtain ⟨k, st, sh, X, hk, rfl, hS, hM⟩ := hrel
                      have HS := Lib.hid hS
                      have HM := Lib.hid hM
                      clear hS hM
                      have x0 := HCX.out _ HS.out.bel
                      by_cases hkc : (k : Int) < c
                      · have e2 : decide ((k : Int) < c) = true := decide_eq_true hkc
                        have hk20 : k < 20 := by omega
                        have HKN := Lib.hid (Hold.keep_new HM.out hN hlt hk20)
                        have HST := Lib.hid (HM.out.step hN hlt hk20)
                        go_wp2_with fail
                        refine (ref06_Zero_own2 len1 _ (by omega)).mono ?_
                        rintro e w4 ⟨r4, rfl, ho, hb⟩
                        obtain ⟨g, cap, e, hg1, hclk⟩ := Clk.of ho (by rw [List.length_replicate]; omega)
                        rw [List.length_replicate] at e
                        subst e
                        have hgl := hclk.lt
                        have HS4 := Lib.hid (HS.out.grew (O' := fun b => b = g) hb (fun b e => .inr (by have e : b = g := e; rw [e]; exact ⟨hg1, hgl⟩)))
                        have HGW : Hid (w.heap.size ≤ g) := Lib.hid (Nat.le_trans HS.out.bel.size hg1)
                        have hir : i < (List.replicate len1 (0 : Int)).length := by rw [List.length_replicate]; exact hlt
                        have c5 := hclk.cell hir
                        have f5 := hclk.frozen i
                        rw [List.getElem_replicate] at c5
                        have HSZ : Hid ((w4.setCell ⟨g, i, none⟩ (.int .i64 (k : Int))).heap.size = w4.heap.size) := Lib.hid (by simp [World.setCell])
                        have HS5 := Lib.hid (HS4.out.aside (Keep.setCell w4 g i (.int .i64 (k : Int))) (fun b e => by have e : b = g := e; subst e; exact ⟨rfl, HGW.out⟩))
                        have HC5 := Lib.hid (hclk.set hir (k : Int))
                        have HA5 := Lib.hid (grew_alloc (w4.setCell ⟨g, i, none⟩ (.int .i64 (k : Int))) (.cells #[.int .i64 (i : Int), .int .i64 ((k : Int) + 1), .slice (some ⟨g, 0, none⟩) len1 cap, .int .i64 5, .int .i64 0, .int .i64 0, .int .i64 0, .int .i64 0, .int .i64 0, .int .i64 0] 40))
                        have HBX6 : Hid (Holds ((w4.setCell ⟨g, i, none⟩ (.int .i64 (k : Int))).alloc (.cells #[.int .i64 (i : Int), .int .i64 ((k : Int) + 1), .slice (some ⟨g, 0, none⟩) len1 cap, .int .i64 5, .int .i64 0, .int .i64 0, .int .i64 0, .int .i64 0, .int .i64 0, .int .i64 0] 40)) w4.heap.size [.int .i64 (i : Int), .int .i64 ((k : Int) + 1), .slice (some ⟨g, 0, none⟩) len1 cap, .int .i64 5, .int .i64 0, .int .i64 0, .int .i64 0, .int .i64 0, .int .i64 0, .int .i64 0] 40) := Lib.hid (by
                          have := Holds.new (w4.setCell ⟨g, i, none⟩ (.int .i64 (k : Int))) [.int .i64 (i : Int), .int .i64 ((k : Int) + 1), .slice (some ⟨g, 0, none⟩) len1 cap, .int .i64 5, .int .i64 0, .int .i64 0, .int .i64 0, .int .i64 0, .int .i64 0, .int .i64 0] 40
                          rw [HSZ.out] at this
                          exact this)
                        have HC6 := Lib.hid (HC5.out.below HA5.out)
                        have HBL := Lib.hid HBX6.out.lt
                        have HS6 := Lib.hid (HS5.out.grew (O' := fun b => b = w4.heap.size ∨ b = g) HA5.out (fun b e => by
                          rcases e with e | e
                          · subst e; exact .inr ⟨by rw [HSZ.out]; exact Nat.le_refl _, HBL.out⟩
                          · exact .inl e))
                        clear HS4 HS5 HC5 hclk ho hb hg1 x0 HA5
                        have hgne : g ≠ w4.heap.size := by omega
                        go_wp2_with fail
                        clear c5 f5
                        generalize (w4.setCell ⟨g, i, none⟩ (.int .i64 (k : Int))).alloc (.cells #[.int .i64 (i : Int), .int .i64 ((k : Int) + 1), .slice (some ⟨g, 0, none⟩) len1 cap, .int .i64 5, .int .i64 0, .int .i64 0, .int .i64 0, .int .i64 0, .int .i64 0, .int .i64 0] 40) = W6 at *
                        have HSL : Hid (SliceI W6 (.slice (some ⟨g, 0, none⟩) len1 cap) (Hold.zc len1 i (k : Int))) := Lib.hid (by have := HC6.out.slice; rw [List.length_set, List.length_replicate] at this; exact this)
                        refine (sh_Keep HS6.out (Hold.ms len1 i k) (.slice (some ⟨g, 0, none⟩) len1 cap) HSL.out (by show (Hold.zc len1 i (k : Int)).length ≤ _; rw [Hold.zc_len]; omega)).mono ?_
                        rintro e w7 ⟨rfl, hS, hkp⟩
                        rw [HKN.out] at hS ⊢
                        have HS7 := Lib.hid hS
                        have HC7 := Lib.hid (HC6.out.keep hkp (fun h => h (.inr rfl)))
                        have HBX7 := Lib.hid (HBX6.out.keep hkp (fun h => h (.inl rfl)))
                        clear hS hkp HSL HS6 HC6 HBX6
                        have HSL : Hid (SliceI w7 (.slice (some ⟨g, 0, none⟩) len1 cap) (Hold.zc len1 i (k : Int))) := Lib.hid (by have := HC7.out.slice; rw [List.length_set, List.length_replicate] at this; exact this)
                        have y0 := HCY.out _ HS7.out.bel
                        by_cases hks : (k : Int) < s
                        · have e3 : decide ((k : Int) < s) = true := decide_eq_true hks
                          have q0 := HBX7.out.cell 0 (by simp)
                          have q1 := HBX7.out.cell 1 (by simp)
                          have q2 := HBX7.out.cell 2 (by simp)
                          have q3 := HBX7.out.cell 3 (by simp)
                          have q4 := HBX7.out.cell 4 (by simp)
                          have q5 := HBX7.out.cell 5 (by simp)
                          have q6 := HBX7.out.cell 6 (by simp)
                          have q7 := HBX7.out.cell 7 (by simp)
                          have q8 := HBX7.out.cell 8 (by simp)
                          have q9 := HBX7.out.cell 9 (by simp)
                          simp only [List.getElem_cons_succ, List.getElem_cons_zero] at q0 q1 q2 q3 q4 q5 q6 q7 q8 q9
                          obtain ⟨X', hM'⟩ := HST.out.1 (by rw [HCV.out.2]; exact hks)
                          have HM' := Lib.hid hM'
                          clear hM'
                          go_wp2_with fail
                          clear q0 q1 q2 q3 q4 q5 q6 q7 q8 q9
                          refine (sh_Put HS7.out (Hold.ms len1 i k) (.slice (some ⟨g, 0, none⟩) len1 cap) HSL.out (by show (Hold.zc len1 i (k : Int)).length ≤ _; rw [Hold.zc_len]; omega)).mono ?_
                          rintro e w8 ⟨T, ts, rfl, hom, hts, hty, hS8, hk8⟩
                          have HS8 := Lib.hid (hS8.grew (O' := fun _ => False) (Below.refl _ _) (fun b h => h.elim))
                          clear hom hts hty hS8 hk8
                          generalize (Hold.put sh (Hold.ms len1 i k)).2.1 = er
                          go_wp2
                          refine ⟨⟨k + 1, _, _, _, by omega, by go_num, HS8.out, HM'.out⟩, by simp [intOf]; omega⟩
                        · have e3 : decide ((k : Int) < s) = false := decide_eq_false hks
                          have HM' := Lib.hid (HST.out.2 (by rw [HCV.out.2]; omega))
                          have HS8 := Lib.hid (HS7.out.grew (O' := fun _ => False) (Below.refl _ _) (fun b h => h.elim))
                          go_wp2
                          refine ⟨⟨k + 1, _, _, _, by omega, by go_num, HS8.out, HM'.out⟩, by simp [intOf]; omega⟩
                      · have e2 : decide ((k : Int) < c) = false := decide_eq_false hkc
                        have HM' := Lib.hid (HM.out.turn (by omega) (by rw [HCV.out.1]; omega) (by rw [HCV.out.2]; omega))
                        go_wp2
                        refine ⟨⟨i + 1, _, _, _, by omega, by go_num, HS.out, HM'.out, HCN.out⟩, by simp [intOf]; omega⟩
          · have e1 : decide ((i : Int) < (len1 : Int)) = false := decide_eq_false (by omega)
            have e1' : decide (i < len1) = false := decide_eq_false hlt
            obtain rfl : i = len1 := by omega
            have HALL := Lib.hid (counts_all HX.out.2 HY.out.2 HC.out)
            have HFULL := Lib.hid HM.out.full
            have HDN := Lib.hid (HFULL.out.done (by omega) HY.out.2 (fun j => (HALL.out j).1) HM.out.inv HM.out.quiet)
            have HAL := Lib.hid (asks_all hN HX.out.2 HY.out.2 HALL.out)
            have HLL := Lib.hid (Hold.asks_len (cs := xs) (ss := ys) (fun j => ⟨(HALL.out j).1, (HALL.out j).2.1⟩) i)
            go_wp2_with fail
            refine (sh_Clock HS.out).mono ?_
            rintro e w4 ⟨a4, c4, rfl, hs4, hb⟩
            rw [HDN.out.1] at hs4 ⊢
            have HS4 := Lib.hid (HS.out.grew (O' := fun _ => False) hb (fun b h => h.elim))
            have HSL := Lib.hid hs4
            clear hs4 hb
            go_wp2_with fail
            refine (resend_AsksN _ _ ys xs 1000 _ HSL.out (HX.out.1.below HS4.out.bel) (by have := HY.out.2; omega) (by have := HX.out.2; omega)).mono ?_
            rintro e w5 ⟨V, rfl, hV, hb, hnew⟩
            rw [HAL.out] at hV ⊢
            have HS5 := Lib.hid (HS4.out.grew (O' := fun b => V.ownBlock = some b ∨ (Value.slice none 0 0).ownBlock = some b) hb (fun b e => by
              rcases e with e | e
              · exact .inr ⟨hnew b e, Owns.lt hV e⟩
              · cases e))
            have HVL : Hid (∀ g, V.ownBlock = some g → g < w5.heap.size ∧ w.heap.size ≤ g) := Lib.hid (fun g hg => ⟨Owns.lt hV hg, Nat.le_trans HS4.out.bel.size (hnew g hg)⟩)
            have HR0 : Hid (Hold.Raised i X (Resend.asksUp ys xs i) 0 0 sh) := Lib.hid ⟨by simpa using HM.out.inv, HM.out.quiet, HM.out.roomH, by rw [HDN.out.2]; simp, by rw [HDN.out.2]; simp⟩
            have HSTEP : Hid (∀ (t u r : Nat) (sh : Hold.St), Hold.Raised i X (Resend.asksUp ys xs i) t u sh → ∀ (hr : r < (Resend.asksUp ys xs i).length), r = (Resend.asksUp ys xs i).length - 1 - t → t < (Resend.asksUp ys xs i).length → Hold.Raised i X (Resend.asksUp ys xs i) (t + 1) (u + (Hold.put sh (Hold.toMs i (Resend.asksUp ys xs i)[r])).1.length) (Hold.put sh (Hold.toMs i (Resend.asksUp ys xs i)[r])).2.2) := Lib.hid (fun t u r sh h hr e ht => h.step hN HFULL.out (fun j => ⟨(HALL.out j).1, (HALL.out j).2.1⟩) hr e ht)
            have HGET : Hid (∀ a ∈ Resend.asksUp ys xs i, Resend.get st a = (Hold.toMs i a, true) ∧ I64 a.1 ∧ I64 a.2 ∧ (Hold.toMs i a).know.length ≤ 4) := Lib.hid (fun a ha => by
              refine ⟨HM.out.get (fun j => (HALL.out j).1) ha, ?_⟩
              obtain ⟨j, q', h1, rfl, h3, h4⟩ := (Hold.asks_mem (fun j => (HALL.out j).1)).1 ha
              have := HALL.out j
              refine ⟨by unfold I64; omega, by unfold I64; omega, ?_⟩
              rw [Hold.toMs_at]
              show (Hold.zc i j _).length ≤ 4
              rw [Hold.zc_len]; omega)
            have HEND : Hid (∀ (u : Nat) (sh : Hold.St), Hold.Raised i X (Resend.asksUp ys xs i) (Resend.asksUp ys xs i).length u sh → sh.clock = xs ∧ sh.l = [] ∧ u = (Resend.asksUp ys xs i).length) := Lib.hid (fun u sh h => h.done hN HX.out.2 HFULL.out HALL.out)
            have HW5 : Hid (w.heap.size ≤ w5.heap.size) := Lib.hid (Nat.le_trans HS4.out.bel.size hb.size)
            have HVO := Lib.hid hV
            generalize Resend.asksUp ys xs i = L at *
            have hL := HLL.out
            obtain ⟨va, vc, e, _⟩ := HVO.out.read
            subst e
            clear hV hb hnew HALL HFULL HDN HAL HS4 HSL HS HM HC
            go_wp2_with fail
            go_loopw [14, 15] (fun told t' wr => ∃ (t : Nat) (ts : List (Mesg.Msg × Value)) (sh : Hold.St), t ≤ L.length ∧ t' = .int .i64 t ∧ RaiseW w w5 p q i st X (.slice va L.length vc) L told t ts sh wr) (fun _ t' _ => L.length - (intOf t').toNat)
            case atStart => exact ⟨0, [], sh, by omega, rfl, HS5.out, OwnM.nil _, HVO.out, HR0.out, fun g hg => (by cases hg), Nat.le_refl _⟩
            case round =>
              clear HS5 HR0 HVO
              obtain ⟨t, ts, sh, ht, rfl, hR⟩ := hrel
              have HR := Lib.hid hR
              obtain ⟨ta, tc, e⟩ := hR.own.form
              subst e
              have hfew : ts.length ≤ t := by have := hR.raised.told; omega
              clear hR
              by_cases hlt2 : t < L.length
              · have e2 : decide ((t : Int) < (L.length : Int)) = true := decide_eq_true (by omega)
                obtain ⟨r, hr⟩ : ∃ r : Nat, r = L.length - 1 - t := ⟨_, rfl⟩
                have hrl : r < L.length := by omega
                have hra : (r : Int) < (L.length : Int) := by omega
                have hrr : (L.length : Int) - 1 - (t : Int) = (r : Int) := by omega
                have HNX := Lib.hid (HSTEP.out t ts.length r sh HR.out.raised hrl hr hlt2)
                have HG := Lib.hid (HGET.out L[r] (List.getElem_mem hrl))
                obtain ⟨va', vc', e, hrd⟩ := HR.out.asks.read
                injection e with e1 _ e3
                subst e1
                subst e3
                obtain ⟨bv, e, hbv, hcv⟩ : ∃ bx, va = some ⟨bx, 0, none⟩ ∧ bx < wr.heap.size ∧ ∀ k (hk : k < L.length), wr.cell? ⟨bx, k * 2, none⟩ = some (.int .i64 L[k].1) ∧ wr.cell? ⟨bx, k * 2 + 1, none⟩ = some (.int .i64 L[k].2) := by
                  rcases hrd with h | h
                  · subst h; simp at hrl
                  · exact h
                subst e
                have v0 := (hcv r hrl).1
                have v1 := (hcv r hrl).2
                clear hcv hrd hr
                generalize L[r] = ar at v0 v1 HNX HG
                obtain ⟨ax, ay⟩ := ar
                simp only at v0 v1
                have HCALL := Lib.hid (sh_Get HR.out.live ax ay HG.out.2.1 HG.out.2.2.1)
                rw [HG.out.1] at HCALL
                have HKL := Lib.hid HG.out.2.2.2
                generalize Hold.toMs i (ax, ay) = m at HCALL HNX HKL
                obtain ⟨st', sq', kn', ⟨kd', ep', ⟨i1', i2'⟩, ⟨r1', r2'⟩, rn'⟩⟩ := m
                simp only at HCALL HKL
                clear HG
                go_wp2_with fail
                refine HCALL.out.mono ?_
                rintro e w6 ⟨u, rfl, hu, hb⟩
                obtain ⟨ua, uc, e⟩ := hu.shape
                subst e
                have HA7 := Lib.hid (grew_alloc w6 (.cells #[.int .i64 st', .int .i64 sq', .slice ua kn'.length uc, .int .i64 kd', .int .i64 ep', .int .i64 i1', .int .i64 i2', .int .i64 r1', .int .i64 r2', .int .i64 rn'] 40))
                have HU7 := Lib.hid (hu.below HA7.out)
                have HBB := Lib.hid (grew hb HA7.out)
                have HS7 := Lib.hid (HR.out.live.grew (O' := fun b' => (Value.slice (some ⟨bv, 0, none⟩) L.length vc).ownBlock = some b' ∨ (Value.slice ta ts.length tc).ownBlock = some b') HBB.out (fun b' h => .inl h))
                have HO7 := Lib.hid (HR.out.own.below HBB.out)
                have HV7 := Lib.hid (HR.out.asks.below HBB.out)
                have HNEW := Lib.hid HR.out.new
                clear hu hb v0 v1 HCALL HA7
                unfold msgV
                simp only
                go_wp2_with fail
                generalize w6.alloc (.cells #[.int .i64 st', .int .i64 sq', .slice ua kn'.length uc, .int .i64 kd', .int .i64 ep', .int .i64 i1', .int .i64 i2', .int .i64 r1', .int .i64 r2', .int .i64 rn'] 40) = W7 at *
                refine (sh_Put HS7.out ⟨st', sq', kn', ⟨kd', ep', ⟨i1', i2'⟩, ⟨r1', r2'⟩, rn'⟩⟩ (.slice ua kn'.length uc) HU7.out (by have := HKL.out; show kn'.length ≤ _; omega)).mono ?_
                rintro e w8 ⟨T2, ys2, rfl, hom, hxs, hy2, hS8, hk8⟩
                have HSZ : Hid (w5.heap.size ≤ w8.heap.size) := Lib.hid (Nat.le_trans HR.out.size (Nat.le_trans HBB.out.size hk8.size))
                have HV8 := Lib.hid (show OwnA w8 64 _ L from Owns.keep HV7.out hk8 (fun g hg h => h (.inl hg)))
                have HO8 := Lib.hid (show OwnM w8 (.slice ta ts.length tc) ts from Owns.keep HO7.out hk8 (fun g hg h => h (.inr hg)))
                have HS8 := Lib.hid hS8
                have HOM := Lib.hid hom
                have HONE : Hid (∀ y ∈ ys2, y.2.oneCell' = true) := Lib.hid (fun y hy => by obtain ⟨a, c, e⟩ := (hy2 y hy).shape; rw [e]; rfl)
                have HNX2 := HNX.out
                have hyl : (Hold.put sh ⟨st', sq', kn', ⟨kd', ep', ⟨i1', i2'⟩, ⟨r1', r2'⟩, rn'⟩⟩).1.length = ys2.length := by rw [← hxs, List.length_map]
                rw [hyl] at HNX2
                have hsum : ts.length + ys2.length ≤ t + 1 := by have := HNX2.told; omega
                have HNX3 := Lib.hid HNX2
                obtain ⟨sa, sc, e⟩ := hom.form
                subst e
                clear HNX2 hyl hom hxs hy2 hS8 hk8 HNX HU7 HS7 HO7 HV7 HBB
                generalize (Hold.put sh ⟨st', sq', kn', ⟨kd', ep', ⟨i1', i2'⟩, ⟨r1', r2'⟩, rn'⟩⟩).2.1 = er
                generalize (Hold.put sh ⟨st', sq', kn', ⟨kd', ep', ⟨i1', i2'⟩, ⟨r1', r2'⟩, rn'⟩⟩).2.2 = sh2 at HS8 HNX3
                go_wp2_with (at_builtin; refine wp_append_msgs rfl (.tmp 169) (.tmp 170) rfl (.slice ta ts.length tc) ts rfl HO8.out (.slice sa ys2.length sc) ys2 rfl HOM.out HONE.out (by omega) ?_; intro T3 w9 ho9 hk9 hn9; have HM9 := Lib.hid (And.intro ho9 (And.intro hk9 hn9)); clear ho9 hk9 hn9)
                have HS9 := Lib.hid ((HS8.out.append HM9.out.2.1 HM9.out.2.2 (fun g hg => ⟨.inr hg, by have := HNEW.out g hg; have := HW5.out; omega⟩) (fun g hg => Owns.lt HM9.out.1 hg)).grew (O' := fun b' => (Value.slice (some ⟨bv, 0, none⟩) L.length vc).ownBlock = some b' ∨ T3.ownBlock = some b') (Below.refl _ _) (fun b' h => .inl (by rcases h with h | h; exact .inl (.inl h); exact .inr h)))
                have HV9 := Lib.hid (show OwnA w9 64 _ L from Owns.keep HV8.out HM9.out.2.1 (fun g hg h => by have := (HVL.out g hg).1; have := HNEW.out g h; omega))
                have HN9 : Hid (∀ g, T3.ownBlock = some g → w5.heap.size ≤ g) := Lib.hid (fun g hg => by
                  rcases HM9.out.2.2 g hg with k | k
                  · exact HNEW.out g k
                  · exact Nat.le_trans HSZ.out k)
                have HR9 : Hid (RaiseW w w5 p q i st X (.slice (some ⟨bv, 0, none⟩) L.length vc) L T3 (t + 1) (ts ++ ys2) sh2 w9) := Lib.hid ⟨HS9.out, HM9.out.1, HV9.out, by rw [List.length_append]; exact HNX3.out, HN9.out, Nat.le_trans HSZ.out HM9.out.2.1.size⟩
                clear HS9 HV9 HN9 HM9 HS8 HV8 HO8 HOM
                go_wp2
                go_roundw
                case rel => exact ⟨t + 1, ts ++ ys2, sh2, by omega, by go_num, HR9.out⟩
                case measure => simp [intOf]; omega
              · have e2 : decide ((t : Int) < (L.length : Int)) = false := decide_eq_false (by omega)
                obtain rfl : t = L.length := by omega
                have HE := Lib.hid (HEND.out ts.length sh HR.out.raised)
                have fe : ((ts.length : Int) == (L.length : Int)) = true := by rw [HE.out.2.2]; simp
                have HCK := Lib.hid (sh_Clock HR.out.live)
                rw [HE.out.1] at HCK
                have HXL := Lib.hid HX.out.2
                go_wp2_with fail
                refine HCK.out.mono ?_
                rintro e w6 ⟨a6, c6, rfl, hs6, hb⟩
                have HS6 := Lib.hid hs6
                have HL6 := Lib.hid (HR.out.live.grew (O' := fun _ => False) hb (fun b h => h.elim))
                rw [HXL.out] at hs6 ⊢
                clear hs6 hb
                go_wp2_with fail
                refine (ref01_Same _ _ xs xs _ (by have := HS6.out; rw [HXL.out] at this; exact this) (HX.out.1.below HL6.out.bel) (by have := HXL.out; omega) (by have := HXL.out; omega)).mono ?_
                rintro e w7 ⟨rfl, hb⟩
                rw [decide_eq_true (Eq.refl xs)]
                have HL7 := Lib.hid (HL6.out.grew (O' := fun _ => False) hb (fun b h => h.elim))
                clear hb
                have HWT := Lib.hid (sh_Waits HL7.out)
                rw [HE.out.2.1] at HWT
                go_wp2_with fail
                refine HWT.out.mono ?_
                rintro e w8 ⟨rfl, rfl⟩
                rw [List.length_nil]
                go_wp2_with fail
                refine (HOUT.out _).mono ?_
                rintro e w9 ⟨rfl, hb⟩
                have HBE := Lib.hid (grew HL7.out.bel hb)
                clear hb
                go_wp2
                go_ret
                exact ⟨rfl, HBE.out⟩
      · have d3 : ((len1 : Int) != (len0 : Int)) = true := by simp; omega
        clear c1 c2
        go_enter Try.func7, Try.ntmps7
        go_wp2_with fail
        refine (HOUT.out _).mono ?_
        rintro e w3 ⟨rfl, hb3⟩
        go_wp2
        go_ret
        exact ⟨rfl, hb3⟩
end Go.Proofs.Ytjklfjgdmklimaa
