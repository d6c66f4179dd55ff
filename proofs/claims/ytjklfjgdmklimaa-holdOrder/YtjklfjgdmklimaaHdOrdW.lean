/- Each message is told once, behind all that its site knew: the walk. -/
import Derived.Test.YtjklfjgdmklimaaHdMsgs
import Derived.Test.YtjklfjgdmklimaaHdClk
import Derived.Test.YtjklfjgdmklimaaHdTwo
import Derived.Test.YtjklfjgdmklimaaHdOrd
import Derived.Test.YtjklfjgdmklimaaMesgRef3
import Derived.Deep.RegionHeld3
namespace Go.Proofs.Ytjklfjgdmklimaa
open Go.RowKit Go.Maps
set_option linter.unusedVariables false

theorem may_site {m : Mesg.Msg} (h : Mesg.may m = true) : 0 ≤ m.site ∧ m.site < m.know.length ∧ 1 ≤ m.seq ∧ m.seq ≤ 4294967295 := by
  unfold Mesg.may Mesg.headMay at h
  simp only [Bool.and_eq_true, decide_eq_true_eq] at h
  have hc := h.1.1.2
  unfold Mesg.clock at hc
  simp at hc
  omega

/-- Where the inner loop stands: the clock behind j of what was told. -/
def OrdW (w : World) (p g cap N : Nat) (s : Hold.St) (T : Value) (xs : List (Mesg.Msg × Value)) (j : Nat) (wv : World) : Prop :=
  ∃ cs, HLive w p s (fun b => b = g) wv ∧ Clk wv g cap cs ∧ cs.length = N ∧ Hold.Told N cs ((xs.map Prod.fst).drop j) s.clock ∧ OwnM wv T xs ∧ (∀ y ∈ xs, SliceI wv y.2 y.1.know ∧ ∀ b, y.2.ownBlock = some b → b ≠ g) ∧ ∀ b, T.ownBlock = some b → b ≠ g

set_option maxRecDepth 100000 in
set_option maxHeartbeats 16000000 in
theorem walk_HoldOrder (s0 : Int) (v : Value) (qs : List (Mesg.Msg × Value)) (w : World) (hs : (Lit.int .i64 s0).wf = true) (hx : SliceG 10 msgQ w v qs ∧ qs.length ≤ maxLen ∧ ∀ o ∈ qs, okQ w o) :
    Calls Try.prog 4 #[.int .i64 s0, v] w fun e w' => e = .returned (.bool true) ∧ Below w.heap.size w w' := by
  obtain ⟨hv, hm, hok⟩ := hx
  have HV := Lib.hid hv
  have HOK := Lib.hid hok
  obtain ⟨va, vc, rfl⟩ := hv.shape
  have HFEW := Lib.hid (ref07_Few (.slice va qs.length vc) qs w hv hm hok)
  clear hv hs hok
  go_enter Try.func4, Try.ntmps4
  go_wp2_with fail
  refine HFEW.out.mono ?_
  by_cases hfew : qs.length ≤ 60 ∧ ∀ q ∈ qs, q.1.know.length ≤ 30
  · rintro e w1 ⟨rfl, rfl⟩
    rw [decide_eq_true hfew]
    have h60 := hfew.1
    have HK30 := Lib.hid hfew.2
    clear hfew hm HFEW
    by_cases hn : 1 ≤ s0 ∧ s0 ≤ 16
    · obtain ⟨N, rfl⟩ : ∃ n : Nat, s0 = n := ⟨s0.toNat, by omega⟩
      have hN : 1 ≤ N ∧ N ≤ 16 := by omega
      clear hn
      go_wp2_with fail
      refine (hold_New_yes N 1000 _ hN (by omega)).mono ?_
      rintro e w2 ⟨p, F, rfl, h1, h2, h3⟩
      have HA := Lib.hid (And.intro h1 (And.intro h2 h3))
      clear h1 h2 h3
      go_wp2_with fail
      refine (ref06_Zero_own2 N _ (by omega)).mono ?_
      rintro e w3 ⟨r3, rfl, ho, hb⟩
      obtain ⟨g, cap, e, hg, hclk⟩ := Clk.of ho (by rw [List.length_replicate]; exact hN.1)
      rw [List.length_replicate] at e
      subst e
      have HG : Hid (w1.heap.size ≤ g) := Lib.hid (Nat.le_trans HA.out.2.2.size hg)
      have HL : Hid (HLive w1 p (Hold.new N 1000) (fun b => b = g) w3 ∧ Clk w3 g cap (List.replicate N 0)) := Lib.hid ⟨⟨F, HA.out.1.below hb, Nat.zero_le _, HA.out.2.1, grew HA.out.2.2 hb, fun b e => by have e : b = g := e; rw [e]; exact ⟨fun hf => by have := HA.out.1.lt g hf; omega, hclk.lt⟩⟩, hclk⟩
      clear ho hb hg hclk HA
      go_wp2_with fail
      go_loopw [8] (fun i' wr => ∃ (k : Nat) (s : Hold.St), k ≤ qs.length ∧ i' = .int .i64 k ∧ HLive w1 p s (fun b => b = g) wr ∧ Clk wr g cap s.clock ∧ s.clock.length = N) (fun i' _ => qs.length - (intOf i').toNat)
      case atStart => exact ⟨0, Hold.new N 1000, by omega, rfl, HL.out.1, HL.out.2, by show (List.replicate N 0).length = N; simp⟩
      case round =>
        obtain ⟨k, s, hk, rfl, hL, hC, hsl⟩ := hrel
        have HL := Lib.hid hL
        have HC := Lib.hid hC
        have HSN := Lib.hid hsl
        clear hL hC hsl
        by_cases hlt : k < qs.length
        · have e1 : decide ((k : Int) < (qs.length : Int)) = true := decide_eq_true (by omega)
          have hia : (k : Int) < (qs.length : Int) := by omega
          obtain ⟨b, off, e, hbl, hcc⟩ := (HV.out.below HL.out.below).at hlt
          subst e
          have hq := HOK.out qs[k] (List.getElem_mem hlt)
          have hq30 := HK30.out qs[k] (List.getElem_mem hlt)
          generalize qs[k] = x at hcc hq hq30
          obtain ⟨⟨st, sq, kn, ⟨kd, ep, ⟨i1, i2⟩, ⟨r1, r2⟩, rn⟩⟩, kv⟩ := x
          obtain ⟨hq1, hq2⟩ := hq
          simp only at hq1 hq2 hq30
          obtain ⟨ka, kc, e⟩ := hq1.shape
          subst e
          have HKV := Lib.hid (hq1.below HL.out.below)
          have q0 := hcc 0 _ rfl
          have q1 := hcc 1 _ rfl
          have q2 := hcc 2 _ rfl
          have q3 := hcc 3 _ rfl
          have q4 := hcc 4 _ rfl
          have q5 := hcc 5 _ rfl
          have q6 := hcc 6 _ rfl
          have q7 := hcc 7 _ rfl
          have q8 := hcc 8 _ rfl
          have q9 := hcc 9 _ rfl
          simp only [Nat.add_zero] at q0
          have HPUT := Lib.hid (hlive_Put2 HL.out ⟨st, sq, kn, ⟨kd, ep, ⟨i1, i2⟩, ⟨r1, r2⟩, rn⟩⟩ _ HKV.out (by show kn.length ≤ _; omega))
          have HOKS : Hid (Hold.Ok s) := Lib.hid (by obtain ⟨F, h1, _⟩ := HL.out; exact h1.ok)
          have HTOLD := Lib.hid (Hold.put_told HOKS.out ⟨st, sq, kn, ⟨kd, ep, ⟨i1, i2⟩, ⟨r1, r2⟩, rn⟩⟩)
          generalize Hold.put s ⟨st, sq, kn, ⟨kd, ep, ⟨i1, i2⟩, ⟨r1, r2⟩, rn⟩⟩ = pt at HPUT HTOLD
          obtain ⟨tl, er, s2⟩ := pt
          simp only at HPUT HTOLD
          clear hcc hq1 hq2
          go_wp2_with fail
          refine (HPUT.out).mono ?_
          rintro e w4 ⟨T, xs, rfl, hom, hxs, hy, hT, hL2, hkp⟩
          obtain ⟨ta, tc, e⟩ := hom.form
          subst e
          have HS2 : Hid (s2.clock.length = N) := Lib.hid (by rw [Hold.told_len HTOLD.out, HSN.out])
          have HOW : Hid (OrdW w1 p g cap N s2 (.slice ta xs.length tc) xs 0 w4) := Lib.hid ⟨s.clock, hL2, HC.out.keep hkp (fun h => h rfl), HSN.out, by rw [List.drop_zero, hxs, ← HSN.out]; exact HTOLD.out, hom, fun y hyx => ⟨(hy y hyx).1, (hy y hyx).2⟩, fun b hb e => by have := hT b hb; have := HC.out.lt; omega⟩
          have HXL : Hid (xs.length ≤ 9223372036854775807) := Lib.hid (by
            rcases hom.2 with ⟨_, h0⟩ | ⟨g', cap', cur, _, _, _, hn', hm', _⟩
            · omega
            · unfold maxLen at hm'; omega)
          have hxl := HXL.out
          clear hom hxs hy hT hL2 hkp q0 q1 q2 q3 q4 q5 q6 q7 q8 q9 HPUT HTOLD HOKS HKV HL HC HSN
          go_wp2_with fail
          go_loopw [11] (fun j' wv => ∃ j : Nat, j ≤ xs.length ∧ j' = .int .i64 j ∧ OrdW w1 p g cap N s2 (.slice ta xs.length tc) xs j wv) (fun j' _ => xs.length - (intOf j').toNat)
          case atStart => exact ⟨0, by omega, rfl, HOW.out⟩
          case round =>
            obtain ⟨j, hj, rfl, hO⟩ := hrel
            obtain ⟨cs, hL, hC, hcl, hTd, hom, hy, hTb⟩ := hO
            have HL := Lib.hid hL
            have HC := Lib.hid hC
            have HCL := Lib.hid hcl
            have HTD := Lib.hid hTd
            have HOM := Lib.hid hom
            have HY := Lib.hid hy
            have HTB := Lib.hid hTb
            clear hL hC hcl hTd hom hy hTb
            by_cases hjl : j < xs.length
            · have e2 : decide ((j : Int) < (xs.length : Int)) = true := decide_eq_true (by omega)
              have hja : (j : Int) < (xs.length : Int) := by omega
              obtain ⟨tb, e, htb, hcc⟩ := HOM.out.at hjl
              subst e
              have hyj := HY.out xs[j] (List.getElem_mem hjl)
              have hdr : (xs.map Prod.fst).drop j = xs[j].1 :: (xs.map Prod.fst).drop (j + 1) := by
                rw [List.drop_eq_getElem_cons (by simpa using hjl)]
                simp
              have htd := HTD.out
              rw [hdr] at htd
              clear hdr HTD
              generalize xs[j] = x at hcc hyj htd
              obtain ⟨⟨st, sq, kn, ⟨kd, ep, ⟨i1, i2⟩, ⟨r1, r2⟩, rn⟩⟩, kv⟩ := x
              obtain ⟨t1, t2, t3, t4, t5⟩ := htd
              simp only at t1 t2 t3 t4 t5 hyj hcc
              obtain ⟨m1, m2, m3, m4⟩ := may_site t1
              simp only at m1 m2 m3 m4
              obtain ⟨c, rfl⟩ : ∃ c : Nat, st = c := ⟨st.toNat, by omega⟩
              have hcN : c < N := by omega
              have hcs : c < cs.length := by rw [HCL.out]; exact hcN
              have hca : (c : Int) < (N : Int) := by omega
              rw [Int.toNat_natCast] at t4 t5
              have hgd : cs.getD c 0 = cs[c] := by rw [List.getD_eq_getElem?_getD, List.getElem?_eq_getElem hcs]; rfl
              rw [hgd] at t4
              obtain ⟨ka, kc, e⟩ := hyj.1.shape
              subst e
              rw [t2] at hyj hcc
              have HKN := Lib.hid hyj
              have HT5 := Lib.hid t5
              have HT3 := Lib.hid t3
              have HT2 := Lib.hid t2
              have HCK := Lib.hid (checkN_yes t1)
              have q0 := hcc 0 _ rfl
              have q1 := hcc 1 _ rfl
              have q2 := hcc 2 _ rfl
              have q3 := hcc 3 _ rfl
              have q4 := hcc 4 _ rfl
              have q5 := hcc 5 _ rfl
              have q6 := hcc 6 _ rfl
              have q7 := hcc 7 _ rfl
              have q8 := hcc 8 _ rfl
              have q9 := hcc 9 _ rfl
              simp only [Nat.add_zero] at q0
              have cg := HC.out.cell hcs
              generalize cs[c] = zc at cg t4
              subst t4
              have hwr : IntKind.i64.wrap (zc + 1) = zc + 1 := by rw [IntKind.wrap_i64]; omega
              have HBX := Lib.hid (Holds.new wr [.int .i64 (c : Int), .int .i64 (zc + 1), .slice ka N kc, .int .i64 kd, .int .i64 ep, .int .i64 i1, .int .i64 i2, .int .i64 r1, .int .i64 r2, .int .i64 rn] 40)
              have HB0 := Lib.hid (grew_alloc wr (.cells #[.int .i64 (c : Int), .int .i64 (zc + 1), .slice ka N kc, .int .i64 kd, .int .i64 ep, .int .i64 i1, .int .i64 i2, .int .i64 r1, .int .i64 r2, .int .i64 rn] 40))
              have HSK : Hid (∀ W, Below (wr.alloc (.cells #[.int .i64 (c : Int), .int .i64 (zc + 1), .slice ka N kc, .int .i64 kd, .int .i64 ep, .int .i64 i1, .int .i64 i2, .int .i64 r1, .int .i64 r2, .int .i64 rn] 40)).heap.size (wr.alloc (.cells #[.int .i64 (c : Int), .int .i64 (zc + 1), .slice ka N kc, .int .i64 kd, .int .i64 ep, .int .i64 i1, .int .i64 i2, .int .i64 r1, .int .i64 r2, .int .i64 rn] 40)) W → W.cell? ⟨wr.heap.size, 0, none⟩ = some (.int .i64 (c : Int)) ∧ W.cell? ⟨wr.heap.size, 1, none⟩ = some (.int .i64 (zc + 1)) ∧ W.cell? ⟨wr.heap.size, 2, none⟩ = some (.slice ka N kc) ∧ W.cell? ⟨wr.heap.size, 3, none⟩ = some (.int .i64 kd) ∧ W.cell? ⟨wr.heap.size, 4, none⟩ = some (.int .i64 ep) ∧ W.cell? ⟨wr.heap.size, 5, none⟩ = some (.int .i64 i1) ∧ W.cell? ⟨wr.heap.size, 6, none⟩ = some (.int .i64 i2) ∧ W.cell? ⟨wr.heap.size, 7, none⟩ = some (.int .i64 r1) ∧ W.cell? ⟨wr.heap.size, 8, none⟩ = some (.int .i64 r2) ∧ W.cell? ⟨wr.heap.size, 9, none⟩ = some (.int .i64 rn) ∧ W.cell? ⟨g, c, none⟩ = some (.int .i64 zc)) := Lib.hid (fun W h => by
                have h1 := HBX.out.keep (Keep.of_grew h Non) (fun h => h)
                have cg2 : W.cell? ⟨g, c, none⟩ = some (.int .i64 zc) := by rw [(grew HB0.out h).cell (p := ⟨g, c, none⟩) HC.out.lt]; exact cg
                exact ⟨h1.cell 0 (by simp), h1.cell 1 (by simp), h1.cell 2 (by simp), h1.cell 3 (by simp), h1.cell 4 (by simp), h1.cell 5 (by simp), h1.cell 6 (by simp), h1.cell 7 (by simp), h1.cell 8 (by simp), h1.cell 9 (by simp), cg2⟩)
              have HCHK := Lib.hid (fun W (h : Below wr.heap.size wr W) => ref04_Check ⟨(c : Int), zc + 1, kn, ⟨kd, ep, ⟨i1, i2⟩, ⟨r1, r2⟩, rn⟩⟩ (.slice ka N kc) W (HKN.out.1.below h) (by show kn.length ≤ _; rw [HT2.out]; omega))
              have HBLW := Lib.hid (fun W (h : Below wr.heap.size wr W) => ref06_Below (.slice ka N kc) (.slice (some ⟨g, 0, none⟩) N cap) kn cs W (HKN.out.1.below h) (by have := (HC.out.below h).slice; rwa [HCL.out] at this) (by rw [HT2.out]; unfold maxLen; omega) (by rw [HCL.out]; unfold maxLen; omega))
              rw [HCK.out] at HCHK
              rw [HT3.out] at HBLW
              unfold msgV at HCHK
              simp only at HCHK
              have hNN : ((N : Int) != (N : Int)) = false := by simp
              have hsq : ((zc + 1) != (zc + 1)) = false := by simp
              clear cg t1 t2 t3 t5 m2 hyj hcc
              go_wp2_with fail
              clear q0 q1 q2 q3 q4 q5 q6 q7 q8 q9
              go_region_held3 (fun W => W.cell? ⟨wr.heap.size, 0, none⟩ = some (.int .i64 (c : Int)) ∧ W.cell? ⟨wr.heap.size, 1, none⟩ = some (.int .i64 (zc + 1)) ∧ W.cell? ⟨wr.heap.size, 2, none⟩ = some (.slice ka N kc) ∧ W.cell? ⟨wr.heap.size, 3, none⟩ = some (.int .i64 kd) ∧ W.cell? ⟨wr.heap.size, 4, none⟩ = some (.int .i64 ep) ∧ W.cell? ⟨wr.heap.size, 5, none⟩ = some (.int .i64 i1) ∧ W.cell? ⟨wr.heap.size, 6, none⟩ = some (.int .i64 i2) ∧ W.cell? ⟨wr.heap.size, 7, none⟩ = some (.int .i64 r1) ∧ W.cell? ⟨wr.heap.size, 8, none⟩ = some (.int .i64 r2) ∧ W.cell? ⟨wr.heap.size, 9, none⟩ = some (.int .i64 rn) ∧ W.cell? ⟨g, c, none⟩ = some (.int .i64 zc))
                (first | exact HSK.out _ (Below.refl _ _) | exact HSK.out _ (grew_drew _) | exact HSK.out _ HB1.out | exact HSK.out _ HB2.out)
                (first
                  | (go_at_call 21; refine (HCHK.out _ (grew HB0.out (grew_drew _))).mono ?_; rintro e wa ⟨rfl, hb⟩; have HB1 := Lib.hid (grew (grew_drew (wr.alloc (.cells #[.int .i64 (c : Int), .int .i64 (zc + 1), .slice ka N kc, .int .i64 kd, .int .i64 ep, .int .i64 i1, .int .i64 i2, .int .i64 r1, .int .i64 r2, .int .i64 rn] 40))) hb); clear hb)
                  | (go_at_call 22; refine (HBLW.out _ (grew HB0.out HB1.out)).mono ?_; rintro e wb ⟨rfl, nd, rfl⟩; have HB2 := Lib.hid (grew HB1.out (grew_drewN wa nd))))
              obtain ⟨z0, z1, z2, z3, z4, z5, z6, z7, z8, z9, zg⟩ := HSK.out _ HB2.out
              have HBB := Lib.hid (grew HB0.out HB2.out)
              have HC2 := Lib.hid (HC.out.below HBB.out)
              have HC3 := Lib.hid (HC2.out.set hcs (zc + 1))
              have HL2 := Lib.hid (HL.out.grew (O' := fun b => b = g) HBB.out (fun b hb => .inl hb))
              have fg := HC2.out.frozen c
              have HKS := fun u => Lib.hid (Keep.setCell (wa.drewN nd) g c u)
              have HL3 := Lib.hid (HL2.out.turn (g := g) rfl HG.out (HKS (.int .i64 (zc + 1))).out)
              have HOM3 := Lib.hid (Owns.keep (HOM.out.below HBB.out) (HKS (.int .i64 (zc + 1))).out (fun b hb e => HTB.out b hb e))
              have HY3 : Hid (∀ y ∈ xs, SliceI ((wa.drewN nd).setCell ⟨g, c, none⟩ (.int .i64 (zc + 1))) y.2 y.1.know ∧ ∀ b, y.2.ownBlock = some b → b ≠ g) := Lib.hid (fun y hy => ⟨((HY.out y hy).1.below HBB.out).keep (HKS (.int .i64 (zc + 1))).out (fun b hb e => (HY.out y hy).2 b hb e), (HY.out y hy).2⟩)
              clear HKS
              go_wp2
              refine ⟨⟨j + 1, by omega, by go_num, cs.set c (zc + 1), HL3.out, HC3.out, by rw [List.length_set]; exact HCL.out, HT5.out, HOM3.out, HY3.out, HTB.out⟩, by simp [intOf]; omega⟩
            · have e2 : decide ((j : Int) < (xs.length : Int)) = false := decide_eq_false (by omega)
              have hjx : j = xs.length := by omega
              have HEQ : Hid (cs = s2.clock) := Lib.hid (by
                have := HTD.out
                rw [List.drop_eq_nil_of_le (by rw [List.length_map]; omega)] at this
                exact this)
              have hcq := HEQ.out
              subst hcq
              have HOKS : Hid (Hold.Ok s2) := Lib.hid (by obtain ⟨F, h1, _⟩ := HL.out; exact h1.ok)
              have HKU := Lib.hid (Hold.known_ok HOKS.out)
              clear HTD HOM HY HTB
              go_wp2_with fail
              refine (hlive_Clock HL.out).mono ?_
              rintro e w5 ⟨v5, rfl, hs5, hL5, hb⟩
              have HL5 := Lib.hid hL5
              have HC5 := Lib.hid (HC.out.below hb)
              have HS5 := Lib.hid hs5
              obtain ⟨a5, c5, e⟩ := hs5.shape
              rw [HCL.out] at e
              subst e
              clear hs5 hL5 hb
              go_wp2_with fail
              refine (ref01_Same _ (.slice (some ⟨g, 0, none⟩) N cap) s2.clock s2.clock _ HS5.out (by have := HC5.out.slice; rwa [HCL.out] at this) (by rw [HCL.out]; omega) (by rw [HCL.out]; omega)).mono ?_
              rintro e w6 ⟨rfl, hb⟩
              rw [decide_eq_true (Eq.refl s2.clock)]
              have HL6 := Lib.hid (HL5.out.grew (O' := fun b => b = g) hb (fun b hb => .inl hb))
              have HC6 := Lib.hid (HC5.out.below hb)
              clear hb
              go_wp2_with fail
              refine (hlive_Known HL6.out).mono ?_
              rintro e w7 ⟨v7, rfl, hs7, hL7, hb⟩
              have HL7 := Lib.hid (HL6.out.grew (O' := fun b => b = g) hb (fun b hb => .inl hb))
              have HC7 := Lib.hid (HC6.out.below hb)
              have HS7 := Lib.hid hs7
              obtain ⟨a7, c7, e⟩ := hs7.shape
              rw [HKU.out.2, HCL.out] at e
              subst e
              clear hs7 hL7 hb
              go_wp2_with fail
              refine (ref06_Below (.slice (some ⟨g, 0, none⟩) N cap) _ s2.clock (Hold.known s2) _ (by have := HC7.out.slice; rwa [HCL.out] at this) HS7.out (by rw [HCL.out]; unfold maxLen; omega) (by rw [HKU.out.2, HCL.out]; unfold maxLen; omega)).mono ?_
              rintro e w8 ⟨rfl, nd, hw8⟩
              rw [HKU.out.1]
              have hb8 : Below w7.heap.size w7 w8 := by rw [hw8]; exact grew_drewN _ _
              have HL8 := Lib.hid (HL7.out.grew (O' := fun b => b = g) hb8 (fun b hb => .inl hb))
              have HC8 := Lib.hid (HC7.out.below hb8)
              clear hb8 hw8
              go_wp2
              refine ⟨⟨k + 1, s2, by omega, by go_num, HL8.out, HC8.out, HCL.out⟩, by simp [intOf]; omega⟩
        · have e1 : decide ((k : Int) < (qs.length : Int)) = false := decide_eq_false (by omega)
          go_wp2_with fail
          refine (law07_live _).mono ?_
          rintro e w9 ⟨rfl, hb⟩
          have HBE := Lib.hid (grew HL.out.below hb)
          clear hb
          go_wp2
          go_ret
          exact ⟨rfl, HBE.out⟩
    · go_wp2_with fail
      refine (hold_New_no s0 1000 _ (by unfold newOkH; simp; omega)).mono ?_
      rintro e w2 ⟨rfl, hb⟩
      go_wp2_with fail
      refine (law07_live _).mono ?_
      rintro e w9 ⟨rfl, hb9⟩
      have HBE := Lib.hid (grew hb hb9)
      clear hb hb9
      go_wp2
      go_ret
      exact ⟨rfl, HBE.out⟩
  · rintro e w1 ⟨rfl, rfl⟩
    rw [decide_eq_false hfew]
    clear hfew hm HFEW
    go_wp2_with fail
    refine (law07_live _).mono ?_
    rintro e w9 ⟨rfl, hb⟩
    have HBE := Lib.hid hb
    clear hb
    go_wp2
    go_ret
    exact ⟨rfl, HBE.out⟩
end Go.Proofs.Ytjklfjgdmklimaa
