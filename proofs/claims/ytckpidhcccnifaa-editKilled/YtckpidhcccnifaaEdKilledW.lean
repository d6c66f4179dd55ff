/- What is killed and yanked at once is as it was. -/
import Derived.Test.YtckpidhcccnifaaEdKillM
import Derived.Deep.RegionHeld3
namespace Go.Proofs.Ytckpidhcccnifaa
open Go.RowKit
set_option linter.unusedVariables false

set_option maxRecDepth 100000 in
set_option maxHeartbeats 8000000 in
theorem walk_EditKilled (lv kv : Value) (l kl : List Int) (z y : Int) (w : World) (hs : SliceI w lv l ∧ SliceI w kv kl ∧ l.length ≤ maxLen ∧ kl.length ≤ maxLen ∧ I64 z ∧ (∀ x ∈ l, I64 x) ∧ ∀ x ∈ kl, I64 x) (hy : (Lit.int .i64 y).wf = true) :
    Calls Try.prog 6 #[.agg #[lv, .int .i64 z, kv], .int .i64 y] w fun e w' => e = .returned (.bool true) ∧ Below w.heap.size w w' := by
  obtain ⟨hv, hkv, hm1, hm2, hz, _, _⟩ := hs
  obtain ⟨va, vc, rfl⟩ := hv.shape
  obtain ⟨ka, kc, rfl⟩ := hkv.shape
  have HV := Lib.hid hv
  have HKV := Lib.hid hkv
  clear hv hkv
  have HLV := Lib.hid (fun W => law18_live W)
  have HSB := Lib.hid (Holds.new w [.slice va l.length vc, .int .i64 z, .slice ka kl.length kc] 24)
  have HB1 := Lib.hid (grew_alloc w (.cells #[.slice va l.length vc, .int .i64 z, .slice ka kl.length kc] 24))
  rw [show ([.slice va l.length vc, .int .i64 z, .slice ka kl.length kc] : List Value).toArray = #[.slice va l.length vc, .int .i64 z, .slice ka kl.length kc] from rfl] at HSB
  have s0 := HSB.out.cell 0 (by simp)
  have s1 := HSB.out.cell 1 (by simp)
  have s2 := HSB.out.cell 2 (by simp)
  simp only [List.getElem_cons_zero, List.getElem_cons_succ] at s0 s1 s2
  by_cases n1 : 1000 < l.length
  · have e1 : decide ((1000 : Int) < (l.length : Int)) = true := decide_eq_true (by omega)
    go_enter Try.func6, Try.ntmps6
    go_wp2_with fail
    refine (HLV.out _).mono ?_
    rintro e w3 ⟨rfl, hb3⟩
    go_wp2
    go_ret
    exact ⟨rfl, grew HB1.out hb3⟩
  · have e1 : decide ((1000 : Int) < (l.length : Int)) = false := decide_eq_false (by omega)
    by_cases n2 : z < 0
    · have e2 : decide (z < 0) = true := decide_eq_true n2
      go_enter Try.func6, Try.ntmps6
      go_wp2_with fail
      refine (HLV.out _).mono ?_
      rintro e w3 ⟨rfl, hb3⟩
      go_wp2
      go_ret
      exact ⟨rfl, grew HB1.out hb3⟩
    · have e2 : decide (z < 0) = false := decide_eq_false n2
      by_cases n3 : (l.length : Int) < z
      · have e3 : decide ((l.length : Int) < z) = true := decide_eq_true n3
        go_enter Try.func6, Try.ntmps6
        go_wp2_with fail
        refine (HLV.out _).mono ?_
        rintro e w3 ⟨rfl, hb3⟩
        go_wp2
        go_ret
        exact ⟨rfl, grew HB1.out hb3⟩
      · have e3 : decide ((l.length : Int) < z) = false := decide_eq_false n3
        by_cases n4 : 1100 < kl.length
        · have e4 : decide ((1100 : Int) < (kl.length : Int)) = true := decide_eq_true (by omega)
          go_enter Try.func6, Try.ntmps6
          go_wp2_with fail
          refine (HLV.out _).mono ?_
          rintro e w3 ⟨rfl, hb3⟩
          go_wp2
          go_ret
          exact ⟨rfl, grew HB1.out hb3⟩
        · have e4 : decide ((1100 : Int) < (kl.length : Int)) = false := decide_eq_false (by omega)
          have HQ := Lib.hid (show l.length ≤ 1000 ∧ kl.length ≤ 1100 ∧ 0 ≤ z ∧ z ≤ l.length from ⟨by omega, by omega, by omega, by omega⟩)
          have HRB := Lib.hid (Holds.new (w.alloc (.cells #[.slice va l.length vc, .int .i64 z, .slice ka kl.length kc] 24)) [.int .i64 2, .int .i64 107, .int .i64 2, .int .i64 117, .int .i64 2, .int .i64 119, .int .i64 3, .int .i64 100] 33)
          rw [show ([.int .i64 2, .int .i64 107, .int .i64 2, .int .i64 117, .int .i64 2, .int .i64 119, .int .i64 3, .int .i64 100] : List Value).toArray = #[.int .i64 2, .int .i64 107, .int .i64 2, .int .i64 117, .int .i64 2, .int .i64 119, .int .i64 3, .int .i64 100] from rfl] at HRB
          have hra := grew_alloc (w.alloc (.cells #[.slice va l.length vc, .int .i64 z, .slice ka kl.length kc] 24)) (.cells #[.int .i64 2, .int .i64 107, .int .i64 2, .int .i64 117, .int .i64 2, .int .i64 119, .int .i64 3, .int .i64 100] 33)
          have HSB2 := Lib.hid (HSB.out.keep (Keep.of_grew hra Non) (fun h => h))
          have HB2 := Lib.hid (grew HB1.out hra)
          clear hra n1 n2 n3 n4
          by_cases hy0 : y < 0
          · have e5 : decide (y < 0) = true := decide_eq_true hy0
            go_enter Try.func6, Try.ntmps6
            go_wp2_with fail
            refine (HLV.out _).mono ?_
            rintro e w3 ⟨rfl, hb3⟩
            go_wp2
            go_ret
            exact ⟨rfl, grew HB2.out hb3⟩
          · have e5 : decide (y < 0) = false := decide_eq_false hy0
            by_cases hy5 : 4 ≤ y
            · have e6 : decide (4 ≤ y) = true := decide_eq_true hy5
              go_enter Try.func6, Try.ntmps6
              go_wp2_with fail
              refine (HLV.out _).mono ?_
              rintro e w3 ⟨rfl, hb3⟩
              go_wp2
              go_ret
              exact ⟨rfl, grew HB2.out hb3⟩
            · have e6 : decide (4 ≤ y) = false := decide_eq_false hy5
              obtain ⟨j, rfl⟩ : ∃ j : Nat, y = j := ⟨y.toNat, by omega⟩
              have hj6 : j < 4 := by omega
              have hia : (j : Int) < 4 := by omega
              have HKF := Lib.hid (fun (hr : ∀ r ∈ l, Mesg.rune r = true) => Ed.kill_facts (l := l) (z := z) (kl := kl) hj6 HQ.out.1 hr)
              have HJ := Lib.hid hj6
              obtain ⟨k, hk⟩ : ∃ k, (killKeys[j]'hj6).1 = k := ⟨_, rfl⟩
              obtain ⟨r, hr⟩ : ∃ r, (killKeys[j]'hj6).2 = r := ⟨_, rfl⟩
              have HKR : Hid (I64 k ∧ I64 r) := Lib.hid (by
                rw [← hk, ← hr]
                rcases (by omega : j = 0 ∨ j = 1 ∨ j = 2 ∨ j = 3) with rfl | rfl | rfl | rfl <;> exact ⟨⟨by simp [killKeys], by simp [killKeys]⟩, ⟨by simp [killKeys], by simp [killKeys]⟩⟩)
              rw [hk, hr] at HKF
              have HROW : Hid (∀ W rb, Holds W rb [.int .i64 2, .int .i64 107, .int .i64 2, .int .i64 117, .int .i64 2, .int .i64 119, .int .i64 3, .int .i64 100] 33 → W.cell? ⟨rb, j * 2, none⟩ = some (.int .i64 k) ∧ W.cell? ⟨rb, j * 2 + 1, none⟩ = some (.int .i64 r)) := Lib.hid (fun W rb h => by
                rw [← hk, ← hr]
                rcases (by omega : j = 0 ∨ j = 1 ∨ j = 2 ∨ j = 3) with rfl | rfl | rfl | rfl <;> exact ⟨h.cell _ (by simp), h.cell _ (by simp)⟩)
              clear hk hr hy0 hy5 hy hj6
              go_enter Try.func6, Try.ntmps6
              go_wp2_with fail
              clear s0 s1 s2 HSB HB1
              generalize (w.alloc (.cells #[.slice va l.length vc, .int .i64 z, .slice ka kl.length kc] 24)).alloc (.cells #[.int .i64 2, .int .i64 107, .int .i64 2, .int .i64 117, .int .i64 2, .int .i64 119, .int .i64 3, .int .i64 100] 33) = w2 at *
              obtain ⟨rb, hrb⟩ : ∃ rb, (w.alloc (.cells #[.slice va l.length vc, .int .i64 z, .slice ka kl.length kc] 24)).heap.size = rb := ⟨_, rfl⟩
              rw [hrb] at HRB
              rw [World.size_alloc] at hrb
              obtain ⟨sb, hsb⟩ : ∃ sb, w.heap.size = sb := ⟨_, rfl⟩
              rw [hsb] at HSB2 hrb ⊢
              rw [hrb]
              clear hsb hrb
              have HVL : Hid (∀ W, Below w2.heap.size w2 W → SliceI W (.slice va l.length vc) l) := Lib.hid (fun W hb => (HV.out.below HB2.out).below hb)
              have HKVL : Hid (∀ W, Below w2.heap.size w2 W → SliceI W (.slice ka kl.length kc) kl) := Lib.hid (fun W hb => (HKV.out.below HB2.out).below hb)
              go_loopw [6] (fun i wr => ∃ n : Nat, n ≤ l.length ∧ i = .int .i64 n ∧ (∀ r ∈ l.take n, Mesg.rune r = true) ∧ wr = w2) (fun i _ => l.length - (intOf i).toNat)
              case atStart => exact ⟨0, by omega, rfl, by simp, rfl⟩
              case round =>
                obtain ⟨n, hn, rfl, hall, rfl⟩ := hrel
                have HALL := Lib.hid hall
                clear hall
                have s0 := HSB2.out.cell 0 (by simp)
                simp only [List.getElem_cons_zero] at s0
                have hq1 : l.length ≤ 1000 := HQ.out.1
                by_cases hlt : n < l.length
                · have d1 : decide ((n : Int) < (l.length : Int)) = true := decide_eq_true (by omega)
                  have dn : decide (n < l.length) = true := decide_eq_true hlt
                  have hib : (n : Int) < (l.length : Int) := by omega
                  obtain ⟨b0, off, e9, hb0, hc⟩ := slice_cell (HVL.out _ (Below.refl _ _)) hlt
                  have HTK : Hid (l.take (n + 1) = l.take n ++ [l[n]]) := Lib.hid (List.take_succ_eq_append_getElem hlt)
                  have HLT := Lib.hid hlt
                  generalize l[n] = c at hc HTK
                  cases e9
                  by_cases c1 : c < 32
                  · have f1 : decide (c < 32) = true := decide_eq_true c1
                    clear hlt
                    go_wp2_with fail
                    refine (HLV.out _).mono ?_
                    rintro e w3 ⟨rfl, hb3⟩
                    go_wp2
                    go_ret
                    exact ⟨rfl, grew HB2.out hb3⟩
                  · have f1 : decide (c < 32) = false := decide_eq_false c1
                    by_cases c2 : 126 < c
                    · have f2 : decide (126 < c) = true := decide_eq_true c2
                      clear hlt
                      go_wp2_with fail
                      refine (HLV.out _).mono ?_
                      rintro e w3 ⟨rfl, hb3⟩
                      go_wp2
                      go_ret
                      exact ⟨rfl, grew HB2.out hb3⟩
                    · have f2 : decide (126 < c) = false := decide_eq_false c2
                      have HOK := Lib.hid (Ed.rune_ok (r := c) ⟨by omega, by omega⟩)
                      clear hlt
                      go_wp2
                      go_roundw
                      case rel => exact ⟨n + 1, by have := HLT.out; omega, by go_num, (by
                        rw [HTK.out]
                        intro x hx
                        rcases List.mem_append.1 hx with hx | hx
                        · exact HALL.out x hx
                        · rw [List.mem_singleton.1 hx]; exact HOK.out), by first | rfl | trivial⟩
                      case measure => simp [intOf]; have := HLT.out; omega
                · have d1 : decide ((n : Int) < (l.length : Int)) = false := decide_eq_false (by omega)
                  have dn : decide (n < l.length) = false := decide_eq_false hlt
                  have HKG := Lib.hid (HKF.out (by have := HALL.out; rwa [List.take_of_length_le (by omega)] at this))
                  clear hlt HALL HKF
                  go_wp2_with fail
                  clear s0
                  generalize wr = w2 at *
                  have HBX : Hid (∀ W, Below w2.heap.size w2 W → (W.cell? ⟨sb, 0, none⟩ = some (.slice va l.length vc) ∧ W.cell? ⟨sb, 1, none⟩ = some (.int .i64 z) ∧ W.cell? ⟨sb, 2, none⟩ = some (.slice ka kl.length kc) ∧ W.cell? ⟨rb, j * 2, none⟩ = some (.int .i64 k) ∧ W.cell? ⟨rb, j * 2 + 1, none⟩ = some (.int .i64 r))) := Lib.hid (fun W hb => by have kk := Keep.of_grew hb Non; have g1 := HSB2.out.keep kk (fun h => h); have g2 := HROW.out _ _ (HRB.out.keep kk (fun h => h)); exact ⟨g1.cell 0 (by simp), g1.cell 1 (by simp), g1.cell 2 (by simp), g2.1, g2.2⟩)
                  have q0 := HBX.out w2 (Below.refl _ _)
                  have q0z := HBX.out (w2.alloc (.cells #[.slice none 0 0, .int .i64 0, .slice none 0 0] 29)) (grew_alloc _ _)
                  have P0a : Hid (Below w2.heap.size w2 w2.drew) := Lib.hid (grew_drew _)
                  have P0c : Hid (Below w2.heap.size w2 (w2.alloc (.cells #[.slice none 0 0, .int .i64 0, .slice none 0 0] 29)).drew) := Lib.hid (grew (grew_alloc _ _) (grew_drew _))
                  have HZC : Hid (Holds (w2.alloc (.cells #[.slice none 0 0, .int .i64 0, .slice none 0 0] 29)).drew w2.heap.size [.slice none 0 0, .int .i64 0, .slice none 0 0] 29) := Lib.hid ((Holds.new w2 [.slice none 0 0, .int .i64 0, .slice none 0 0] 29).keep (Keep.of_grew (grew_drew _) Non) (fun h => h))
                  go_cut [7, 8] from 72 to 85 (fun s7 s8 wx => ∃ ab La Lc Ka Kc Aa Ac, s7 = .pointer (some ⟨ab, 0, none⟩) ∧ s8 = .slice Aa (Ed.turned l z kl k r).acts.length Ac ∧ Holds wx ab [.slice La (Ed.behind l z kl k r).length Lc, .int .i64 ((Ed.turned l z kl k r).at' : Nat), .slice Ka (Ed.turned l z kl k r).kill.length Kc] 29 ∧ (∃ B, DoS wx B (Ed.behind l z kl k r) (Ed.turned l z kl k r).kill (Ed.turned l z kl k r).acts La Ka Aa Lc Kc Ac) ∧ w2.heap.size ≤ ab ∧ Below w2.heap.size w2 wx)
                  case first =>
                    go_region_held3 (fun W => W.cell? ⟨sb, 0, none⟩ = some (.slice va l.length vc) ∧ W.cell? ⟨sb, 1, none⟩ = some (.int .i64 z) ∧ W.cell? ⟨sb, 2, none⟩ = some (.slice ka kl.length kc) ∧ W.cell? ⟨rb, j * 2, none⟩ = some (.int .i64 k) ∧ W.cell? ⟨rb, j * 2 + 1, none⟩ = some (.int .i64 r))
                      (first | exact q0 | exact q0z | exact q2 | exact q2z | exact q2f | exact q2s)
                      (first
                        | (go_at_call 12; refine (do_any (k := k) (r := r) (z := z) (HVL.out _ (by first | exact P0a.out | exact P0c.out)) (HKVL.out _ (by first | exact P0a.out | exact P0c.out)) (by have := HQ.out; omega) (by have := HQ.out; omega) HKR.out.1 HKR.out.2).mono ?_; rintro e x2 ⟨La, Lc, Ka, Kc, Aa, Ac, rfl, hd2, hb⟩
                           have HD2 := Lib.hid hd2
                           first
                             | (have P2 := Lib.hid (grew P0a.out hb))
                             | (have P2 := Lib.hid (grew P0c.out hb); have hst := box_set HZC.out (Nat.le_refl _) P0c.out hb (at' := ((Ed.turned l z kl k r).at' : Nat)) HD2.out (by have := HZC.out.lt; omega))
                           have q2 := HBX.out _ P2.out
                           have q2z := HBX.out (x2.alloc (.cells #[.slice none 0 0, .int .i64 0, .slice none 0 0] 29)) (grew P2.out (grew_alloc _ _))
                           have q2f := HBX.out (x2.alloc (.cells #[.slice La (Ed.behind l z kl k r).length Lc, .int .i64 ((Ed.turned l z kl k r).at' : Nat), .slice Ka (Ed.turned l z kl k r).kill.length Kc] 29)) (grew P2.out (grew_alloc _ _))
                           try (obtain ⟨st1, st2, st3, st4, t0, t1, t2, t3, t4, t5⟩ := hst; have q2s := HBX.out _ st4; have HST := Lib.hid (And.intro st1 (And.intro st2 st4)); clear st1 st2 st3 st4)
                           clear hb hd2))
                    all_goals
                      go_wp2
                      go_meet
                      first
                      | exact ⟨_, La, Lc, Ka, Kc, Aa, Ac, rfl, rfl, Holds.new x2 [.slice La (Ed.behind l z kl k r).length Lc, .int .i64 ((Ed.turned l z kl k r).at' : Nat), .slice Ka (Ed.turned l z kl k r).kill.length Kc] 29, ⟨_, HD2.out.below (grew_alloc _ _)⟩, P2.out.size, grew P2.out (grew_alloc _ _)⟩
                      | exact ⟨_, La, Lc, Ka, Kc, Aa, Ac, rfl, rfl, HST.out.1, ⟨_, HST.out.2.1⟩, Nat.le_refl _, HST.out.2.2⟩
                      | exact ⟨_, La, Lc, Ka, Kc, Aa, Ac, rfl, rfl, HST.out.1, ⟨_, HST.out.2.1⟩, P0c.out.size, HST.out.2.2⟩
                  case rest =>
                    obtain ⟨ab, La, Lc, Ka, Kc, Aa, Ac, rfl, rfl, hA, ⟨B, hD⟩, hab, hb3⟩ := hcut
                    have HA := Lib.hid hA
                    have HD := Lib.hid hD
                    have HB3 := Lib.hid hb3
                    have HSB3 := Lib.hid (HSB2.out.keep (Keep.of_grew hb3 Non) (fun h => h))
                    have hkg := HKG.out
                    have HTS := Lib.hid (Ed.turned_small l z kl k r)
                    clear hA hD hab hb3 q0 q0z HBX P0a P0c HZC HSB2 HRB HKG
                    generalize wc = W3 at *
                    have hq1 : l.length ≤ 1000 := HQ.out.1
                    rcases hkg with ⟨h1, h2, h3⟩ | ⟨a, n, h0, h1, h2, h3, h4, h5, h6⟩
                    · rw [h1, h2, h3] at HD
                      rw [h2, h3] at HA
                      rw [h1]
                      clear h1 h2 h3 HTS
                      generalize (Ed.turned l z kl k r).at' = AT at *
                      have a0 := HA.out.cell 0 (by simp)
                      have s0 := HSB3.out.cell 0 (by simp)
                      simp only [List.getElem_cons_zero] at a0 s0
                      simp only [List.length_nil]
                      go_wp2_with fail
                      refine (ref01_Same _ _ l l _ HD.out.line (HVL.out _ HB3.out) (by have := HQ.out; omega) (by have := HQ.out; omega)).mono ?_
                      rintro e W4 ⟨rfl, hb4⟩
                      rw [show decide (l = l) = true from by simp]
                      have HA4 := Lib.hid (HA.out.keep (Keep.of_grew hb4 Non) (fun h => h))
                      have HSB4 := Lib.hid (HSB3.out.keep (Keep.of_grew hb4 Non) (fun h => h))
                      have HD4 := Lib.hid (HD.out.below hb4)
                      have HB4 := Lib.hid (grew HB3.out hb4)
                      clear hb4 a0 s0
                      have a2 := HA4.out.cell 2 (by simp)
                      have s2 := HSB4.out.cell 2 (by simp)
                      simp only [List.getElem_cons_zero, List.getElem_cons_succ] at a2 s2
                      go_wp2_with fail
                      refine (ref01_Same _ _ kl kl _ HD4.out.kill (HKVL.out _ HB4.out) (by have := HQ.out; omega) (by have := HQ.out; omega)).mono ?_
                      rintro e W5 ⟨rfl, hb5⟩
                      rw [show decide (kl = kl) = true from by simp]
                      have HB5 := Lib.hid (grew HB4.out hb5)
                      clear hb5 a2 s2
                      go_wp2_with fail
                      refine (HLV.out _).mono ?_
                      rintro e W6 ⟨rfl, hb6⟩
                      go_wp2
                      go_ret
                      exact ⟨rfl, grew HB2.out (grew HB5.out hb6)⟩
                    · rw [h3] at HA
                      rw [h1]
                      have hn : n ≤ 2200 := by have := HTS.out.1; have := HQ.out; omega
                      have ha : a ≤ 2000 := by
                        have hgd := Ed.turned_good l z kl k r
                        have := hgd.caret
                        have := hgd.long
                        rw [Ed.turned_line] at this
                        omega
                      have HH := Lib.hid (And.intro h2 (And.intro h4 (And.intro h5 h6)))
                      clear h1 h2 h3 h4 h5 h6 HTS
                      generalize Ed.behind l z kl k r = M at *
                      generalize (Ed.turned l z kl k r).kill = K2 at *
                      generalize (Ed.turned l z kl k r).acts = ACTS at *
                      have hK2 : K2.length = n := HH.out.1
                      rw [hK2] at HA
                      have HDL : Hid (SliceI W3 (.slice La M.length Lc) M ∧ SliceI W3 (.slice Ka n Kc) K2) := Lib.hid (by have h1 := HD.out.line; have h2 := HD.out.kill; rw [hK2] at h2; exact ⟨h1, h2⟩)
                      clear hK2
                      have a0 := HA.out.cell 0 (by simp)
                      have a1 := HA.out.cell 1 (by simp)
                      have a2 := HA.out.cell 2 (by simp)
                      simp only [List.getElem_cons_zero, List.getElem_cons_succ] at a0 a1 a2
                      have t0 : decide ((n : Int) = 0) = false := decide_eq_false (by omega)
                      have t1 : ((n : Int) == 0) = false := by rw [beq_eq_false_iff_ne]; omega
                      go_wp2_with fail
                      refine (do_any (k := 2) (r := 121) (z := (a : Int)) HDL.out.1 HDL.out.2 (by have := HH.out.2.1; omega) (by have := HH.out.1; omega) ⟨by decide, by decide⟩ ⟨by decide, by decide⟩).mono ?_
                      rintro e W4 ⟨Lb, Lcb, Kb, Kcb, Ab, Acb, rfl, hd4, hb4⟩
                      have hh := HH.out
                      rw [hh.2.2.1] at hd4
                      rw [hh.2.2.1, hh.2.2.2]
                      have HD4 := Lib.hid hd4
                      have HA4 := Lib.hid (HA.out.keep (Keep.of_grew hb4 Non) (fun h => h))
                      have HSB4 := Lib.hid (HSB3.out.keep (Keep.of_grew hb4 Non) (fun h => h))
                      have HB4 := Lib.hid (grew HB3.out hb4)
                      clear hd4 hb4 hh a0 a1 a2 HH
                      generalize (Ed.turned M (a : Int) K2 2 121).kill = K3 at *
                      generalize (Ed.turned M (a : Int) K2 2 121).acts = ACTS3 at *
                      have HX := Lib.hid (Holds.new W4 [.slice Lb l.length Lcb, .int .i64 ((a + n : Nat) : Int), .slice Kb K3.length Kcb] 29)
                      rw [show ([.slice Lb l.length Lcb, .int .i64 ((a + n : Nat) : Int), .slice Kb K3.length Kcb] : List Value).toArray = #[.slice Lb l.length Lcb, .int .i64 ((a + n : Nat) : Int), .slice Kb K3.length Kcb] from rfl] at HX
                      have hbx := grew_alloc W4 (.cells #[.slice Lb l.length Lcb, .int .i64 ((a + n : Nat) : Int), .slice Kb K3.length Kcb] 29)
                      have HA5 := Lib.hid (HA4.out.keep (Keep.of_grew hbx Non) (fun h => h))
                      have HSB5 := Lib.hid (HSB4.out.keep (Keep.of_grew hbx Non) (fun h => h))
                      have HD5 := Lib.hid (HD4.out.below hbx)
                      have HB5 := Lib.hid (grew HB4.out hbx)
                      clear hbx
                      have hcast : ((a + n : Nat) : Int) = (a : Int) + (n : Int) := by omega
                      rw [hcast] at HX HA5 HSB5 HD5 HB5
                      rw [hcast]
                      have x0 := HX.out.cell 0 (by simp)
                      have s0 := HSB5.out.cell 0 (by simp)
                      simp only [List.getElem_cons_zero] at x0 s0
                      clear hcast
                      go_wp2_with fail
                      refine (ref01_Same _ _ l l _ HD5.out.line (HVL.out _ HB5.out) (by have := HQ.out; omega) (by have := HQ.out; omega)).mono ?_
                      rintro e W6 ⟨rfl, hb6⟩
                      rw [show decide (l = l) = true from by simp]
                      have HX6 := Lib.hid (HX.out.keep (Keep.of_grew hb6 Non) (fun h => h))
                      have HA6 := Lib.hid (HA5.out.keep (Keep.of_grew hb6 Non) (fun h => h))
                      have HB6 := Lib.hid (grew HB5.out hb6)
                      clear hb6 x0 s0
                      have x1 := HX6.out.cell 1 (by simp)
                      have a1 := HA6.out.cell 1 (by simp)
                      have a2 := HA6.out.cell 2 (by simp)
                      simp only [List.getElem_cons_zero, List.getElem_cons_succ] at x1 a1 a2
                      go_wp2_with fail
                      refine (HLV.out _).mono ?_
                      rintro e W7 ⟨rfl, hb7⟩
                      go_wp2
                      go_ret
                      exact ⟨rfl, grew HB2.out (grew HB6.out hb7)⟩
end Go.Proofs.Ytckpidhcccnifaa
