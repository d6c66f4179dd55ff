/- Keys that move the caret change nothing else. -/
import Derived.Test.YtckpidhcccnifaaEdLaw
import Derived.Deep.RegionHeld3
namespace Go.Proofs.Ytckpidhcccnifaa
open Go.RowKit
set_option linter.unusedVariables false

def moveKeys : List (Int × Int) := [(7, 0), (6, 0), (8, 0), (9, 0), (3, 98), (3, 102)]
theorem Ed.moves (l : List Int) (z : Int) (kl : List Int) (j : Nat) (hj : j < 6) : (Ed.turned l z kl (moveKeys[j]'hj).1 (moveKeys[j]'hj).2).acts = [] ∧ (Ed.turned l z kl (moveKeys[j]'hj).1 (moveKeys[j]'hj).2).kill = kl ∧ Ed.behind l z kl (moveKeys[j]'hj).1 (moveKeys[j]'hj).2 = l ∧ (j = 2 → (Ed.turned l z kl (moveKeys[j]'hj).1 (moveKeys[j]'hj).2).at' = 0) ∧ (j = 3 → (Ed.turned l z kl (moveKeys[j]'hj).1 (moveKeys[j]'hj).2).at' = l.length) := by
  rcases (by omega : j = 0 ∨ j = 1 ∨ j = 2 ∨ j = 3 ∨ j = 4 ∨ j = 5) with rfl | rfl | rfl | rfl | rfl | rfl <;> (refine ⟨rfl, rfl, rfl, fun h => ?_, fun h => ?_⟩ <;> first | rfl | (exact absurd h (by decide)))
theorem Ed.left {l kl : List Int} {i : Nat} (h : i + 1 ≤ l.length) : (Ed.turned l ((i : Int) + 1) kl 7 0).at' = i ∧ (Ed.turned l ((i : Int) + 1) kl 7 0).kill = kl ∧ Ed.behind l ((i : Int) + 1) kl 7 0 = l ∧ (Ed.turned l ((i : Int) + 1) kl 7 0).acts = [] := by
  refine ⟨?_, rfl, rfl, rfl⟩
  show Ed.caret l (((Ed.caret l ((i : Int) + 1) : Nat) : Int) - 1) = i
  unfold Ed.caret
  omega
theorem Ed.right {l kl : List Int} {i : Nat} (h : i + 1 ≤ l.length) : (Ed.turned l (i : Int) kl 6 0).at' = i + 1 ∧ (Ed.turned l (i : Int) kl 6 0).kill = kl ∧ Ed.behind l (i : Int) kl 6 0 = l ∧ (Ed.turned l (i : Int) kl 6 0).acts = [] := by
  refine ⟨?_, rfl, rfl, rfl⟩
  show Ed.caret l (((Ed.caret l (i : Int) : Nat) : Int) + 1) = i + 1
  unfold Ed.caret
  omega

set_option maxRecDepth 100000 in
set_option maxHeartbeats 8000000 in
theorem walk_EditMoves (lv kv : Value) (l kl : List Int) (z y : Int) (w : World) (hs : SliceI w lv l ∧ SliceI w kv kl ∧ l.length ≤ maxLen ∧ kl.length ≤ maxLen ∧ I64 z ∧ (∀ x ∈ l, I64 x) ∧ ∀ x ∈ kl, I64 x) (hy : (Lit.int .i64 y).wf = true) :
    Calls Try.prog 7 #[.agg #[lv, .int .i64 z, kv], .int .i64 y] w fun e w' => e = .returned (.bool true) ∧ Below w.heap.size w w' := by
  obtain ⟨hv, hkv, hm1, hm2, hz, _, _⟩ := hs
  obtain ⟨va, vc, rfl⟩ := hv.shape
  obtain ⟨ka, kc, rfl⟩ := hkv.shape
  have HV := Lib.hid hv
  have HKV := Lib.hid hkv
  clear hv hkv
  have HLV := Lib.hid (fun W => law18_live W)
  have HSB := Lib.hid (Holds.new w [.slice va l.length vc, .int .i64 z, .slice ka kl.length kc] 24)
  have HB1 := Lib.hid (grew_alloc w (.cells #[.slice va l.length vc, .int .i64 z, .slice ka kl.length kc] 24))
  rw [show ([.slice va l.length vc, .int .i64 z, .slice ka kl.length kc] : List Value).toArray = #[.slice va l.length vc, .int .i64 z, .slice ka kl.length kc] from rfl] at HSB
  have s0 := HSB.out.cell 0 (by simp)
  have s1 := HSB.out.cell 1 (by simp)
  have s2 := HSB.out.cell 2 (by simp)
  simp only [List.getElem_cons_zero, List.getElem_cons_succ] at s0 s1 s2
  have HFEW := Lib.hid (fun W => law18_few va ka l.length vc kl.length kc z W)
  have HWF := Lib.hid (show -9223372036854775808 ≤ y ∧ y ≤ 9223372036854775807 from bounds_i64 hy)
  clear hy
  by_cases hq : l.length ≤ 1100 ∧ kl.length ≤ 1100
  · obtain ⟨q1, q2⟩ := hq
    have e1 : (decide (l.length ≤ 1100) && decide (kl.length ≤ 1100)) = true := by rw [decide_eq_true q1, decide_eq_true q2]; rfl
    rw [e1] at HFEW
    clear e1
    have HQ := Lib.hid (And.intro q1 q2)
    by_cases hy0 : y < 0
    · have e2 : decide (y < 0) = true := decide_eq_true hy0
      go_enter Try.func7, Try.ntmps7
      go_wp2_with fail
      refine (HFEW.out _).mono ?_
      rintro e w1 ⟨rfl, hb2⟩
      have HB2 := Lib.hid (grew HB1.out hb2)
      clear hb2
      go_wp2_with fail
      refine (HLV.out _).mono ?_
      rintro e w3 ⟨rfl, hb3⟩
      go_wp2
      go_ret
      exact ⟨rfl, grew HB2.out hb3⟩
    · have e2 : decide (y < 0) = false := decide_eq_false hy0
      by_cases hy5 : 5 < y
      · have e3 : decide (5 < y) = true := decide_eq_true hy5
        go_enter Try.func7, Try.ntmps7
        go_wp2_with fail
        refine (HFEW.out _).mono ?_
        rintro e w1 ⟨rfl, hb2⟩
        have HB2 := Lib.hid (grew HB1.out hb2)
        clear hb2
        go_wp2_with fail
        refine (HLV.out _).mono ?_
        rintro e w3 ⟨rfl, hb3⟩
        go_wp2
        go_ret
        exact ⟨rfl, grew HB2.out hb3⟩
      · have e3 : decide (5 < y) = false := decide_eq_false hy5
        obtain ⟨j, rfl⟩ : ∃ j : Nat, y = j := ⟨y.toNat, by omega⟩
        have hj6 : j < 6 := by omega
        have hia : (j : Int) < 6 := by omega
        have HMV := Lib.hid (Ed.moves l z kl j hj6)
        have HJ := Lib.hid hj6
        obtain ⟨k, hk⟩ : ∃ k, (moveKeys[j]'hj6).1 = k := ⟨_, rfl⟩
        obtain ⟨r, hr⟩ : ∃ r, (moveKeys[j]'hj6).2 = r := ⟨_, rfl⟩
        have HKR : Hid (I64 k ∧ I64 r) := Lib.hid (by
          rw [← hk, ← hr]
          rcases (by omega : j = 0 ∨ j = 1 ∨ j = 2 ∨ j = 3 ∨ j = 4 ∨ j = 5) with rfl | rfl | rfl | rfl | rfl | rfl <;> exact ⟨⟨by simp [moveKeys], by simp [moveKeys]⟩, ⟨by simp [moveKeys], by simp [moveKeys]⟩⟩)
        rw [hk, hr] at HMV
        have HROW : Hid (∀ W rb, Holds W rb [.int .i64 7, .int .i64 0, .int .i64 6, .int .i64 0, .int .i64 8, .int .i64 0, .int .i64 9, .int .i64 0, .int .i64 3, .int .i64 98, .int .i64 3, .int .i64 102] 33 → W.cell? ⟨rb, j * 2, none⟩ = some (.int .i64 k) ∧ W.cell? ⟨rb, j * 2 + 1, none⟩ = some (.int .i64 r)) := Lib.hid (fun W rb h => by
          rw [← hk, ← hr]
          rcases (by omega : j = 0 ∨ j = 1 ∨ j = 2 ∨ j = 3 ∨ j = 4 ∨ j = 5) with rfl | rfl | rfl | rfl | rfl | rfl <;> exact ⟨h.cell _ (by simp), h.cell _ (by simp)⟩)
        clear hk hr hy0 hy5
        go_enter Try.func7, Try.ntmps7
        go_wp2_with fail
        refine (HFEW.out _).mono ?_
        rintro e w1 ⟨rfl, hb2⟩
        have HSB := Lib.hid (HSB.out.keep (Keep.of_grew hb2 Non) (fun h => h))
        have HB1b := Lib.hid (grew HB1.out hb2)
        clear hb2 s0 s1 s2 HB1
        obtain ⟨sb, hsb⟩ : ∃ sb, w.heap.size = sb := ⟨_, rfl⟩
        rw [hsb] at HSB ⊢
        clear hsb
        go_wp2_with fail
        have HRB0 := Lib.hid (Holds.new w1 [.int .i64 7, .int .i64 0, .int .i64 6, .int .i64 0, .int .i64 8, .int .i64 0, .int .i64 9, .int .i64 0, .int .i64 3, .int .i64 98, .int .i64 3, .int .i64 102] 33)
        have hra := grew_alloc w1 (.cells #[.int .i64 7, .int .i64 0, .int .i64 6, .int .i64 0, .int .i64 8, .int .i64 0, .int .i64 9, .int .i64 0, .int .i64 3, .int .i64 98, .int .i64 3, .int .i64 102] 33)
        rw [show ([.int .i64 7, .int .i64 0, .int .i64 6, .int .i64 0, .int .i64 8, .int .i64 0, .int .i64 9, .int .i64 0, .int .i64 3, .int .i64 98, .int .i64 3, .int .i64 102] : List Value).toArray = #[.int .i64 7, .int .i64 0, .int .i64 6, .int .i64 0, .int .i64 8, .int .i64 0, .int .i64 9, .int .i64 0, .int .i64 3, .int .i64 98, .int .i64 3, .int .i64 102] from rfl] at HRB0
        have HSB := Lib.hid (HSB.out.keep (Keep.of_grew hra Non) (fun h => h))
        have HB2 := Lib.hid (grew HB1b.out hra)
        generalize w1.alloc (.cells #[.int .i64 7, .int .i64 0, .int .i64 6, .int .i64 0, .int .i64 8, .int .i64 0, .int .i64 9, .int .i64 0, .int .i64 3, .int .i64 98, .int .i64 3, .int .i64 102] 33) = w2 at *
        generalize w1.heap.size = rb at *
        have HRB := Lib.hid HRB0.out
        have HVL : Hid (∀ W, Below w2.heap.size w2 W → SliceI W (.slice va l.length vc) l) := Lib.hid (fun W hb => (HV.out.below HB2.out).below hb)
        have HKVL : Hid (∀ W, Below w2.heap.size w2 W → SliceI W (.slice ka kl.length kc) kl) := Lib.hid (fun W hb => (HKV.out.below HB2.out).below hb)
        clear hra HRB0 HB1b
        have HBX : Hid (∀ W, Below w2.heap.size w2 W → (W.cell? ⟨sb, 0, none⟩ = some (.slice va l.length vc) ∧ W.cell? ⟨sb, 1, none⟩ = some (.int .i64 z) ∧ W.cell? ⟨sb, 2, none⟩ = some (.slice ka kl.length kc) ∧ W.cell? ⟨rb, j * 2, none⟩ = some (.int .i64 k) ∧ W.cell? ⟨rb, j * 2 + 1, none⟩ = some (.int .i64 r))) := Lib.hid (fun W hb => by have kk := Keep.of_grew hb Non; have g1 := HSB.out.keep kk (fun h => h); have g2 := HROW.out _ _ (HRB.out.keep kk (fun h => h)); exact ⟨g1.cell 0 (by simp), g1.cell 1 (by simp), g1.cell 2 (by simp), g2.1, g2.2⟩)
        have q0 := HBX.out w2 (Below.refl _ _)
        have q0z := HBX.out (w2.alloc (.cells #[.slice none 0 0, .int .i64 0, .slice none 0 0] 29)) (grew_alloc _ _)
        have P0a : Hid (Below w2.heap.size w2 w2.drew) := Lib.hid (grew_drew _)
        have P0c : Hid (Below w2.heap.size w2 (w2.alloc (.cells #[.slice none 0 0, .int .i64 0, .slice none 0 0] 29)).drew) := Lib.hid (grew (grew_alloc _ _) (grew_drew _))
        have HZC : Hid (Holds (w2.alloc (.cells #[.slice none 0 0, .int .i64 0, .slice none 0 0] 29)).drew w2.heap.size [.slice none 0 0, .int .i64 0, .slice none 0 0] 29) := Lib.hid ((Holds.new w2 [.slice none 0 0, .int .i64 0, .slice none 0 0] 29).keep (Keep.of_grew (grew_drew _) Non) (fun h => h))
        go_cut [6, 7] from 32 to 45 (fun s6 s7 wx => ∃ ab La Lc Ka Kc Aa Ac, s6 = .pointer (some ⟨ab, 0, none⟩) ∧ s7 = .slice Aa (Ed.turned l z kl k r).acts.length Ac ∧ Holds wx ab [.slice La (Ed.behind l z kl k r).length Lc, .int .i64 ((Ed.turned l z kl k r).at' : Nat), .slice Ka (Ed.turned l z kl k r).kill.length Kc] 29 ∧ (∃ B, DoS wx B (Ed.behind l z kl k r) (Ed.turned l z kl k r).kill (Ed.turned l z kl k r).acts La Ka Aa Lc Kc Ac) ∧ w2.heap.size ≤ ab ∧ Below w2.heap.size w2 wx)
        case first =>
          go_region_held3 (fun W => W.cell? ⟨sb, 0, none⟩ = some (.slice va l.length vc) ∧ W.cell? ⟨sb, 1, none⟩ = some (.int .i64 z) ∧ W.cell? ⟨sb, 2, none⟩ = some (.slice ka kl.length kc) ∧ W.cell? ⟨rb, j * 2, none⟩ = some (.int .i64 k) ∧ W.cell? ⟨rb, j * 2 + 1, none⟩ = some (.int .i64 r))
            (first | exact q0 | exact q0z | exact q2 | exact q2z | exact q2f | exact q2s)
            (first
              | (go_at_call 12; refine (do_any (k := k) (r := r) (z := z) (HVL.out _ (by first | exact P0a.out | exact P0c.out)) (HKVL.out _ (by first | exact P0a.out | exact P0c.out)) (by have := HQ.out; omega) (by have := HQ.out; omega) HKR.out.1 HKR.out.2).mono ?_; rintro e x2 ⟨La, Lc, Ka, Kc, Aa, Ac, rfl, hd2, hb⟩
                 have HD2 := Lib.hid hd2
                 first
                   | (have P2 := Lib.hid (grew P0a.out hb))
                   | (have P2 := Lib.hid (grew P0c.out hb); have hst := box_set HZC.out (Nat.le_refl _) P0c.out hb (at' := ((Ed.turned l z kl k r).at' : Nat)) HD2.out (by have := HZC.out.lt; omega))
                 have q2 := HBX.out _ P2.out
                 have q2z := HBX.out (x2.alloc (.cells #[.slice none 0 0, .int .i64 0, .slice none 0 0] 29)) (grew P2.out (grew_alloc _ _))
                 have q2f := HBX.out (x2.alloc (.cells #[.slice La (Ed.behind l z kl k r).length Lc, .int .i64 ((Ed.turned l z kl k r).at' : Nat), .slice Ka (Ed.turned l z kl k r).kill.length Kc] 29)) (grew P2.out (grew_alloc _ _))
                 try (obtain ⟨st1, st2, st3, st4, t0, t1, t2, t3, t4, t5⟩ := hst; have q2s := HBX.out _ st4; have HST := Lib.hid (And.intro st1 (And.intro st2 st4)); clear st1 st2 st3 st4)
                 clear hb hd2))
          all_goals
            go_wp2
            go_meet
            first
            | exact ⟨_, La, Lc, Ka, Kc, Aa, Ac, rfl, rfl, Holds.new x2 [.slice La (Ed.behind l z kl k r).length Lc, .int .i64 ((Ed.turned l z kl k r).at' : Nat), .slice Ka (Ed.turned l z kl k r).kill.length Kc] 29, ⟨_, HD2.out.below (grew_alloc _ _)⟩, P2.out.size, grew P2.out (grew_alloc _ _)⟩
            | exact ⟨_, La, Lc, Ka, Kc, Aa, Ac, rfl, rfl, HST.out.1, ⟨_, HST.out.2.1⟩, Nat.le_refl _, HST.out.2.2⟩
            | exact ⟨_, La, Lc, Ka, Kc, Aa, Ac, rfl, rfl, HST.out.1, ⟨_, HST.out.2.1⟩, P0c.out.size, HST.out.2.2⟩
        case rest =>
          obtain ⟨ab, La, Lc, Ka, Kc, Aa, Ac, rfl, rfl, hA, ⟨B, hD⟩, hab, hb3⟩ := hcut
          obtain ⟨hm_acts, hm_kill, hm_m, hm_2, hm_3⟩ := HMV.out
          rw [hm_acts, hm_kill, hm_m] at hD
          rw [hm_kill, hm_m] at hA
          rw [hm_acts]
          have HA := Lib.hid hA
          have HD := Lib.hid hD
          have HB3 := Lib.hid hb3
          have HSB3 := Lib.hid (HSB.out.keep (Keep.of_grew hb3 Non) (fun h => h))
          have HRB3 := Lib.hid (HRB.out.keep (Keep.of_grew hb3 Non) (fun h => h))
          have HM2 := Lib.hid hm_2
          have HM3 := Lib.hid hm_3
          clear hA hD hab hb3 q0 q0z HBX P0a P0c HZC hm_acts hm_kill hm_m hm_2 hm_3 HSB HRB HMV
          generalize wc = W3 at *
          generalize (Ed.turned l z kl k r).at' = AT at *
          have a0 := HA.out.cell 0 (by simp)
          have s0 := HSB3.out.cell 0 (by simp)
          simp only [List.getElem_cons_zero] at a0 s0
          simp only [List.length_nil]
          go_wp2_with fail
          refine (ref01_Same _ _ l l _ HD.out.line (HVL.out _ HB3.out) (by have := HQ.out; omega) (by have := HQ.out; omega)).mono ?_
          rintro e W4 ⟨rfl, hb4⟩
          rw [show decide (l = l) = true from by simp]
          have HA4 := Lib.hid (HA.out.keep (Keep.of_grew hb4 Non) (fun h => h))
          have HSB4 := Lib.hid (HSB3.out.keep (Keep.of_grew hb4 Non) (fun h => h))
          have HRB4 := Lib.hid (HRB3.out.keep (Keep.of_grew hb4 Non) (fun h => h))
          have HD4 := Lib.hid (HD.out.below hb4)
          have HB4 := Lib.hid (grew HB3.out hb4)
          clear hb4 a0 s0
          have a2 := HA4.out.cell 2 (by simp)
          have s2 := HSB4.out.cell 2 (by simp)
          simp only [List.getElem_cons_zero, List.getElem_cons_succ] at a2 s2
          go_wp2_with fail
          refine (ref01_Same _ _ kl kl _ HD4.out.kill (HKVL.out _ HB4.out) (by have := HQ.out; omega) (by have := HQ.out; omega)).mono ?_
          rintro e W5 ⟨rfl, hb5⟩
          rw [show decide (kl = kl) = true from by simp]
          have HA5 := Lib.hid (HA4.out.keep (Keep.of_grew hb5 Non) (fun h => h))
          have HSB5 := Lib.hid (HSB4.out.keep (Keep.of_grew hb5 Non) (fun h => h))
          have HRB5 := Lib.hid (HRB4.out.keep (Keep.of_grew hb5 Non) (fun h => h))
          have HB5 := Lib.hid (grew HB4.out hb5)
          have HVL5 : Hid (∀ W, Below W5.heap.size W5 W → SliceI W (.slice va l.length vc) l) := Lib.hid (fun W hb => HVL.out W (grew HB5.out hb))
          clear hb5 a2 s2
          have a1 := HA5.out.cell 1 (by simp)
          have s0 := HSB5.out.cell 0 (by simp)
          have s1 := HSB5.out.cell 1 (by simp)
          simp only [List.getElem_cons_zero, List.getElem_cons_succ] at a1 s0 s1
          by_cases h2 : j = 2
          · subst h2
            have hat := HM2.out rfl
            rw [hat] at a1
            go_wp2_with fail
            refine (HLV.out _).mono ?_
            rintro e W6 ⟨rfl, hb6⟩
            go_wp2
            go_ret
            exact ⟨rfl, grew HB2.out (grew HB5.out hb6)⟩
          · by_cases h3 : j = 3
            · subst h3
              have hat := HM3.out rfl
              rw [hat] at a1
              have hq1 := HQ.out
              go_wp2_with fail
              refine (HLV.out _).mono ?_
              rintro e W6 ⟨rfl, hb6⟩
              go_wp2
              go_ret
              exact ⟨rfl, grew HB2.out (grew HB5.out hb6)⟩
            · have t2 : ((j : Int) == 2) = false := by rw [beq_eq_false_iff_ne]; omega
              have t3 : ((j : Int) == 3) = false := by rw [beq_eq_false_iff_ne]; omega
              by_cases hz1 : z < 1
              · have u1 : decide (z < 1) = true := decide_eq_true hz1
                go_wp2_with fail
                refine (HLV.out _).mono ?_
                rintro e W6 ⟨rfl, hb6⟩
                go_wp2
                go_ret
                exact ⟨rfl, grew HB2.out (grew HB5.out hb6)⟩
              · have u1 : decide (z < 1) = false := decide_eq_false hz1
                by_cases hz2 : (l.length : Int) < z
                · have u2 : decide ((l.length : Int) < z) = true := decide_eq_true hz2
                  go_wp2_with fail
                  refine (HLV.out _).mono ?_
                  rintro e W6 ⟨rfl, hb6⟩
                  go_wp2
                  go_ret
                  exact ⟨rfl, grew HB2.out (grew HB5.out hb6)⟩
                · have u2 : decide ((l.length : Int) < z) = false := decide_eq_false hz2
                  obtain ⟨i, rfl⟩ : ∃ i : Nat, z = ((i : Int) + 1) := ⟨z.toNat - 1, by omega⟩
                  have HIL : Hid (i + 1 ≤ l.length) := Lib.hid (by omega)
                  have u2n : decide (l.length < i + 1) = false := decide_eq_false (by omega)
                  have u1n : decide (i + 1 < 1) = false := decide_eq_false (by omega)
                  clear h2 h3 hz1 hz2
                  go_wp2_with fail
                  have HBX : Hid (∀ W, Below W5.heap.size W5 W → (W.cell? ⟨sb, 0, none⟩ = some (.slice va l.length vc) ∧ W.cell? ⟨sb, 1, none⟩ = some (.int .i64 ((i : Int) + 1)) ∧ W.cell? ⟨rb, 0, none⟩ = some (.int .i64 7) ∧ W.cell? ⟨rb, 1, none⟩ = some (.int .i64 0))) := Lib.hid (fun W hb => by have kk := Keep.of_grew hb Non; have g1 := HSB5.out.keep kk (fun h => h); have g2 := HRB5.out.keep kk (fun h => h); exact ⟨g1.cell 0 (by simp), g1.cell 1 (by simp), g2.cell 0 (by simp), g2.cell 1 (by simp)⟩)
                  have q0 := HBX.out W5 (Below.refl _ _)
                  have q0z := HBX.out (W5.alloc (.cells #[.slice none 0 0, .int .i64 0, .slice none 0 0] 29)) (grew_alloc _ _)
                  have P0a : Hid (Below W5.heap.size W5 W5.drew) := Lib.hid (grew_drew _)
                  have P0c : Hid (Below W5.heap.size W5 (W5.alloc (.cells #[.slice none 0 0, .int .i64 0, .slice none 0 0] 29)).drew) := Lib.hid (grew (grew_alloc _ _) (grew_drew _))
                  have HZC : Hid (Holds (W5.alloc (.cells #[.slice none 0 0, .int .i64 0, .slice none 0 0] 29)).drew W5.heap.size [.slice none 0 0, .int .i64 0, .slice none 0 0] 29) := Lib.hid ((Holds.new W5 [.slice none 0 0, .int .i64 0, .slice none 0 0] 29).keep (Keep.of_grew (grew_drew _) Non) (fun h => h))
                  go_cut [8, 9] from 96 to 106 (fun s8 s9 wx => ∃ ab La Lc Ka Kc Aa Ac, s8 = .pointer (some ⟨ab, 0, none⟩) ∧ s9 = .slice Aa (Ed.turned l ((i : Int) + 1) [] 7 0).acts.length Ac ∧ Holds wx ab [.slice La (Ed.behind l ((i : Int) + 1) [] 7 0).length Lc, .int .i64 ((Ed.turned l ((i : Int) + 1) [] 7 0).at' : Nat), .slice Ka (Ed.turned l ((i : Int) + 1) [] 7 0).kill.length Kc] 29 ∧ (∃ B, DoS wx B (Ed.behind l ((i : Int) + 1) [] 7 0) (Ed.turned l ((i : Int) + 1) [] 7 0).kill (Ed.turned l ((i : Int) + 1) [] 7 0).acts La Ka Aa Lc Kc Ac) ∧ W5.heap.size ≤ ab ∧ Below W5.heap.size W5 wx)
                  case first =>
                    go_region_held3 (fun W => W.cell? ⟨sb, 0, none⟩ = some (.slice va l.length vc) ∧ W.cell? ⟨sb, 1, none⟩ = some (.int .i64 ((i : Int) + 1)) ∧ W.cell? ⟨rb, 0, none⟩ = some (.int .i64 7) ∧ W.cell? ⟨rb, 1, none⟩ = some (.int .i64 0))
                      (first | exact q0 | exact q0z | exact q2 | exact q2z | exact q2f | exact q2s)
                      (first
                        | (go_at_call 12; refine (do_any (k := 7) (r := 0) (z := ((i : Int) + 1)) (HVL5.out _ (by first | exact P0a.out | exact P0c.out)) (SliceI.none _) (by have := HQ.out; omega) (by simp) ⟨by decide, by decide⟩ ⟨by decide, by decide⟩).mono ?_; rintro e x2 ⟨La, Lc, Ka, Kc, Aa, Ac, rfl, hd2, hb⟩
                           have HD2 := Lib.hid hd2
                           first
                             | (have P2 := Lib.hid (grew P0a.out hb))
                             | (have P2 := Lib.hid (grew P0c.out hb); have hst := box_set HZC.out (Nat.le_refl _) P0c.out hb (at' := ((Ed.turned l ((i : Int) + 1) [] 7 0).at' : Nat)) HD2.out (by have := HZC.out.lt; omega))
                           have q2 := HBX.out _ P2.out
                           have q2z := HBX.out (x2.alloc (.cells #[.slice none 0 0, .int .i64 0, .slice none 0 0] 29)) (grew P2.out (grew_alloc _ _))
                           have q2f := HBX.out (x2.alloc (.cells #[.slice La (Ed.behind l ((i : Int) + 1) [] 7 0).length Lc, .int .i64 ((Ed.turned l ((i : Int) + 1) [] 7 0).at' : Nat), .slice Ka (Ed.turned l ((i : Int) + 1) [] 7 0).kill.length Kc] 29)) (grew P2.out (grew_alloc _ _))
                           try (obtain ⟨st1, st2, st3, st4, t0, t1, t2, t3, t4, t5⟩ := hst; have q2s := HBX.out _ st4; have HST := Lib.hid (And.intro st1 (And.intro st2 st4)); clear st1 st2 st3 st4)
                           clear hb hd2))
                    all_goals
                      go_wp2
                      go_meet
                      first
                      | exact ⟨_, La, Lc, Ka, Kc, Aa, Ac, rfl, rfl, Holds.new x2 [.slice La (Ed.behind l ((i : Int) + 1) [] 7 0).length Lc, .int .i64 ((Ed.turned l ((i : Int) + 1) [] 7 0).at' : Nat), .slice Ka (Ed.turned l ((i : Int) + 1) [] 7 0).kill.length Kc] 29, ⟨_, HD2.out.below (grew_alloc _ _)⟩, P2.out.size, grew P2.out (grew_alloc _ _)⟩
                      | exact ⟨_, La, Lc, Ka, Kc, Aa, Ac, rfl, rfl, HST.out.1, ⟨_, HST.out.2.1⟩, Nat.le_refl _, HST.out.2.2⟩
                      | exact ⟨_, La, Lc, Ka, Kc, Aa, Ac, rfl, rfl, HST.out.1, ⟨_, HST.out.2.1⟩, P0c.out.size, HST.out.2.2⟩
                  case rest =>
                    obtain ⟨bb, Lb, Lcb, Kb, Kcb, Ab, Acb, rfl, rfl, hA6, ⟨B6, hD6⟩, hab6, hb6⟩ := hcut
                    have hl6 := Ed.left (kl := []) HIL.out
                    rw [hl6.2.2.2, hl6.2.1, hl6.2.2.1] at hD6
                    rw [hl6.1, hl6.2.1, hl6.2.2.1] at hA6
                    have HBB6 := Lib.hid hA6
                    have HD6 := Lib.hid hD6
                    have HB6 := Lib.hid (grew HB5.out hb6)
                    have HSB6 := Lib.hid (HSB5.out.keep (Keep.of_grew hb6 Non) (fun h => h))
                    have HRB6 := Lib.hid (HRB5.out.keep (Keep.of_grew hb6 Non) (fun h => h))
                    clear hA6 hD6 hab6 hb6 q0 q0z HBX P0a P0c HZC hl6 s0 s1 a1
                    generalize wc = W6 at *
                    have HBL6 : Hid (∀ W, Below W6.heap.size W6 W → SliceI W (.slice Lb l.length Lcb) l) := Lib.hid (fun W hb => HD6.out.line.below hb)
                    have HBK6 : Hid (∀ W, Below W6.heap.size W6 W → SliceI W (.slice Kb 0 Kcb) []) := Lib.hid (fun W hb => HD6.out.kill.below hb)
                    rw [List.length_nil] at HBB6
                    go_wp2_with fail
                    have HBX : Hid (∀ W, Below W6.heap.size W6 W → (W.cell? ⟨bb, 0, none⟩ = some (.slice Lb l.length Lcb) ∧ W.cell? ⟨bb, 1, none⟩ = some (.int .i64 (i : Nat)) ∧ W.cell? ⟨bb, 2, none⟩ = some (.slice Kb 0 Kcb) ∧ W.cell? ⟨rb, 2, none⟩ = some (.int .i64 6) ∧ W.cell? ⟨rb, 3, none⟩ = some (.int .i64 0))) := Lib.hid (fun W hb => by have kk := Keep.of_grew hb Non; have g1 := HBB6.out.keep kk (fun h => h); have g2 := HRB6.out.keep kk (fun h => h); exact ⟨g1.cell 0 (by simp), g1.cell 1 (by simp), g1.cell 2 (by simp), g2.cell 2 (by simp), g2.cell 3 (by simp)⟩)
                    have q0 := HBX.out W6 (Below.refl _ _)
                    have q0z := HBX.out (W6.alloc (.cells #[.slice none 0 0, .int .i64 0, .slice none 0 0] 29)) (grew_alloc _ _)
                    have P0a : Hid (Below W6.heap.size W6 W6.drew) := Lib.hid (grew_drew _)
                    have P0c : Hid (Below W6.heap.size W6 (W6.alloc (.cells #[.slice none 0 0, .int .i64 0, .slice none 0 0] 29)).drew) := Lib.hid (grew (grew_alloc _ _) (grew_drew _))
                    have HZC : Hid (Holds (W6.alloc (.cells #[.slice none 0 0, .int .i64 0, .slice none 0 0] 29)).drew W6.heap.size [.slice none 0 0, .int .i64 0, .slice none 0 0] 29) := Lib.hid ((Holds.new W6 [.slice none 0 0, .int .i64 0, .slice none 0 0] 29).keep (Keep.of_grew (grew_drew _) Non) (fun h => h))
                    go_cut [10, 11] from 108 to 114 (fun s10 s11 wx => ∃ ab La Lc Ka Kc Aa Ac, s10 = .pointer (some ⟨ab, 0, none⟩) ∧ s11 = .slice Aa (Ed.turned l (i : Int) [] 6 0).acts.length Ac ∧ Holds wx ab [.slice La (Ed.behind l (i : Int) [] 6 0).length Lc, .int .i64 ((Ed.turned l (i : Int) [] 6 0).at' : Nat), .slice Ka (Ed.turned l (i : Int) [] 6 0).kill.length Kc] 29 ∧ (∃ B, DoS wx B (Ed.behind l (i : Int) [] 6 0) (Ed.turned l (i : Int) [] 6 0).kill (Ed.turned l (i : Int) [] 6 0).acts La Ka Aa Lc Kc Ac) ∧ W6.heap.size ≤ ab ∧ Below W6.heap.size W6 wx)
                    case first =>
                      go_region_held3 (fun W => W.cell? ⟨bb, 0, none⟩ = some (.slice Lb l.length Lcb) ∧ W.cell? ⟨bb, 1, none⟩ = some (.int .i64 (i : Nat)) ∧ W.cell? ⟨bb, 2, none⟩ = some (.slice Kb 0 Kcb) ∧ W.cell? ⟨rb, 2, none⟩ = some (.int .i64 6) ∧ W.cell? ⟨rb, 3, none⟩ = some (.int .i64 0))
                        (first | exact q0 | exact q0z | exact q2 | exact q2z | exact q2f | exact q2s)
                        (first
                          | (go_at_call 12; refine (do_any (k := 6) (r := 0) (z := (i : Int)) (HBL6.out _ (by first | exact P0a.out | exact P0c.out)) (HBK6.out _ (by first | exact P0a.out | exact P0c.out)) (by have := HQ.out; omega) (by simp) ⟨by decide, by decide⟩ ⟨by decide, by decide⟩).mono ?_; rintro e x2 ⟨La, Lc, Ka, Kc, Aa, Ac, rfl, hd2, hb⟩
                             have HD2 := Lib.hid hd2
                             first
                               | (have P2 := Lib.hid (grew P0a.out hb))
                               | (have P2 := Lib.hid (grew P0c.out hb); have hst := box_set HZC.out (Nat.le_refl _) P0c.out hb (at' := ((Ed.turned l (i : Int) [] 6 0).at' : Nat)) HD2.out (by have := HZC.out.lt; omega))
                             have q2 := HBX.out _ P2.out
                             have q2z := HBX.out (x2.alloc (.cells #[.slice none 0 0, .int .i64 0, .slice none 0 0] 29)) (grew P2.out (grew_alloc _ _))
                             have q2f := HBX.out (x2.alloc (.cells #[.slice La (Ed.behind l (i : Int) [] 6 0).length Lc, .int .i64 ((Ed.turned l (i : Int) [] 6 0).at' : Nat), .slice Ka (Ed.turned l (i : Int) [] 6 0).kill.length Kc] 29)) (grew P2.out (grew_alloc _ _))
                             try (obtain ⟨st1, st2, st3, st4, t0, t1, t2, t3, t4, t5⟩ := hst; have q2s := HBX.out _ st4; have HST := Lib.hid (And.intro st1 (And.intro st2 st4)); clear st1 st2 st3 st4)
                             clear hb hd2))
                      all_goals
                        go_wp2
                        go_meet
                        first
                        | exact ⟨_, La, Lc, Ka, Kc, Aa, Ac, rfl, rfl, Holds.new x2 [.slice La (Ed.behind l (i : Int) [] 6 0).length Lc, .int .i64 ((Ed.turned l (i : Int) [] 6 0).at' : Nat), .slice Ka (Ed.turned l (i : Int) [] 6 0).kill.length Kc] 29, ⟨_, HD2.out.below (grew_alloc _ _)⟩, P2.out.size, grew P2.out (grew_alloc _ _)⟩
                        | exact ⟨_, La, Lc, Ka, Kc, Aa, Ac, rfl, rfl, HST.out.1, ⟨_, HST.out.2.1⟩, Nat.le_refl _, HST.out.2.2⟩
                        | exact ⟨_, La, Lc, Ka, Kc, Aa, Ac, rfl, rfl, HST.out.1, ⟨_, HST.out.2.1⟩, P0c.out.size, HST.out.2.2⟩
                    case rest =>
                      obtain ⟨cb, Lx, Lcx, Kx, Kcx, Ax, Acx, rfl, rfl, hA7, _, _, hb7⟩ := hcut
                      have hl7 := Ed.right (kl := []) HIL.out
                      rw [hl7.1] at hA7
                      have HC7 := Lib.hid hA7
                      have HB7 := Lib.hid (grew HB6.out hb7)
                      have HSB7 := Lib.hid (HSB6.out.keep (Keep.of_grew hb7 Non) (fun h => h))
                      have HBB7 := Lib.hid (HBB6.out.keep (Keep.of_grew hb7 Non) (fun h => h))
                      clear hA7 hb7 q0 q0z HBX P0a P0c HZC hl7
                      have hq1 := HQ.out
                      have hil := HIL.out
                      generalize wc = W7 at *
                      have x1 := HC7.out.cell 1 (by simp)
                      have y1 := HSB7.out.cell 1 (by simp)
                      have z1 := HBB7.out.cell 1 (by simp)
                      simp only [List.getElem_cons_zero, List.getElem_cons_succ] at x1 y1 z1
                      go_wp2_with fail
                      refine (HLV.out _).mono ?_
                      rintro e W8 ⟨rfl, hb8⟩
                      go_wp2
                      go_ret
                      exact ⟨rfl, grew HB2.out (grew HB7.out hb8)⟩
  · have e1 : (decide (l.length ≤ 1100) && decide (kl.length ≤ 1100)) = false := by
      rw [Bool.and_eq_false_iff]
      by_cases h : l.length ≤ 1100
      · exact .inr (decide_eq_false (fun h2 => hq ⟨h, h2⟩))
      · exact .inl (decide_eq_false h)
    rw [e1] at HFEW
    clear e1 hq
    go_enter Try.func7, Try.ntmps7
    go_wp2_with fail
    refine (HFEW.out _).mono ?_
    rintro e w1 ⟨rfl, hb2⟩
    have HB2 := Lib.hid (grew HB1.out hb2)
    clear hb2
    go_wp2_with fail
    refine (HLV.out _).mono ?_
    rintro e w3 ⟨rfl, hb3⟩
    go_wp2
    go_ret
    exact ⟨rfl, grew HB2.out hb3⟩
end Go.Proofs.Ytckpidhcccnifaa
