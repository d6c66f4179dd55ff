/- The acts of a key make the line behind it. -/
import Derived.Test.YtckpidhcccnifaaEdLaw
import Derived.Deep.RegionHeld3
namespace Go.Proofs.Ytckpidhcccnifaa
open Go.RowKit
set_option linter.unusedVariables false

set_option maxRecDepth 100000 in
set_option maxHeartbeats 8000000 in
theorem walk_EditActs (lv kv : Value) (l kl : List Int) (z k r : Int) (w : World) (hs : SliceI w lv l ∧ SliceI w kv kl ∧ l.length ≤ maxLen ∧ kl.length ≤ maxLen ∧ I64 z ∧ (∀ x ∈ l, I64 x) ∧ ∀ x ∈ kl, I64 x) (hkr : I64 k ∧ I64 r) :
    Calls Try.prog 5 #[.agg #[lv, .int .i64 z, kv], .agg #[.int .i64 k, .int .i64 r]] w fun e w' => e = .returned (.bool true) ∧ Below w.heap.size w w' := by
  obtain ⟨hv, hkv, hm1, hm2, _, _, _⟩ := hs
  obtain ⟨va, vc, rfl⟩ := hv.shape
  obtain ⟨ka, kc, rfl⟩ := hkv.shape
  have HV := Lib.hid hv
  have HKV := Lib.hid hkv
  have HKR := Lib.hid hkr
  clear hv hkv hkr
  have HLV := Lib.hid (fun W => law18_live W)
  have HKEY := Lib.hid (fun W => law18_key k r W)
  have HSB : Hid (Holds ((w.alloc (.cells #[.slice va l.length vc, .int .i64 z, .slice ka kl.length kc] 24)).alloc (.cells #[.int .i64 k, .int .i64 r] 26)) w.heap.size [.slice va l.length vc, .int .i64 z, .slice ka kl.length kc] 24) := Lib.hid ((Holds.new w [.slice va l.length vc, .int .i64 z, .slice ka kl.length kc] 24).keep (Keep.alloc Non _ _) (fun h => h))
  have HKB : Hid (Holds ((w.alloc (.cells #[.slice va l.length vc, .int .i64 z, .slice ka kl.length kc] 24)).alloc (.cells #[.int .i64 k, .int .i64 r] 26)) (w.heap.size + 1) [.int .i64 k, .int .i64 r] 26) := Lib.hid (by
    have := Holds.new (w.alloc (.cells #[.slice va l.length vc, .int .i64 z, .slice ka kl.length kc] 24)) [.int .i64 k, .int .i64 r] 26
    simpa using this)
  have HB1 : Hid (Below w.heap.size w ((w.alloc (.cells #[.slice va l.length vc, .int .i64 z, .slice ka kl.length kc] 24)).alloc (.cells #[.int .i64 k, .int .i64 r] 26))) := Lib.hid (grew (grew_alloc w _) (grew_alloc _ _))
  have s0 := HSB.out.cell 0 (by simp)
  have s1 := HSB.out.cell 1 (by simp)
  have s2 := HSB.out.cell 2 (by simp)
  simp only [List.getElem_cons_zero, List.getElem_cons_succ] at s0 s1 s2
  have HFEW := Lib.hid (fun W => law18_few va ka l.length vc kl.length kc z W)
  by_cases hq : l.length ≤ 1100 ∧ kl.length ≤ 1100
  · obtain ⟨q1, q2⟩ := hq
    have e1 : (decide (l.length ≤ 1100) && decide (kl.length ≤ 1100)) = true := by rw [decide_eq_true q1, decide_eq_true q2]; rfl
    rw [e1] at HFEW
    clear e1
    have HQ := Lib.hid (And.intro q1 q2)
    go_enter Try.func5, Try.ntmps5
    go_wp2_with fail
    refine (HFEW.out _).mono ?_
    rintro e w2 ⟨rfl, hb2⟩
    have HSB := Lib.hid (HSB.out.keep (Keep.of_grew hb2 Non) (fun h => h))
    have HKB := Lib.hid (HKB.out.keep (Keep.of_grew hb2 Non) (fun h => h))
    have HB2 := Lib.hid (grew HB1.out hb2)
    clear hb2 s0 s1 s2 HB1
    obtain ⟨sb, hsb⟩ : ∃ sb, w.heap.size = sb := ⟨_, rfl⟩
    obtain ⟨kb, hkb⟩ : ∃ kb, sb + 1 = kb := ⟨_, rfl⟩
    rw [hsb] at HSB HKB ⊢
    rw [hkb] at HKB ⊢
    have HWB : Hid (sb < w2.heap.size ∧ kb < w2.heap.size ∧ w.heap.size = sb) := Lib.hid ⟨HSB.out.lt, HKB.out.lt, hsb⟩
    clear hsb hkb
    go_wp2_with fail
    have HVL : Hid (∀ W, Below w2.heap.size w2 W → SliceI W (.slice va l.length vc) l) := Lib.hid (fun W hb => (HV.out.below HB2.out).below hb)
    have HKVL : Hid (∀ W, Below w2.heap.size w2 W → SliceI W (.slice ka kl.length kc) kl) := Lib.hid (fun W hb => (HKV.out.below HB2.out).below hb)
    have HBX : Hid (∀ W, Below w2.heap.size w2 W → (W.cell? ⟨sb, 0, none⟩ = some (.slice va l.length vc) ∧ W.cell? ⟨sb, 1, none⟩ = some (.int .i64 z) ∧ W.cell? ⟨sb, 2, none⟩ = some (.slice ka kl.length kc) ∧ W.cell? ⟨kb, 0, none⟩ = some (.int .i64 k) ∧ W.cell? ⟨kb, 1, none⟩ = some (.int .i64 r))) := Lib.hid (fun W hb => by have k := Keep.of_grew hb Non; have g1 := HSB.out.keep k (fun h => h); have g2 := HKB.out.keep k (fun h => h); exact ⟨g1.cell 0 (by simp), g1.cell 1 (by simp), g1.cell 2 (by simp), g2.cell 0 (by simp), g2.cell 1 (by simp)⟩)
    have q0 := HBX.out w2 (Below.refl _ _)
    have q0z := HBX.out (w2.alloc (.cells #[.slice none 0 0, .int .i64 0, .slice none 0 0] 29)) (grew_alloc _ _)
    have P0a : Hid (Below w2.heap.size w2 w2.drew) := Lib.hid (grew_drew _)
    have P0c : Hid (Below w2.heap.size w2 (w2.alloc (.cells #[.slice none 0 0, .int .i64 0, .slice none 0 0] 29)).drew) := Lib.hid (grew (grew_alloc _ _) (grew_drew _))
    have HZC : Hid (Holds (w2.alloc (.cells #[.slice none 0 0, .int .i64 0, .slice none 0 0] 29)).drew w2.heap.size [.slice none 0 0, .int .i64 0, .slice none 0 0] 29) := Lib.hid ((Holds.new w2 [.slice none 0 0, .int .i64 0, .slice none 0 0] 29).keep (Keep.of_grew (grew_drew _) Non) (fun h => h))
    go_cut [5, 6] from 14 to 25 (fun s5 s6 wx => ∃ ab La Lc Ka Kc Aa Ac, s5 = .pointer (some ⟨ab, 0, none⟩) ∧ s6 = .slice Aa (Ed.turned l z kl k r).acts.length Ac ∧ Holds wx ab [.slice La (Ed.behind l z kl k r).length Lc, .int .i64 ((Ed.turned l z kl k r).at' : Nat), .slice Ka (Ed.turned l z kl k r).kill.length Kc] 29 ∧ (∃ B, DoS wx B (Ed.behind l z kl k r) (Ed.turned l z kl k r).kill (Ed.turned l z kl k r).acts La Ka Aa Lc Kc Ac) ∧ w2.heap.size ≤ ab ∧ Below w2.heap.size w2 wx)
    case first =>
      go_region_held3 (fun W => W.cell? ⟨sb, 0, none⟩ = some (.slice va l.length vc) ∧ W.cell? ⟨sb, 1, none⟩ = some (.int .i64 z) ∧ W.cell? ⟨sb, 2, none⟩ = some (.slice ka kl.length kc) ∧ W.cell? ⟨kb, 0, none⟩ = some (.int .i64 k) ∧ W.cell? ⟨kb, 1, none⟩ = some (.int .i64 r))
        (first | exact q0 | exact q0z | exact q1 | exact q1z | exact q2 | exact q2z | exact q2f | exact q2s)
        (first
          | (go_at_call 13; refine (HKEY.out _).mono ?_; rintro e x1 ⟨rfl, hb⟩
             first
               | (have P1 := Lib.hid (grew P0a.out hb))
               | (have P1 := Lib.hid (grew P0c.out hb); have HZ1 := Lib.hid (HZC.out.keep (Keep.of_grew hb Non) (fun h => h)))
             have q1 := HBX.out _ P1.out
             have q1z := HBX.out (x1.alloc (.cells #[.slice none 0 0, .int .i64 0, .slice none 0 0] 29)) (grew P1.out (grew_alloc _ _))
             have P1z : Hid (Below w2.heap.size w2 (x1.alloc (.cells #[.slice none 0 0, .int .i64 0, .slice none 0 0] 29))) := Lib.hid (grew P1.out (grew_alloc _ _))
             have HZB := Lib.hid (Holds.new x1 [.slice none 0 0, .int .i64 0, .slice none 0 0] 29)
             clear hb)
          | (go_at_call 12; refine (do_any (k := k) (r := r) (z := z) (HVL.out _ (by first | exact P1.out | exact P1z.out)) (HKVL.out _ (by first | exact P1.out | exact P1z.out)) (by have := HQ.out; omega) (by have := HQ.out; omega) HKR.out.1 HKR.out.2).mono ?_; rintro e x2 ⟨La, Lc, Ka, Kc, Aa, Ac, rfl, hd2, hb⟩
             have HD2 := Lib.hid hd2
             first
               | (have P2 := Lib.hid (grew P1.out hb); have hst := box_set HZ1.out (Nat.le_refl _) P1.out hb (at' := ((Ed.turned l z kl k r).at' : Nat)) HD2.out (by have := P1.out.size; have := HZ1.out.lt; omega))
               | (have P2 := Lib.hid (grew P1.out hb))
               | (have P2 := Lib.hid (grew P1z.out hb); have hst := box_set HZB.out P1.out.size P1z.out hb (at' := ((Ed.turned l z kl k r).at' : Nat)) HD2.out (by have := HZB.out.lt; omega))
             have q2 := HBX.out _ P2.out
             have q2z := HBX.out (x2.alloc (.cells #[.slice none 0 0, .int .i64 0, .slice none 0 0] 29)) (grew P2.out (grew_alloc _ _))
             have q2f := HBX.out (x2.alloc (.cells #[.slice La (Ed.behind l z kl k r).length Lc, .int .i64 ((Ed.turned l z kl k r).at' : Nat), .slice Ka (Ed.turned l z kl k r).kill.length Kc] 29)) (grew P2.out (grew_alloc _ _))
             try (obtain ⟨st1, st2, st3, st4, t0, t1, t2, t3, t4, t5⟩ := hst; have q2s := HBX.out _ st4; have HST := Lib.hid (And.intro st1 (And.intro st2 st4)); clear st1 st2 st3 st4)
             clear hb hd2))
      all_goals
        go_wp2
        go_meet
        first
        | exact ⟨_, La, Lc, Ka, Kc, Aa, Ac, rfl, rfl, Holds.new x2 [.slice La (Ed.behind l z kl k r).length Lc, .int .i64 ((Ed.turned l z kl k r).at' : Nat), .slice Ka (Ed.turned l z kl k r).kill.length Kc] 29, ⟨_, HD2.out.below (grew_alloc _ _)⟩, P2.out.size, grew P2.out (grew_alloc _ _)⟩
        | exact ⟨_, La, Lc, Ka, Kc, Aa, Ac, rfl, rfl, HST.out.1, ⟨_, HST.out.2.1⟩, Nat.le_refl _, HST.out.2.2⟩
        | exact ⟨_, La, Lc, Ka, Kc, Aa, Ac, rfl, rfl, HST.out.1, ⟨_, HST.out.2.1⟩, P1.out.size, HST.out.2.2⟩
    case rest =>
      obtain ⟨ab, La, Lc, Ka, Kc, Aa, Ac, rfl, rfl, hA, ⟨B, hD⟩, hab, hb3⟩ := hcut
      have HS3 := Lib.hid (HSB.out.keep (Keep.of_grew hb3 Non) (fun h => h))
      have HA := Lib.hid hA
      have HD := Lib.hid hD
      have HB3 := Lib.hid hb3
      clear hA hD hab hb3 HSB HKB q0 q0z HBX P0a P0c HZC
      generalize wc = W3 at *
      have hgood := Ed.turned_good l z kl k r
      have hbs := Ed.behind_some l z kl k r
      have HSM := Lib.hid (Ed.turned_small l z kl k r)
      have HAP := Lib.hid hbs.1
      have hlen : (Ed.turned l z kl k r).at' ≤ (Ed.behind l z kl k r).length ∧ (Ed.behind l z kl k r).length ≤ max 1000 l.length := by
        have h1 := hgood.caret
        have h2 := hgood.long
        rw [Ed.turned_line] at h2
        rw [hbs.2]
        exact ⟨h1, h2⟩
      clear hgood hbs
      generalize Ed.behind l z kl k r = M at *
      generalize (Ed.turned l z kl k r).at' = AT at *
      generalize (Ed.turned l z kl k r).kill = K2 at *
      generalize (Ed.turned l z kl k r).acts = ACTS at *
      have s0 := HS3.out.cell 0 (by simp)
      simp only [List.getElem_cons_zero] at s0
      by_cases hl1 : l.length ≤ 1000
      · have m1 : decide ((1000 : Int) < (l.length : Int)) = false := decide_eq_false (by omega)
        have m2 : decide ((l.length : Int) ≤ 1000) = true := decide_eq_true (by omega)
        have m3 : decide ((M.length : Int) ≤ 1000) = true := decide_eq_true (by omega)
        have d1 : decide ((0 : Int) ≤ (AT : Int)) = true := decide_eq_true (by omega)
        have d2 : decide ((AT : Int) ≤ (M.length : Int)) = true := decide_eq_true (by omega)
        have d2n : decide (AT ≤ M.length) = true := decide_eq_true (by omega)
        have HLEN := Lib.hid hlen
        clear hlen
        go_wp2_with fail
        refine (apply_known (m := M) (n := M.length) (HVL.out _ HB3.out) HD.out.done (by have := HQ.out; omega) (by have := HSM.out; have := HQ.out; omega) HAP.out rfl).mono ?_
        rintro e W4 ⟨xa, xc, rfl, hx, hb4⟩
        have HX := Lib.hid hx
        have HA4 := Lib.hid (HA.out.keep (Keep.of_grew hb4 Non) (fun h => h))
        have HS4 := Lib.hid (HS3.out.keep (Keep.of_grew hb4 Non) (fun h => h))
        have HD4 := Lib.hid (HD.out.below hb4)
        have HB4 := Lib.hid (grew HB3.out hb4)
        clear hx hb4 s0
        have a0 := HA4.out.cell 0 (by simp)
        simp only [List.getElem_cons_zero] at a0
        go_wp2_with fail
        refine (ref01_Same _ _ M M _ HX.out HD4.out.line (by have := HLEN.out; have := HQ.out; omega) (by have := HLEN.out; have := HQ.out; omega)).mono ?_
        rintro e W5 ⟨rfl, hb5⟩
        rw [show decide (M = M) = true from by simp]
        have HA5 := Lib.hid (HA4.out.keep (Keep.of_grew hb5 Non) (fun h => h))
        have HS5 := Lib.hid (HS4.out.keep (Keep.of_grew hb5 Non) (fun h => h))
        have HB5 := Lib.hid (grew HB4.out hb5)
        clear hb5 a0
        have a0 := HA5.out.cell 0 (by simp)
        have a1 := HA5.out.cell 1 (by simp)
        have s0 := HS5.out.cell 0 (by simp)
        simp only [List.getElem_cons_zero, List.getElem_cons_succ] at a0 a1 s0
        go_wp2_with fail
        refine (HLV.out _).mono ?_
        rintro e W6 ⟨rfl, hb6⟩
        go_wp2
        go_ret
        exact ⟨rfl, grew HB2.out (grew HB5.out hb6)⟩
      · have m1 : decide ((1000 : Int) < (l.length : Int)) = true := decide_eq_true (by omega)
        have m2 : decide ((l.length : Int) ≤ 1000) = false := decide_eq_false (by omega)
        have m3 : decide ((M.length : Int) ≤ (l.length : Int)) = true := decide_eq_true (by omega)
        have m3n : decide (M.length ≤ l.length) = true := decide_eq_true (by omega)
        have d1 : decide ((0 : Int) ≤ (AT : Int)) = true := decide_eq_true (by omega)
        have d2 : decide ((AT : Int) ≤ (M.length : Int)) = true := decide_eq_true (by omega)
        have d2n : decide (AT ≤ M.length) = true := decide_eq_true (by omega)
        have HLEN := Lib.hid hlen
        clear hlen
        go_wp2_with fail
        refine (apply_known (m := M) (n := M.length) (HVL.out _ HB3.out) HD.out.done (by have := HQ.out; omega) (by have := HSM.out; have := HQ.out; omega) HAP.out rfl).mono ?_
        rintro e W4 ⟨xa, xc, rfl, hx, hb4⟩
        have HX := Lib.hid hx
        have HA4 := Lib.hid (HA.out.keep (Keep.of_grew hb4 Non) (fun h => h))
        have HS4 := Lib.hid (HS3.out.keep (Keep.of_grew hb4 Non) (fun h => h))
        have HD4 := Lib.hid (HD.out.below hb4)
        have HB4 := Lib.hid (grew HB3.out hb4)
        clear hx hb4 s0
        have a0 := HA4.out.cell 0 (by simp)
        simp only [List.getElem_cons_zero] at a0
        go_wp2_with fail
        refine (ref01_Same _ _ M M _ HX.out HD4.out.line (by have := HLEN.out; have := HQ.out; omega) (by have := HLEN.out; have := HQ.out; omega)).mono ?_
        rintro e W5 ⟨rfl, hb5⟩
        rw [show decide (M = M) = true from by simp]
        have HA5 := Lib.hid (HA4.out.keep (Keep.of_grew hb5 Non) (fun h => h))
        have HS5 := Lib.hid (HS4.out.keep (Keep.of_grew hb5 Non) (fun h => h))
        have HB5 := Lib.hid (grew HB4.out hb5)
        clear hb5 a0
        have a0 := HA5.out.cell 0 (by simp)
        have a1 := HA5.out.cell 1 (by simp)
        have s0 := HS5.out.cell 0 (by simp)
        simp only [List.getElem_cons_zero, List.getElem_cons_succ] at a0 a1 s0
        go_wp2_with fail
        refine (HLV.out _).mono ?_
        rintro e W6 ⟨rfl, hb6⟩
        go_wp2
        go_ret
        exact ⟨rfl, grew HB2.out (grew HB5.out hb6)⟩
  · have e1 : (decide (l.length ≤ 1100) && decide (kl.length ≤ 1100)) = false := by
      rw [Bool.and_eq_false_iff]
      by_cases h : l.length ≤ 1100
      · exact .inr (decide_eq_false (fun h2 => hq ⟨h, h2⟩))
      · exact .inl (decide_eq_false h)
    rw [e1] at HFEW
    clear e1 hq
    go_enter Try.func5, Try.ntmps5
    go_wp2_with fail
    refine (HFEW.out _).mono ?_
    rintro e w2 ⟨rfl, hb2⟩
    have HB2 := Lib.hid (grew HB1.out hb2)
    clear hb2
    go_wp2_with fail
    refine (HLV.out _).mono ?_
    rintro e w3 ⟨rfl, hb3⟩
    go_wp2
    go_ret
    exact ⟨rfl, grew HB2.out hb3⟩
end Go.Proofs.Ytckpidhcccnifaa
