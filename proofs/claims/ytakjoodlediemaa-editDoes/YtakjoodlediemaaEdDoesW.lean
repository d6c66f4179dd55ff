/- The walk of EditDoes. -/
import Derived.Test.YtakjoodlediemaaEdRefG
import Derived.Deep.RegionHeld3
namespace Go.Proofs.Ytakjoodlediemaa
open Go.RowKit
set_option linter.unusedVariables false

set_option maxRecDepth 100000 in
set_option maxHeartbeats 8000000 in
theorem walk_EditDoes (lv kv : Value) (l kl : List Int) (z k r : Int) (w : World) (hs : SliceI w lv l ∧ SliceI w kv kl ∧ l.length ≤ maxLen ∧ kl.length ≤ maxLen ∧ I64 z ∧ (∀ x ∈ l, I64 x) ∧ ∀ x ∈ kl, I64 x) (hkr : I64 k ∧ I64 r) :
    Calls Try.prog 3 #[.agg #[lv, .int .i64 z, kv], .agg #[.int .i64 k, .int .i64 r]] w fun e w' => e = .returned (.bool true) ∧ Below w.heap.size w w' := by
  obtain ⟨hv, hkv, hm1, hm2, _, _, _⟩ := hs
  obtain ⟨va, vc, rfl⟩ := hv.shape
  obtain ⟨ka, kc, rfl⟩ := hkv.shape
  have HV := Lib.hid hv
  have HKV := Lib.hid hkv
  have HKR := Lib.hid hkr
  clear hv hkv hkr
  have HLV := Lib.hid (fun W => law18_live W)
  have HKEY := Lib.hid (fun W => law18_key k r W)
  have HSB : Hid (Holds ((w.alloc (.cells #[.slice va l.length vc, .int .i64 z, .slice ka kl.length kc] 24)).alloc (.cells #[.int .i64 k, .int .i64 r] 26)) w.heap.size [.slice va l.length vc, .int .i64 z, .slice ka kl.length kc] 24) := Lib.hid ((Holds.new w [.slice va l.length vc, .int .i64 z, .slice ka kl.length kc] 24).keep (Keep.alloc Non _ _) (fun h => h))
  have HKB : Hid (Holds ((w.alloc (.cells #[.slice va l.length vc, .int .i64 z, .slice ka kl.length kc] 24)).alloc (.cells #[.int .i64 k, .int .i64 r] 26)) (w.heap.size + 1) [.int .i64 k, .int .i64 r] 26) := Lib.hid (by
    have := Holds.new (w.alloc (.cells #[.slice va l.length vc, .int .i64 z, .slice ka kl.length kc] 24)) [.int .i64 k, .int .i64 r] 26
    simpa using this)
  have HB1 : Hid (Below w.heap.size w ((w.alloc (.cells #[.slice va l.length vc, .int .i64 z, .slice ka kl.length kc] 24)).alloc (.cells #[.int .i64 k, .int .i64 r] 26))) := Lib.hid (grew (grew_alloc w _) (grew_alloc _ _))
  have s0 := HSB.out.cell 0 (by simp)
  have s1 := HSB.out.cell 1 (by simp)
  have s2 := HSB.out.cell 2 (by simp)
  simp only [List.getElem_cons_zero, List.getElem_cons_succ] at s0 s1 s2
  have HFEW := Lib.hid (fun W => law18_few va ka l.length vc kl.length kc z W)
  by_cases hq : l.length ≤ 1100 ∧ kl.length ≤ 1100
  · obtain ⟨q1, q2⟩ := hq
    have e1 : (decide (l.length ≤ 1100) && decide (kl.length ≤ 1100)) = true := by rw [decide_eq_true q1, decide_eq_true q2]; rfl
    rw [e1] at HFEW
    clear e1
    have HQ := Lib.hid (And.intro q1 q2)
    go_enter Try.func3, Try.ntmps3
    go_wp2_with fail
    refine (HFEW.out _).mono ?_
    rintro e w2 ⟨rfl, hb2⟩
    have HSB := Lib.hid (HSB.out.keep (Keep.of_grew hb2 Non) (fun h => h))
    have HKB := Lib.hid (HKB.out.keep (Keep.of_grew hb2 Non) (fun h => h))
    have HB2 := Lib.hid (grew HB1.out hb2)
    clear hb2 s0 s1 s2 HB1
    obtain ⟨sb, hsb⟩ : ∃ sb, w.heap.size = sb := ⟨_, rfl⟩
    obtain ⟨kb, hkb⟩ : ∃ kb, sb + 1 = kb := ⟨_, rfl⟩
    rw [hsb] at HSB HKB ⊢
    rw [hkb] at HKB ⊢
    have HWB : Hid (sb < w2.heap.size ∧ kb < w2.heap.size ∧ w.heap.size = sb) := Lib.hid ⟨HSB.out.lt, HKB.out.lt, hsb⟩
    clear hsb hkb
    have s0 := HSB.out.cell 0 (by simp)
    have s1 := HSB.out.cell 1 (by simp)
    have s2 := HSB.out.cell 2 (by simp)
    simp only [List.getElem_cons_zero, List.getElem_cons_succ] at s0 s1 s2
    have HVL : Hid (∀ W, Below w2.heap.size w2 W → SliceI W (.slice va l.length vc) l) := Lib.hid (fun W hb => (HV.out.below HB2.out).below hb)
    have HKVL : Hid (∀ W, Below w2.heap.size w2 W → SliceI W (.slice ka kl.length kc) kl) := Lib.hid (fun W hb => (HKV.out.below HB2.out).below hb)
    have HSX : Hid (∀ W, Below w2.heap.size w2 W → W.cell? ⟨sb, 0, none⟩ = some (.slice va l.length vc) ∧ W.cell? ⟨sb, 1, none⟩ = some (.int .i64 z) ∧ W.cell? ⟨sb, 2, none⟩ = some (.slice ka kl.length kc) ∧ W.cell? ⟨kb, 0, none⟩ = some (.int .i64 k) ∧ W.cell? ⟨kb, 1, none⟩ = some (.int .i64 r)) := Lib.hid (fun W hb => by have k := Keep.of_grew hb Non; have g1 := HSB.out.keep k (fun h => h); have g2 := HKB.out.keep k (fun h => h); exact ⟨g1.cell 0 (by simp), g1.cell 1 (by simp), g1.cell 2 (by simp), g2.cell 0 (by simp), g2.cell 1 (by simp)⟩)
    have HO0 := Lib.hid (Holds.new w2 [.slice none 0 0, .int .i64 z, .slice none 0 0] 29)
    have HG0 := Lib.hid (grew_alloc w2 (.cells #[.slice none 0 0, .int .i64 z, .slice none 0 0] 29))
    have HGS : Hid (w2.heap.size < (w2.alloc (.cells #[.slice none 0 0, .int .i64 z, .slice none 0 0] 29)).heap.size) := Lib.hid (by simp)
    have t0 := (HSX.out _ HG0.out).1
    go_wp2_with (at_builtin; first
      | (refine wp_append_nums rfl (.tmp 18) (.tmp 20) rfl (.slice none 0 0) [] rfl (OwnI.nil _) _ l rfl (HVL.out _ HG0.out) (by have := HQ.out; simp; omega) ?_
         intro v3 w3 ho3 hk3 hn3
         obtain ⟨oa, oc, e3⟩ := ho3.slice.shape
         subst e3
         have hb3 := hk3.fresh (fun i _ e => by cases e)
         have HO3 := Lib.hid (HO0.out.keep hk3 (fun e => by cases e))
         have HL3 : Hid (OwnI w3 (.slice oa l.length oc) l) := Lib.hid ho3
         have HB3 := Lib.hid (grew HG0.out hb3)
         have HF3 : Hid (∀ b, (Value.slice oa l.length oc).ownBlock = some b → w2.heap.size < b) := Lib.hid (fun b hb => Nat.lt_of_lt_of_le HGS.out ((hn3 b hb).resolve_left (fun e => by cases e)))
         have HS3 : Hid (w2.heap.size < w3.heap.size) := Lib.hid (Nat.lt_of_lt_of_le HGS.out hb3.size)
         clear ho3 hk3 hn3 hb3 t0
         have o0 := HO3.out.cell 0 (by simp)
         have p0 := HO3.out.frozen 0
         have o2 := HO3.out.cell 2 (by simp)
         simp only [List.getElem_cons_zero, List.getElem_cons_succ] at o0 o2
         have t2 : (w3.setCell ⟨w2.heap.size, 0, none⟩ (.slice oa l.length oc)).cell? ⟨sb, 2, none⟩ = some (.slice ka kl.length kc) := by
           rw [World.cell?_setCell_other _ _ _ _ (by first | (simp; done) | (have := HWB.out; simp; omega))]
           exact (HSX.out _ HB3.out).2.2.1)
      | (have HO4 := Lib.hid (HO3.out.set 0 (.slice oa l.length oc) (by simp))
         have HB4 : Hid (Below w2.heap.size w2 (w3.setCell ⟨w2.heap.size, 0, none⟩ (.slice oa l.length oc))) := Lib.hid (HB3.out.setCell (Nat.le_refl _) _)
         have HL4 : Hid (OwnI (w3.setCell ⟨w2.heap.size, 0, none⟩ (.slice oa l.length oc)) (.slice oa l.length oc) l) := Lib.hid (HL3.out.keep (Keep.setCell w3 w2.heap.size 0 _) (fun b hb e => by have := HF3.out b hb; have e' : b = w2.heap.size := e; omega))
         have HS4 : Hid (w2.heap.size < (w3.setCell ⟨w2.heap.size, 0, none⟩ (.slice oa l.length oc)).heap.size) := Lib.hid (by have := HS3.out; simp [World.setCell]; omega)
         refine wp_append_nums rfl (.tmp 24) (.tmp 26) rfl (.slice none 0 0) [] rfl (OwnI.nil _) _ kl rfl (HKVL.out _ HB4.out) (by have := HQ.out; simp; omega) ?_
         intro v5 w5 ho5 hk5 hn5
         obtain ⟨qa, qc, e5⟩ := ho5.slice.shape
         subst e5
         have hb5 := hk5.fresh (fun i _ e => by cases e)
         have HO5 := Lib.hid (HO4.out.keep hk5 (fun e => by cases e))
         have HL5 := Lib.hid (HL4.out.below hb5)
         have HK5 : Hid (OwnI w5 (.slice qa kl.length qc) kl) := Lib.hid ho5
         have HB5 := Lib.hid (grew HB4.out hb5)
         have HF5 : Hid (∀ b, (Value.slice qa kl.length qc).ownBlock = some b → w2.heap.size < b) := Lib.hid (fun b hb => Nat.lt_of_lt_of_le HS4.out ((hn5 b hb).resolve_left (fun e => by cases e)))
         clear ho5 hk5 hn5 hb5 o0 p0 o2 t2
         have o2 := HO5.out.cell 2 (by simp)
         have p2 := HO5.out.frozen 2
         simp only [List.set_cons_zero, List.getElem_cons_zero, List.getElem_cons_succ] at o2))
    have HO6 := Lib.hid (HO5.out.set 2 (.slice qa kl.length qc) (by simp))
    have HB6 : Hid (Below w2.heap.size w2 (w5.setCell ⟨w2.heap.size, 2, none⟩ (.slice qa kl.length qc))) := Lib.hid (HB5.out.setCell (Nat.le_refl _) _)
    have HL6 : Hid (OwnI (w5.setCell ⟨w2.heap.size, 2, none⟩ (.slice qa kl.length qc)) (.slice oa l.length oc) l) := Lib.hid (HL5.out.keep (Keep.setCell w5 w2.heap.size 2 _) (fun b hb e => by have := HF3.out b hb; have e' : b = w2.heap.size := e; omega))
    have HK6 : Hid (OwnI (w5.setCell ⟨w2.heap.size, 2, none⟩ (.slice qa kl.length qc)) (.slice qa kl.length qc) kl) := Lib.hid (HK5.out.keep (Keep.setCell w5 w2.heap.size 2 _) (fun b hb e => by have := HF5.out b hb; have e' : b = w2.heap.size := e; omega))
    try clear o2 p2
    clear s0 s1 s2
    generalize w5.setCell ⟨w2.heap.size, 2, none⟩ (.slice qa kl.length qc) = W6 at *
    obtain ⟨ob, hob⟩ : ∃ ob, w2.heap.size = ob := ⟨_, rfl⟩
    rw [hob] at HO6 ⊢
    clear hob HO0 HO3 HO5
    have HVL6 : Hid (∀ W, Below W6.heap.size W6 W → SliceI W (.slice oa l.length oc) l) := Lib.hid (fun W hb => HL6.out.slice.below hb)
    have HKVL6 : Hid (∀ W, Below W6.heap.size W6 W → SliceI W (.slice qa kl.length qc) kl) := Lib.hid (fun W hb => HK6.out.slice.below hb)
    have HBX : Hid (∀ W, Below W6.heap.size W6 W → (W.cell? ⟨ob, 0, none⟩ = some (.slice oa l.length oc) ∧ W.cell? ⟨ob, 1, none⟩ = some (.int .i64 z) ∧ W.cell? ⟨ob, 2, none⟩ = some (.slice qa kl.length qc) ∧ W.cell? ⟨kb, 0, none⟩ = some (.int .i64 k) ∧ W.cell? ⟨kb, 1, none⟩ = some (.int .i64 r))) := Lib.hid (fun W hb => by have k := Keep.of_grew hb Non; have g1 := HO6.out.keep k (fun h => h); have g2 := HSX.out W (grew HB6.out hb); exact ⟨g1.cell 0 (by simp), g1.cell 1 (by simp), g1.cell 2 (by simp), g2.2.2.2.1, g2.2.2.2.2⟩)
    have q0 := HBX.out W6 (Below.refl _ _)
    have q0z := HBX.out (W6.alloc (.cells #[.slice none 0 0, .int .i64 0, .slice none 0 0] 29)) (grew_alloc _ _)
    have P0a : Hid (Below W6.heap.size W6 W6.drew) := Lib.hid (grew_drew _)
    have P0c : Hid (Below W6.heap.size W6 (W6.alloc (.cells #[.slice none 0 0, .int .i64 0, .slice none 0 0] 29)).drew) := Lib.hid (grew (grew_alloc _ _) (grew_drew _))
    have HZC : Hid (Holds (W6.alloc (.cells #[.slice none 0 0, .int .i64 0, .slice none 0 0] 29)).drew W6.heap.size [.slice none 0 0, .int .i64 0, .slice none 0 0] 29) := Lib.hid ((Holds.new W6 [.slice none 0 0, .int .i64 0, .slice none 0 0] 29).keep (Keep.of_grew (grew_drew _) Non) (fun h => h))
    go_cut [6, 7] from 29 to 35 (fun s6 s7 wx => ∃ ab La Lc Ka Kc Aa Ac, s6 = .pointer (some ⟨ab, 0, none⟩) ∧ s7 = .slice Aa (Ed.turned l z kl k r).acts.length Ac ∧ Holds wx ab [.slice La (Ed.behind l z kl k r).length Lc, .int .i64 ((Ed.turned l z kl k r).at' : Nat), .slice Ka (Ed.turned l z kl k r).kill.length Kc] 29 ∧ (∃ B, DoS wx B (Ed.behind l z kl k r) (Ed.turned l z kl k r).kill (Ed.turned l z kl k r).acts La Ka Aa Lc Kc Ac) ∧ W6.heap.size ≤ ab ∧ Below W6.heap.size W6 wx)
    case first =>
      go_region_held3 (fun W => W.cell? ⟨ob, 0, none⟩ = some (.slice oa l.length oc) ∧ W.cell? ⟨ob, 1, none⟩ = some (.int .i64 z) ∧ W.cell? ⟨ob, 2, none⟩ = some (.slice qa kl.length qc) ∧ W.cell? ⟨kb, 0, none⟩ = some (.int .i64 k) ∧ W.cell? ⟨kb, 1, none⟩ = some (.int .i64 r))
        (first | exact q0 | exact q0z | exact q1 | exact q1z | exact q2 | exact q2z | exact q2f | exact q2s)
        (first
          | (go_at_call 8; refine (HKEY.out _).mono ?_; rintro e x1 ⟨rfl, hb⟩
             first
               | (have P1 := Lib.hid (grew P0a.out hb))
               | (have P1 := Lib.hid (grew P0c.out hb); have HZ1 := Lib.hid (HZC.out.keep (Keep.of_grew hb Non) (fun h => h)))
             have q1 := HBX.out _ P1.out
             have q1z := HBX.out (x1.alloc (.cells #[.slice none 0 0, .int .i64 0, .slice none 0 0] 29)) (grew P1.out (grew_alloc _ _))
             have P1z : Hid (Below W6.heap.size W6 (x1.alloc (.cells #[.slice none 0 0, .int .i64 0, .slice none 0 0] 29))) := Lib.hid (grew P1.out (grew_alloc _ _))
             have HZB := Lib.hid (Holds.new x1 [.slice none 0 0, .int .i64 0, .slice none 0 0] 29)
             clear hb)
          | (go_at_call 7; refine (do_any (k := k) (r := r) (z := z) (HVL6.out _ (by first | exact P1.out | exact P1z.out)) (HKVL6.out _ (by first | exact P1.out | exact P1z.out)) (by have := HQ.out; omega) (by have := HQ.out; omega) HKR.out.1 HKR.out.2).mono ?_; rintro e x2 ⟨La, Lc, Ka, Kc, Aa, Ac, rfl, hd2, hb⟩
             have HD2 := Lib.hid hd2
             first
               | (have P2 := Lib.hid (grew P1.out hb); have hst := box_set HZ1.out (Nat.le_refl _) P1.out hb (at' := ((Ed.turned l z kl k r).at' : Nat)) HD2.out (by have := P1.out.size; have := HZ1.out.lt; omega))
               | (have P2 := Lib.hid (grew P1.out hb))
               | (have P2 := Lib.hid (grew P1z.out hb); have hst := box_set HZB.out P1.out.size P1z.out hb (at' := ((Ed.turned l z kl k r).at' : Nat)) HD2.out (by have := HZB.out.lt; omega))
             have q2 := HBX.out _ P2.out
             have q2z := HBX.out (x2.alloc (.cells #[.slice none 0 0, .int .i64 0, .slice none 0 0] 29)) (grew P2.out (grew_alloc _ _))
             have q2f := HBX.out (x2.alloc (.cells #[.slice La (Ed.behind l z kl k r).length Lc, .int .i64 ((Ed.turned l z kl k r).at' : Nat), .slice Ka (Ed.turned l z kl k r).kill.length Kc] 29)) (grew P2.out (grew_alloc _ _))
             try (obtain ⟨st1, st2, st3, st4, t0, t1, t2, t3, t4, t5⟩ := hst; have q2s := HBX.out _ st4; have HST := Lib.hid (And.intro st1 (And.intro st2 st4)); clear st1 st2 st3 st4)
             clear hb hd2))
      all_goals
        go_wp2
        go_meet
        first
        | exact ⟨_, La, Lc, Ka, Kc, Aa, Ac, rfl, rfl, Holds.new x2 [.slice La (Ed.behind l z kl k r).length Lc, .int .i64 ((Ed.turned l z kl k r).at' : Nat), .slice Ka (Ed.turned l z kl k r).kill.length Kc] 29, ⟨_, HD2.out.below (grew_alloc _ _)⟩, P2.out.size, grew P2.out (grew_alloc _ _)⟩
        | exact ⟨_, La, Lc, Ka, Kc, Aa, Ac, rfl, rfl, HST.out.1, ⟨_, HST.out.2.1⟩, Nat.le_refl _, HST.out.2.2⟩
        | exact ⟨_, La, Lc, Ka, Kc, Aa, Ac, rfl, rfl, HST.out.1, ⟨_, HST.out.2.1⟩, P1.out.size, HST.out.2.2⟩
    case rest =>
      obtain ⟨ab, La, Lc, Ka, Kc, Aa, Ac, rfl, rfl, hA, ⟨B, hD⟩, hab, hb3⟩ := hcut
      have HS3 := Lib.hid (HO6.out.keep (Keep.of_grew hb3 Non) (fun h => h))
      have HA := Lib.hid hA
      have HD := Lib.hid hD
      have HB7 := Lib.hid (grew HB6.out hb3)
      have HL7 := Lib.hid (HL6.out.below hb3)
      have HK7 := Lib.hid (HK6.out.below hb3)
      clear hA hD hab hb3 HKB q0 q0z HBX P0a P0c HZC
      generalize wc = W3 at *
      have hrel := deed_rel l kl z k r
      have hbe := Ed.behind_some l z kl k r
      have hsm := Ed.turned_small l z kl k r
      have hdo := hrel.done
      rw [Ed.turned_line, hbe.1] at hdo
      have hdl : ((fresh l kl (Ed.caret l z)).deed k r).line = Ed.behind l z kl k r := (Option.some.inj hdo).symm
      have hle := Wk.deed_le (fresh l kl (Ed.caret l z)) k r
      rw [hdl, hrel.kill] at hle
      have HREF := Lib.hid (ref18_Do (.slice va l.length vc) (.slice ka kl.length kc) l kl z k r W3 (HVL.out _ HB7.out) (HKVL.out _ HB7.out) (by have := HQ.out; omega) (by have := HQ.out; omega))
      change Hid (Calls Try.prog _ _ W3 fun e w' => ∃ LV KV AV, e = .returned (.tuple #[.agg #[LV, .int .i64 (((fresh l kl (Ed.caret l z)).deed k r).at' : Nat), KV], AV]) ∧ SliceI w' LV ((fresh l kl (Ed.caret l z)).deed k r).line ∧ SliceI w' KV ((fresh l kl (Ed.caret l z)).deed k r).kill ∧ SliceG 3 EAct.cells w' AV ((fresh l kl (Ed.caret l z)).deed k r).acts ∧ Below W3.heap.size W3 w') at HREF
      rw [hdl, hrel.kill, hrel.acts, hrel.at'] at HREF
      have HSZ : Hid ((Ed.behind l z kl k r).length ≤ 10000 ∧ (Ed.turned l z kl k r).kill.length ≤ 10000 ∧ (Ed.turned l z kl k r).acts.length ≤ 10000) := Lib.hid (by
        have := HQ.out
        have e1 : (fresh l kl (Ed.caret l z)).line.length = l.length := rfl
        have e2 : (fresh l kl (Ed.caret l z)).kill.length = kl.length := rfl
        omega)
      clear hrel hbe hsm hdo hdl hle
      generalize Ed.behind l z kl k r = M at *
      generalize (Ed.turned l z kl k r).at' = AT at *
      generalize (Ed.turned l z kl k r).kill = K2 at *
      generalize (Ed.turned l z kl k r).acts = ACTS at *
      obtain ⟨s0, s1, s2, s3, s4⟩ := HSX.out W3 HB7.out
      go_wp2_with fail
      refine HREF.out.mono ?_
      rintro e W4 ⟨LV, KV, AV, rfl, t1, t2, t3, hb4⟩
      obtain ⟨xa, xc, rfl⟩ := t1.shape
      obtain ⟨ya, yc, rfl⟩ := t2.shape
      obtain ⟨za, zc, rfl⟩ := t3.shape
      have HB4 := Lib.hid hb4
      have HT := Lib.hid (And.intro t1 (And.intro t2 t3))
      have HX5 := Lib.hid (Holds.new W4 [.slice xa M.length xc, .int .i64 (AT : Nat), .slice ya K2.length yc] 24)
      have HG5 := Lib.hid (grew_alloc W4 (.cells #[.slice xa M.length xc, .int .i64 (AT : Nat), .slice ya K2.length yc] 24))
      clear t1 t2 t3 hb4 s0 s1 s2 s3 s4 HREF
      have HA5 := Lib.hid ((HA.out.keep (Keep.of_grew HB4.out Non) (fun h => h)).keep (Keep.of_grew HG5.out Non) (fun h => h))
      have a0 := HA5.out.cell 0 (by simp)
      have a1 := HA5.out.cell 1 (by simp)
      have a2 := HA5.out.cell 2 (by simp)
      have b0 := HX5.out.cell 0 (by simp)
      have b1 := HX5.out.cell 1 (by simp)
      have b2 := HX5.out.cell 2 (by simp)
      simp only [List.getElem_cons_zero, List.getElem_cons_succ] at a0 a1 a2 b0 b1 b2
      have HB5 := Lib.hid (grew HB4.out HG5.out)
      have HD5 := Lib.hid (HD.out.below HB5.out)
      go_wp2_with fail
      refine (law18_same _ _ _ _ M K2 (AT : Nat) _ HD5.out.line HD5.out.kill (HT.out.1.below HG5.out) (HT.out.2.1.below HG5.out) (by have := HSZ.out; omega) (by have := HSZ.out; omega)).mono ?_
      rintro e W6b ⟨rfl, h6⟩
      have HB6b := Lib.hid (grew HB5.out h6)
      have HD6 := Lib.hid (HD5.out.below h6)
      have HT6 := Lib.hid ((HT.out.2.2.below HG5.out).below h6)
      clear h6 a0 a1 a2 b0 b1 b2
      go_wp2_with fail
      refine (law18_Told _ ACTS _ HD6.out.done (by have := HSZ.out; omega)).mono ?_
      rintro e W8 ⟨TV, rfl, ho8, _, h8⟩
      have HO8 := Lib.hid ho8
      have HB8 := Lib.hid (grew HB6b.out h8)
      have HT8 := Lib.hid (HT6.out.below h8)
      clear ho8 h8
      go_wp2_with fail
      refine (ref18_Same _ _ ACTS _ HO8.out.slice HT8.out (by have := HSZ.out; omega)).mono ?_
      rintro e W9 ⟨rfl, h9⟩
      have HB9 := Lib.hid (grew HB8.out h9)
      clear h9
      obtain ⟨s0, s1, s2, s3, s4⟩ := HSX.out W9 (grew HB7.out HB9.out)
      have HS9 := Lib.hid (HS3.out.keep (Keep.of_grew HB9.out Non) (fun h => h))
      have o0 := HS9.out.cell 0 (by simp)
      have o1 := HS9.out.cell 1 (by simp)
      have o2 := HS9.out.cell 2 (by simp)
      simp only [List.set_cons_zero, List.set_cons_succ, List.getElem_cons_zero, List.getElem_cons_succ] at o0 o1 o2
      go_wp2_with fail
      refine (law18_same _ _ _ _ l kl z _ (HL7.out.below HB9.out).slice (HK7.out.below HB9.out).slice (HVL.out _ (grew HB7.out HB9.out)) (HKVL.out _ (grew HB7.out HB9.out)) (by have := HQ.out; omega) (by have := HQ.out; omega)).mono ?_
      rintro e W10 ⟨rfl, h10⟩
      have HB10 := Lib.hid (grew HB2.out (grew HB7.out (grew HB9.out h10)))
      clear h10
      go_wp2_with fail
      refine (HLV.out _).mono ?_
      rintro e W11 ⟨rfl, h11⟩
      have HB11 := Lib.hid (grew HB10.out h11)
      clear h11
      go_wp2
      go_ret
      exact ⟨rfl, HB11.out⟩
  · have e1 : (decide (l.length ≤ 1100) && decide (kl.length ≤ 1100)) = false := by
      rcases Nat.lt_or_ge 1100 l.length with h | h
      · rw [decide_eq_false (show ¬ l.length ≤ 1100 by omega), Bool.false_and]
      · rw [decide_eq_false (show ¬ kl.length ≤ 1100 by omega), Bool.and_false]
    rw [e1] at HFEW
    clear e1 hq
    go_enter Try.func3, Try.ntmps3
    go_wp2_with fail
    refine (HFEW.out _).mono ?_
    rintro e w2 ⟨rfl, hb2⟩
    have HB2 := Lib.hid (grew HB1.out hb2)
    clear hb2 s0 s1 s2
    go_wp2_with fail
    refine (HLV.out _).mono ?_
    rintro e w3 ⟨rfl, hb3⟩
    have HB3 := Lib.hid (grew HB2.out hb3)
    clear hb3
    go_wp2
    go_ret
    exact ⟨rfl, HB3.out⟩
end Go.Proofs.Ytakjoodlediemaa
