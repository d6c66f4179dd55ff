/- Runes that are typed stand there in their order; rubbed out again the line is as it was. -/
import Derived.Test.YtckpidhcccnifaaEdTypedS
import Derived.Deep.RegionHeld3
import Derived.Deep.RegionWith
import Derived.IntWalk
namespace Go.Proofs.Ytckpidhcccnifaa
open Go.RowKit
set_option linter.unusedVariables false

set_option maxRecDepth 100000 in
set_option maxHeartbeats 4000000 in
theorem walk_EditTyped (lv kv : Value) (l kl : List Int) (z : Int) (a1 : Option Addr) (n1 c1 : Nat) (z1 : List Int) (w : World) (hs : SliceI w lv l ∧ SliceI w kv kl ∧ l.length ≤ maxLen ∧ kl.length ≤ maxLen ∧ I64 z ∧ (∀ x ∈ l, I64 x) ∧ ∀ x ∈ kl, I64 x) (hrow : IsRow .i64 w a1 n1 c1 z1) :
    Calls Try.prog 8 #[.agg #[lv, .int .i64 z, kv], .slice a1 n1 c1] w fun e w' => e = .returned (.bool true) ∧ Below w.heap.size w w' := by
  obtain ⟨hv, hkv, hm1, hm2, hz, _, _⟩ := hs
  obtain ⟨va, vc, rfl⟩ := hv.shape
  obtain ⟨ka, kc, rfl⟩ := hkv.shape
  obtain ⟨T, hT, hTl, hTm, hTb⟩ := IsRow.slice hrow
  subst hTl
  have HV := Lib.hid hv
  have HKV := Lib.hid hkv
  have HTV := Lib.hid hT
  clear hv hkv hrow hT z1
  have HLV := Lib.hid (fun W => law18_live W)
  have HSB := Lib.hid (Holds.new w [.slice va l.length vc, .int .i64 z, .slice ka kl.length kc] 24)
  have HB1 := Lib.hid (grew_alloc w (.cells #[.slice va l.length vc, .int .i64 z, .slice ka kl.length kc] 24))
  rw [show ([.slice va l.length vc, .int .i64 z, .slice ka kl.length kc] : List Value).toArray = #[.slice va l.length vc, .int .i64 z, .slice ka kl.length kc] from rfl] at HSB
  have s0 := HSB.out.cell 0 (by simp)
  have s1 := HSB.out.cell 1 (by simp)
  have s2 := HSB.out.cell 2 (by simp)
  simp only [List.getElem_cons_zero, List.getElem_cons_succ] at s0 s1 s2
  by_cases n1 : 500 < l.length
  · have e1 : decide ((500 : Int) < (l.length : Int)) = true := decide_eq_true (by omega)
    go_enter Try.func8, Try.ntmps8
    go_wp2_with fail
    refine (HLV.out _).mono ?_
    rintro e w3 ⟨rfl, hb3⟩
    go_wp2
    go_ret
    exact ⟨rfl, grew HB1.out hb3⟩
  · have e1 : decide ((500 : Int) < (l.length : Int)) = false := decide_eq_false (by omega)
    by_cases n2 : 500 < kl.length
    · have e2 : decide ((500 : Int) < (kl.length : Int)) = true := decide_eq_true (by omega)
      go_enter Try.func8, Try.ntmps8
      go_wp2_with fail
      refine (HLV.out _).mono ?_
      rintro e w3 ⟨rfl, hb3⟩
      go_wp2
      go_ret
      exact ⟨rfl, grew HB1.out hb3⟩
    · have e2 : decide ((500 : Int) < (kl.length : Int)) = false := decide_eq_false (by omega)
      by_cases n3 : 100 < T.length
      · have e3 : decide ((100 : Int) < (T.length : Int)) = true := decide_eq_true (by omega)
        go_enter Try.func8, Try.ntmps8
        go_wp2_with fail
        refine (HLV.out _).mono ?_
        rintro e w3 ⟨rfl, hb3⟩
        go_wp2
        go_ret
        exact ⟨rfl, grew HB1.out hb3⟩
      · have e3 : decide ((100 : Int) < (T.length : Int)) = false := decide_eq_false (by omega)
        by_cases n4 : z < 0
        · have e4 : decide (z < 0) = true := decide_eq_true n4
          go_enter Try.func8, Try.ntmps8
          go_wp2_with fail
          refine (HLV.out _).mono ?_
          rintro e w3 ⟨rfl, hb3⟩
          go_wp2
          go_ret
          exact ⟨rfl, grew HB1.out hb3⟩
        · have e4 : decide (z < 0) = false := decide_eq_false n4
          by_cases n5 : (l.length : Int) < z
          · have e5 : decide ((l.length : Int) < z) = true := decide_eq_true n5
            go_enter Try.func8, Try.ntmps8
            go_wp2_with fail
            refine (HLV.out _).mono ?_
            rintro e w3 ⟨rfl, hb3⟩
            go_wp2
            go_ret
            exact ⟨rfl, grew HB1.out hb3⟩
          · obtain ⟨n, rfl⟩ : ∃ n : Nat, z = n := ⟨z.toNat, by omega⟩
            have e4 : decide ((n : Int) < 0) = false := e4
            have e5 : decide ((l.length : Int) < (n : Int)) = false := decide_eq_false n5
            have e5n : decide (l.length < n) = false := decide_eq_false (by omega)
            have hnl : n ≤ l.length := by omega
            have hcap : l.length ≤ vc := by
              obtain ⟨_, _, e, hc, _⟩ := HV.out
              injection e with _ _ e
              omega
            have hnv : n ≤ vc := by omega
            have HQ := Lib.hid (show l.length ≤ 500 ∧ kl.length ≤ 500 ∧ T.length ≤ 100 ∧ n ≤ l.length ∧ l.length ≤ vc from ⟨by omega, by omega, by omega, hnl, hcap⟩)
            clear n1 n2 n3 n4 n5 hz hm1 hm2 hTm
            go_enter Try.func8, Try.ntmps8
            obtain ⟨A, hA⟩ : ∃ A, l.take n = A := ⟨_, rfl⟩
            obtain ⟨B, hB⟩ : ∃ B, l.drop n = B := ⟨_, rfl⟩
            have HAB : Hid (l = A ++ B ∧ A.length = n) := Lib.hid ⟨by rw [← hA, ← hB, List.take_append_drop], by rw [← hA, List.length_take]; omega⟩
            have HVF := Lib.hid (slice_front HV.out hnl)
            rw [hA] at HVF
            have HVB1 := Lib.hid (HV.out.below HB1.out)
            have HKVB1 := Lib.hid (HKV.out.below HB1.out)
            have HBB := Lib.hid (grew HB1.out (grew_alloc (w.alloc (.cells #[.slice va l.length vc, .int .i64 n, .slice ka kl.length kc] 24)) (.cells #[.slice va l.length vc, .int .i64 n, .slice ka kl.length kc] 29)))
            go_wp2_with (at_builtin; refine wp_append_row rfl (.tmp 45) (.tmp 50) rfl _ [] rfl (OwnI.nil _) (.slice va n vc) A rfl (HVF.out.below HBB.out) (by have := HAB.out.2; have := HQ.out; simp only [List.length_nil]; omega) ?_; intro v5 w5 ho5 hk5 hn5; have HTY := Lib.hid (Typ.start HVB1.out HKVB1.out ho5 hk5 hn5); clear ho5 hk5 hn5 s0 s1 s2)
            have hsz : (w.alloc (.cells #[.slice va l.length vc, .int .i64 n, .slice ka kl.length kc] 24)).heap.size = w.heap.size + 1 := by simp
            rw [hsz] at HTY
            have HWS : Hid (w.heap.size < (w.alloc (.cells #[.slice va l.length vc, .int .i64 n, .slice ka kl.length kc] 24)).heap.size) := Lib.hid (by rw [hsz]; omega)
            clear hsz HBB HVB1 HKVB1
            rw [List.nil_append] at HTY
            generalize w.alloc (.cells #[.slice va l.length vc, .int .i64 n, .slice ka kl.length kc] 24) = w0 at *
            obtain ⟨sb, hsb⟩ : ∃ sb, w.heap.size = sb := ⟨_, rfl⟩
            rw [hsb] at HSB HTY HWS ⊢
            obtain ⟨ab, hab⟩ : ∃ ab, sb + 1 = ab := ⟨_, rfl⟩
            rw [hab] at HTY ⊢
            have HWB : Hid (w.heap.size = sb) := Lib.hid hsb
            clear hsb hab hA hB
            have HZ : Hid (Typ w0 w5 ab v5 (A ++ T.take 0) (A ++ T.take 0 ++ B) kl ((A ++ T.take 0).length : Nat) va ka vc kc) := Lib.hid (by
              rw [List.take_zero, List.append_nil, ← HAB.out.1, HAB.out.2]
              exact HTY.out)
            clear HTY
            go_loopw [6, 7] (fun wv i wr => ∃ (k : Nat) (La Ka : Option Addr) (Lc Kc : Nat), k ≤ T.length ∧ i = .int .i64 k ∧ Typ w0 wr ab wv (A ++ T.take k) (A ++ T.take k ++ B) kl ((A ++ T.take k).length : Nat) La Ka Lc Kc) (fun _ i _ => T.length - (intOf i).toNat)
            case atStart => exact ⟨0, va, ka, vc, kc, by omega, rfl, HZ.out⟩
            case round =>
              obtain ⟨k, La, Ka, Lc, Kc, hk, rfl, hTY⟩ := hrel
              have HLN : Hid ((A ++ T.take k).length = n + k) := Lib.hid (by rw [List.length_append, List.length_take, HAB.out.2]; omega)
              obtain ⟨A1, hA1⟩ : ∃ A1, A ++ T.take k = A1 := ⟨_, rfl⟩
              obtain ⟨L1, hL1⟩ : ∃ L1, A1 ++ B = L1 := ⟨_, rfl⟩
              rw [hA1, hL1] at hTY
              rw [hA1] at HLN
              have HA1 := Lib.hid (And.intro hA1 hL1)
              have HL1 : Hid (L1.length ≤ 700) := Lib.hid (by rw [← hL1, List.length_append, HLN.out]; have e9 := congrArg List.length HAB.out.1; rw [List.length_append] at e9; have := HQ.out; have := HAB.out.2; omega)
              clear hA1 hL1
              have HTY := Lib.hid hTY
              obtain ⟨oa, oc, rfl⟩ := hTY.own.slice.shape
              clear hTY HZ
              by_cases hlt : k < T.length
              · have d1 : decide ((k : Int) < (T.length : Int)) = true := decide_eq_true (by omega)
                have d1n : decide (k < T.length) = true := decide_eq_true hlt
                have hia : (k : Int) < (T.length : Int) := by omega
                obtain ⟨b, off, e6, hb, hc⟩ := slice_cell HTV.out hlt
                subst e6
                have HTK : Hid (T.take (k + 1) = T.take k ++ [T[k]]) := Lib.hid (List.take_succ_eq_append_getElem hlt)
                have HC : Hid (∀ W, Below w0.heap.size w0 W → W.cell? ⟨b, off + k, none⟩ = some (.int .i64 T[k])) := Lib.hid (fun W h => by
                  have h2 : Below w.heap.size w W := grew HB1.out h
                  rw [h2.cell hb]
                  exact hc)
                clear hc
                obtain ⟨r, hr⟩ : ∃ r, T[k] = r := ⟨_, rfl⟩
                rw [hr] at HC HTK
                clear hr
                have hc := HC.out _ HTY.out.bel
                by_cases r1 : r < 32
                · have d2 : decide (r < 32) = true := decide_eq_true r1
                  go_wp2_with fail
                  refine (HLV.out _).mono ?_
                  rintro e w3 ⟨rfl, hb3⟩
                  go_wp2
                  go_ret
                  exact ⟨rfl, grew HB1.out (grew HTY.out.bel hb3)⟩
                · have d2 : decide (r < 32) = false := decide_eq_false r1
                  by_cases r2 : 126 < r
                  · have d3 : decide (126 < r) = true := decide_eq_true r2
                    go_wp2_with fail
                    refine (HLV.out _).mono ?_
                    rintro e w3 ⟨rfl, hb3⟩
                    go_wp2
                    go_ret
                    exact ⟨rfl, grew HB1.out (grew HTY.out.bel hb3)⟩
                  · have d3 : decide (126 < r) = false := decide_eq_false r2
                    have HR : Hid (I64 r) := Lib.hid ⟨by omega, by omega⟩
                    have HLT := Lib.hid hlt
                    obtain ⟨M1, hM1⟩ : ∃ M1, A1 ++ [r] ++ B = M1 := ⟨_, rfl⟩
                    obtain ⟨p1, hp1⟩ : ∃ p1, A1.length + 1 = p1 := ⟨_, rfl⟩
                    have ht1 := Ed.typed_one (A := A1) (B := B) (kl := kl) (r := r) (by unfold Mesg.rune; simp; omega) (by have h9 := HL1.out; rw [← HA1.out.2, List.length_append] at h9; omega)
                    rw [HA1.out.2, hM1, hp1] at ht1
                    have HT1 := Lib.hid ht1
                    have HMP := Lib.hid (And.intro hM1 hp1)
                    clear r1 r2 hlt ht1 hM1 hp1
                    go_wp2_with fail
                    have a0 := HTY.out.box.cell 0 (by simp)
                    have a1 := HTY.out.box.cell 1 (by simp)
                    have a2 := HTY.out.box.cell 2 (by simp)
                    simp only [List.getElem_cons_zero, List.getElem_cons_succ] at a0 a1 a2
                    have P0a : Hid (Below wr.heap.size wr wr.drew) := Lib.hid (grew_drew _)
                    have HLA := Lib.hid (HTY.out.line.below P0a.out)
                    have HKA := Lib.hid (HTY.out.kill.below P0a.out)
                    generalize (A1.length : Int) = pz at *
                    go_region_with (go_at_call 12; refine (do_any (k := 1) (r := r) (z := pz) HLA.out HKA.out (by have := HL1.out; omega) (by have := HQ.out; omega) ⟨by decide, by decide⟩ HR.out).mono ?_; rintro e x2 ⟨Lb, Lcb, Kb, Kcb, Ab, Acb, rfl, hd2, hb⟩; have hd3 : DoS x2 wr.heap.size _ _ _ Lb Kb Ab Lcb Kcb Acb := hd2; rw [HT1.out.1, HT1.out.2.2] at hd3; rw [HT1.out.1, HT1.out.2.2, HT1.out.2.1]; have P2 := Lib.hid (grew P0a.out hb); have hst := box_set (at' := (p1 : Int)) HTY.out.box HTY.out.lab HTY.out.bel P2.out hd3 HTY.out.box.lt; have HPUT := Lib.hid (HTY.out.put (z' := (p1 : Int)) P2.out hd3); have q2 := HC.out _ (grew HTY.out.bel P2.out); obtain ⟨st1, st2, st3, st4, t0, t1, t2, t3, t4, t5⟩ := hst; have q2s := HC.out _ st4; clear st1 st2 st3 st4 hb hd2 hd3)
                    all_goals
                      clear t0 t1 t2 t3 t4 t5 a0 a1 a2 hc
                      generalize (((x2.setCell ⟨ab, 0, none⟩ (.slice Lb M1.length Lcb)).setCell ⟨ab, 1, none⟩ (.int .i64 (p1 : Int))).setCell ⟨ab, 2, none⟩ (.slice Kb kl.length Kcb)) = W2 at *
                      have hk1000 : k ≤ 1000 := by have := HQ.out; have := HLT.out; omega
                      have HLQ : Hid (A1.length ≤ 700) := Lib.hid (by have h9 := HL1.out; rw [← HA1.out.2, List.length_append] at h9; omega)
                      go_wp2_with (at_builtin; refine wp_append_num rfl (.tmp 81) (.tmp 86) rfl _ A1 r rfl rfl HPUT.out.own (by have := HLQ.out; omega) ?_; intro v6 w6 ho hk hn; have HTN := Lib.hid (HPUT.out.app ho hk hn); clear ho hk hn)
                      go_roundw
                      case rel => exact ⟨k + 1, Lb, Kb, Lcb, Kcb, by have := HLT.out; omega, by go_num, by
                        rw [HTK.out, ← List.append_assoc, HA1.out.1, HMP.out.1, List.length_append, List.length_singleton, HMP.out.2]
                        exact HTN.out⟩
                      case measure => simp [intOf]; have := HLT.out; omega
              · have d1 : decide ((k : Int) < (T.length : Int)) = false := decide_eq_false (by omega)
                have d1n : decide (k < T.length) = false := decide_eq_false hlt
                have hkT : T.take k = T := List.take_of_length_le (by omega)
                have HSR := Lib.hid (HSB.out.keep (Keep.of_grew (HTY.out.bel) Non) (fun h => h))
                have HK : Hid (A ++ T = A1 ∧ A1.length = n + T.length) := Lib.hid ⟨by rw [← HA1.out.1, hkT], by rw [HLN.out]; omega⟩
                have HLQ : Hid (A1.length ≤ 700 ∧ A1.length + B.length ≤ 700) := Lib.hid (by have h9 := HL1.out; rw [← HA1.out.2, List.length_append] at h9; omega)
                clear hkT hlt
                have s0 := HSR.out.cell 0 (by simp)
                have s1 := HSR.out.cell 1 (by simp)
                simp only [List.getElem_cons_zero, List.getElem_cons_succ] at s0 s1
                have HDB : Hid (l.drop n = B) := Lib.hid (by rw [HAB.out.1, ← HAB.out.2]; simp)
                have HVR : Hid (SliceI wr (.slice va l.length vc) l) := Lib.hid ((HV.out.below HB1.out).below HTY.out.bel)
                have HR1 := Lib.hid (slice_rest HVR.out HQ.out.2.2.2.1)
                rw [HDB.out] at HR1
                have HR2 : Hid (vc = n → ∀ va c, SliceI wr (.slice va (l.length - n) c) B) := Lib.hid (fun h va c => by rw [← HDB.out]; exact slice_none (by have := HQ.out; omega))
                have e7 : wrap64 ((n : Int) + (T.length : Int)) = (A1.length : Int) := by
                  rw [HK.out.2]
                  have := HQ.out
                  rw [IntWalk.wrap64_in _ ⟨by omega, by omega⟩]
                  omega
                obtain ⟨pz, hpz⟩ : ∃ pz : Int, (A1.length : Int) = pz := ⟨_, rfl⟩
                have HPZ := Lib.hid hpz
                rw [hpz] at e7 HTY
                clear hpz
                by_cases hvz : vc = n
                · have HR3 := Lib.hid (HR2.out hvz)
                  have HB0 : Hid (B = []) := Lib.hid (by
                    rw [← HDB.out]
                    exact List.drop_eq_nil_of_le (by have := HQ.out; omega))
                  clear HR2 HR1 HVR
                  subst hvz
                  cases va with
                  | none =>
                    go_wp2_with (at_builtin; refine wp_append_row rfl (.tmp 88) (.tmp 93) rfl _ A1 rfl HTY.out.own _ B rfl (by first | exact HR3.out _ _ | exact slice_empty HB0.out (by first | rfl | (have := HQ.out; omega)) | (trace "USTATE"; trace_state; fail)) (by have := HLQ.out; omega) ?_; intro v6 w6 ho hk hn; have HTE := Lib.hid (HTY.out.app ho hk hn); clear ho hk hn s0 s1; have HSE := Lib.hid (HSB.out.keep (Keep.of_grew (HTE.out.bel) Non) (fun h => h)); have a0 := HTE.out.box.cell 0 (by simp); simp only [List.getElem_cons_zero] at a0)
                    rw [HA1.out.2] at HTE
                    refine (ref01_Same _ _ L1 L1 _ HTE.out.line HTE.out.own.slice (by have := HL1.out; omega) (by have := HL1.out; omega)).mono ?_
                    rintro e W7 ⟨rfl, hb7⟩
                    rw [show decide (L1 = L1) = true from by simp]
                    have HT7 := Lib.hid (HTE.out.grew hb7)
                    have HS7 := Lib.hid (HSE.out.keep (Keep.of_grew hb7 Non) (fun h => h))
                    clear hb7 a0
                    have a1 := HT7.out.box.cell 1 (by simp)
                    have s1 := HS7.out.cell 1 (by simp)
                    simp only [List.getElem_cons_zero, List.getElem_cons_succ] at a1 s1
                    go_wp2_with fail
                    clear a1 s1 e7 d1 d1n
                    have HZ7 : Hid (∃ (La Ka : Option Addr) (Lc Kc : Nat), Typ w0 W7 ab v6 L1 (A ++ T.take (T.length - 0) ++ B) kl (((A ++ T.take (T.length - 0)).length : Nat) : Int) La Ka Lc Kc) := Lib.hid (by
                      rw [Nat.sub_zero, List.take_length, HK.out.1, HA1.out.2, HPZ.out]
                      exact ⟨_, _, _, _, HT7.out⟩)
                    clear HT7
                    go_loopw [8] (fun i wq => ∃ (q : Nat) (La Ka : Option Addr) (Lc Kc : Nat), q ≤ T.length ∧ i = .int .i64 q ∧ Typ w0 wq ab v6 L1 (A ++ T.take (T.length - q) ++ B) kl (((A ++ T.take (T.length - q)).length : Nat) : Int) La Ka Lc Kc) (fun i _ => T.length - (intOf i).toNat)
                    case atStart =>
                      obtain ⟨La, Ka, Lc, Kc, h⟩ := HZ7.out
                      exact ⟨0, La, Ka, Lc, Kc, by omega, rfl, h⟩
                    case round =>
                      obtain ⟨q, Lq, Kq, Lcq, Kcq, hq, rfl, hTQ⟩ := hrel
                      by_cases hqt : q < T.length
                      · have d1 : decide ((q : Int) < (T.length : Int)) = true := decide_eq_true (by omega)
                        have d1n : decide (q < T.length) = true := decide_eq_true hqt
                        obtain ⟨j, hj⟩ : ∃ j, T.length - q = j + 1 := ⟨T.length - q - 1, by omega⟩
                        have hjt : j < T.length := by omega
                        have htk : T.take (T.length - q) = T.take j ++ [T[j]] := by rw [hj]; exact List.take_succ_eq_append_getElem hjt
                        have HJ : Hid (T.length - (q + 1) = j) := Lib.hid (by omega)
                        obtain ⟨A2, hA2⟩ : ∃ A2, A ++ T.take j = A2 := ⟨_, rfl⟩
                        obtain ⟨r, hr⟩ : ∃ r, T[j] = r := ⟨_, rfl⟩
                        rw [htk, ← List.append_assoc, hr, hA2] at hTQ
                        obtain ⟨L2, hL2⟩ : ∃ L2, A2 ++ [r] ++ B = L2 := ⟨_, rfl⟩
                        obtain ⟨M2, hM2⟩ : ∃ M2, A2 ++ B = M2 := ⟨_, rfl⟩
                        obtain ⟨p2, hp2⟩ : ∃ p2 : Nat, A2.length = p2 := ⟨_, rfl⟩
                        obtain ⟨pq, hpq⟩ : ∃ pq : Int, ((A2.length + 1 : Nat) : Int) = pq := ⟨_, rfl⟩
                        have hlA : (A2 ++ [r]).length = A2.length + 1 := by simp
                        rw [hlA, hL2, hpq] at hTQ
                        have hru := Ed.rubbed_one (A := A2) (B := B) (kl := kl) (r := r)
                        rw [hL2, hM2, hp2] at hru
                        rw [← hp2, hpq, hp2] at hru
                        have HRU := Lib.hid hru
                        have HL2 : Hid (L2.length ≤ 800) := Lib.hid (by
                          rw [← hL2, ← hA2, List.length_append, List.length_append, List.length_append, List.length_take, List.length_singleton]
                          have e9 := congrArg List.length HAB.out.1
                          rw [List.length_append] at e9
                          have := HQ.out
                          omega)
                        have HM2 := Lib.hid (And.intro hA2 (And.intro hM2 hp2))
                        have HTQ := Lib.hid hTQ
                        have HQT := Lib.hid hqt
                        have hq1000 : q ≤ 1000 := by have := HQ.out; omega
                        clear hTQ hru hA2 hM2 hp2 hL2 hpq hlA htk hr hj hjt hqt hq HZ7
                        have a0 := HTQ.out.box.cell 0 (by simp)
                        have a1 := HTQ.out.box.cell 1 (by simp)
                        have a2 := HTQ.out.box.cell 2 (by simp)
                        simp only [List.getElem_cons_zero, List.getElem_cons_succ] at a0 a1 a2
                        go_wp2_with fail
                        refine (do_any (k := 2) (r := 104) (z := pq) HTQ.out.line HTQ.out.kill (by have := HL2.out; omega) (by have := HQ.out; omega) ⟨by decide, by decide⟩ ⟨by decide, by decide⟩).mono ?_
                        rintro e x2 ⟨Lb, Lcb, Kb, Kcb, Ab, Acb, rfl, hd3, hb⟩
                        rw [HRU.out.1, HRU.out.2.2] at hd3
                        rw [HRU.out.1, HRU.out.2.2, HRU.out.2.1]
                        obtain ⟨_, _, _, _, t0, t1, t2, t3, t4, t5⟩ := box_set (at' := (p2 : Int)) HTQ.out.box HTQ.out.lab HTQ.out.bel hb hd3 HTQ.out.box.lt
                        have HPUT := Lib.hid (HTQ.out.put (z' := (p2 : Int)) hb hd3)
                        clear hb hd3 a0 a1 a2
                        go_wp2
                        go_roundw
                        case rel => exact ⟨q + 1, Lb, Kb, Lcb, Kcb, by have := HQT.out; omega, by go_num, by
                          rw [HJ.out, HM2.out.1, HM2.out.2.1, HM2.out.2.2]
                          exact HPUT.out⟩
                        case measure => simp [intOf]; have := HQT.out; omega
                      · have d1 : decide ((q : Int) < (T.length : Int)) = false := decide_eq_false (by omega)
                        have d1n : decide (q < T.length) = false := decide_eq_false hqt
                        have e0 : T.length - q = 0 := by omega
                        rw [e0, List.take_zero, List.append_nil, ← HAB.out.1, HAB.out.2] at hTQ
                        have HTQ := Lib.hid hTQ
                        clear hTQ e0 hqt hq HZ7
                        have HSQ := Lib.hid (HSB.out.keep (Keep.of_grew (HTQ.out.bel) Non) (fun h => h))
                        have a0 := HTQ.out.box.cell 0 (by simp)
                        have s0 := HSQ.out.cell 0 (by simp)
                        simp only [List.getElem_cons_zero] at a0 s0
                        go_wp2_with fail
                        refine (ref01_Same _ _ l l _ HTQ.out.line ((HV.out.below HB1.out).below HTQ.out.bel) (by have := HQ.out; omega) (by have := HQ.out; omega)).mono ?_
                        rintro e W8 ⟨rfl, hb8⟩
                        rw [show decide (l = l) = true from by simp]
                        have HT8 := Lib.hid (HTQ.out.grew hb8)
                        have HS8 := Lib.hid (HSQ.out.keep (Keep.of_grew hb8 Non) (fun h => h))
                        clear hb8 a0 s0
                        have a1 := HT8.out.box.cell 1 (by simp)
                        have a2 := HT8.out.box.cell 2 (by simp)
                        have s1 := HS8.out.cell 1 (by simp)
                        have s2 := HS8.out.cell 2 (by simp)
                        simp only [List.getElem_cons_zero, List.getElem_cons_succ] at a1 a2 s1 s2
                        go_wp2_with fail
                        refine (ref01_Same _ _ kl kl _ HT8.out.kill ((HKV.out.below HB1.out).below HT8.out.bel) (by have := HQ.out; omega) (by have := HQ.out; omega)).mono ?_
                        rintro e W9 ⟨rfl, hb9⟩
                        rw [show decide (kl = kl) = true from by simp]
                        have HT9 := Lib.hid (HT8.out.grew hb9)
                        clear hb9 a1 a2 s1 s2
                        go_wp2_with fail
                        refine (HLV.out _).mono ?_
                        rintro e w3 ⟨rfl, hb3⟩
                        go_wp2
                        go_ret
                        exact ⟨rfl, grew HB1.out (grew HT9.out.bel hb3)⟩
                  | some xa =>
                    go_wp2_with (at_builtin; refine wp_append_row rfl (.tmp 88) (.tmp 93) rfl _ A1 rfl HTY.out.own _ B rfl (by first | exact HR3.out _ _ | exact slice_empty HB0.out (by first | rfl | (have := HQ.out; omega)) | (trace "USTATE"; trace_state; fail)) (by have := HLQ.out; omega) ?_; intro v6 w6 ho hk hn; have HTE := Lib.hid (HTY.out.app ho hk hn); clear ho hk hn s0 s1; have HSE := Lib.hid (HSB.out.keep (Keep.of_grew (HTE.out.bel) Non) (fun h => h)); have a0 := HTE.out.box.cell 0 (by simp); simp only [List.getElem_cons_zero] at a0)
                    rw [HA1.out.2] at HTE
                    refine (ref01_Same _ _ L1 L1 _ HTE.out.line HTE.out.own.slice (by have := HL1.out; omega) (by have := HL1.out; omega)).mono ?_
                    rintro e W7 ⟨rfl, hb7⟩
                    rw [show decide (L1 = L1) = true from by simp]
                    have HT7 := Lib.hid (HTE.out.grew hb7)
                    have HS7 := Lib.hid (HSE.out.keep (Keep.of_grew hb7 Non) (fun h => h))
                    clear hb7 a0
                    have a1 := HT7.out.box.cell 1 (by simp)
                    have s1 := HS7.out.cell 1 (by simp)
                    simp only [List.getElem_cons_zero, List.getElem_cons_succ] at a1 s1
                    go_wp2_with fail
                    clear a1 s1 e7 d1 d1n
                    have HZ7 : Hid (∃ (La Ka : Option Addr) (Lc Kc : Nat), Typ w0 W7 ab v6 L1 (A ++ T.take (T.length - 0) ++ B) kl (((A ++ T.take (T.length - 0)).length : Nat) : Int) La Ka Lc Kc) := Lib.hid (by
                      rw [Nat.sub_zero, List.take_length, HK.out.1, HA1.out.2, HPZ.out]
                      exact ⟨_, _, _, _, HT7.out⟩)
                    clear HT7
                    go_loopw [8] (fun i wq => ∃ (q : Nat) (La Ka : Option Addr) (Lc Kc : Nat), q ≤ T.length ∧ i = .int .i64 q ∧ Typ w0 wq ab v6 L1 (A ++ T.take (T.length - q) ++ B) kl (((A ++ T.take (T.length - q)).length : Nat) : Int) La Ka Lc Kc) (fun i _ => T.length - (intOf i).toNat)
                    case atStart =>
                      obtain ⟨La, Ka, Lc, Kc, h⟩ := HZ7.out
                      exact ⟨0, La, Ka, Lc, Kc, by omega, rfl, h⟩
                    case round =>
                      obtain ⟨q, Lq, Kq, Lcq, Kcq, hq, rfl, hTQ⟩ := hrel
                      by_cases hqt : q < T.length
                      · have d1 : decide ((q : Int) < (T.length : Int)) = true := decide_eq_true (by omega)
                        have d1n : decide (q < T.length) = true := decide_eq_true hqt
                        obtain ⟨j, hj⟩ : ∃ j, T.length - q = j + 1 := ⟨T.length - q - 1, by omega⟩
                        have hjt : j < T.length := by omega
                        have htk : T.take (T.length - q) = T.take j ++ [T[j]] := by rw [hj]; exact List.take_succ_eq_append_getElem hjt
                        have HJ : Hid (T.length - (q + 1) = j) := Lib.hid (by omega)
                        obtain ⟨A2, hA2⟩ : ∃ A2, A ++ T.take j = A2 := ⟨_, rfl⟩
                        obtain ⟨r, hr⟩ : ∃ r, T[j] = r := ⟨_, rfl⟩
                        rw [htk, ← List.append_assoc, hr, hA2] at hTQ
                        obtain ⟨L2, hL2⟩ : ∃ L2, A2 ++ [r] ++ B = L2 := ⟨_, rfl⟩
                        obtain ⟨M2, hM2⟩ : ∃ M2, A2 ++ B = M2 := ⟨_, rfl⟩
                        obtain ⟨p2, hp2⟩ : ∃ p2 : Nat, A2.length = p2 := ⟨_, rfl⟩
                        obtain ⟨pq, hpq⟩ : ∃ pq : Int, ((A2.length + 1 : Nat) : Int) = pq := ⟨_, rfl⟩
                        have hlA : (A2 ++ [r]).length = A2.length + 1 := by simp
                        rw [hlA, hL2, hpq] at hTQ
                        have hru := Ed.rubbed_one (A := A2) (B := B) (kl := kl) (r := r)
                        rw [hL2, hM2, hp2] at hru
                        rw [← hp2, hpq, hp2] at hru
                        have HRU := Lib.hid hru
                        have HL2 : Hid (L2.length ≤ 800) := Lib.hid (by
                          rw [← hL2, ← hA2, List.length_append, List.length_append, List.length_append, List.length_take, List.length_singleton]
                          have e9 := congrArg List.length HAB.out.1
                          rw [List.length_append] at e9
                          have := HQ.out
                          omega)
                        have HM2 := Lib.hid (And.intro hA2 (And.intro hM2 hp2))
                        have HTQ := Lib.hid hTQ
                        have HQT := Lib.hid hqt
                        have hq1000 : q ≤ 1000 := by have := HQ.out; omega
                        clear hTQ hru hA2 hM2 hp2 hL2 hpq hlA htk hr hj hjt hqt hq HZ7
                        have a0 := HTQ.out.box.cell 0 (by simp)
                        have a1 := HTQ.out.box.cell 1 (by simp)
                        have a2 := HTQ.out.box.cell 2 (by simp)
                        simp only [List.getElem_cons_zero, List.getElem_cons_succ] at a0 a1 a2
                        go_wp2_with fail
                        refine (do_any (k := 2) (r := 104) (z := pq) HTQ.out.line HTQ.out.kill (by have := HL2.out; omega) (by have := HQ.out; omega) ⟨by decide, by decide⟩ ⟨by decide, by decide⟩).mono ?_
                        rintro e x2 ⟨Lb, Lcb, Kb, Kcb, Ab, Acb, rfl, hd3, hb⟩
                        rw [HRU.out.1, HRU.out.2.2] at hd3
                        rw [HRU.out.1, HRU.out.2.2, HRU.out.2.1]
                        obtain ⟨_, _, _, _, t0, t1, t2, t3, t4, t5⟩ := box_set (at' := (p2 : Int)) HTQ.out.box HTQ.out.lab HTQ.out.bel hb hd3 HTQ.out.box.lt
                        have HPUT := Lib.hid (HTQ.out.put (z' := (p2 : Int)) hb hd3)
                        clear hb hd3 a0 a1 a2
                        go_wp2
                        go_roundw
                        case rel => exact ⟨q + 1, Lb, Kb, Lcb, Kcb, by have := HQT.out; omega, by go_num, by
                          rw [HJ.out, HM2.out.1, HM2.out.2.1, HM2.out.2.2]
                          exact HPUT.out⟩
                        case measure => simp [intOf]; have := HQT.out; omega
                      · have d1 : decide ((q : Int) < (T.length : Int)) = false := decide_eq_false (by omega)
                        have d1n : decide (q < T.length) = false := decide_eq_false hqt
                        have e0 : T.length - q = 0 := by omega
                        rw [e0, List.take_zero, List.append_nil, ← HAB.out.1, HAB.out.2] at hTQ
                        have HTQ := Lib.hid hTQ
                        clear hTQ e0 hqt hq HZ7
                        have HSQ := Lib.hid (HSB.out.keep (Keep.of_grew (HTQ.out.bel) Non) (fun h => h))
                        have a0 := HTQ.out.box.cell 0 (by simp)
                        have s0 := HSQ.out.cell 0 (by simp)
                        simp only [List.getElem_cons_zero] at a0 s0
                        go_wp2_with fail
                        refine (ref01_Same _ _ l l _ HTQ.out.line ((HV.out.below HB1.out).below HTQ.out.bel) (by have := HQ.out; omega) (by have := HQ.out; omega)).mono ?_
                        rintro e W8 ⟨rfl, hb8⟩
                        rw [show decide (l = l) = true from by simp]
                        have HT8 := Lib.hid (HTQ.out.grew hb8)
                        have HS8 := Lib.hid (HSQ.out.keep (Keep.of_grew hb8 Non) (fun h => h))
                        clear hb8 a0 s0
                        have a1 := HT8.out.box.cell 1 (by simp)
                        have a2 := HT8.out.box.cell 2 (by simp)
                        have s1 := HS8.out.cell 1 (by simp)
                        have s2 := HS8.out.cell 2 (by simp)
                        simp only [List.getElem_cons_zero, List.getElem_cons_succ] at a1 a2 s1 s2
                        go_wp2_with fail
                        refine (ref01_Same _ _ kl kl _ HT8.out.kill ((HKV.out.below HB1.out).below HT8.out.bel) (by have := HQ.out; omega) (by have := HQ.out; omega)).mono ?_
                        rintro e W9 ⟨rfl, hb9⟩
                        rw [show decide (kl = kl) = true from by simp]
                        have HT9 := Lib.hid (HT8.out.grew hb9)
                        clear hb9 a1 a2 s1 s2
                        go_wp2_with fail
                        refine (HLV.out _).mono ?_
                        rintro e w3 ⟨rfl, hb3⟩
                        go_wp2
                        go_ret
                        exact ⟨rfl, grew HB1.out (grew HT9.out.bel hb3)⟩
                · have hvz' : ¬ n = vc := fun h => hvz h.symm
                  go_wp2_with (at_builtin; refine wp_append_row rfl (.tmp 88) (.tmp 93) rfl _ A1 rfl HTY.out.own _ B rfl HR1.out (by have := HLQ.out; omega) ?_; intro v6 w6 ho hk hn; have HTE := Lib.hid (HTY.out.app ho hk hn); clear ho hk hn s0 s1; have HSE := Lib.hid (HSB.out.keep (Keep.of_grew (HTE.out.bel) Non) (fun h => h)); have a0 := HTE.out.box.cell 0 (by simp); simp only [List.getElem_cons_zero] at a0)
                  rw [HA1.out.2] at HTE
                  refine (ref01_Same _ _ L1 L1 _ HTE.out.line HTE.out.own.slice (by have := HL1.out; omega) (by have := HL1.out; omega)).mono ?_
                  rintro e W7 ⟨rfl, hb7⟩
                  rw [show decide (L1 = L1) = true from by simp]
                  have HT7 := Lib.hid (HTE.out.grew hb7)
                  have HS7 := Lib.hid (HSE.out.keep (Keep.of_grew hb7 Non) (fun h => h))
                  clear hb7 a0
                  have a1 := HT7.out.box.cell 1 (by simp)
                  have s1 := HS7.out.cell 1 (by simp)
                  simp only [List.getElem_cons_zero, List.getElem_cons_succ] at a1 s1
                  go_wp2_with fail
                  clear a1 s1 e7 d1 d1n
                  have HZ7 : Hid (∃ (La Ka : Option Addr) (Lc Kc : Nat), Typ w0 W7 ab v6 L1 (A ++ T.take (T.length - 0) ++ B) kl (((A ++ T.take (T.length - 0)).length : Nat) : Int) La Ka Lc Kc) := Lib.hid (by
                    rw [Nat.sub_zero, List.take_length, HK.out.1, HA1.out.2, HPZ.out]
                    exact ⟨_, _, _, _, HT7.out⟩)
                  clear HT7
                  go_loopw [8] (fun i wq => ∃ (q : Nat) (La Ka : Option Addr) (Lc Kc : Nat), q ≤ T.length ∧ i = .int .i64 q ∧ Typ w0 wq ab v6 L1 (A ++ T.take (T.length - q) ++ B) kl (((A ++ T.take (T.length - q)).length : Nat) : Int) La Ka Lc Kc) (fun i _ => T.length - (intOf i).toNat)
                  case atStart =>
                    obtain ⟨La, Ka, Lc, Kc, h⟩ := HZ7.out
                    exact ⟨0, La, Ka, Lc, Kc, by omega, rfl, h⟩
                  case round =>
                    obtain ⟨q, Lq, Kq, Lcq, Kcq, hq, rfl, hTQ⟩ := hrel
                    by_cases hqt : q < T.length
                    · have d1 : decide ((q : Int) < (T.length : Int)) = true := decide_eq_true (by omega)
                      have d1n : decide (q < T.length) = true := decide_eq_true hqt
                      obtain ⟨j, hj⟩ : ∃ j, T.length - q = j + 1 := ⟨T.length - q - 1, by omega⟩
                      have hjt : j < T.length := by omega
                      have htk : T.take (T.length - q) = T.take j ++ [T[j]] := by rw [hj]; exact List.take_succ_eq_append_getElem hjt
                      have HJ : Hid (T.length - (q + 1) = j) := Lib.hid (by omega)
                      obtain ⟨A2, hA2⟩ : ∃ A2, A ++ T.take j = A2 := ⟨_, rfl⟩
                      obtain ⟨r, hr⟩ : ∃ r, T[j] = r := ⟨_, rfl⟩
                      rw [htk, ← List.append_assoc, hr, hA2] at hTQ
                      obtain ⟨L2, hL2⟩ : ∃ L2, A2 ++ [r] ++ B = L2 := ⟨_, rfl⟩
                      obtain ⟨M2, hM2⟩ : ∃ M2, A2 ++ B = M2 := ⟨_, rfl⟩
                      obtain ⟨p2, hp2⟩ : ∃ p2 : Nat, A2.length = p2 := ⟨_, rfl⟩
                      obtain ⟨pq, hpq⟩ : ∃ pq : Int, ((A2.length + 1 : Nat) : Int) = pq := ⟨_, rfl⟩
                      have hlA : (A2 ++ [r]).length = A2.length + 1 := by simp
                      rw [hlA, hL2, hpq] at hTQ
                      have hru := Ed.rubbed_one (A := A2) (B := B) (kl := kl) (r := r)
                      rw [hL2, hM2, hp2] at hru
                      rw [← hp2, hpq, hp2] at hru
                      have HRU := Lib.hid hru
                      have HL2 : Hid (L2.length ≤ 800) := Lib.hid (by
                        rw [← hL2, ← hA2, List.length_append, List.length_append, List.length_append, List.length_take, List.length_singleton]
                        have e9 := congrArg List.length HAB.out.1
                        rw [List.length_append] at e9
                        have := HQ.out
                        omega)
                      have HM2 := Lib.hid (And.intro hA2 (And.intro hM2 hp2))
                      have HTQ := Lib.hid hTQ
                      have HQT := Lib.hid hqt
                      have hq1000 : q ≤ 1000 := by have := HQ.out; omega
                      clear hTQ hru hA2 hM2 hp2 hL2 hpq hlA htk hr hj hjt hqt hq HZ7
                      have a0 := HTQ.out.box.cell 0 (by simp)
                      have a1 := HTQ.out.box.cell 1 (by simp)
                      have a2 := HTQ.out.box.cell 2 (by simp)
                      simp only [List.getElem_cons_zero, List.getElem_cons_succ] at a0 a1 a2
                      go_wp2_with fail
                      refine (do_any (k := 2) (r := 104) (z := pq) HTQ.out.line HTQ.out.kill (by have := HL2.out; omega) (by have := HQ.out; omega) ⟨by decide, by decide⟩ ⟨by decide, by decide⟩).mono ?_
                      rintro e x2 ⟨Lb, Lcb, Kb, Kcb, Ab, Acb, rfl, hd3, hb⟩
                      rw [HRU.out.1, HRU.out.2.2] at hd3
                      rw [HRU.out.1, HRU.out.2.2, HRU.out.2.1]
                      obtain ⟨_, _, _, _, t0, t1, t2, t3, t4, t5⟩ := box_set (at' := (p2 : Int)) HTQ.out.box HTQ.out.lab HTQ.out.bel hb hd3 HTQ.out.box.lt
                      have HPUT := Lib.hid (HTQ.out.put (z' := (p2 : Int)) hb hd3)
                      clear hb hd3 a0 a1 a2
                      go_wp2
                      go_roundw
                      case rel => exact ⟨q + 1, Lb, Kb, Lcb, Kcb, by have := HQT.out; omega, by go_num, by
                        rw [HJ.out, HM2.out.1, HM2.out.2.1, HM2.out.2.2]
                        exact HPUT.out⟩
                      case measure => simp [intOf]; have := HQT.out; omega
                    · have d1 : decide ((q : Int) < (T.length : Int)) = false := decide_eq_false (by omega)
                      have d1n : decide (q < T.length) = false := decide_eq_false hqt
                      have e0 : T.length - q = 0 := by omega
                      rw [e0, List.take_zero, List.append_nil, ← HAB.out.1, HAB.out.2] at hTQ
                      have HTQ := Lib.hid hTQ
                      clear hTQ e0 hqt hq HZ7
                      have HSQ := Lib.hid (HSB.out.keep (Keep.of_grew (HTQ.out.bel) Non) (fun h => h))
                      have a0 := HTQ.out.box.cell 0 (by simp)
                      have s0 := HSQ.out.cell 0 (by simp)
                      simp only [List.getElem_cons_zero] at a0 s0
                      go_wp2_with fail
                      refine (ref01_Same _ _ l l _ HTQ.out.line ((HV.out.below HB1.out).below HTQ.out.bel) (by have := HQ.out; omega) (by have := HQ.out; omega)).mono ?_
                      rintro e W8 ⟨rfl, hb8⟩
                      rw [show decide (l = l) = true from by simp]
                      have HT8 := Lib.hid (HTQ.out.grew hb8)
                      have HS8 := Lib.hid (HSQ.out.keep (Keep.of_grew hb8 Non) (fun h => h))
                      clear hb8 a0 s0
                      have a1 := HT8.out.box.cell 1 (by simp)
                      have a2 := HT8.out.box.cell 2 (by simp)
                      have s1 := HS8.out.cell 1 (by simp)
                      have s2 := HS8.out.cell 2 (by simp)
                      simp only [List.getElem_cons_zero, List.getElem_cons_succ] at a1 a2 s1 s2
                      go_wp2_with fail
                      refine (ref01_Same _ _ kl kl _ HT8.out.kill ((HKV.out.below HB1.out).below HT8.out.bel) (by have := HQ.out; omega) (by have := HQ.out; omega)).mono ?_
                      rintro e W9 ⟨rfl, hb9⟩
                      rw [show decide (kl = kl) = true from by simp]
                      have HT9 := Lib.hid (HT8.out.grew hb9)
                      clear hb9 a1 a2 s1 s2
                      go_wp2_with fail
                      refine (HLV.out _).mono ?_
                      rintro e w3 ⟨rfl, hb3⟩
                      go_wp2
                      go_ret
                      exact ⟨rfl, grew HB1.out (grew HT9.out.bel hb3)⟩
end Go.Proofs.Ytckpidhcccnifaa
