/- One site's messages, as they come and turned round: the walk. -/
import Derived.Test.YtjklfjgdmklimaaHdTwo
namespace Go.Proofs.Ytjklfjgdmklimaa
open Go.RowKit Go.Maps
set_option linter.unusedVariables false

/-- The second hold behind i rounds of n, and how many it has told. -/
def mixB (N c n i : Nat) : Hold.St := if i < n then Hold.sb N c n i 0 else Hold.sb N c n 0 (n : Int)
def mixC (n i : Nat) : Int := if i < n then 0 else (n : Int)
theorem mix_step {N c n i : Nat} (hN : 1 ≤ N ∧ N ≤ 16) (hc : c < N) (hn : n ≤ 50) (hi : i < n) : ∃ l, Hold.put (mixB N c n i) (Hold.ms N c (n - 1 - i)) = (l, 0, mixB N c n (i + 1)) ∧ mixC n i + l.length = mixC n (i + 1) ∧ (i + 1 < n → l.length = 0) ∧ l.length ≤ 50 := by
  unfold mixB mixC
  rw [if_pos hi, if_pos hi]
  by_cases h : i + 1 < n
  · rw [if_pos h, if_pos h]
    exact ⟨[], Hold.put_wait hN hc hn h, rfl, fun _ => rfl, by simp⟩
  · rw [if_neg h, if_neg h]
    obtain ⟨l, h1, h2⟩ := Hold.put_last hN hc (n := n) (by omega)
    have e : n - 1 - i = 0 := by omega
    have e2 : i = n - 1 := by omega
    refine ⟨l, by rw [e, e2]; exact h1, by rw [h2]; omega, fun hh => absurd hh h, by omega⟩

set_option maxRecDepth 100000 in
set_option maxHeartbeats 8000000 in
theorem walk_HoldMixed (n0 c0 N0 : Int) (w : World) (w0 : (Lit.int .i64 n0).wf = true) (w1 : (Lit.int .i64 c0).wf = true) (w2 : (Lit.int .i64 N0).wf = true) :
    Calls Try.prog 5 #[.int .i64 n0, .int .i64 c0, .int .i64 N0] w fun e w' => e = .returned (.bool true) ∧ Below w.heap.size w w' := by
  clear w0 w1 w2
  by_cases hr : (1 ≤ n0 ∧ n0 ≤ 50) ∧ (1 ≤ N0 ∧ N0 ≤ 16) ∧ 0 ≤ c0 ∧ c0 < N0
  · obtain ⟨n, rfl⟩ : ∃ n : Nat, n0 = n := ⟨n0.toNat, by omega⟩
    obtain ⟨c, rfl⟩ : ∃ c : Nat, c0 = c := ⟨c0.toNat, by omega⟩
    obtain ⟨N, rfl⟩ : ∃ N : Nat, N0 = N := ⟨N0.toNat, by omega⟩
    have hn : 1 ≤ n ∧ n ≤ 50 := by omega
    have hN : 1 ≤ N ∧ N ≤ 16 := by omega
    have hc : c < N := by omega
    have hca : (c : Int) < (N : Int) := by omega
    have d1 : decide ((n : Int) < 1) = false := decide_eq_false (by omega)
    have d1' : decide (n < 1) = false := decide_eq_false (by omega)
    have d2 : decide ((50 : Int) < (n : Int)) = false := decide_eq_false (by omega)
    have d2' : decide (50 < n) = false := decide_eq_false (by omega)
    have d3 : decide ((N : Int) < 1) = false := decide_eq_false (by omega)
    have d3' : decide (N < 1) = false := decide_eq_false (by omega)
    have d4 : decide ((16 : Int) < (N : Int)) = false := decide_eq_false (by omega)
    have d4' : decide (16 < N) = false := decide_eq_false (by omega)
    have d5 : decide ((c : Int) < 0) = false := decide_eq_false (by omega)
    have d6 : decide ((N : Int) ≤ (c : Int)) = false := decide_eq_false (by omega)
    have d6' : decide (N ≤ c) = false := decide_eq_false (by omega)
    clear hr
    go_enter Try.func5, Try.ntmps5
    go_wp2_with fail
    refine (hold_New_yes N 50 _ hN (by omega)).mono ?_
    rintro e w1 ⟨p, F, rfl, h1, h2, h3⟩
    have HA := Lib.hid (And.intro h1 (And.intro h2 h3))
    clear h1 h2 h3
    go_wp2_with fail
    refine (two_New N 50 w w1 HA.out.2.2 hN (by omega) HA.out.1 (Nat.zero_le _) HA.out.2.1).mono ?_
    rintro e w2 ⟨q, rfl, h1⟩
    have HT : Hid (Two w p q ⟨50, Hold.zc N c ((0 : Nat) : Int), []⟩ (mixB N c n 0) w2) := Lib.hid (by
      have e1 : Hold.new N 50 = ⟨50, Hold.zc N c ((0 : Nat) : Int), []⟩ := by unfold Hold.new; rw [show ((0 : Nat) : Int) = 0 from rfl, Hold.zc_zero hc]
      have e2 : mixB N c n 0 = Hold.new N 50 := by unfold mixB Hold.sb Hold.new; rw [if_pos (by omega), Hold.zc_zero hc]; rfl
      rw [e2, ← e1]; exact h1)
    clear h1 HA
    go_wp2_with fail
    go_loopw [11, 12] (fun cnt i' wr => ∃ i : Nat, i ≤ n ∧ i' = .int .i64 i ∧ cnt = .int .i64 (mixC n i) ∧ Two w p q ⟨50, Hold.zc N c i, []⟩ (mixB N c n i) wr) (fun _ i' _ => n - (intOf i').toNat)
    case atStart => exact ⟨0, by omega, rfl, by unfold mixC; rw [if_pos (by omega)], HT.out⟩
    case round =>
      obtain ⟨i, hi, rfl, rfl, hT⟩ := hrel
      have HT := Lib.hid hT
      clear hT
      by_cases hlt : i < n
      · have e1 : decide ((i : Int) < (n : Int)) = true := decide_eq_true (by omega)
        obtain ⟨lb, hb1, hb2, hb3, hb4⟩ := mix_step hN hc hn.2 hlt
        have HS := Lib.hid (And.intro hb1 hb2)
        have HC0 : Hid (0 ≤ mixC n i ∧ mixC n i ≤ 50) := Lib.hid (by unfold mixC; split <;> omega)
        have hpa := Hold.put_next (i := i) hN hc (by omega)
        have HPA := Lib.hid hpa
        have HEB : Hid (caretM (c : Int) ((n : Int) - (i : Int)) (Hold.zc N c ((n : Int) - 1 - (i : Int))) = Hold.ms N c (n - 1 - i)) := Lib.hid (by
          unfold caretM Hold.ms
          rw [show (n : Int) - (i : Int) = ((n - 1 - i : Nat) : Int) + 1 by omega, show (n : Int) - 1 - (i : Int) = ((n - 1 - i : Nat) : Int) by omega])
        have HEA : Hid (caretM (c : Int) ((i : Int) + 1) (Hold.zc N c (i : Int)) = Hold.ms N c i) := Lib.hid rfl
        clear hpa hb1 hb2
        go_wp2_with fail
        refine (ref06_Zero_own2 N _ (by omega)).mono ?_
        rintro e w3 ⟨r3, rfl, ho, hb⟩
        obtain ⟨g, cap, e, hg1, hg2, c3, f3, hset⟩ := ho.put (c := c) (by rw [List.length_replicate]; exact hc)
        rw [List.length_replicate] at e
        subst e
        have HSL := Lib.hid (hset (i : Int))
        have HT3 := Lib.hid (HT.out.grew hb)
        have hgg : w.heap.size ≤ g ∧ wr.heap.size ≤ g := ⟨Nat.le_trans HT.out.bel.size hg1, hg1⟩
        have HT4 : Hid (Two w p q ⟨50, Hold.zc N c i, []⟩ (mixB N c n i) (w3.setCell ⟨g, c, none⟩ (.int .i64 (i : Int)))) := Lib.hid (by
          obtain ⟨Fa, Fb, k1, k2, k3, k4, k5, k6, k7, k8⟩ := HT.out
          have hk : Keep (Just g) wr (w3.setCell ⟨g, c, none⟩ (.int .i64 (i : Int))) := (Keep.of_grew hb _).trans (Keep.setCell w3 g c _) (fun _ _ h => h)
          exact HT.out.keep hk hgg.1 hgg.2)
        clear hset ho hb hg1 hgg HT3
        go_wp2_with fail
        generalize w3.setCell ⟨g, c, none⟩ (.int .i64 (i : Int)) = W3 at *
        refine (law07_caret (c : Int) ((i : Int) + 1) _ _ _ HSL.out).mono ?_
        rintro e w4 ⟨rfl, hb⟩
        have HT5 := Lib.hid (HT4.out.grew hb)
        have HSL5 := Lib.hid (HSL.out.below hb)
        clear hb c3 f3
        go_wp2_with fail
        refine (two_PutA HT5.out (caretM (c : Int) ((i : Int) + 1) (Hold.zc N c (i : Int))) _ HSL5.out (by show (Hold.zc N c (i : Int)).length ≤ _; rw [Hold.zc_len]; omega)).mono ?_
        rintro e w5 ⟨T1, c1, rfl, hT⟩
        rw [HEA.out, HPA.out] at hT ⊢
        have HT6 := Lib.hid hT
        clear hT
        go_wp2_with fail
        refine (ref06_Zero_own2 N _ (by omega)).mono ?_
        rintro e w6 ⟨r6, rfl, ho, hb⟩
        obtain ⟨g2, cap2, e, hg1, hg2', c6, f6, hset⟩ := ho.put (c := c) (by rw [List.length_replicate]; exact hc)
        rw [List.length_replicate] at e
        subst e
        have HSL6 := Lib.hid (hset ((n : Int) - 1 - (i : Int)))
        have HT7 : Hid (Two w p q ⟨50, Hold.zc N c ((i : Int) + 1), []⟩ (mixB N c n i) (w6.setCell ⟨g2, c, none⟩ (.int .i64 ((n : Int) - 1 - (i : Int))))) := Lib.hid (by
          have hk : Keep (Just g2) w5 (w6.setCell ⟨g2, c, none⟩ (.int .i64 ((n : Int) - 1 - (i : Int)))) := (Keep.of_grew hb _).trans (Keep.setCell w6 g2 c _) (fun _ _ h => h)
          exact HT6.out.keep hk (Nat.le_trans HT6.out.bel.size hg1) hg1)
        clear hset ho hb hg1 hg2'
        go_wp2_with fail
        generalize w6.setCell ⟨g2, c, none⟩ (.int .i64 ((n : Int) - 1 - (i : Int))) = W6 at *
        refine (law07_caret (c : Int) ((n : Int) - (i : Int)) _ _ _ HSL6.out).mono ?_
        rintro e w7 ⟨rfl, hb⟩
        have HT8 := Lib.hid (HT7.out.grew hb)
        have HSL8 := Lib.hid (HSL6.out.below hb)
        clear hb c6 f6
        go_wp2_with fail
        refine (two_PutB HT8.out (caretM (c : Int) ((n : Int) - (i : Int)) (Hold.zc N c ((n : Int) - 1 - (i : Int)))) _ HSL8.out (by show (Hold.zc N c _).length ≤ _; rw [Hold.zc_len]; omega)).mono ?_
        rintro e w8 ⟨T2, c2, rfl, hT⟩
        rw [HEB.out, HS.out.1] at hT ⊢
        have HT9 := Lib.hid hT
        have HC1 := Lib.hid HS.out.2
        clear hT
        generalize hl : lb.length = L at *
        clear hl
        have HCC : Hid (IntKind.i64.wrap (mixC n i + (L : Int)) = mixC n i + (L : Int)) := Lib.hid (by have := HC0.out; rw [IntKind.wrap_i64]; omega)
        have hcc := HCC.out
        have HT9' : Hid (Two w p q ⟨50, Hold.zc N c ((i + 1 : Nat) : Int), []⟩ (mixB N c n (i + 1)) w8) := Lib.hid (by rw [show ((i + 1 : Nat) : Int) = (i : Int) + 1 by omega]; exact HT9.out)
        generalize mixC n i = ci at *
        by_cases hl : i + 1 < n
        · have e2 : decide ((i : Int) < (n : Int) - 1) = true := decide_eq_true (by omega)
          obtain rfl : L = 0 := hb3 hl
          have hw64 : wrap64 ci = ci := by have := HC0.out; unfold wrap64; omega
          have HW64 := Lib.hid hw64
          clear hw64
          go_wp2
          go_roundw
          case rel => exact ⟨i + 1, by omega, by go_num, by rw [← HC1.out]; simp [HW64.out], HT9'.out⟩
          case measure => simp [intOf]; omega
        · have e2 : decide ((i : Int) < (n : Int) - 1) = false := decide_eq_false (by omega)
          go_wp2
          go_roundw
          case rel => exact ⟨i + 1, by omega, by go_num, by rw [← HC1.out], HT9'.out⟩
          case measure => simp [intOf]; omega
      · have e1 : decide ((i : Int) < (n : Int)) = false := decide_eq_false (by omega)
        have hin : i = n := by omega
        subst hin
        have HMC : Hid (mixC i i = (i : Int)) := Lib.hid (if_neg (by omega))
        have HMB : Hid (mixB N c i i = Hold.sb N c i 0 (i : Int)) := Lib.hid (if_neg (by omega))
        rw [HMB.out] at HT
        rw [HMC.out]
        have HWA := Lib.hid (fun W (h : Two w p q ⟨50, Hold.zc N c i, []⟩ (Hold.sb N c i 0 (i : Int)) W) => show Calls Try.prog 15 #[.pointer (some ⟨p, 0, none⟩)] W fun e w' => e = .returned (.int .i64 0) ∧ W = w' from by obtain ⟨Fa, Fb, k1, k2, _⟩ := h; exact hold_Waits k1)
        have HWB := Lib.hid (fun W (h : Two w p q ⟨50, Hold.zc N c i, []⟩ (Hold.sb N c i 0 (i : Int)) W) => show Calls Try.prog 15 #[.pointer (some ⟨q, 0, none⟩)] W fun e w' => e = .returned (.int .i64 0) ∧ W = w' from by obtain ⟨Fa, Fb, k1, k2, _⟩ := h; exact hold_Waits k2)
        have HCA := Lib.hid (fun W (h : Two w p q ⟨50, Hold.zc N c i, []⟩ (Hold.sb N c i 0 (i : Int)) W) => show Calls Try.prog 17 #[.pointer (some ⟨p, 0, none⟩)] W fun e w' => ∃ v, e = .returned v ∧ SliceI w' v (Hold.zc N c i) ∧ Below W.heap.size W w' from by obtain ⟨Fa, Fb, k1, k2, _⟩ := h; exact (hold_Clock k1).mono fun e w' ⟨v, g, cap, k1, k2⟩ => ⟨v, k1, k2.own.slice, k2.bel⟩)
        have HCB := Lib.hid (fun W (h : Two w p q ⟨50, Hold.zc N c i, []⟩ (Hold.sb N c i 0 (i : Int)) W) => show Calls Try.prog 17 #[.pointer (some ⟨q, 0, none⟩)] W fun e w' => ∃ v, e = .returned v ∧ SliceI w' v (Hold.zc N c i) ∧ Below W.heap.size W w' from by obtain ⟨Fa, Fb, k1, k2, _⟩ := h; exact (hold_Clock k2).mono fun e w' ⟨v, g, cap, k1, k2⟩ => ⟨v, k1, k2.own.slice, k2.bel⟩)
        have HZL := Lib.hid (Hold.zc_len N c (i : Int))
        go_wp2_with fail
        refine (HWA.out _ HT.out).mono ?_
        rintro e w3 ⟨rfl, rfl⟩
        go_wp2_with fail
        refine (HWB.out _ HT.out).mono ?_
        rintro e w3 ⟨rfl, rfl⟩
        go_wp2_with fail
        refine (HCA.out _ HT.out).mono ?_
        rintro e w4 ⟨v4, rfl, hs4, hb⟩
        have HT4 := Lib.hid (HT.out.grew hb)
        have HS4 := Lib.hid hs4
        obtain ⟨a4, c4, e⟩ := hs4.shape
        rw [HZL.out] at e
        subst e
        clear hs4 hb
        go_wp2_with fail
        refine (HCB.out _ HT4.out).mono ?_
        rintro e w5 ⟨v5, rfl, hs5, hb⟩
        have HB5 := Lib.hid (grew HT4.out.bel hb)
        have HS4 := Lib.hid (HS4.out.below hb)
        have HS5 := Lib.hid hs5
        obtain ⟨a5, c5, e⟩ := hs5.shape
        rw [HZL.out] at e
        subst e
        clear hs5 hb
        go_wp2_with fail
        refine (ref01_Same _ _ (Hold.zc N c i) (Hold.zc N c i) _ HS4.out HS5.out (by rw [HZL.out]; omega) (by rw [HZL.out]; omega)).mono ?_
        rintro e w6 ⟨rfl, hb⟩
        rw [decide_eq_true (Eq.refl (Hold.zc N c i))]
        have HB6 := Lib.hid (grew HB5.out hb)
        clear hb
        go_wp2_with fail
        refine (law07_live _).mono ?_
        rintro e w7 ⟨rfl, hb⟩
        have HB7 := Lib.hid (grew HB6.out hb)
        clear hb
        go_wp2
        go_ret
        exact ⟨rfl, HB7.out⟩
  · by_cases g0 : n0 < 1
    · have m0 : decide (n0 < 1) = true := decide_eq_true g0
      clear hr
      go_enter Try.func5, Try.ntmps5
      go_wp2_with fail
      refine (law07_live _).mono ?_
      rintro e w9 ⟨rfl, hb⟩
      go_wp2
      go_ret
      exact ⟨rfl, hb⟩
    · have m0 : decide (n0 < 1) = false := decide_eq_false g0
      by_cases g1 : 50 < n0
      · have m1 : decide (50 < n0) = true := decide_eq_true g1
        clear hr
        go_enter Try.func5, Try.ntmps5
        go_wp2_with fail
        refine (law07_live _).mono ?_
        rintro e w9 ⟨rfl, hb⟩
        go_wp2
        go_ret
        exact ⟨rfl, hb⟩
      · have m1 : decide (50 < n0) = false := decide_eq_false g1
        by_cases g2 : N0 < 1
        · have m2 : decide (N0 < 1) = true := decide_eq_true g2
          clear hr
          go_enter Try.func5, Try.ntmps5
          go_wp2_with fail
          refine (law07_live _).mono ?_
          rintro e w9 ⟨rfl, hb⟩
          go_wp2
          go_ret
          exact ⟨rfl, hb⟩
        · have m2 : decide (N0 < 1) = false := decide_eq_false g2
          by_cases g3 : 16 < N0
          · have m3 : decide (16 < N0) = true := decide_eq_true g3
            clear hr
            go_enter Try.func5, Try.ntmps5
            go_wp2_with fail
            refine (law07_live _).mono ?_
            rintro e w9 ⟨rfl, hb⟩
            go_wp2
            go_ret
            exact ⟨rfl, hb⟩
          · have m3 : decide (16 < N0) = false := decide_eq_false g3
            by_cases g4 : c0 < 0
            · have m4 : decide (c0 < 0) = true := decide_eq_true g4
              clear hr
              go_enter Try.func5, Try.ntmps5
              go_wp2_with fail
              refine (law07_live _).mono ?_
              rintro e w9 ⟨rfl, hb⟩
              go_wp2
              go_ret
              exact ⟨rfl, hb⟩
            · have m4 : decide (c0 < 0) = false := decide_eq_false g4
              have m5 : decide (N0 ≤ c0) = true := decide_eq_true (by omega)
              clear hr
              go_enter Try.func5, Try.ntmps5
              go_wp2_with fail
              refine (law07_live _).mono ?_
              rintro e w9 ⟨rfl, hb⟩
              go_wp2
              go_ret
              exact ⟨rfl, hb⟩
end Go.Proofs.Ytjklfjgdmklimaa
