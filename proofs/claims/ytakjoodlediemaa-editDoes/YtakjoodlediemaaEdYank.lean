/- What was killed is put again; runes are swapped. -/
import Derived.Test.YtakjoodlediemaaEdCut
namespace Go.Proofs.Ytakjoodlediemaa
open Go.RowKit
set_option linter.unusedVariables false

theorem Ed.put_kill (t : Tn) (r : Int) : (Ed.put t r).1.kill = t.kill ∧ (Ed.put t r).1.line = t.line ∧ (Ed.put t r).1.long ≤ t.long + 1 ∧ (Ed.put t r).1.at' ≤ t.at' + 1 ∧ (Ed.put t r).1.acts.length ≤ t.acts.length + 1 := by
  unfold Ed.put
  split <;> simp

set_option maxRecDepth 100000 in
set_option maxHeartbeats 4000000 in
theorem turn_yank {w0 w : World} {g : Nat} {t : Tn} {lv kv av : Value} (h : IsTn w0 w g t lv kv av) (hk : t.kill.length ≤ 100000) (ha : t.at' ≤ 100000) (hlo : t.long ≤ 100000) (hn : t.acts.length ≤ 100000) :
    Calls Try.prog 46 #[.pointer (some ⟨g, 0, none⟩)] w fun e w' => e = .returned (.tuple #[]) ∧ TnStep w0 w' g (Ed.Deed.run .yank t) lv := by
  have HT := Lib.hid h
  clear h
  obtain ⟨ka, kc, hkv⟩ := HT.out.kill.shape
  subst hkv
  have HKV : Hid (SliceI w0 (.slice ka t.kill.length kc) t.kill) := Lib.hid HT.out.kill
  obtain ⟨c0, c1, c2, c3, c4, c5⟩ := HT.out.cells
  obtain ⟨Y, hY⟩ : ∃ Y, Ed.yank t t.kill = Y := ⟨_, rfl⟩
  have HY := Lib.hid hY
  have HR : Hid (Ed.Deed.run .yank t = Y) := Lib.hid hY
  rw [HR.out]
  clear hY HR
  obtain ⟨K, hK⟩ : ∃ K, t.kill = K := ⟨_, rfl⟩
  rw [hK] at HKV hk c3 HY HT
  clear hK
  go_enter Try.func46, Try.ntmps46
  go_wp2_with fail
  go_loopw [3, 9] (fun s3 i wr => ∃ k : Nat, k ≤ K.length ∧ i = .int .i64 k ∧ ∃ T av', IsTn w0 wr g T lv (.slice ka K.length kc) av' ∧ Ed.yank T (K.drop k) = Y ∧ T.long ≤ t.long + k ∧ T.at' ≤ t.at' + k ∧ T.acts.length ≤ t.acts.length + k) (fun _ i _ => K.length - (intOf i).toNat)
  case atStart => exact ⟨0, by omega, rfl, t, av, HT.out, by rw [List.drop_zero]; exact HY.out, by omega, by omega, by omega⟩
  case round =>
    obtain ⟨k, hkk, rfl, T, av1, hT1, hYT, b1, b2, b3⟩ := hrel
    have HT1 := Lib.hid hT1
    have HYT := Lib.hid hYT
    clear hT1 hYT c0 c1 c2 c3 c4 c5 HT HY
    by_cases hlt : k < K.length
    · have d1 : decide ((k : Int) < (K.length : Int)) = true := decide_eq_true (by omega)
      have dn : decide (k < K.length) = true := decide_eq_true hlt
      have hia : (k : Int) < (K.length : Int) := by omega
      obtain ⟨b0, off, e3, hb0, hc⟩ := slice_cell HKV.out hlt
      have hc1 : wr.cell? ⟨b0, off + k, none⟩ = some (.int .i64 K[k]) := (HT1.out.bel.cell (p := ⟨b0, off + k, none⟩) hb0).trans hc
      clear hc
      subst e3
      have HYS : Hid (Ed.yank T (K.drop k) = if (Ed.put T K[k]).2 then Ed.yank (Ed.put T K[k]).1 (K.drop (k + 1)) else (Ed.put T K[k]).1) := Lib.hid (by rw [List.drop_eq_getElem_cons hlt, Ed.yank])
      have HLT := Lib.hid hlt
      generalize K[k] = r at hc1 HYS
      have HP := Lib.hid (turn_put HT1.out (by omega) (by omega) (by omega) r)
      have HPK := Lib.hid (Ed.put_kill T r)
      rw [HYT.out] at HYS
      clear hlt
      cases hp : (Ed.put T r).2 with
      | true =>
        rw [hp] at HP HYS
        clear hp
        go_wp2_with fail
        refine HP.out.mono ?_
        rintro e w2 ⟨rfl, av2, hT2⟩
        have HT2 := Lib.hid hT2
        clear hT2
        go_wp2
        go_roundw
        case rel => exact ⟨k + 1, by have := HLT.out; omega, by go_num, _, av2, HT2.out, by rw [HYS.out]; rfl, by have := HPK.out; omega, by have := HPK.out; omega, by have := HPK.out; omega⟩
        case measure => simp [intOf]; have := HLT.out; omega
      | false =>
        rw [hp] at HP HYS
        clear hp
        go_wp2_with fail
        refine HP.out.mono ?_
        rintro e w2 ⟨rfl, av2, hT2⟩
        have HT2 := Lib.hid hT2
        clear hT2
        go_wp2
        refine bodyPost_ret (results_none rfl _ _ _) rfl ?_
        exact ⟨rfl, _, _, by rw [HYS.out]; exact HT2.out⟩
    · have d1 : decide ((k : Int) < (K.length : Int)) = false := decide_eq_false (by omega)
      have dn : decide (k < K.length) = false := decide_eq_false hlt
      have HE : Hid (T = Y) := Lib.hid (by have := HYT.out; rw [List.drop_eq_nil_of_le (by omega), Ed.yank] at this; exact this)
      go_wp2
      go_end0
      exact ⟨rfl, _, _, by rw [← HE.out]; exact HT1.out⟩

set_option maxRecDepth 100000 in
set_option maxHeartbeats 4000000 in
theorem turn_swap {w0 w : World} {g : Nat} {t : Tn} {lv kv av : Value} (h : IsTn w0 w g t lv kv av) (ha : t.at' ≤ t.line.length) (hl : t.line.length ≤ 100000) (hlo : t.long = t.line.length) (hn : t.acts = []) :
    Calls Try.prog 47 #[.pointer (some ⟨g, 0, none⟩)] w fun e w' => e = .returned (.tuple #[]) ∧ TnStep w0 w' g (Ed.Deed.run .swap t) lv := by
  have HT := Lib.hid h
  clear h
  obtain ⟨va, vc, hlv⟩ := HT.out.line.shape
  subst hlv
  obtain ⟨c0, c1, c2, c3, c4, c5⟩ := HT.out.cells
  have HR : Hid (Ed.Deed.run .swap t = Ed.swap t) := Lib.hid rfl
  rw [HR.out]
  clear HR
  by_cases hq : t.at' = 0 ∨ t.long < 2 ∨ 1000 < t.long
  · have HE : Hid (Ed.swap t = t) := Lib.hid (by unfold Ed.swap; rw [if_pos hq])
    rw [HE.out]
    by_cases h0 : t.at' = 0
    · have d0 : ((t.at' : Int) == 0) = true := by rw [beq_iff_eq]; omega
      clear hq hlo
      go_enter Try.func47, Try.ntmps47
      go_wp2
      refine bodyPost_ret (results_none rfl _ _ _) rfl ?_
      exact ⟨rfl, _, _, HT.out⟩
    · have d0 : ((t.at' : Int) == 0) = false := by rw [beq_eq_false_iff_ne]; omega
      by_cases h2 : t.long < 2
      · have d2 : decide ((t.long : Int) < 2) = true := decide_eq_true (by omega)
        clear hq hlo
        go_enter Try.func47, Try.ntmps47
        go_wp2
        refine bodyPost_ret (results_none rfl _ _ _) rfl ?_
        exact ⟨rfl, _, _, HT.out⟩
      · have d2 : decide ((t.long : Int) < 2) = false := decide_eq_false (by omega)
        have d3 : decide ((1000 : Int) < (t.long : Int)) = true := decide_eq_true (by omega)
        clear hq hlo
        go_enter Try.func47, Try.ntmps47
        go_wp2
        refine bodyPost_ret (results_none rfl _ _ _) rfl ?_
        exact ⟨rfl, _, _, HT.out⟩
  · obtain ⟨q, hqm⟩ : ∃ q, min t.at' (t.long - 1) = q + 1 := ⟨min t.at' (t.long - 1) - 1, by omega⟩
    have hql : q < t.line.length := by omega
    have d0 : ((t.at' : Int) == 0) = false := by rw [beq_eq_false_iff_ne]; omega
    have d2 : decide ((t.long : Int) < 2) = false := decide_eq_false (by omega)
    have d3 : decide ((1000 : Int) < (t.long : Int)) = false := decide_eq_false (by omega)
    have hgd : t.line.getD q 0 = t.line[q] := by rw [List.getD_eq_getElem?_getD, List.getElem?_eq_getElem hql]; rfl
    have HE : Hid (Ed.swap t = if Mesg.rune t.line[q] then (Ed.put { Ed.cut t q (q + 1) with at' := q + 1 } t.line[q]).1 else t) := Lib.hid (by
      unfold Ed.swap
      rw [if_neg hq, hqm, Nat.add_sub_cancel, hgd])
    obtain ⟨b0, off, e3, hb0, hc⟩ := slice_cell HT.out.line hql
    cases e3
    have hc1 : w.cell? ⟨b0, off + q, none⟩ = some (.int .i64 t.line[q]) := (HT.out.bel.cell (p := ⟨b0, off + q, none⟩) hb0).trans hc
    have HRu := Lib.hid (fun r W => mesg_Rune r W)
    have HCUT := Lib.hid (turn_cut HT.out q (q + 1) (by omega) (by omega) (by omega) (by omega) (by omega) (by rw [hn]; simp))
    have HQ := Lib.hid hql
    have HQ2 : Hid (2 ≤ t.long ∧ t.long ≤ 1000) := Lib.hid (by omega)
    have HCN : Hid ((Ed.cut t q (q + 1)).acts.length ≤ 1000000 ∧ (Ed.cut t q (q + 1)).long ≤ 1000000) := Lib.hid (by
      unfold Ed.cut
      simp only [hn, List.nil_append]
      unfold Ed.cutActs
      rw [List.length_map, Ed.slice_length (by omega) (by omega)]
      omega)
    generalize t.line[q] = r at hc1 HE hc
    clear hc hgd
    have hia : (q : Int) < (t.line.length : Int) := by omega
    have hi0 : (0 : Int) ≤ (q : Int) := by omega
    obtain ⟨A, hA⟩ : ∃ A : Int, (t.at' : Int) = A := ⟨_, rfl⟩
    obtain ⟨L, hL⟩ : ∃ L : Int, (t.long : Int) = L := ⟨_, rfl⟩
    have hAL : (A = q + 1 ∧ q + 1 ≤ L - 1) ∨ (A = q + 2 ∧ L = q + 2) := by omega
    rw [hA] at c1 d0
    rw [hL] at c2 d2 d3
    have hLB : 2 ≤ L ∧ L ≤ 1000 := by omega
    have s1 : IntKind.i64.wrap (L - 1) = L - 1 := IntWalk.i64_in _ (by omega)
    have s3 : IntKind.i64.wrap ((q : Int) + 1 - 1) = (q : Int) := by rw [show (q : Int) + 1 - 1 = q from by omega]; exact IntWalk.i64_in _ (by omega)
    rcases hAL with ⟨rfl, hAB⟩ | ⟨rfl, rfl⟩
    · have m1 : decide (L - 1 < (q : Int) + 1) = false := decide_eq_false (by omega)
      have m2 : decide ((q : Int) + 1 ≤ L - 1) = true := decide_eq_true (by omega)
      have m3 : decide ((q : Int) + 1 = 0) = false := decide_eq_false (by omega)
      clear hq hqm hA hL hlo ha
      cases hr : Mesg.rune r with
      | false =>
        rw [hr] at HE
        rw [HE.out]
        go_enter Try.func47, Try.ntmps47
        go_wp2_with fail
        go_quiet (fail)
        go_wp2_with fail
        refine (HRu.out _ _).mono ?_
        rintro e w1 ⟨rfl, rfl⟩
        rw [hr]
        go_wp2
        refine bodyPost_ret (results_none rfl _ _ _) rfl ?_
        exact ⟨rfl, _, _, HT.out.grew (grew_drewN w nq)⟩
      | true =>
        rw [hr] at HE
        rw [HE.out]
        go_enter Try.func47, Try.ntmps47
        go_wp2_with fail
        go_quiet (fail)
        go_wp2_with fail
        refine (HRu.out _ _).mono ?_
        rintro e w1 ⟨rfl, rfl⟩
        rw [hr]
        go_wp2_with fail
        refine (turn_cut (HT.out.grew (grew_drewN w nq)) q (q + 1) (by omega) (by have := HQ.out; omega) (by have := HQ2.out; omega) (by omega) (by have := HQ2.out; omega) (by rw [hn]; simp)).mono ?_
        rintro e w2 ⟨rfl, av2, hT2⟩
        have HT2 := Lib.hid hT2
        clear hT2 c0 c1 c2 c3 c4 c5
        have HT3 := Lib.hid (HT2.out.set (t' := { Ed.cut t q (q + 1) with at' := q + 1 }) (kv' := kv) 1 (.int .i64 ((q : Int) + 1)) (by omega) (by simp [tnL]) rfl HT2.out.kill rfl)
        obtain ⟨c0, c1, c2, c3, c4, c5⟩ := HT2.out.cells
        have f1 := HT2.out.frozen 1
        go_wp2_with fail
        refine (turn_put HT3.out HCN.out.2 (by have := HQ.out; show q + 1 ≤ 1000000; omega) HCN.out.1 r).mono ?_
        rintro e w4 ⟨rfl, av4, hT4⟩
        have HT4 := Lib.hid hT4
        clear hT4
        go_wp2
        go_end0
        exact ⟨rfl, _, _, HT4.out⟩
    · have s2 : (q : Int) + 2 - 1 = q + 1 := by omega
      have s4 : IntKind.i64.wrap ((q : Int) + 2 - 1) = (q : Int) + 1 := by rw [s2]; exact IntWalk.i64_in _ (by omega)
      have m1 : decide ((q : Int) + 1 < (q : Int) + 2) = true := decide_eq_true (by omega)
      have m2 : decide ((q : Int) + 2 ≤ (q : Int) + 1) = false := decide_eq_false (by omega)
      have m3 : decide ((q : Int) + 2 = 0) = false := decide_eq_false (by omega)
      clear hq hqm hA hL hlo ha
      cases hr : Mesg.rune r with
      | false =>
        rw [hr] at HE
        rw [HE.out]
        go_enter Try.func47, Try.ntmps47
        go_wp2_with fail
        go_quiet (fail)
        go_wp2_with fail
        refine (HRu.out _ _).mono ?_
        rintro e w1 ⟨rfl, rfl⟩
        rw [hr]
        go_wp2
        refine bodyPost_ret (results_none rfl _ _ _) rfl ?_
        exact ⟨rfl, _, _, HT.out.grew (grew_drewN w nq)⟩
      | true =>
        rw [hr] at HE
        rw [HE.out]
        go_enter Try.func47, Try.ntmps47
        go_wp2_with fail
        go_quiet (fail)
        go_wp2_with fail
        refine (HRu.out _ _).mono ?_
        rintro e w1 ⟨rfl, rfl⟩
        rw [hr]
        go_wp2_with fail
        refine (turn_cut (HT.out.grew (grew_drewN w nq)) q (q + 1) (by omega) (by have := HQ.out; omega) (by have := HQ2.out; omega) (by omega) (by have := HQ2.out; omega) (by rw [hn]; simp)).mono ?_
        rintro e w2 ⟨rfl, av2, hT2⟩
        have HT2 := Lib.hid hT2
        clear hT2 c0 c1 c2 c3 c4 c5
        have HT3 := Lib.hid (HT2.out.set (t' := { Ed.cut t q (q + 1) with at' := q + 1 }) (kv' := kv) 1 (.int .i64 ((q : Int) + 1)) (by omega) (by simp [tnL]) rfl HT2.out.kill rfl)
        obtain ⟨c0, c1, c2, c3, c4, c5⟩ := HT2.out.cells
        have f1 := HT2.out.frozen 1
        go_wp2_with fail
        refine (turn_put HT3.out HCN.out.2 (by have := HQ.out; show q + 1 ≤ 1000000; omega) HCN.out.1 r).mono ?_
        rintro e w4 ⟨rfl, av4, hT4⟩
        have HT4 := Lib.hid hT4
        clear hT4
        go_wp2
        go_end0
        exact ⟨rfl, _, _, HT4.out⟩
end Go.Proofs.Ytakjoodlediemaa
