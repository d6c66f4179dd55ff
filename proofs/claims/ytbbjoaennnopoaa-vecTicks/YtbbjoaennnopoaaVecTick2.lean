/- The walk of VecTicks. -/
import Derived.Test.YtbbjoaennnopoaaVecTurn
import Derived.Test.YtbbjoaennnopoaaVecMath2
import Derived.IntWalk
import Derived.Deep.RegionHeld3
namespace Go.Proofs.Ytbbjoaennnopoaa
open Go.RowKit
set_option linter.unusedVariables false

theorem tickR_cases (xs : List Int) (site : Int) : tickR xs site = ([], 1) ∨ tickR xs site = ([], 5) ∨ ∃ k : Nat, site = k ∧ ∃ hk : k < xs.length, Vecs.may xs = true ∧ xs[k] ≠ 4294967295 ∧ tickR xs k = (Vecs.tick xs k, 0) := by
  by_cases h : Vecs.may xs = true ∧ 0 ≤ site ∧ site < xs.length
  · obtain ⟨h1, h2, h3⟩ := h
    obtain ⟨k, rfl⟩ : ∃ k : Nat, site = k := ⟨site.toNat, by omega⟩
    have hk : k < xs.length := by omega
    have e : tickR xs k = if xs[k] = 4294967295 then ([], 5) else (Vecs.tick xs k, 0) := by
      unfold tickR
      rw [if_pos ⟨h1, h2, h3⟩, Int.toNat_natCast]
      simp [hk]
    by_cases hz : xs[k] = 4294967295
    · exact .inr (.inl (by rw [e, if_pos hz]))
    · exact .inr (.inr ⟨k, rfl, hk, h1, hz, by rw [e, if_neg hz]⟩)
  · exact .inl (by unfold tickR; rw [if_neg h])

set_option maxRecDepth 100000 in
set_option maxHeartbeats 4000000 in
theorem walk_VecTicks (a0 : Option Addr) (len0 cap0 : Nat) (z0 : List Int) (site : Int) (w : World) (h0 : IsRow .i64 w a0 len0 cap0 z0) (hs : (Lit.int .i64 site).wf = true) :
    Calls Try.prog 5 #[.slice a0 len0 cap0, .int .i64 site] w fun e w' => e = .returned (.bool true) ∧ Below w.heap.size w w' := by
  obtain ⟨xs, hx, rfl, hlx, _⟩ := h0.slice
  have HX := Lib.hid hx
  clear h0 hx hs
  go_enter Try.func5, Try.ntmps5
  go_wp2_with fail
  refine (vec_Tick _ xs site _ HX.out hlx).mono ?_
  rintro e w1 ⟨r, rfl, ho, hb1⟩
  have HX1 := Lib.hid (HX.out.below hb1)
  have HB1 := Lib.hid hb1
  clear hb1
  rcases tickR_cases xs site with hq | hq | ⟨k, rfl, hk, hm, hz, hq⟩
  · rw [hq] at ho
    obtain ⟨v1, rfl, a1, cap1, rfl, _, _⟩ := ho
    clear hq
    go_wp2_with fail
    refine (law06_live _).mono ?_
    rintro e w4 ⟨rfl, hb⟩
    go_wp2
    go_ret
    exact ⟨rfl, grew HB1.out hb⟩
  · rw [hq] at ho
    obtain ⟨v1, rfl, a1, cap1, rfl, _, _⟩ := ho
    clear hq
    go_wp2_with fail
    refine (law06_live _).mono ?_
    rintro e w4 ⟨rfl, hb⟩
    go_wp2
    go_ret
    exact ⟨rfl, grew HB1.out hb⟩
  · rw [hq] at ho
    obtain ⟨v1, rfl, hs1⟩ := ho
    have HS1 := Lib.hid hs1
    obtain ⟨a1, cap1, rfl, hc1, hrow1⟩ := hs1
    have HT := Lib.hid (Vecs.together_tick hm hk hz)
    have HC := Lib.hid (Vecs.cmp_tick hk)
    have HJ := Lib.hid (Vecs.join_tick hk)
    have HV := Lib.hid (Vecs.covers_tick hm hk hz)
    clear hq hc1 hrow1
    rw [Vecs.tick_len]
    have hik : (k : Int) < (xs.length : Int) := by omega
    have hd1 : decide ((k : Int) < 0) = false := decide_eq_false (by omega)
    have hd2 : decide ((xs.length : Int) ≤ (k : Int)) = false := decide_eq_false (by omega)
    have hd2n : decide (xs.length ≤ k) = false := decide_eq_false (by omega)
    go_wp2_with fail
    refine (vec_Compare _ _ (Vecs.tick xs k) xs _ (by rw [← Vecs.tick_len xs k]; exact HS1.out) HX1.out (by rw [Vecs.tick_len]; exact hlx) hlx).mono ?_
    rintro e w2 ⟨rfl, n2, rfl⟩
    rw [cmpV_yes HT.out.1, HC.out.1]
    have HS2 : Hid (SliceI (w1.drewN n2) (.slice a1 xs.length cap1) (Vecs.tick xs k)) := Lib.hid (by rw [← Vecs.tick_len xs k]; exact HS1.out.drewN n2)
    have HX2 := Lib.hid (HX1.out.drewN n2)
    have HB2 := Lib.hid (grew HB1.out (grew_drewN w1 n2))
    generalize w1.drewN n2 = w2 at *
    clear HS1 HX1 HB1
    go_wp2_with fail
    refine (vec_Compare _ _ xs (Vecs.tick xs k) _ HX2.out HS2.out hlx (by rw [Vecs.tick_len]; exact hlx)).mono ?_
    rintro e w3 ⟨rfl, n3, rfl⟩
    rw [cmpV_yes HT.out.2, HC.out.2]
    have HS3 := Lib.hid (HS2.out.drewN n3)
    have HX3 := Lib.hid (HX2.out.drewN n3)
    have HB3 := Lib.hid (grew HB2.out (grew_drewN w2 n3))
    generalize w2.drewN n3 = w3 at *
    clear HS2 HX2 HB2
    go_wp2_with fail
    refine (vec_Join _ _ xs (Vecs.tick xs k) _ HX3.out HS3.out hlx (by rw [Vecs.tick_len]; exact hlx)).mono ?_
    rintro e w4 ⟨r, rfl, ho, hb4⟩
    rw [show joinR xs (Vecs.tick xs k) = (Vecs.tick xs k, 0) from by unfold joinR; rw [if_pos HT.out.2, HJ.out]] at ho
    obtain ⟨v4, rfl, hs4⟩ := ho
    have HJ4 := Lib.hid hs4
    have HS4 := Lib.hid (HS3.out.below hb4)
    have HX4 := Lib.hid (HX3.out.below hb4)
    have HB4 := Lib.hid (grew HB3.out hb4)
    have hok := Vecs.may_ok hm k hk
    have h16 := (Vecs.may_len hm).2
    have HM := Lib.hid hm
    have hlt2 : k < (Vecs.tick xs k).length := by rw [Vecs.tick_len]; exact hk
    have HTK : Hid ((Vecs.tick xs k)[k] = xs[k] + 1) := Lib.hid (by rw [Vecs.tick_at hk, if_pos rfl])
    obtain ⟨b0, o0, rfl, hca⟩ : ∃ b off, a0 = some ⟨b, off, none⟩ ∧ w4.cell? ⟨b, off + k, none⟩ = some (.int .i64 xs[k]) := by
      obtain ⟨a, c, e, _, hrow⟩ := HX4.out
      injection e with e1 e2 e3
      subst e1
      exact SliceI.at (cap := c) hrow hk
    obtain ⟨b1, o1, rfl, hcb⟩ : ∃ b off, a1 = some ⟨b, off, none⟩ ∧ w4.cell? ⟨b, off + k, none⟩ = some (.int .i64 (xs[k] + 1)) := by
      obtain ⟨a, c, e, _, hrow⟩ := HS4.out
      injection e with e1 e2 e3
      subst e1
      rw [← HTK.out]
      exact SliceI.at (cap := c) hrow hlt2
    clear hs4 hb4 hm HT HC HJ HTK hz HB3 HS3 HX3
    have HV1 := Lib.hid HV.out.1
    have HV2 := Lib.hid HV.out.2
    clear HV
    generalize hxk : xs[k] = x at *
    clear hxk
    have hwr : IntKind.i64.wrap (x + 1) = x + 1 := IntWalk.i64_in _ (by omega)
    go_wp2_with fail
    go_region_held3 (fun w' => w'.cell? ⟨b0, o0 + k, none⟩ = some (.int .i64 x) ∧ w'.cell? ⟨b1, o1 + k, none⟩ = some (.int .i64 (x + 1)))
      (first | exact ⟨hca, hcb⟩ | exact ⟨hca5, hcb5⟩ | exact ⟨hca8, hcb8⟩)
      (first
        | (go_at_call 18; refine (ref01_Same _ _ (Vecs.tick xs k) (Vecs.tick xs k) _ (HJ4.out.below (grew_drew _)) (HS4.out.below (grew_drew _)) (by rw [Vecs.tick_len]; omega) (by rw [Vecs.tick_len]; omega)).mono ?_; rintro e w5 ⟨rfl, hb5⟩; rw [show decide (Vecs.tick xs k = Vecs.tick xs k) = true from decide_eq_true rfl]; have hca5 := (hb5.cell (p := ⟨b0, o0 + k, none⟩) (block_lt_of_cell hca)).trans hca; have hcb5 := (hb5.cell (p := ⟨b1, o1 + k, none⟩) (block_lt_of_cell hcb)).trans hcb; have HX5 := Lib.hid ((HX4.out.below (grew_drew _)).below hb5); have HS5 := Lib.hid ((HS4.out.below (grew_drew _)).below hb5); have HB5 := Lib.hid (grew HB4.out (grew (grew_drew _) hb5)); clear hb5)
        | (go_at_call 21; with_reducible refine (vec_Covers (.slice (some ⟨b1, o1, none⟩) xs.length cap1) (Vecs.tick xs k) k (x + 1) _ HS5.out (by rw [Vecs.tick_len]; omega)).mono ?_; rintro e w6 ⟨rfl, rfl⟩; rw [HV1.out])
        | (go_at_call 21; with_reducible refine (vec_Covers (.slice (some ⟨b0, o0, none⟩) xs.length cap0) xs k (x + 1) _ HX5.out (by omega)).mono ?_; rintro e w6 ⟨rfl, rfl⟩; rw [HV2.out])
        | (go_at_call 9; refine (law06_live _).mono ?_; rintro e w8 ⟨rfl, hb8⟩; have hca8 := (hb8.cell (p := ⟨b0, o0 + k, none⟩) (block_lt_of_cell hca5)).trans hca5; have hcb8 := (hb8.cell (p := ⟨b1, o1 + k, none⟩) (block_lt_of_cell hcb5)).trans hcb5; have HB8 := Lib.hid (grew HB5.out hb8); clear hb8))
    go_wp2
    go_ret
    exact ⟨rfl, HB8.out⟩
end Go.Proofs.Ytbbjoaennnopoaa
