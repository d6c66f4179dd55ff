/- What one site tells is its row: the walk. -/
import Derived.Test.YtlgkamgdkgbmgaaFrOne1
import Derived.Test.YtlgkamgdkgbmgaaQLater
import Derived.Deep.RegionHeld3
namespace Go.Proofs.Ytlgkamgdkgbmgaa
open Go.RowKit
set_option linter.unusedVariables false

set_option maxRecDepth 100000 in
set_option maxHeartbeats 8000000 in
theorem walk_FrontOne (s : Int) (o q : FOp) (w : World) (hs : (Lit.int .i64 s).wf = true) (ho : o.ok w) (hq : q.ok w) :
    Calls Try.prog 3 #[.int .i64 s, .agg o.cells.toArray, .agg q.cells.toArray] w fun e w' => e = .returned (.bool true) ∧ Below w.heap.size w w' := by
  obtain ⟨s1, u1, zs1⟩ := o
  obtain ⟨s2, u2, zs2⟩ := q
  obtain ⟨hu1, hm1⟩ := ho
  obtain ⟨hu2, hm2⟩ := hq
  simp only at hu1 hm1 hu2 hm2
  have HU1 := Lib.hid hu1
  have HU2 := Lib.hid hu2
  obtain ⟨a1, c1, rfl⟩ := hu1.shape
  obtain ⟨a2, c2, rfl⟩ := hu2.shape
  have HM1 := Lib.hid hm1
  have HM2 := Lib.hid hm2
  clear hu1 hu2 hs hm1 hm2
  unfold FOp.cells
  simp only
  have HB := Lib.hid (grew (grew_alloc w (.cells #[.int .i64 s1, .slice a1 zs1.length c1] 24)) (grew_alloc (w.alloc (.cells #[.int .i64 s1, .slice a1 zs1.length c1] 24)) (.cells #[.int .i64 s2, .slice a2 zs2.length c2] 24)))
  have HX : Hid (Holds ((w.alloc (.cells #[.int .i64 s1, .slice a1 zs1.length c1] 24)).alloc (.cells #[.int .i64 s2, .slice a2 zs2.length c2] 24)) w.heap.size [.int .i64 s1, .slice a1 zs1.length c1] 24) := Lib.hid ((Holds.new w [.int .i64 s1, .slice a1 zs1.length c1] 24).keep (Keep.alloc Non _ _) (fun h => h))
  have HY : Hid (Holds ((w.alloc (.cells #[.int .i64 s1, .slice a1 zs1.length c1] 24)).alloc (.cells #[.int .i64 s2, .slice a2 zs2.length c2] 24)) (w.heap.size + 1) [.int .i64 s2, .slice a2 zs2.length c2] 24) := Lib.hid (by
    have := Holds.new (w.alloc (.cells #[.int .i64 s1, .slice a1 zs1.length c1] 24)) [.int .i64 s2, .slice a2 zs2.length c2] 24
    rwa [World.size_alloc] at this)
  by_cases hn : 1 ≤ s ∧ s ≤ 16
  · obtain ⟨n, rfl⟩ : ∃ n : Nat, s = n := ⟨s.toNat, by omega⟩
    have hnn : 1 ≤ n ∧ n ≤ 16 := by omega
    clear hn
    go_enter Try.func3, Try.ntmps3
    go_wp2_with fail
    generalize ((w.alloc (.cells #[.int .i64 s1, .slice a1 zs1.length c1] 24)).alloc (.cells #[.int .i64 s2, .slice a2 zs2.length c2] 24)) = W0 at *
    refine (front_New_yes n _ hnn).mono ?_
    rintro e w1 ⟨p, rb, vs, rfl, hf, hpr, hb⟩
    have HOR : Hid (Front.Ok (List.replicate n (List.replicate n 0))) := Lib.hid ⟨hf.may, hf.sites.1⟩
    have H : Hid (FLive W0 p (List.replicate n (List.replicate n 0)) w1) := Lib.hid ⟨rb, n, vs, hf, hpr.2, hb⟩
    have x0 : w1.cell? ⟨w.heap.size, 0, none⟩ = some (.int .i64 s1) := by rw [hb.cell (p := ⟨w.heap.size, 0, none⟩) HX.out.lt]; exact HX.out.cell 0 (by simp)
    have x1 : w1.cell? ⟨w.heap.size, 1, none⟩ = some (.slice a1 zs1.length c1) := by rw [hb.cell (p := ⟨w.heap.size, 1, none⟩) HX.out.lt]; exact HX.out.cell 1 (by simp)
    have y1 : w1.cell? ⟨w.heap.size + 1, 1, none⟩ = some (.slice a2 zs2.length c2) := by rw [hb.cell (p := ⟨w.heap.size + 1, 1, none⟩) HY.out.lt]; exact HY.out.cell 1 (by simp)
    clear hf hpr hb
    by_cases h1 : 30 < zs1.length
    · have d1 : decide ((30 : Int) < (zs1.length : Int)) = true := decide_eq_true (by omega)
      go_wp2_with fail
      refine (law09_live _).mono ?_
      rintro e w3 ⟨rfl, hb3⟩
      have HB3 := Lib.hid (grew HB.out (grew H.out.bel hb3))
      clear hb3
      go_wp2
      go_ret
      exact ⟨rfl, HB3.out⟩
    · have d1 : decide ((30 : Int) < (zs1.length : Int)) = false := decide_eq_false (by omega)
      by_cases h2 : 30 < zs2.length
      · have d2 : decide ((30 : Int) < (zs2.length : Int)) = true := decide_eq_true (by omega)
        go_wp2_with fail
        refine (law09_live _).mono ?_
        rintro e w3 ⟨rfl, hb3⟩
        have HB3 := Lib.hid (grew HB.out (grew H.out.bel hb3))
        clear hb3
        go_wp2
        go_ret
        exact ⟨rfl, HB3.out⟩
      · have d2 : decide ((30 : Int) < (zs2.length : Int)) = false := decide_eq_false (by omega)
        go_wp2_with fail
        have HUP := Lib.hid (Front.hear_up HOR.out s1 zs1)
        have HHE := Lib.hid (fun (h : SliceI w1 (.slice a1 zs1.length c1) zs1) => flive_Hear2 H.out s1 _ zs1 h HM1.out)
        generalize Front.hear (List.replicate n (List.replicate n 0)) s1 zs1 = q1 at HUP HHE
        refine (HHE.out (HU1.out.below (grew HB.out H.out.bel))).mono ?_
        rintro e w2 ⟨rfl, hl, hkeep⟩
        obtain ⟨er1, rows1⟩ := q1
        simp only at HUP hl
        have HN1 : Hid (rows1.length = n) := Lib.hid (by rw [HUP.out.2.1, List.length_replicate])
        have HR0 := Lib.hid (RowsW.nil hl)
        have HOK1 := Lib.hid HUP.out.1
        clear hl hkeep x0 x1 y1 HHE HUP
        go_wp2_with fail
        go_loopw [9, 10] (fun V i wr => ∃ k : Nat, k ≤ n ∧ i = .int .i64 k ∧ ∃ us, RowsW W0 p rows1 V us (rows1.take k) wr) (fun _ i _ => n - (intOf i).toNat)
        case atStart => exact ⟨0, by omega, rfl, [], by rw [List.take_zero]; exact HR0.out⟩
        case round =>
          obtain ⟨k, hk, rfl, us, hR⟩ := hrel
          have HR := Lib.hid hR
          obtain ⟨va, vc, e⟩ := hR.shape
          have hul : us.length = k := by rw [hR.len, List.length_take, HN1.out]; omega
          rw [hul] at e
          have HUL := Lib.hid hul
          clear hR hul
          subst e
          by_cases hlt : k < n
          · have e1 : decide ((k : Int) < (n : Int)) = true := decide_eq_true (by omega)
            have hkr : k < rows1.length := by rw [HN1.out]; exact hlt
            have HRW := Lib.hid (fun (h : FLive W0 p rows1 wr) => by
              obtain ⟨rb, rc, vs, h1, _⟩ := h
              exact front_Row h1 k hkr)
            have HJL : Hid (rows1[k].length = n) := Lib.hid (by rw [Front.rl HOK1.out hkr, HN1.out])
            have HTK : Hid (rows1.take (k + 1) = rows1.take k ++ [rows1[k]]) := Lib.hid (List.take_succ_eq_append_getElem hkr)
            generalize rows1[k] = row at HRW HJL HTK
            clear hkr
            go_wp2_with fail
            refine (HRW.out HR.out.live).mono ?_
            rintro e w3 ⟨v3, rfl, hs3, hnew, hb3⟩
            have HR3 := Lib.hid (HR.out.grew hb3)
            have HS3 := Lib.hid hs3
            have HNW : Hid (∀ g, (Value.slice va k vc).ownBlock = some g → v3.ownBlock ≠ some g) := Lib.hid (fun g hg e => by
              obtain ⟨_, _, _, _, _, _, ho, _⟩ := HR.out
              have h1 := Owns.lt ho hg
              have h2 := hnew g e
              omega)
            obtain ⟨ra, rc, e⟩ := hs3.shape
            rw [HJL.out] at e
            subst e
            clear hs3 hnew hb3
            have HOW : Hid (Owns w3 22 1 (.slice va k vc) k us) := Lib.hid (by
              obtain ⟨_, _, _, _, _, _, ho, _⟩ := HR3.out
              rw [HUL.out] at ho
              exact ho)
            go_wp2_with (at_builtin; refine wp_append_lit rfl (.tmp 46) (.tmp 50) rfl Try.underlying31 info_ints rfl (by decide) (by decide) _ k us rfl HOW.out 1 [.slice ra n rc] _ rfl rfl rfl (by simp [Value.oneCell']) (by omega) ?_; intro v4 w4 ho4 hk4 hn4)
            go_roundw
            case rel => exact ⟨k + 1, by omega, by go_num, us ++ [.slice ra n rc], by rw [HTK.out]; exact RowsW.append HR3.out HS3.out (by rw [HJL.out]; exact hnn.1) HNW.out (by rw [HUL.out]; exact ho4) hk4 hn4⟩
            case measure => simp [intOf]; omega
          · have e1 : decide ((k : Int) < (n : Int)) = false := decide_eq_false (by omega)
            have hkn : k = n := by omega
            subst hkn
            have HRF : Hid (RowsW W0 p rows1 (.slice va k vc) us rows1 wr) := Lib.hid (by have := HR.out; rwa [List.take_of_length_le (by rw [HN1.out]; omega)] at this)
            have y0 : wr.cell? ⟨w.heap.size + 1, 0, none⟩ = some (.int .i64 s2) := by rw [HR.out.live.bel.cell (p := ⟨w.heap.size + 1, 0, none⟩) HY.out.lt]; exact HY.out.cell 0 (by simp)
            have y1 : wr.cell? ⟨w.heap.size + 1, 1, none⟩ = some (.slice a2 zs2.length c2) := by rw [HR.out.live.bel.cell (p := ⟨w.heap.size + 1, 1, none⟩) HY.out.lt]; exact HY.out.cell 1 (by simp)
            obtain ⟨g, cap, eV, hcall⟩ := rows_Hear HRF.out (by rw [HN1.out]; exact hnn.1) s2 (.slice a2 zs2.length c2) zs2 (HU2.out.below (grew HB.out HR.out.live.bel)) HM2.out
            have HON := Lib.hid (Front.hear_one HOK1.out s2 zs2 _ rfl)
            have HUP2 := Lib.hid (Front.hear_up HOK1.out s2 zs2)
            have HCL := Lib.hid hcall
            clear hcall
            generalize Front.hear rows1 s2 zs2 = q2 at HON HUP2 HCL
            injection eV with e2 e3 e4
            subst e2
            subst e4
            clear e3 HR HRF
            go_wp2_with fail
            refine (HCL.out).mono ?_
            rintro e w5 ⟨rfl, hG⟩
            obtain ⟨er, rows2⟩ := q2
            simp only at hG HON HUP2
            have HG := Lib.hid hG
            have HN2 : Hid (rows2.length = k) := Lib.hid (by rw [HUP2.out.2.1, HN1.out])
            have HOK2 := Lib.hid HUP2.out.1
            clear hG y0 y1 HCL HUP2
            go_wp2_with fail
            go_loopw [12] (fun i wv => ∃ j : Nat, j ≤ k ∧ i = .int .i64 j ∧ GotW W0 p rows2 g rows1 wv) (fun i _ => k - (intOf i).toNat)
            case atStart => exact ⟨0, by omega, rfl, HG.out⟩
            case round =>
              obtain ⟨j, hj, rfl, hG⟩ := hrel
              have HG := Lib.hid hG
              clear hG
              have y0 : wr.cell? ⟨w.heap.size + 1, 0, none⟩ = some (.int .i64 s2) := by rw [HG.out.1.bel.cell (p := ⟨w.heap.size + 1, 0, none⟩) HY.out.lt]; exact HY.out.cell 0 (by simp)
              have y1 : wr.cell? ⟨w.heap.size + 1, 1, none⟩ = some (.slice a2 zs2.length c2) := by rw [HG.out.1.bel.cell (p := ⟨w.heap.size + 1, 1, none⟩) HY.out.lt]; exact HY.out.cell 1 (by simp)
              by_cases hjn : j < k
              · have e1 : decide ((j : Int) < (k : Int)) = true := decide_eq_true (by omega)
                have hja : (j : Int) < (k : Int) := by omega
                by_cases hor : (j : Int) ≠ s2 ∨ er ≠ 0
                · have hj1 : j < rows1.length := by rw [HN1.out]; exact hjn
                  have hj2 : j < rows2.length := by rw [HN2.out]; exact hjn
                  have HEQ := Lib.hid (HON.out.1 j hj2 hj1 hor)
                  obtain ⟨u, z0, hu⟩ := HG.out.2.2 j hj1
                  have HUU := Lib.hid hu
                  have HRW := Lib.hid (fun W (h : FLive W0 p rows2 W) => flive_of h (l := rows2[j]) (fun _ _ _ hh => (front_Row hh j hj2).mono fun e w' ⟨v, k1, k2, _, k3⟩ => ⟨v, k1, k2, k3⟩))
                  have HJL : Hid (rows2[j].length = k) := Lib.hid (by rw [Front.rl HOK2.out hj2, HN2.out])
                  rw [← HEQ.out] at HUU
                  obtain ⟨ua, uc, e⟩ := HUU.out.shape
                  rw [HJL.out] at e
                  subst e
                  generalize rows2[j] = row at HRW HJL HUU HEQ
                  clear hu hj1 hj2 HEQ
                  have HSM := Lib.hid (fun W v h1 h2 => ref01_Same v (.slice ua k uc) row row W h1 h2 (by rw [HJL.out]; omega) (by rw [HJL.out]; omega))
                  rw [same_yes] at HSM
                  by_cases hjs : (j : Int) = s2
                  · have her : er ≠ 0 := by omega
                    have n1 : ((j : Int) != s2) = false := by simp [hjs]
                    have n2 : (er != 0) = true := by simp [her]
                    have n3 : ((j : Int) == s2) = true := by simp [hjs]
                    have n4 : (er == 0) = false := by simp [her]
                    have n5 : decide ((j : Int) = s2) = true := decide_eq_true hjs
                    have n6 : decide (er = 0) = false := decide_eq_false her
                    clear hjs her hor
                    go_wp2_with fail
                    go_region_held3 (fun w' => w'.cell? ⟨w.heap.size + 1, 0, none⟩ = some (.int .i64 s2) ∧ w'.cell? ⟨g, j, none⟩ = some (.slice ua k uc))
                      (first | exact ⟨y0, z0⟩ | exact ⟨y0', z0'⟩ | exact ⟨y0'', z0''⟩)
                      (first
                        | (go_at_call 8; refine (HRW.out _ (HG.out.1.grew (grew_drew _))).mono ?_; rintro e w6 ⟨v6, rfl, hs6, _, hb6⟩; have HG6 := Lib.hid (HG.out.grew (grew (grew_drew _) hb6)); have HS6 := Lib.hid hs6; have HU6 := Lib.hid (HUU.out.below (grew (grew_drew _) hb6)); have y0' := ((grew (grew_drew _) hb6).cell (p := ⟨w.heap.size + 1, 0, none⟩) (Nat.lt_of_lt_of_le HY.out.lt HG.out.1.bel.size)).trans y0; have z0' := ((grew (grew_drew _) hb6).cell (p := ⟨g, j, none⟩) HG.out.2.1).trans z0; clear hs6 hb6)
                        | (go_at_call 9; refine (HSM.out _ _ HS6.out HU6.out).mono ?_; rintro e w7 ⟨rfl, hb7⟩; have HG7 := Lib.hid (HG6.out.grew hb7); have y0'' := (hb7.cell (p := ⟨w.heap.size + 1, 0, none⟩) (Nat.lt_of_lt_of_le HY.out.lt HG6.out.1.bel.size)).trans y0'; have z0'' := (hb7.cell (p := ⟨g, j, none⟩) HG6.out.2.1).trans z0'; clear hb7))
                    go_wp2
                    go_roundw
                    case rel => exact ⟨j + 1, by omega, by go_num, HG7.out⟩
                    case measure => simp [intOf]; omega
                  · have n1 : ((j : Int) != s2) = true := by simp [hjs]
                    have n3 : ((j : Int) == s2) = false := by simp [hjs]
                    have n5 : decide ((j : Int) = s2) = false := decide_eq_false hjs
                    clear hjs hor
                    go_wp2_with fail
                    first
                    | (go_region_with (first
                        | (go_at_call 8; refine (HRW.out _ (HG.out.1.grew (grew_drew _))).mono ?_; rintro e w6 ⟨v6, rfl, hs6, _, hb6⟩; have HG6 := Lib.hid (HG.out.grew (grew (grew_drew _) hb6)); have HS6 := Lib.hid hs6; have HU6 := Lib.hid (HUU.out.below (grew (grew_drew _) hb6)); have y0' := ((grew (grew_drew _) hb6).cell (p := ⟨w.heap.size + 1, 0, none⟩) (Nat.lt_of_lt_of_le HY.out.lt HG.out.1.bel.size)).trans y0; have z0' := ((grew (grew_drew _) hb6).cell (p := ⟨g, j, none⟩) HG.out.2.1).trans z0; clear hs6 hb6)
                        | (go_at_call 9; refine (HSM.out _ _ HS6.out HU6.out).mono ?_; rintro e w7 ⟨rfl, hb7⟩; have HG7 := Lib.hid (HG6.out.grew hb7); have y0'' := (hb7.cell (p := ⟨w.heap.size + 1, 0, none⟩) (Nat.lt_of_lt_of_le HY.out.lt HG6.out.1.bel.size)).trans y0'; have z0'' := (hb7.cell (p := ⟨g, j, none⟩) HG6.out.2.1).trans z0'; clear hb7)))
                    | fail
                    all_goals
                      go_wp2
                      go_roundw
                      case rel => exact ⟨j + 1, by omega, by go_num, HG7.out⟩
                      case measure => simp [intOf]; omega
                · have hjs : (j : Int) = s2 := Decidable.byContradiction (fun h => hor (.inl h))
                  have her : er = 0 := Decidable.byContradiction (fun h => hor (.inr h))
                  have n1 : ((j : Int) != s2) = false := by simp [hjs]
                  have n2 : (er != 0) = false := by simp [her]
                  have n3 : ((j : Int) == s2) = true := by simp [hjs]
                  have n4 : (er == 0) = true := by simp [her]
                  have n5 : decide ((j : Int) = s2) = true := decide_eq_true hjs
                  have n6 : decide (er = 0) = true := decide_eq_true her
                  clear hjs her hor
                  go_wp2_with fail
                  go_quiet (fail)
                  go_wp2
                  go_roundw
                  case rel => exact ⟨j + 1, by omega, by go_num, HG.out.grew (grew_drewN _ _)⟩
                  case measure => simp [intOf]; omega
              · have e1 : decide ((j : Int) < (k : Int)) = false := decide_eq_false (by omega)
                by_cases her : er = 0
                · obtain ⟨i2, hi2, hzl, hi3, hbl⟩ := HON.out.2 her
                  subst hi2
                  subst her
                  have HBL := Lib.hid hbl
                  have HRW := Lib.hid (fun W (h : FLive W0 p rows2 W) => flive_of h (l := rows2[i2]) (fun _ _ _ hh => (front_Row hh i2 hi3).mono fun e w' ⟨v, k1, k2, _, k3⟩ => ⟨v, k1, k2, k3⟩))
                  have HJL : Hid (rows2[i2].length = k) := Lib.hid (by rw [Front.rl HOK2.out hi3, HN2.out])
                  have HZL : Hid (zs2.length = k) := Lib.hid (by rw [hzl, HN1.out])
                  have HU := Lib.hid (HU2.out.below (grew HB.out HG.out.1.bel))
                  generalize rows2[i2] = row at HRW HJL HBL
                  clear hbl hi3 hzl
                  go_wp2_with fail
                  go_region_held3 (fun w' => w'.cell? ⟨w.heap.size + 1, 0, none⟩ = some (.int .i64 i2) ∧ w'.cell? ⟨w.heap.size + 1, 1, none⟩ = some (.slice a2 zs2.length c2))
                    (first | exact ⟨y0, y1⟩ | exact ⟨y0', y1'⟩ | exact ⟨y0'', y1''⟩ | exact ⟨y03, y13⟩)
                    (first
                      | (go_at_call 8; refine (HRW.out _ (HG.out.1.grew (grew_drew _))).mono ?_; rintro e w6 ⟨v6, rfl, hs6, _, hb6⟩; have HG6 := Lib.hid (HG.out.grew (grew (grew_drew _) hb6)); have HS6 := Lib.hid hs6; have HU6 := Lib.hid (HU.out.below (grew (grew_drew _) hb6)); have y0' := ((grew (grew_drew _) hb6).cell (p := ⟨w.heap.size + 1, 0, none⟩) (Nat.lt_of_lt_of_le HY.out.lt HG.out.1.bel.size)).trans y0; have y1' := ((grew (grew_drew _) hb6).cell (p := ⟨w.heap.size + 1, 1, none⟩) (Nat.lt_of_lt_of_le HY.out.lt HG.out.1.bel.size)).trans y1; clear hs6 hb6)
                      | (go_at_call 10; refine (ref06_Below _ _ zs2 row _ HU6.out HS6.out (by rw [HZL.out]; unfold maxLen; omega) (by rw [HJL.out]; unfold maxLen; omega)).mono ?_; rintro e w7 ⟨rfl, n7, rfl⟩; rw [HBL.out]; have HG7 := Lib.hid (HG6.out.grew (grew_drewN _ n7)); have y0'' := ((grew_drewN _ n7).cell (p := ⟨w.heap.size + 1, 0, none⟩) (Nat.lt_of_lt_of_le HY.out.lt HG6.out.1.bel.size)).trans y0'; have y1'' := ((grew_drewN _ n7).cell (p := ⟨w.heap.size + 1, 1, none⟩) (Nat.lt_of_lt_of_le HY.out.lt HG6.out.1.bel.size)).trans y1')
                      | (go_at_call 6; refine (law09_live _).mono ?_; rintro e w8 ⟨rfl, hb8⟩; have HG8 := Lib.hid (HG7.out.grew hb8); have y03 := (hb8.cell (p := ⟨w.heap.size + 1, 0, none⟩) (Nat.lt_of_lt_of_le HY.out.lt HG7.out.1.bel.size)).trans y0''; have y13 := (hb8.cell (p := ⟨w.heap.size + 1, 1, none⟩) (Nat.lt_of_lt_of_le HY.out.lt HG7.out.1.bel.size)).trans y1''; clear hb8))
                  go_wp2
                  go_ret
                  exact ⟨rfl, grew HB.out HG8.out.1.bel⟩
                · have n2 : (er != 0) = true := by simp [her]
                  have n4 : (er == 0) = false := by simp [her]
                  have n6 : decide (er = 0) = false := decide_eq_false her
                  clear her
                  go_wp2_with fail
                  have hne : Nonempty (Later wr) := ⟨⟨wr, Below.refl _ _⟩⟩
                  refine wp_region_later (by kernel_rfl) (by kernel_rfl) ?_
                  repeat (go_big_quiet_step ((go_at_call 6; exact Calls.later (law09_live _))))
                  refine wpQuiet_nil ?_
                  intro _ hw'
                  obtain ⟨⟨w8, hb8⟩, hw8⟩ := hw'
                  subst hw8
                  have HB8 := Lib.hid (grew HB.out (grew HG.out.1.bel hb8))
                  clear hb8
                  go_wp2
                  go_ret
                  exact ⟨rfl, HB8.out⟩
  · go_enter Try.func3, Try.ntmps3
    go_wp2_with fail
    refine (front_New_no s _ hn).mono ?_
    rintro e w1 ⟨rfl, hb1⟩
    go_wp2_with fail
    refine (law09_live _).mono ?_
    rintro e w3 ⟨rfl, hb3⟩
    go_wp2
    go_ret
    exact ⟨rfl, grew HB.out (grew hb1 hb3)⟩
end Go.Proofs.Ytlgkamgdkgbmgaa
