/- What is stable never goes back: the walk. -/
import Derived.Test.YteooganpnmfkbaaFrMath
import Derived.Test.YteooganpnmfkbaaSliceG
namespace Go.Proofs.Yteooganpnmfkbaa
open Go.RowKit
set_option linter.unusedVariables false

theorem ref06_Zero_own (n : Nat) (w : World) (hn : n ≤ 1000000) :
    Calls Try.prog 28 #[.int .i64 (n : Int)] w fun e w' => ∃ r, e = .returned r ∧ OwnsI w' w.heap.size r (List.replicate n 0) ∧ Below w.heap.size w w' := by
  go_enter Try.func28, Try.ntmps28
  go_wp2
  go_loopw [3, 4] (fun r i wr => ∃ k : Nat, k ≤ n ∧ i = .int .i64 k ∧ OwnsI wr w.heap.size r (List.replicate k 0) ∧ Below w.heap.size w wr) (fun _ i _ => n - (intOf i).toNat)
  case atStart => exact ⟨0, by omega, rfl, OwnsI.nil _ _, Below.refl _ _⟩
  case round =>
    obtain ⟨k, hk, rfl, hown, hbel⟩ := hrel
    have HO := Lib.hid hown
    have HB := Lib.hid hbel
    clear hown hbel
    by_cases hlt : k < n
    · have hdk : decide ((k : Int) < (n : Int)) = true := decide_eq_true (by omega)
      have hdn : decide (k < n) = true := decide_eq_true hlt
      go_wp2_with (at_builtin; refine wp_append_int rfl (.tmp 10) (.tmp 11) rfl w.heap.size _ _ _ rfl rfl HO.out HB.out.size (by rw [List.length_replicate]; omega) ?_; intro v1 w1 ho1 hk1)
      go_roundw
      case rel => exact ⟨k + 1, by omega, by go_num, by rw [List.replicate_succ']; exact ho1, HB.out.trans hk1⟩
      case measure => simp [intOf]; omega
    · have hdk : decide ((k : Int) < (n : Int)) = false := decide_eq_false (by omega)
      have hdn : decide (k < n) = false := decide_eq_false hlt
      obtain rfl : k = n := by omega
      go_wp2
      go_ret
      exact ⟨_, rfl, HO.out, HB.out⟩

/-- Hear leaves each list of numbers as it was. -/
theorem flive_Hear2 {w0 w : World} {p : Nat} {rows : List (List Int)} (h : FLive w0 p rows w) (s : Int) (v : Value) (zs : List Int) (hv : SliceI w v zs) (hm : zs.length ≤ maxLen) : Calls Try.prog 17 #[.pointer (some ⟨p, 0, none⟩), .int .i64 s, v] w fun e w' => e = .returned (.int .i64 (Front.hear rows s zs).1) ∧ FLive w0 p (Front.hear rows s zs).2 w' ∧ ∀ u ns, SliceI w u ns → 1 ≤ ns.length → SliceI w' u ns := by
  obtain ⟨rb, rc, vs, h1, h2, h3⟩ := h
  exact (front_Hear h1 s v zs hv hm).mono fun e w' ⟨k1, vs', k2, k3⟩ => ⟨k1, ⟨rb, rc, vs', k2, h2, h3.trans (k3.below h3.size (fun i e => by have e : i = rb := e; rw [e]; exact h2))⟩, fun u ns hu hl => hu.keep k3 (fun g hg e => hu.no_row hl h1.row h1.slices (hg.trans (congrArg some e)))⟩

/-- Where the loop over the script stands. -/
def OnW (w : World) (p n : Nat) (was : Value) (wr : World) : Prop := ∃ rows zs, FLive w p rows wr ∧ Front.Ok rows ∧ rows.length = n ∧ SliceI wr was zs ∧ zs.length = n ∧ Vecs.below zs (Front.all Vecs.meet rows) = true

set_option maxRecDepth 100000 in
set_option maxHeartbeats 6000000 in
theorem walk_FrontOnward (s : Int) (v : Value) (os : List FOp) (w : World) (hs : (Lit.int .i64 s).wf = true) (hx : SliceG 2 FOp.cells w v os ∧ os.length ≤ maxLen ∧ ∀ o ∈ os, FOp.ok w o) :
    Calls Try.prog 5 #[.int .i64 s, v] w fun e w' => e = .returned (.bool true) ∧ Below w.heap.size w w' := by
  obtain ⟨hv, hm, hok⟩ := hx
  have HV := Lib.hid hv
  have HOK := Lib.hid hok
  obtain ⟨va, vc, rfl⟩ := hv.shape
  unfold maxLen at hm
  clear hv hs hok
  by_cases hn : 1 ≤ s ∧ s ≤ 16
  · obtain ⟨n, rfl⟩ : ∃ n : Nat, s = n := ⟨s.toNat, by omega⟩
    have hnn : 1 ≤ n ∧ n ≤ 16 := by omega
    clear hn
    go_enter Try.func5, Try.ntmps5
    go_wp2_with fail
    refine (front_New_yes n _ hnn).mono ?_
    rintro e w1 ⟨p, rb, vs, rfl, hf, hpr, hb⟩
    have HOR : Hid (Front.Ok (List.replicate n (List.replicate n 0))) := Lib.hid ⟨hf.may, hf.sites.1⟩
    have H : Hid (FLive w p (List.replicate n (List.replicate n 0)) w1) := Lib.hid ⟨rb, n, vs, hf, hpr.2, hb⟩
    clear hf hpr hb
    go_wp2_with fail
    refine (ref06_Zero_own n _ (by omega)).mono ?_
    rintro e w2 ⟨r2, rfl, ho, hb⟩
    obtain ⟨za, zc, e⟩ := ho.slice.shape
    rw [List.length_replicate] at e
    subst e
    have HL : Hid (OnW w p n (.slice za n zc) w2) := Lib.hid ⟨_, List.replicate n 0, H.out.grew hb, HOR.out, List.length_replicate, ho.slice, List.length_replicate, by rw [Front.all_same (Front.meet_self _) n hnn.1]; exact Front.b_refl _⟩
    clear ho hb
    go_wp2_with fail
    go_loopw [7, 8] (fun was i wr => ∃ k : Nat, k ≤ os.length ∧ k ≤ 60 ∧ i = .int .i64 k ∧ OnW w p n was wr) (fun _ i _ => 60 - (intOf i).toNat)
    case atStart => exact ⟨0, by omega, by omega, rfl, HL.out⟩
    case round =>
      obtain ⟨k, hk, hk60, rfl, rows, zs, hF, hOK, hrl, hwas, hzl, hbz⟩ := hrel
      have HF := Lib.hid hF
      have HR := Lib.hid hOK
      have HRL := Lib.hid hrl
      have HWAS := Lib.hid hwas
      have HBZ := Lib.hid hbz
      obtain ⟨wa, wc, e⟩ := hwas.shape
      rw [hzl] at e
      subst e
      have HZL := Lib.hid hzl
      clear hF hOK hrl hwas hzl hbz
      by_cases hlt : k < os.length ∧ k < 60
      · have d1 : decide ((k : Int) < (os.length : Int)) = true := decide_eq_true (by omega)
        have d2 : decide ((k : Int) < 60) = true := decide_eq_true (by omega)
        have hia : (k : Int) < (os.length : Int) := by omega
        obtain ⟨b, off, e, hbl, hc⟩ := HV.out.at hlt.1
        cases e
        have hov := HOK.out os[k] (List.getElem_mem hlt.1)
        have q0 : wr.cell? ⟨b, off + k * 2, none⟩ = some (.int .i64 os[k].site) := by rw [HF.out.bel.cell (p := ⟨b, off + k * 2, none⟩) hbl]; exact hc 0 _ rfl
        have q1 : wr.cell? ⟨b, off + k * 2 + 1, none⟩ = some os[k].u := by rw [HF.out.bel.cell (p := ⟨b, off + k * 2 + 1, none⟩) hbl]; exact hc 1 _ rfl
        generalize os[k] = o at hov q0 q1
        obtain ⟨site, u, vs⟩ := o
        obtain ⟨hu, hul⟩ := hov
        simp only at hu hul q0 q1
        obtain ⟨ua, uc, e⟩ := hu.shape
        subst e
        have HU := Lib.hid hu
        have HUL := Lib.hid hul
        clear hc hu hul
        by_cases h30 : 30 < vs.length
        · have d3 : decide ((30 : Int) < (vs.length : Int)) = true := decide_eq_true (by omega)
          go_wp2_with fail
          refine (law09_live _).mono ?_
          rintro e w3 ⟨rfl, hb3⟩
          have HB3 := Lib.hid (grew HF.out.bel hb3)
          clear hb3
          go_wp2
          go_ret
          exact ⟨rfl, HB3.out⟩
        · have d3 : decide ((30 : Int) < (vs.length : Int)) = false := decide_eq_false (by omega)
          have HUP := Lib.hid (Front.hear_up HR.out site vs)
          have HHE := Lib.hid (fun W (h : FLive w p rows W) (hs : SliceI W (.slice ua vs.length uc) vs) => flive_Hear2 h site _ vs hs HUL.out)
          generalize Front.hear rows site vs = q at HUP HHE
          go_wp2_with fail
          go_still_tail 11, (by kernel_rfl)
          change wpList _ _ _ _ _ (World.drew _)
          go_wp2_with fail
          refine (HHE.out _ (HF.out.grew (grew_drew _)) (HU.out.below (HF.out.grew (grew_drew _)).bel)).mono ?_
          rintro e w3 ⟨rfl, hl, hkeep⟩
          have HF3 := Lib.hid hl
          have HW3 := Lib.hid (hkeep _ _ (HWAS.out.below (grew_drew _)) (by rw [HZL.out]; exact hnn.1))
          clear hl hkeep q0 q1
          obtain ⟨er, rows3⟩ := q
          simp only at HUP HF3
          go_wp2_with fail
          have HST := Lib.hid (Front.st_len HUP.out.1)
          have HMO := Lib.hid (Front.mo_len HUP.out.1)
          have HN3 : Hid (rows3.length = n) := Lib.hid (by rw [HUP.out.2.1, HRL.out])
          have HBW := Lib.hid (Front.b_trans HBZ.out HUP.out.2.2 (by rw [HZL.out, Front.st_len HR.out, HRL.out]))
          have HLT := Lib.hid (Front.late_same_iff HUP.out.1)
          have HLOW := Lib.hid (fun i (hi : i < rows3.length) => Front.st_low HUP.out.1 hi)
          have HUPP := Lib.hid (fun i (hi : i < rows3.length) => Front.mo_up HUP.out.1 hi)
          refine (flive_of HF3.out (fun _ _ _ h => front_Stable h)).mono ?_
          rintro e w4 ⟨v4, rfl, hs4, hl4, hb4⟩
          have HF4 := Lib.hid hl4
          have HNOW := Lib.hid hs4
          have HW4 := Lib.hid (HW3.out.below hb4)
          obtain ⟨na, nc, e⟩ := hs4.shape
          rw [HST.out, HN3.out] at e
          subst e
          clear hs4 hl4 hb4
          go_wp2_with fail
          refine (flive_of HF4.out (fun _ _ _ h => front_Most h)).mono ?_
          rintro e w5 ⟨v5, rfl, hs5, hl5, hb5⟩
          have HF5 := Lib.hid hl5
          have HMST := Lib.hid hs5
          have HNOW := Lib.hid (HNOW.out.below hb5)
          have HW5 := Lib.hid (HW4.out.below hb5)
          obtain ⟨ma, mc, e⟩ := hs5.shape
          rw [HMO.out, HN3.out] at e
          subst e
          clear hs5 hl5 hb5
          generalize hnow : Front.all Vecs.meet rows3 = now at *
          have HNW := Lib.hid hnow
          clear hnow
          generalize Front.all Vecs.join rows3 = most at *
          go_wp2_with fail
          refine (ref06_Below _ _ zs now _ HW5.out HNOW.out (by rw [HZL.out]; unfold maxLen; omega) (by rw [HST.out, HN3.out]; unfold maxLen; omega)).mono ?_
          rintro e w6 ⟨rfl, nd, hw6⟩
          rw [HBW.out]
          have hb6 : Below w5.heap.size w5 w6 := by rw [hw6]; exact grew_drewN _ _
          have HF6 := Lib.hid (HF5.out.grew hb6)
          have HNOW := Lib.hid (HNOW.out.below hb6)
          have HMST := Lib.hid (HMST.out.below hb6)
          clear hb6 hw6
          go_wp2_with fail
          go_loopw [11] (fun i wv => ∃ j : Nat, j ≤ n ∧ i = .int .i64 j ∧ FLive w p rows3 wv ∧ SliceI wv (.slice na n nc) now ∧ SliceI wv (.slice ma n mc) most) (fun i _ => n - (intOf i).toNat)
          case atStart => exact ⟨0, by omega, rfl, HF6.out, HNOW.out, HMST.out⟩
          case round =>
            obtain ⟨j, hj, rfl, hF7, hN7, hM7⟩ := hrel
            have HF7 := Lib.hid hF7
            have HN7 := Lib.hid hN7
            have HM7 := Lib.hid hM7
            clear hF7 hN7 hM7
            by_cases hjn : j < n
            · have e1 : decide ((j : Int) < (n : Int)) = true := decide_eq_true (by omega)
              have hjr : j < rows3.length := by rw [HN3.out]; exact hjn
              have HRW := Lib.hid (fun W (h : FLive w p rows3 W) => flive_of h (l := rows3[j]) (fun _ _ _ hh => (front_Row hh j hjr).mono fun e w' ⟨v, k1, k2, _, k3⟩ => ⟨v, k1, k2, k3⟩))
              have HJL : Hid (rows3[j].length = n) := Lib.hid (by rw [Front.rl HUP.out.1 hjr, HN3.out])
              have HLO := Lib.hid (HLOW.out j hjr)
              have HHI := Lib.hid (HUPP.out j hjr)
              generalize rows3[j] = row at HRW HJL HLO HHI
              clear hjr
              go_wp2_with fail
              refine (HRW.out _ HF7.out).mono ?_
              rintro e w8 ⟨v8, rfl, hs8, hl8, hb8⟩
              have HF8 := Lib.hid hl8
              have HS8 := Lib.hid hs8
              have HN8 := Lib.hid (HN7.out.below hb8)
              have HM8 := Lib.hid (HM7.out.below hb8)
              obtain ⟨ra, rc, e⟩ := hs8.shape
              rw [HJL.out] at e
              subst e
              clear hs8 hl8 hb8
              go_wp2_with fail
              refine (ref06_Below _ _ now row _ HN8.out HS8.out (by rw [HST.out, HN3.out]; unfold maxLen; omega) (by rw [HJL.out]; unfold maxLen; omega)).mono ?_
              rintro e w9 ⟨rfl, nd9, hw9⟩
              rw [HLO.out]
              have hb9 : Below w8.heap.size w8 w9 := by rw [hw9]; exact grew_drewN _ _
              have HF9 := Lib.hid (HF8.out.grew hb9)
              have HN9 := Lib.hid (HN8.out.below hb9)
              have HM9 := Lib.hid (HM8.out.below hb9)
              clear hb9 hw9 HS8
              go_wp2_with fail
              refine (HRW.out _ HF9.out).mono ?_
              rintro e w10 ⟨v10, rfl, hs10, hl10, hb10⟩
              have HF10 := Lib.hid hl10
              have HS10 := Lib.hid hs10
              have HN10 := Lib.hid (HN9.out.below hb10)
              have HM10 := Lib.hid (HM9.out.below hb10)
              obtain ⟨ra2, rc2, e⟩ := hs10.shape
              rw [HJL.out] at e
              subst e
              clear hs10 hl10 hb10
              go_wp2_with fail
              refine (ref06_Below _ _ row most _ HS10.out HM10.out (by rw [HJL.out]; unfold maxLen; omega) (by rw [HMO.out, HN3.out]; unfold maxLen; omega)).mono ?_
              rintro e w11 ⟨rfl, nd11, hw11⟩
              rw [HHI.out]
              have hb11 : Below w10.heap.size w10 w11 := by rw [hw11]; exact grew_drewN _ _
              have HF11 := Lib.hid (HF10.out.grew hb11)
              have HN11 := Lib.hid (HN10.out.below hb11)
              have HM11 := Lib.hid (HM10.out.below hb11)
              clear hb11 hw11
              go_wp2
              go_roundw
              case rel => exact ⟨j + 1, by omega, by go_num, HF11.out, HN11.out, HM11.out⟩
              case measure => simp [intOf]; omega
            · have e1 : decide ((j : Int) < (n : Int)) = false := decide_eq_false (by omega)
              go_wp2_with fail
              refine (flive_of HF7.out (fun _ _ _ h => front_Late h)).mono ?_
              rintro e w8 ⟨v8, rfl, hs8, hl8, hb8⟩
              have HF8 := Lib.hid hl8
              have HN8 := Lib.hid (HN7.out.below hb8)
              have HM8 := Lib.hid (HM7.out.below hb8)
              obtain ⟨ra, rc, e⟩ := hs8.shape
              subst e
              clear hs8 hl8 hb8
              generalize (Front.late rows3).length = ll at *
              have HSM := Lib.hid (fun W h1 h2 => ref01_Same (.slice na n nc) (.slice ma n mc) now most W h1 h2 (by rw [HST.out, HN3.out]; omega) (by rw [HMO.out, HN3.out]; omega))
              by_cases hsm : now = most
              · have dl : decide ((ll : Int) = 0) = true := decide_eq_true (by have := HLT.out.2 hsm; omega)
                have hll0 : ll = 0 := HLT.out.2 hsm
                subst hll0
                rw [decide_eq_true hsm] at HSM
                clear hsm dl
                go_wp2_with fail
                refine (HSM.out _ HN8.out HM8.out).mono ?_
                rintro e w9 ⟨rfl, hb9⟩
                have HF9 := Lib.hid (HF8.out.grew hb9)
                have HN9 := Lib.hid (HN8.out.below hb9)
                clear hb9
                go_wp2
                refine ⟨⟨k + 1, by omega, by omega, by go_num, rows3, now, HF9.out, HUP.out.1, HN3.out, HN9.out, by rw [HST.out, HN3.out], by rw [HNW.out]; exact Front.b_refl _⟩, by simp [intOf]; omega⟩
              · have dl : decide ((ll : Int) = 0) = false := decide_eq_false (by intro e; exact hsm (HLT.out.1 (by omega)))
                have dl2 : ((ll : Int) == 0) = false := by rw [beq_eq_false_iff_ne]; intro e; exact hsm (HLT.out.1 (by omega))
                rw [decide_eq_false hsm] at HSM
                clear hsm
                go_wp2_with fail
                refine (HSM.out _ HN8.out HM8.out).mono ?_
                rintro e w9 ⟨rfl, hb9⟩
                have HF9 := Lib.hid (HF8.out.grew hb9)
                have HN9 := Lib.hid (HN8.out.below hb9)
                clear hb9
                go_wp2
                refine ⟨⟨k + 1, by omega, by omega, by go_num, rows3, now, HF9.out, HUP.out.1, HN3.out, HN9.out, by rw [HST.out, HN3.out], by rw [HNW.out]; exact Front.b_refl _⟩, by simp [intOf]; omega⟩
      · by_cases d2 : k < os.length
        · have e1 : decide ((k : Int) < (os.length : Int)) = true := decide_eq_true (by omega)
          have e2 : decide ((k : Int) < 60) = false := decide_eq_false (by omega)
          go_wp2_with fail
          refine (law09_live _).mono ?_
          rintro e w3 ⟨rfl, hb3⟩
          have HB3 := Lib.hid (grew HF.out.bel hb3)
          clear hb3
          go_wp2
          go_ret
          exact ⟨rfl, HB3.out⟩
        · have e1 : decide ((k : Int) < (os.length : Int)) = false := decide_eq_false (by omega)
          go_wp2_with fail
          refine (law09_live _).mono ?_
          rintro e w3 ⟨rfl, hb3⟩
          have HB3 := Lib.hid (grew HF.out.bel hb3)
          clear hb3
          go_wp2
          go_ret
          exact ⟨rfl, HB3.out⟩
  · go_enter Try.func5, Try.ntmps5
    go_wp2_with fail
    refine (front_New_no s _ hn).mono ?_
    rintro e w1 ⟨rfl, hb1⟩
    go_wp2_with fail
    refine (law09_live _).mono ?_
    rintro e w3 ⟨rfl, hb3⟩
    go_wp2
    go_ret
    exact ⟨rfl, grew hb1 hb3⟩
end Go.Proofs.Yteooganpnmfkbaa
