/- The walk of VecLattice. -/
import Derived.Test.YtbbjoaennnopoaaVecTurn
import Derived.Test.YtbbjoaennnopoaaVecMath2
namespace Go.Proofs.Ytbbjoaennnopoaa
open Go.RowKit
set_option linter.unusedVariables false

theorem joinR_of {xs ys : List Int} (h : Vecs.together xs ys = true) : joinR xs ys = (Vecs.join xs ys, 0) := by unfold joinR; rw [if_pos h]
theorem meetR_of {xs ys : List Int} (h : Vecs.together xs ys = true) : meetR xs ys = (Vecs.meet xs ys, 0) := by unfold meetR; rw [if_pos h]
theorem same_yes (xs : List Int) : decide (xs = xs) = true := decide_eq_true rfl

/-- All that the law asks of joins and meets of three. -/
structure Lat (xs ys zs P Q R M : List Int) : Prop where
  xy : joinR xs ys = (P, 0)
  yx : joinR ys xs = (P, 0)
  pz : joinR P zs = (R, 0)
  yz : joinR ys zs = (Q, 0)
  xq : joinR xs Q = (R, 0)
  mxy : meetR xs ys = (M, 0)
  myx : meetR ys xs = (M, 0)
  xm : joinR xs M = (xs, 0)
  xp : meetR xs P = (xs, 0)
  low : cmpV xs P = .tuple #[.int .i64 0, .int .i64 0] ∨ cmpV xs P = .tuple #[.int .i64 1, .int .i64 0]
  lub : Vecs.below xs zs = true → Vecs.below ys zs = true → cmpV P zs = .tuple #[.int .i64 0, .int .i64 0] ∨ cmpV P zs = .tuple #[.int .i64 1, .int .i64 0]
  lp : P.length ≤ 16
  lq : Q.length ≤ 16
  lr : R.length ≤ 16
  lm : M.length ≤ 16

theorem cmpV_low {xs ys : List Int} (ht : Vecs.together xs ys = true) (h : Vecs.below xs ys = true) : cmpV xs ys = .tuple #[.int .i64 0, .int .i64 0] ∨ cmpV xs ys = .tuple #[.int .i64 1, .int .i64 0] := by
  rw [cmpV_yes ht]
  rcases Vecs.cmp_low h with e | e
  · exact .inl (by rw [e])
  · exact .inr (by rw [e])

theorem lat_of {xs ys zs : List Int} (hx : Vecs.may xs = true) (hy : Vecs.may ys = true) (hz : Vecs.may zs = true) (h1 : xs.length = ys.length) (h2 : ys.length = zs.length) :
    Lat xs ys zs (Vecs.join xs ys) (Vecs.join ys zs) (Vecs.join (Vecs.join xs ys) zs) (Vecs.meet xs ys) := by
  have txy := Vecs.together_iff.2 ⟨hx, hy, h1⟩
  have tyx := Vecs.together_iff.2 ⟨hy, hx, h1.symm⟩
  have tyz := Vecs.together_iff.2 ⟨hy, hz, h2⟩
  have mp := Vecs.may_join txy
  have mq := Vecs.may_join tyz
  have mm := Vecs.may_meet txy
  have lp := Vecs.join_len h1
  have lq := Vecs.join_len h2
  have lm := Vecs.meet_len h1
  have tpz := Vecs.together_iff.2 ⟨mp, hz, by rw [lp]; omega⟩
  have txq := Vecs.together_iff.2 ⟨hx, mq, by rw [lq]; omega⟩
  have txm := Vecs.together_iff.2 ⟨hx, mm, lm.symm⟩
  have txp := Vecs.together_iff.2 ⟨hx, mp, lp.symm⟩
  exact {
    xy := joinR_of txy
    yx := by rw [joinR_of tyx, Vecs.join_comm]
    pz := joinR_of tpz
    yz := joinR_of tyz
    xq := by rw [joinR_of txq, Vecs.join_assoc]
    mxy := meetR_of txy
    myx := by rw [meetR_of tyx, Vecs.meet_comm]
    xm := by rw [joinR_of txm, Vecs.join_meet h1]
    xp := by rw [meetR_of txp, Vecs.meet_join h1]
    low := cmpV_low txp (Vecs.below_join h1)
    lub := fun a b => cmpV_low tpz (Vecs.below_lub h1 a b)
    lp := (Vecs.may_len mp).2
    lq := (Vecs.may_len mq).2
    lr := (Vecs.may_len (Vecs.may_join tpz)).2
    lm := (Vecs.may_len mm).2 }

set_option maxRecDepth 100000 in
set_option maxHeartbeats 8000000 in
theorem walk_VecLattice (a0 : Option Addr) (len0 cap0 : Nat) (z0 : List Int) (a1 : Option Addr) (len1 cap1 : Nat) (z1 : List Int) (a2 : Option Addr) (len2 cap2 : Nat) (z2 : List Int) (w : World) (h0 : IsRow .i64 w a0 len0 cap0 z0) (h1 : IsRow .i64 w a1 len1 cap1 z1) (h2 : IsRow .i64 w a2 len2 cap2 z2) :
    Calls Try.prog 4 #[.slice a0 len0 cap0, .slice a1 len1 cap1, .slice a2 len2 cap2] w fun e w' => e = .returned (.bool true) ∧ Below w.heap.size w w' := by
  obtain ⟨xs, hx, rfl, hlx, _⟩ := h0.slice
  obtain ⟨ys, hy, rfl, hly, _⟩ := h1.slice
  obtain ⟨zs, hz, rfl, hlz, _⟩ := h2.slice
  have Hx_0 := Lib.hid hx
  have Hy_0 := Lib.hid hy
  have Hz_0 := Lib.hid hz
  clear h0 h1 h2 hx hy hz
  go_enter Try.func4, Try.ntmps4
  go_wp2_with fail
  refine (ref06_May _ xs _ Hx_0.out hlx).mono ?_
  rintro e _ ⟨rfl, rfl⟩
  cases hmx : Vecs.may xs with
  | false =>
    clear hmx
    go_wp2_with fail
    refine (law06_live _).mono ?_
    rintro e w4 ⟨rfl, hb⟩
    go_wp2
    go_ret
    exact ⟨rfl, hb⟩
  | true =>
    have HMX := Lib.hid hmx
    clear hmx
    go_wp2_with fail
    refine (ref06_May _ ys _ Hy_0.out hly).mono ?_
    rintro e _ ⟨rfl, rfl⟩
    cases hmy : Vecs.may ys with
    | false =>
      clear hmy
      go_wp2_with fail
      refine (law06_live _).mono ?_
      rintro e w4 ⟨rfl, hb⟩
      go_wp2
      go_ret
      exact ⟨rfl, hb⟩
    | true =>
      have HMY := Lib.hid hmy
      clear hmy
      go_wp2_with fail
      refine (ref06_May _ zs _ Hz_0.out hlz).mono ?_
      rintro e _ ⟨rfl, rfl⟩
      cases hmz : Vecs.may zs with
      | false =>
        clear hmz
        go_wp2_with fail
        refine (law06_live _).mono ?_
        rintro e w4 ⟨rfl, hb⟩
        go_wp2
        go_ret
        exact ⟨rfl, hb⟩
      | true =>
        have HMZ := Lib.hid hmz
        clear hmz
        have l1 := (Vecs.may_len HMX.out).2
        have l2 := (Vecs.may_len HMY.out).2
        have l3 := (Vecs.may_len HMZ.out).2
        by_cases e1 : xs.length = ys.length
        · by_cases e2 : ys.length = zs.length
          · have hd1 : ((xs.length : Int) == (ys.length : Int)) = true := by rw [beq_iff_eq]; omega
            have hd1' : ((xs.length : Int) != (ys.length : Int)) = false := by simp; omega
            have hd2 : ((ys.length : Int) == (zs.length : Int)) = true := by rw [beq_iff_eq]; omega
            have hd2' : ((ys.length : Int) != (zs.length : Int)) = false := by simp; omega
            obtain ⟨P, Q, R, M, hlat⟩ : ∃ P Q R M, Lat xs ys zs P Q R M := ⟨_, _, _, _, lat_of HMX.out HMY.out HMZ.out e1 e2⟩
            have LT := Lib.hid hlat
            have lp := hlat.lp
            have lq := hlat.lq
            have lr := hlat.lr
            have lm := hlat.lm
            clear hlat e1 e2 HMX HMY HMZ
            go_wp2_with fail
            refine (vec_Join _ _ xs ys _ Hx_0.out Hy_0.out (by unfold maxLen; omega) (by unfold maxLen; omega)).mono ?_
            rintro e w1 ⟨r, rfl, ho, hb1⟩
            rw [LT.out.xy] at ho
            obtain ⟨v1, rfl, hs1⟩ := ho
            have Hx_1 := Lib.hid (Hx_0.out.below hb1)
            have Hy_1 := Lib.hid (Hy_0.out.below hb1)
            have Hz_1 := Lib.hid (Hz_0.out.below hb1)
            have HB_1 := Lib.hid (hb1)
            have Huv_1 := Lib.hid hs1
            clear hs1 hb1 Hx_0 Hy_0 Hz_0
            go_wp2_with fail
            refine (vec_Join _ _ ys xs _ Hy_1.out Hx_1.out (by unfold maxLen; omega) (by unfold maxLen; omega)).mono ?_
            rintro e w2 ⟨r, rfl, ho, hb2⟩
            rw [LT.out.yx] at ho
            obtain ⟨v2, rfl, hs2⟩ := ho
            have Hx_2 := Lib.hid (Hx_1.out.below hb2)
            have Hy_2 := Lib.hid (Hy_1.out.below hb2)
            have Hz_2 := Lib.hid (Hz_1.out.below hb2)
            have Huv_2 := Lib.hid (Huv_1.out.below hb2)
            have HB_2 := Lib.hid (grew HB_1.out (hb2))
            have Hvu_2 := Lib.hid hs2
            clear hs2 hb2 Hx_1 Hy_1 Hz_1 Huv_1 HB_1
            go_wp2_with fail
            refine (vec_Join v1 _ P zs _ Huv_2.out Hz_2.out (by unfold maxLen; omega) (by unfold maxLen; omega)).mono ?_
            rintro e w3 ⟨r, rfl, ho, hb3⟩
            rw [LT.out.pz] at ho
            obtain ⟨v3, rfl, hs3⟩ := ho
            have Hx_3 := Lib.hid (Hx_2.out.below hb3)
            have Hy_3 := Lib.hid (Hy_2.out.below hb3)
            have Hz_3 := Lib.hid (Hz_2.out.below hb3)
            have Huv_3 := Lib.hid (Huv_2.out.below hb3)
            have Hvu_3 := Lib.hid (Hvu_2.out.below hb3)
            have HB_3 := Lib.hid (grew HB_2.out (hb3))
            have HX_3 := Lib.hid hs3
            clear hs3 hb3 Hx_2 Hy_2 Hz_2 Huv_2 Hvu_2 HB_2
            go_wp2_with fail
            refine (vec_Join _ _ ys zs _ Hy_3.out Hz_3.out (by unfold maxLen; omega) (by unfold maxLen; omega)).mono ?_
            rintro e w4 ⟨r, rfl, ho, hb4⟩
            rw [LT.out.yz] at ho
            obtain ⟨v4, rfl, hs4⟩ := ho
            have Hx_4 := Lib.hid (Hx_3.out.below hb4)
            have Hy_4 := Lib.hid (Hy_3.out.below hb4)
            have Hz_4 := Lib.hid (Hz_3.out.below hb4)
            have Huv_4 := Lib.hid (Huv_3.out.below hb4)
            have Hvu_4 := Lib.hid (Hvu_3.out.below hb4)
            have HX_4 := Lib.hid (HX_3.out.below hb4)
            have HB_4 := Lib.hid (grew HB_3.out (hb4))
            have Hvw_4 := Lib.hid hs4
            clear hs4 hb4 Hx_3 Hy_3 Hz_3 Huv_3 Hvu_3 HX_3 HB_3
            go_wp2_with fail
            refine (vec_Join _ v4 xs Q _ Hx_4.out Hvw_4.out (by unfold maxLen; omega) (by unfold maxLen; omega)).mono ?_
            rintro e w5 ⟨r, rfl, ho, hb5⟩
            rw [LT.out.xq] at ho
            obtain ⟨v5, rfl, hs5⟩ := ho
            have Hx_5 := Lib.hid (Hx_4.out.below hb5)
            have Hy_5 := Lib.hid (Hy_4.out.below hb5)
            have Hz_5 := Lib.hid (Hz_4.out.below hb5)
            have Huv_5 := Lib.hid (Huv_4.out.below hb5)
            have Hvu_5 := Lib.hid (Hvu_4.out.below hb5)
            have HX_5 := Lib.hid (HX_4.out.below hb5)
            have Hvw_5 := Lib.hid (Hvw_4.out.below hb5)
            have HB_5 := Lib.hid (grew HB_4.out (hb5))
            have HY_5 := Lib.hid hs5
            clear hs5 hb5 Hx_4 Hy_4 Hz_4 Huv_4 Hvu_4 HX_4 Hvw_4 HB_4
            go_wp2_with fail
            refine (ref01_Same v1 v2 P P _ Huv_5.out Hvu_5.out (by omega) (by omega)).mono ?_
            rintro e w6 ⟨rfl, hb6⟩
            rw [same_yes P]
            have Hx_6 := Lib.hid (Hx_5.out.below hb6)
            have Hy_6 := Lib.hid (Hy_5.out.below hb6)
            have Hz_6 := Lib.hid (Hz_5.out.below hb6)
            have Huv_6 := Lib.hid (Huv_5.out.below hb6)
            have Hvu_6 := Lib.hid (Hvu_5.out.below hb6)
            have HX_6 := Lib.hid (HX_5.out.below hb6)
            have HY_6 := Lib.hid (HY_5.out.below hb6)
            have HB_6 := Lib.hid (grew HB_5.out (hb6))
            clear hb6 Hx_5 Hy_5 Hz_5 Huv_5 Hvu_5 HX_5 HY_5 HB_5
            go_wp2_with fail
            refine (ref01_Same v3 v5 R R _ HX_6.out HY_6.out (by omega) (by omega)).mono ?_
            rintro e w7 ⟨rfl, hb7⟩
            rw [same_yes R]
            have Hx_7 := Lib.hid (Hx_6.out.below hb7)
            have Hy_7 := Lib.hid (Hy_6.out.below hb7)
            have Hz_7 := Lib.hid (Hz_6.out.below hb7)
            have Huv_7 := Lib.hid (Huv_6.out.below hb7)
            have HX_7 := Lib.hid (HX_6.out.below hb7)
            have HY_7 := Lib.hid (HY_6.out.below hb7)
            have HB_7 := Lib.hid (grew HB_6.out (hb7))
            clear hb7 Hx_6 Hy_6 Hz_6 Huv_6 HX_6 HY_6 HB_6
            go_wp2_with fail
            refine (vec_Compare _ v1 xs P _ Hx_7.out Huv_7.out (by unfold maxLen; omega) (by unfold maxLen; omega)).mono ?_
            rintro e w8 ⟨rfl, n8, rfl⟩
            have Hx_8 := Lib.hid (Hx_7.out.drewN n8)
            have Hy_8 := Lib.hid (Hy_7.out.drewN n8)
            have Hz_8 := Lib.hid (Hz_7.out.drewN n8)
            have Huv_8 := Lib.hid (Huv_7.out.drewN n8)
            have HB_8 := Lib.hid (grew HB_7.out (grew_drewN _ n8))
            clear Hx_7 Hy_7 Hz_7 Huv_7 HB_7
            generalize hW : World.drewN _ n8 = w8 at *
            clear hW
            rcases LT.out.low with hq | hq
            all_goals
              rw [hq]
              clear hq
              go_wp2_with fail
              refine (vec_Meet _ _ xs ys _ Hx_8.out Hy_8.out (by unfold maxLen; omega) (by unfold maxLen; omega)).mono ?_
              rintro e w9 ⟨r, rfl, ho, hb9⟩
              rw [LT.out.mxy] at ho
              obtain ⟨v9, rfl, hs9⟩ := ho
              have Hx_9 := Lib.hid (Hx_8.out.below hb9)
              have Hy_9 := Lib.hid (Hy_8.out.below hb9)
              have Hz_9 := Lib.hid (Hz_8.out.below hb9)
              have Huv_9 := Lib.hid (Huv_8.out.below hb9)
              have HB_9 := Lib.hid (grew HB_8.out (hb9))
              have Hm_9 := Lib.hid hs9
              clear hs9 hb9 Hx_8 Hy_8 Hz_8 Huv_8 HB_8
              go_wp2_with fail
              refine (vec_Meet _ _ ys xs _ Hy_9.out Hx_9.out (by unfold maxLen; omega) (by unfold maxLen; omega)).mono ?_
              rintro e w10 ⟨r, rfl, ho, hb10⟩
              rw [LT.out.myx] at ho
              obtain ⟨v10, rfl, hs10⟩ := ho
              have Hx_10 := Lib.hid (Hx_9.out.below hb10)
              have Hy_10 := Lib.hid (Hy_9.out.below hb10)
              have Hz_10 := Lib.hid (Hz_9.out.below hb10)
              have Huv_10 := Lib.hid (Huv_9.out.below hb10)
              have Hm_10 := Lib.hid (Hm_9.out.below hb10)
              have HB_10 := Lib.hid (grew HB_9.out (hb10))
              have Hn_10 := Lib.hid hs10
              clear hs10 hb10 Hx_9 Hy_9 Hz_9 Huv_9 Hm_9 HB_9
              go_wp2_with fail
              refine (vec_Join _ v9 xs M _ Hx_10.out Hm_10.out (by unfold maxLen; omega) (by unfold maxLen; omega)).mono ?_
              rintro e w11 ⟨r, rfl, ho, hb11⟩
              rw [LT.out.xm] at ho
              obtain ⟨v11, rfl, hs11⟩ := ho
              have Hx_11 := Lib.hid (Hx_10.out.below hb11)
              have Hy_11 := Lib.hid (Hy_10.out.below hb11)
              have Hz_11 := Lib.hid (Hz_10.out.below hb11)
              have Huv_11 := Lib.hid (Huv_10.out.below hb11)
              have Hm_11 := Lib.hid (Hm_10.out.below hb11)
              have Hn_11 := Lib.hid (Hn_10.out.below hb11)
              have HB_11 := Lib.hid (grew HB_10.out (hb11))
              have Hp_11 := Lib.hid hs11
              clear hs11 hb11 Hx_10 Hy_10 Hz_10 Huv_10 Hm_10 Hn_10 HB_10
              go_wp2_with fail
              refine (vec_Meet _ v1 xs P _ Hx_11.out Huv_11.out (by unfold maxLen; omega) (by unfold maxLen; omega)).mono ?_
              rintro e w12 ⟨r, rfl, ho, hb12⟩
              rw [LT.out.xp] at ho
              obtain ⟨v12, rfl, hs12⟩ := ho
              have Hx_12 := Lib.hid (Hx_11.out.below hb12)
              have Hy_12 := Lib.hid (Hy_11.out.below hb12)
              have Hz_12 := Lib.hid (Hz_11.out.below hb12)
              have Huv_12 := Lib.hid (Huv_11.out.below hb12)
              have Hm_12 := Lib.hid (Hm_11.out.below hb12)
              have Hn_12 := Lib.hid (Hn_11.out.below hb12)
              have Hp_12 := Lib.hid (Hp_11.out.below hb12)
              have HB_12 := Lib.hid (grew HB_11.out (hb12))
              have Hq_12 := Lib.hid hs12
              clear hs12 hb12 Hx_11 Hy_11 Hz_11 Huv_11 Hm_11 Hn_11 Hp_11 HB_11
              go_wp2_with fail
              refine (ref01_Same v9 v10 M M _ Hm_12.out Hn_12.out (by omega) (by omega)).mono ?_
              rintro e w13 ⟨rfl, hb13⟩
              rw [same_yes M]
              have Hx_13 := Lib.hid (Hx_12.out.below hb13)
              have Hy_13 := Lib.hid (Hy_12.out.below hb13)
              have Hz_13 := Lib.hid (Hz_12.out.below hb13)
              have Huv_13 := Lib.hid (Huv_12.out.below hb13)
              have Hm_13 := Lib.hid (Hm_12.out.below hb13)
              have Hn_13 := Lib.hid (Hn_12.out.below hb13)
              have Hp_13 := Lib.hid (Hp_12.out.below hb13)
              have Hq_13 := Lib.hid (Hq_12.out.below hb13)
              have HB_13 := Lib.hid (grew HB_12.out (hb13))
              clear hb13 Hx_12 Hy_12 Hz_12 Huv_12 Hm_12 Hn_12 Hp_12 Hq_12 HB_12
              go_wp2_with fail
              refine (ref01_Same v11 _ xs xs _ Hp_13.out Hx_13.out (by omega) (by omega)).mono ?_
              rintro e w14 ⟨rfl, hb14⟩
              rw [same_yes xs]
              have Hx_14 := Lib.hid (Hx_13.out.below hb14)
              have Hy_14 := Lib.hid (Hy_13.out.below hb14)
              have Hz_14 := Lib.hid (Hz_13.out.below hb14)
              have Huv_14 := Lib.hid (Huv_13.out.below hb14)
              have Hp_14 := Lib.hid (Hp_13.out.below hb14)
              have Hq_14 := Lib.hid (Hq_13.out.below hb14)
              have HB_14 := Lib.hid (grew HB_13.out (hb14))
              clear hb14 Hx_13 Hy_13 Hz_13 Huv_13 Hp_13 Hq_13 HB_13
              go_wp2_with fail
              refine (ref01_Same v12 _ xs xs _ Hq_14.out Hx_14.out (by omega) (by omega)).mono ?_
              rintro e w15 ⟨rfl, hb15⟩
              rw [same_yes xs]
              have Hx_15 := Lib.hid (Hx_14.out.below hb15)
              have Hy_15 := Lib.hid (Hy_14.out.below hb15)
              have Hz_15 := Lib.hid (Hz_14.out.below hb15)
              have Huv_15 := Lib.hid (Huv_14.out.below hb15)
              have Hq_15 := Lib.hid (Hq_14.out.below hb15)
              have HB_15 := Lib.hid (grew HB_14.out (hb15))
              clear hb15 Hx_14 Hy_14 Hz_14 Huv_14 Hq_14 HB_14
              go_wp2_with fail
              refine (ref06_Below _ _ xs zs _ Hx_15.out Hz_15.out (by unfold maxLen; omega) (by unfold maxLen; omega)).mono ?_
              rintro e w16 ⟨rfl, n16, rfl⟩
              have Hx_16 := Lib.hid (Hx_15.out.drewN n16)
              have Hy_16 := Lib.hid (Hy_15.out.drewN n16)
              have Hz_16 := Lib.hid (Hz_15.out.drewN n16)
              have Huv_16 := Lib.hid (Huv_15.out.drewN n16)
              have HB_16 := Lib.hid (grew HB_15.out (grew_drewN _ n16))
              clear Hx_15 Hy_15 Hz_15 Huv_15 HB_15
              generalize hW : World.drewN _ n16 = w16 at *
              clear hW
              cases hb1 : Vecs.below xs zs with
              | false =>
                clear hb1
                go_wp2_with fail
                refine (law06_live _).mono ?_
                rintro e w17 ⟨rfl, hb17⟩
                have HB_17 := Lib.hid (grew HB_16.out (hb17))
                clear hb17 HB_16
                go_wp2
                go_ret
                exact ⟨rfl, HB_17.out⟩
              | true =>
                have HB1 := Lib.hid hb1
                clear hb1
                go_wp2_with fail
                refine (ref06_Below _ _ ys zs _ Hy_16.out Hz_16.out (by unfold maxLen; omega) (by unfold maxLen; omega)).mono ?_
                rintro e w17 ⟨rfl, n17, rfl⟩
                have Hx_17 := Lib.hid (Hx_16.out.drewN n17)
                have Hy_17 := Lib.hid (Hy_16.out.drewN n17)
                have Hz_17 := Lib.hid (Hz_16.out.drewN n17)
                have Huv_17 := Lib.hid (Huv_16.out.drewN n17)
                have HB_17 := Lib.hid (grew HB_16.out (grew_drewN _ n17))
                clear Hx_16 Hy_16 Hz_16 Huv_16 HB_16
                generalize hW : World.drewN _ n17 = w17 at *
                clear hW
                cases hb2 : Vecs.below ys zs with
                | false =>
                  clear hb2
                  go_wp2_with fail
                  refine (law06_live _).mono ?_
                  rintro e w18 ⟨rfl, hb18⟩
                  have HB_18 := Lib.hid (grew HB_17.out (hb18))
                  clear hb18 HB_17
                  go_wp2
                  go_ret
                  exact ⟨rfl, HB_18.out⟩
                | true =>
                  have hq := LT.out.lub HB1.out hb2
                  have HQ := Lib.hid hq
                  clear hq hb2
                  go_wp2_with fail
                  refine (vec_Compare v1 _ P zs _ Huv_17.out Hz_17.out (by unfold maxLen; omega) (by unfold maxLen; omega)).mono ?_
                  rintro e w18 ⟨rfl, n18, rfl⟩
                  have Hx_18 := Lib.hid (Hx_17.out.drewN n18)
                  have Hy_18 := Lib.hid (Hy_17.out.drewN n18)
                  have Hz_18 := Lib.hid (Hz_17.out.drewN n18)
                  have Huv_18 := Lib.hid (Huv_17.out.drewN n18)
                  have HB_18 := Lib.hid (grew HB_17.out (grew_drewN _ n18))
                  clear Hx_17 Hy_17 Hz_17 Huv_17 HB_17
                  generalize hW : World.drewN _ n18 = w18 at *
                  clear hW
                  rcases HQ.out with hq | hq
                  all_goals
                    rw [hq]
                    clear hq
                    go_wp2_with fail
                    refine (law06_live _).mono ?_
                    rintro e w19 ⟨rfl, hb19⟩
                    have HB_19 := Lib.hid (grew HB_18.out (hb19))
                    clear hb19 HB_18
                    go_wp2
                    go_ret
                    exact ⟨rfl, HB_19.out⟩
          · have hd1 : ((xs.length : Int) == (ys.length : Int)) = true := by rw [beq_iff_eq]; omega
            have hd1' : ((xs.length : Int) != (ys.length : Int)) = false := by simp; omega
            have hd2 : ((ys.length : Int) == (zs.length : Int)) = false := by rw [beq_eq_false_iff_ne]; omega
            have hd2' : ((ys.length : Int) != (zs.length : Int)) = true := by simp; omega
            clear e1 e2
            go_wp2_with fail
            refine (law06_live _).mono ?_
            rintro e w4 ⟨rfl, hb⟩
            go_wp2
            go_ret
            exact ⟨rfl, hb⟩
        · have hd1 : ((xs.length : Int) == (ys.length : Int)) = false := by rw [beq_eq_false_iff_ne]; omega
          have hd1' : ((xs.length : Int) != (ys.length : Int)) = true := by simp; omega
          clear e1
          go_wp2_with fail
          refine (law06_live _).mono ?_
          rintro e w4 ⟨rfl, hb⟩
          go_wp2
          go_ret
          exact ⟨rfl, hb⟩
end Go.Proofs.Ytbbjoaennnopoaa
