/- The walk of VecAnswers. -/
import Derived.Test.YtbbjoaennnopoaaVecLat2
import Derived.Test.YtbbjoaennnopoaaVecOpen
import Derived.Test.YtbbjoaennnopoaaVecApp
namespace Go.Proofs.Ytbbjoaennnopoaa
open Go.RowKit
set_option linter.unusedVariables false

theorem tickR_len (xs : List Int) (site : Int) : (tickR xs site).1.length ≤ xs.length := by
  unfold tickR
  split
  · split
    · simp
    · rw [Vecs.tick_len]; exact Nat.le_refl _
  · simp
theorem joinR_len (xs ys : List Int) : (joinR xs ys).1.length ≤ xs.length := by
  unfold joinR
  split
  · rw [Vecs.join_len (Vecs.together_iff.1 ‹_›).2.2]; exact Nat.le_refl _
  · simp
theorem meetR_len (xs ys : List Int) : (meetR xs ys).1.length ≤ xs.length := by
  unfold meetR
  split
  · rw [Vecs.meet_len (Vecs.together_iff.1 ‹_›).2.2]; exact Nat.le_refl _
  · simp
theorem newR_len (n : Int) : (newR n).1.length ≤ 16 := by
  unfold newR
  split
  · simp; omega
  · simp
theorem cmpV_two (xs ys : List Int) : ∃ k l : Int, cmpV xs ys = .tuple #[.int .i64 k, .int .i64 l] := by
  unfold cmpV
  split
  · exact ⟨_, _, rfl⟩
  · exact ⟨_, _, rfl⟩

set_option maxRecDepth 100000 in
set_option maxHeartbeats 8000000 in
theorem walk_VecAnswers (u t : Value) (xs ys : List Int) (site seq : Int) (w : World) (h : SliceI w u xs ∧ SliceI w t ys ∧ xs.length ≤ maxLen ∧ ys.length ≤ maxLen) :
    Calls Try.prog 3 #[.agg #[u, t, .int .i64 site, .int .i64 seq]] w fun e w' => e = .returned (.bool true) ∧ Below w.heap.size w w' := by
  obtain ⟨hu, ht, hlx, hly⟩ := h
  have HX := Lib.hid hu
  have HY := Lib.hid ht
  obtain ⟨a, cap, rfl, _, _⟩ := hu
  obtain ⟨b, cup, rfl, _, _⟩ := ht
  unfold maxLen at hlx hly
  go_enter Try.func3, Try.ntmps3
  go_wp2_with fail
  go_quiet (fail)
  have Hx_1 := Lib.hid (HX.out.below (grew (grew_alloc w (.cells #[.slice a xs.length cap, .slice b ys.length cup, .int .i64 site, .int .i64 seq] 24)) (grew_drewN _ nq)))
  have Hy_1 := Lib.hid (HY.out.below (grew (grew_alloc w (.cells #[.slice a xs.length cap, .slice b ys.length cup, .int .i64 site, .int .i64 seq] 24)) (grew_drewN _ nq)))
  have HB_1 := Lib.hid (grew (grew_alloc w (.cells #[.slice a xs.length cap, .slice b ys.length cup, .int .i64 site, .int .i64 seq] 24)) (grew_drewN _ nq))
  generalize hW : World.drewN _ nq = w1 at *
  clear hW HX HY
  by_cases h1 : 30 < xs.length
  · have hd1 : decide ((30 : Int) < (xs.length : Int)) = true := decide_eq_true (by omega)
    clear h1
    go_wp2_with fail
    refine (law06_live _).mono ?_
    rintro e w4 ⟨rfl, hb⟩
    go_wp2
    go_ret
    exact ⟨rfl, grew HB_1.out hb⟩
  · have hd1 : decide ((30 : Int) < (xs.length : Int)) = false := decide_eq_false (by omega)
    by_cases h2 : 30 < ys.length
    · have hd2 : decide ((30 : Int) < (ys.length : Int)) = true := decide_eq_true (by omega)
      clear h1 h2
      go_wp2_with fail
      refine (law06_live _).mono ?_
      rintro e w4 ⟨rfl, hb⟩
      go_wp2
      go_ret
      exact ⟨rfl, grew HB_1.out hb⟩
    · have hd2 : decide ((30 : Int) < (ys.length : Int)) = false := decide_eq_false (by omega)
      obtain ⟨tl, te, htq⟩ : ∃ tl te, tickR xs site = (tl, te) := ⟨_, _, rfl⟩
      obtain ⟨jl, je, hjq⟩ : ∃ jl je, joinR xs ys = (jl, je) := ⟨_, _, rfl⟩
      obtain ⟨ml, me, hmq⟩ : ∃ ml me, meetR xs ys = (ml, me) := ⟨_, _, rfl⟩
      obtain ⟨nl, ne, hnq⟩ : ∃ nl ne, newR site = (nl, ne) := ⟨_, _, rfl⟩
      obtain ⟨k, l, hcq⟩ := cmpV_two xs ys
      have lt : tl.length ≤ 30 := by have := tickR_len xs site; rw [htq] at this; simp only at this; omega
      have lj : jl.length ≤ 30 := by have := joinR_len xs ys; rw [hjq] at this; simp only at this; omega
      have lm : ml.length ≤ 30 := by have := meetR_len xs ys; rw [hmq] at this; simp only at this; omega
      have ln : nl.length ≤ 30 := by have := newR_len site; rw [hnq] at this; simp only at this; omega
      have TQ := Lib.hid htq
      have JQ := Lib.hid hjq
      have MQ := Lib.hid hmq
      have NQ := Lib.hid hnq
      have CQ := Lib.hid hcq
      clear htq hjq hmq hnq hcq
      have lx : xs.length ≤ 30 := by omega
      have ly : ys.length ≤ 30 := by omega
      clear h1 h2
      go_wp2_with (at_builtin; refine wp_append_copy rfl (.tmp 45) (.tmp 46) rfl Try.underlying26 Try.underlying22 rfl _ xs rfl Hx_1.out (by omega) ?_; intro v2 w2 hs2 hb2; have Ho_2 := Lib.hid hs2; have Hx_2 := Lib.hid (Hx_1.out.below hb2); have Hy_2 := Lib.hid (Hy_1.out.below hb2); have HB_2 := Lib.hid (grew HB_1.out hb2); clear hs2 hb2 Hx_1 Hy_1 HB_1)
      refine (vec_Tick v2 xs site _ Ho_2.out (by unfold maxLen; omega)).mono ?_
      rintro e w3 ⟨r, rfl, ho, hb3⟩
      rw [TQ.out] at ho
      obtain ⟨v3, rfl, hs3⟩ := ho
      have Hx_3 := Lib.hid (Hx_2.out.below hb3)
      have Hy_3 := Lib.hid (Hy_2.out.below hb3)
      have Ho_3 := Lib.hid (Ho_2.out.below hb3)
      have HB_3 := Lib.hid (grew HB_2.out (hb3))
      have Hta_3 := Lib.hid hs3
      clear hs3 hb3 Hx_2 Hy_2 Ho_2 HB_2
      go_wp2_with fail
      refine (ref06_Tick _ xs site _ Hx_3.out (by unfold maxLen; omega)).mono ?_
      rintro e w4 ⟨r, rfl, ho, hb4⟩
      rw [TQ.out] at ho
      obtain ⟨v4, rfl, hs4⟩ := ho
      have Hx_4 := Lib.hid (Hx_3.out.below hb4)
      have Hy_4 := Lib.hid (Hy_3.out.below hb4)
      have Ho_4 := Lib.hid (Ho_3.out.below hb4)
      have Hta_4 := Lib.hid (Hta_3.out.below hb4)
      have HB_4 := Lib.hid (grew HB_3.out (hb4))
      have Htb_4 := Lib.hid hs4
      clear hs4 hb4 Hx_3 Hy_3 Ho_3 Hta_3 HB_3
      go_wp2_with fail
      refine (vec_Join v2 _ xs ys _ Ho_4.out Hy_4.out (by unfold maxLen; omega) (by unfold maxLen; omega)).mono ?_
      rintro e w5 ⟨r, rfl, ho, hb5⟩
      rw [JQ.out] at ho
      obtain ⟨v5, rfl, hs5⟩ := ho
      have Hx_5 := Lib.hid (Hx_4.out.below hb5)
      have Hy_5 := Lib.hid (Hy_4.out.below hb5)
      have Ho_5 := Lib.hid (Ho_4.out.below hb5)
      have Hta_5 := Lib.hid (Hta_4.out.below hb5)
      have Htb_5 := Lib.hid (Htb_4.out.below hb5)
      have HB_5 := Lib.hid (grew HB_4.out (hb5))
      have Hja_5 := Lib.hid hs5
      clear hs5 hb5 Hx_4 Hy_4 Ho_4 Hta_4 Htb_4 HB_4
      go_wp2_with fail
      refine (ref06_Join _ _ xs ys _ Hx_5.out Hy_5.out (by unfold maxLen; omega) (by unfold maxLen; omega)).mono ?_
      rintro e w6 ⟨r, rfl, ho, hb6⟩
      rw [JQ.out] at ho
      obtain ⟨v6, rfl, hs6⟩ := ho
      have Hx_6 := Lib.hid (Hx_5.out.below hb6)
      have Hy_6 := Lib.hid (Hy_5.out.below hb6)
      have Ho_6 := Lib.hid (Ho_5.out.below hb6)
      have Hta_6 := Lib.hid (Hta_5.out.below hb6)
      have Htb_6 := Lib.hid (Htb_5.out.below hb6)
      have Hja_6 := Lib.hid (Hja_5.out.below hb6)
      have HB_6 := Lib.hid (grew HB_5.out (hb6))
      have Hjb_6 := Lib.hid hs6
      clear hs6 hb6 Hx_5 Hy_5 Ho_5 Hta_5 Htb_5 Hja_5 HB_5
      go_wp2_with fail
      refine (vec_Meet v2 _ xs ys _ Ho_6.out Hy_6.out (by unfold maxLen; omega) (by unfold maxLen; omega)).mono ?_
      rintro e w7 ⟨r, rfl, ho, hb7⟩
      rw [MQ.out] at ho
      obtain ⟨v7, rfl, hs7⟩ := ho
      have Hx_7 := Lib.hid (Hx_6.out.below hb7)
      have Hy_7 := Lib.hid (Hy_6.out.below hb7)
      have Ho_7 := Lib.hid (Ho_6.out.below hb7)
      have Hta_7 := Lib.hid (Hta_6.out.below hb7)
      have Htb_7 := Lib.hid (Htb_6.out.below hb7)
      have Hja_7 := Lib.hid (Hja_6.out.below hb7)
      have Hjb_7 := Lib.hid (Hjb_6.out.below hb7)
      have HB_7 := Lib.hid (grew HB_6.out (hb7))
      have Hma_7 := Lib.hid hs7
      clear hs7 hb7 Hx_6 Hy_6 Ho_6 Hta_6 Htb_6 Hja_6 Hjb_6 HB_6
      go_wp2_with fail
      refine (ref06_Meet _ _ xs ys _ Hx_7.out Hy_7.out (by unfold maxLen; omega) (by unfold maxLen; omega)).mono ?_
      rintro e w8 ⟨r, rfl, ho, hb8⟩
      rw [MQ.out] at ho
      obtain ⟨v8, rfl, hs8⟩ := ho
      have Hx_8 := Lib.hid (Hx_7.out.below hb8)
      have Hy_8 := Lib.hid (Hy_7.out.below hb8)
      have Ho_8 := Lib.hid (Ho_7.out.below hb8)
      have Hta_8 := Lib.hid (Hta_7.out.below hb8)
      have Htb_8 := Lib.hid (Htb_7.out.below hb8)
      have Hja_8 := Lib.hid (Hja_7.out.below hb8)
      have Hjb_8 := Lib.hid (Hjb_7.out.below hb8)
      have Hma_8 := Lib.hid (Hma_7.out.below hb8)
      have HB_8 := Lib.hid (grew HB_7.out (hb8))
      have Hmb_8 := Lib.hid hs8
      clear hs8 hb8 Hx_7 Hy_7 Ho_7 Hta_7 Htb_7 Hja_7 Hjb_7 Hma_7 HB_7
      go_wp2_with fail
      refine (vec_Compare v2 _ xs ys _ Ho_8.out Hy_8.out (by unfold maxLen; omega) (by unfold maxLen; omega)).mono ?_
      rintro e w9 ⟨rfl, n9, rfl⟩
      rw [CQ.out]
      have Hx_9 := Lib.hid (Hx_8.out.drewN n9)
      have Hy_9 := Lib.hid (Hy_8.out.drewN n9)
      have Ho_9 := Lib.hid (Ho_8.out.drewN n9)
      have Hta_9 := Lib.hid (Hta_8.out.drewN n9)
      have Htb_9 := Lib.hid (Htb_8.out.drewN n9)
      have Hja_9 := Lib.hid (Hja_8.out.drewN n9)
      have Hjb_9 := Lib.hid (Hjb_8.out.drewN n9)
      have Hma_9 := Lib.hid (Hma_8.out.drewN n9)
      have Hmb_9 := Lib.hid (Hmb_8.out.drewN n9)
      have HB_9 := Lib.hid (grew HB_8.out (grew_drewN _ n9))
      clear Hx_8 Hy_8 Ho_8 Hta_8 Htb_8 Hja_8 Hjb_8 Hma_8 Hmb_8 HB_8
      generalize hW : World.drewN _ n9 = w9 at *
      clear hW
      go_wp2_with fail
      refine (ref06_Compare _ _ xs ys _ Hx_9.out Hy_9.out (by unfold maxLen; omega) (by unfold maxLen; omega)).mono ?_
      rintro e w10 ⟨rfl, n10, rfl⟩
      rw [CQ.out]
      have Hx_10 := Lib.hid (Hx_9.out.drewN n10)
      have Hy_10 := Lib.hid (Hy_9.out.drewN n10)
      have Ho_10 := Lib.hid (Ho_9.out.drewN n10)
      have Hta_10 := Lib.hid (Hta_9.out.drewN n10)
      have Htb_10 := Lib.hid (Htb_9.out.drewN n10)
      have Hja_10 := Lib.hid (Hja_9.out.drewN n10)
      have Hjb_10 := Lib.hid (Hjb_9.out.drewN n10)
      have Hma_10 := Lib.hid (Hma_9.out.drewN n10)
      have Hmb_10 := Lib.hid (Hmb_9.out.drewN n10)
      have HB_10 := Lib.hid (grew HB_9.out (grew_drewN _ n10))
      clear Hx_9 Hy_9 Ho_9 Hta_9 Htb_9 Hja_9 Hjb_9 Hma_9 Hmb_9 HB_9
      generalize hW : World.drewN _ n10 = w10 at *
      clear hW
      go_wp2_with fail
      refine (ref01_Same v3 v4 tl tl _ Hta_10.out Htb_10.out (by omega) (by omega)).mono ?_
      rintro e w11 ⟨rfl, hb11⟩
      rw [same_yes tl]
      have Hx_11 := Lib.hid (Hx_10.out.below hb11)
      have Ho_11 := Lib.hid (Ho_10.out.below hb11)
      have Hta_11 := Lib.hid (Hta_10.out.below hb11)
      have Htb_11 := Lib.hid (Htb_10.out.below hb11)
      have Hja_11 := Lib.hid (Hja_10.out.below hb11)
      have Hjb_11 := Lib.hid (Hjb_10.out.below hb11)
      have Hma_11 := Lib.hid (Hma_10.out.below hb11)
      have Hmb_11 := Lib.hid (Hmb_10.out.below hb11)
      have HB_11 := Lib.hid (grew HB_10.out (hb11))
      clear hb11 Hx_10 Ho_10 Hta_10 Htb_10 Hja_10 Hjb_10 Hma_10 Hmb_10 HB_10
      go_wp2_with fail
      refine (ref01_Same v5 v6 jl jl _ Hja_11.out Hjb_11.out (by omega) (by omega)).mono ?_
      rintro e w12 ⟨rfl, hb12⟩
      rw [same_yes jl]
      have Hx_12 := Lib.hid (Hx_11.out.below hb12)
      have Ho_12 := Lib.hid (Ho_11.out.below hb12)
      have Hja_12 := Lib.hid (Hja_11.out.below hb12)
      have Hjb_12 := Lib.hid (Hjb_11.out.below hb12)
      have Hma_12 := Lib.hid (Hma_11.out.below hb12)
      have Hmb_12 := Lib.hid (Hmb_11.out.below hb12)
      have HB_12 := Lib.hid (grew HB_11.out (hb12))
      clear hb12 Hx_11 Ho_11 Hja_11 Hjb_11 Hma_11 Hmb_11 HB_11
      go_wp2_with fail
      refine (ref01_Same v7 v8 ml ml _ Hma_12.out Hmb_12.out (by omega) (by omega)).mono ?_
      rintro e w13 ⟨rfl, hb13⟩
      rw [same_yes ml]
      have Hx_13 := Lib.hid (Hx_12.out.below hb13)
      have Ho_13 := Lib.hid (Ho_12.out.below hb13)
      have Hma_13 := Lib.hid (Hma_12.out.below hb13)
      have Hmb_13 := Lib.hid (Hmb_12.out.below hb13)
      have HB_13 := Lib.hid (grew HB_12.out (hb13))
      clear hb13 Hx_12 Ho_12 Hma_12 Hmb_12 HB_12
      go_wp2_with fail
      refine (vec_New site _).mono ?_
      rintro e w14 ⟨r, rfl, ho, hb14⟩
      rw [NQ.out] at ho
      obtain ⟨v14, rfl, hs14⟩ := ho
      have Hx_14 := Lib.hid (Hx_13.out.below hb14)
      have Ho_14 := Lib.hid (Ho_13.out.below hb14)
      have HB_14 := Lib.hid (grew HB_13.out (hb14))
      have Hna_14 := Lib.hid hs14
      clear hs14 hb14 Hx_13 Ho_13 HB_13
      go_wp2_with fail
      refine (ref06_New site _).mono ?_
      rintro e w15 ⟨r, rfl, ho, hb15⟩
      rw [NQ.out] at ho
      obtain ⟨v15, rfl, hs15⟩ := ho
      have Hx_15 := Lib.hid (Hx_14.out.below hb15)
      have Ho_15 := Lib.hid (Ho_14.out.below hb15)
      have Hna_15 := Lib.hid (Hna_14.out.below hb15)
      have HB_15 := Lib.hid (grew HB_14.out (hb15))
      have Hnb_15 := Lib.hid hs15
      clear hs15 hb15 Hx_14 Ho_14 Hna_14 HB_14
      go_wp2_with fail
      refine (ref01_Same v14 v15 nl nl _ Hna_15.out Hnb_15.out (by omega) (by omega)).mono ?_
      rintro e w16 ⟨rfl, hb16⟩
      rw [same_yes nl]
      have Hx_16 := Lib.hid (Hx_15.out.below hb16)
      have Ho_16 := Lib.hid (Ho_15.out.below hb16)
      have Hna_16 := Lib.hid (Hna_15.out.below hb16)
      have Hnb_16 := Lib.hid (Hnb_15.out.below hb16)
      have HB_16 := Lib.hid (grew HB_15.out (hb16))
      clear hb16 Hx_15 Ho_15 Hna_15 Hnb_15 HB_15
      go_wp2_with fail
      refine (vec_Covers v2 xs site seq _ Ho_16.out (by unfold maxLen; omega)).mono ?_
      rintro e _ ⟨rfl, rfl⟩
      go_wp2_with fail
      refine (ref06_Covers _ xs site seq _ Hx_16.out (by unfold maxLen; omega)).mono ?_
      rintro e _ ⟨rfl, rfl⟩
      generalize Vecs.covers xs site seq = c at *
      go_wp2_with fail
      refine (vec_Check v2 xs _ Ho_16.out (by unfold maxLen; omega)).mono ?_
      rintro e _ ⟨rfl, rfl⟩
      cases hm : Vecs.may xs with
      | false =>
        rw [show chkN xs = 1 from by unfold chkN; rw [hm]; rfl]
        have HM := Lib.hid hm
        clear hm
        go_wp2_with fail
        refine (ref06_May _ xs _ Hx_16.out (by unfold maxLen; omega)).mono ?_
        rintro e _ ⟨rfl, rfl⟩
        rw [HM.out]
        go_wp2_with fail
        refine (ref01_Same v2 _ xs xs _ Ho_16.out Hx_16.out (by omega) (by omega)).mono ?_
        rintro e w17 ⟨rfl, hb17⟩
        rw [same_yes xs]
        have Hx_17 := Lib.hid (Hx_16.out.below hb17)
        have Ho_17 := Lib.hid (Ho_16.out.below hb17)
        have HB_17 := Lib.hid (grew HB_16.out (hb17))
        clear hb17 Hx_16 Ho_16 HB_16
        go_wp2_with fail
        refine (law06_live _).mono ?_
        rintro e w18 ⟨rfl, hb18⟩
        have HB_18 := Lib.hid (grew HB_17.out (hb18))
        clear hb18 HB_17
        go_wp2
        go_ret
        exact ⟨rfl, HB_18.out⟩
      | true =>
        rw [show chkN xs = 0 from by unfold chkN; rw [hm]; rfl]
        have HM := Lib.hid hm
        clear hm
        go_wp2_with fail
        refine (ref06_May _ xs _ Hx_16.out (by unfold maxLen; omega)).mono ?_
        rintro e _ ⟨rfl, rfl⟩
        rw [HM.out]
        go_wp2_with fail
        refine (ref01_Same v2 _ xs xs _ Ho_16.out Hx_16.out (by omega) (by omega)).mono ?_
        rintro e w17 ⟨rfl, hb17⟩
        rw [same_yes xs]
        have Hx_17 := Lib.hid (Hx_16.out.below hb17)
        have Ho_17 := Lib.hid (Ho_16.out.below hb17)
        have HB_17 := Lib.hid (grew HB_16.out (hb17))
        clear hb17 Hx_16 Ho_16 HB_16
        go_wp2_with fail
        refine (law06_live _).mono ?_
        rintro e w18 ⟨rfl, hb18⟩
        have HB_18 := Lib.hid (grew HB_17.out (hb18))
        clear hb18 HB_17
        go_wp2
        go_ret
        exact ⟨rfl, HB_18.out⟩
end Go.Proofs.Ytbbjoaennnopoaa
