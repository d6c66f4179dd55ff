/- The walk of VecZero. -/
import Derived.Test.YtbbjoaennnopoaaVecTurn
import Derived.Test.YtbbjoaennnopoaaVecMath2
namespace Go.Proofs.Ytbbjoaennnopoaa
open Go.RowKit
set_option linter.unusedVariables false

set_option maxRecDepth 100000 in
set_option maxHeartbeats 4000000 in
theorem walk_VecZero (a0 : Option Addr) (len0 cap0 : Nat) (z0 : List Int) (w : World) (h0 : IsRow .i64 w a0 len0 cap0 z0) :
    Calls Try.prog 8 #[.slice a0 len0 cap0] w fun e w' => e = .returned (.bool true) ∧ Below w.heap.size w w' := by
  obtain ⟨xs, hx, rfl, hlx, _⟩ := h0.slice
  have HX := Lib.hid hx
  clear h0 hx
  go_enter Try.func8, Try.ntmps8
  go_wp2_with fail
  refine (ref06_May _ xs _ HX.out hlx).mono ?_
  rintro e w1 ⟨rfl, rfl⟩
  cases hm : Vecs.may xs with
  | false =>
    clear hm
    go_wp2_with fail
    refine (law06_live _).mono ?_
    rintro e w4 ⟨rfl, hb⟩
    go_wp2
    go_ret
    exact ⟨rfl, hb⟩
  | true =>
    have h16 := Vecs.may_len hm
    have HM := Lib.hid hm
    have HT := Lib.hid (Vecs.together_zeros hm)
    have HJ := Lib.hid (Vecs.join_zeros hm)
    have HE := Lib.hid (Vecs.meet_zeros hm)
    have HZL := Lib.hid (Vecs.zeros_len xs.length)
    have hzl : (Vecs.zeros xs.length).length ≤ 16 := by rw [HZL.out]; exact h16.2
    clear hm
    go_wp2_with fail
    refine (vec_New _ _).mono ?_
    rintro e w2 ⟨r, rfl, ho, hb2⟩
    rw [show newR (xs.length : Int) = (Vecs.zeros xs.length, 0) from by unfold newR; rw [if_pos (by omega), Int.toNat_natCast]; rfl] at ho
    obtain ⟨v2, rfl, hs2⟩ := ho
    have HZ2 := Lib.hid hs2
    have HX2 := Lib.hid (HX.out.below hb2)
    have HB2 := Lib.hid hb2
    clear hs2 hb2
    go_wp2_with fail
    refine (vec_Compare v2 _ (Vecs.zeros xs.length) xs _ HZ2.out HX2.out (by unfold maxLen; omega) hlx).mono ?_
    rintro e w3 ⟨rfl, n3, rfl⟩
    rw [cmpV_yes HT.out.1]
    have HZ3 := Lib.hid (HZ2.out.drewN n3)
    have HX3 := Lib.hid (HX2.out.drewN n3)
    have HB3 := Lib.hid (grew HB2.out (grew_drewN w2 n3))
    generalize w2.drewN n3 = w3 at *
    clear HZ2 HX2 HB2
    go_wp2_with fail
    refine (vec_Join v2 _ (Vecs.zeros xs.length) xs _ HZ3.out HX3.out (by unfold maxLen; omega) hlx).mono ?_
    rintro e w4 ⟨r, rfl, ho, hb4⟩
    rw [show joinR (Vecs.zeros xs.length) xs = (xs, 0) from by unfold joinR; rw [if_pos HT.out.1, HJ.out]] at ho
    obtain ⟨v4, rfl, hs4⟩ := ho
    have HJ4 := Lib.hid hs4
    have HZ4 := Lib.hid (HZ3.out.below hb4)
    have HX4 := Lib.hid (HX3.out.below hb4)
    have HB4 := Lib.hid (grew HB3.out hb4)
    clear hs4 hb4 HZ3 HX3 HB3
    go_wp2_with fail
    refine (vec_Meet _ v2 xs (Vecs.zeros xs.length) _ HX4.out HZ4.out hlx (by unfold maxLen; omega)).mono ?_
    rintro e w5 ⟨r, rfl, ho, hb5⟩
    rw [show meetR xs (Vecs.zeros xs.length) = (Vecs.zeros xs.length, 0) from by unfold meetR; rw [if_pos HT.out.2, HE.out]] at ho
    obtain ⟨v5, rfl, hs5⟩ := ho
    have HM5 := Lib.hid hs5
    have HJ5 := Lib.hid (HJ4.out.below hb5)
    have HZ5 := Lib.hid (HZ4.out.below hb5)
    have HX5 := Lib.hid (HX4.out.below hb5)
    have HB5 := Lib.hid (grew HB4.out hb5)
    clear hs5 hb5 HJ4 HZ4 HX4 HB4
    have HEQ : Hid (Vecs.cmp (Vecs.zeros xs.length) xs = 1 ∨ (Vecs.cmp (Vecs.zeros xs.length) xs = 0 ∧ decide (xs = Vecs.zeros xs.length) = true)) := Lib.hid (by
      rcases Vecs.cmp_cases HT.out.1 with ⟨h, _, e⟩ | ⟨h, _⟩ | ⟨h, _⟩ | ⟨h, _⟩
      · exact .inr ⟨h, decide_eq_true (of_decide_eq_true e).symm⟩
      · exact .inl h
      · have := Vecs.cmp_low (Vecs.below_zeros HM.out); omega
      · have := Vecs.cmp_low (Vecs.below_zeros HM.out); omega)
    generalize Vecs.cmp (Vecs.zeros xs.length) xs = c at *
    have hc := HEQ.out
    clear HEQ
    rcases hc with rfl | ⟨rfl, hd⟩
    · go_wp2_with fail
      refine (ref01_Same v4 _ xs xs _ HJ5.out HX5.out (by omega) (by omega)).mono ?_
      rintro e w6 ⟨rfl, hb6⟩
      rw [show decide (xs = xs) = true from decide_eq_true rfl]
      have HM6 := Lib.hid (HM5.out.below hb6)
      have HZ6 := Lib.hid (HZ5.out.below hb6)
      have HB6 := Lib.hid (grew HB5.out hb6)
      clear hb6
      go_wp2_with fail
      refine (ref01_Same v5 v2 (Vecs.zeros xs.length) (Vecs.zeros xs.length) _ HM6.out HZ6.out (by omega) (by omega)).mono ?_
      rintro e w7 ⟨rfl, hb7⟩
      rw [show decide (Vecs.zeros xs.length = Vecs.zeros xs.length) = true from decide_eq_true rfl]
      have HZ7 := Lib.hid (HZ6.out.below hb7)
      have HB7 := Lib.hid (grew HB6.out hb7)
      clear hb7
      go_wp2_with fail
      refine (ref06_Zero xs.length _ (by omega)).mono ?_
      rintro e w8 ⟨r, rfl, hs8, hb8⟩
      have HS8 : Hid (SliceI w8 r (Vecs.zeros xs.length)) := Lib.hid hs8
      have HZ8 := Lib.hid (HZ7.out.below hb8)
      have HB8 := Lib.hid (grew HB7.out hb8)
      clear hs8 hb8
      go_wp2_with fail
      refine (ref01_Same v2 r (Vecs.zeros xs.length) (Vecs.zeros xs.length) _ HZ8.out HS8.out (by omega) (by omega)).mono ?_
      rintro e w9 ⟨rfl, hb9⟩
      rw [show decide (Vecs.zeros xs.length = Vecs.zeros xs.length) = true from decide_eq_true rfl]
      go_wp2_with fail
      refine (law06_live _).mono ?_
      rintro e w10 ⟨rfl, hb10⟩
      go_wp2
      go_ret
      exact ⟨rfl, grew HB8.out (grew hb9 hb10)⟩
    · have HD := Lib.hid hd
      clear hd
      go_wp2_with fail
      refine (ref01_Same _ v2 xs (Vecs.zeros xs.length) _ HX5.out HZ5.out (by omega) (by omega)).mono ?_
      rintro e w6 ⟨rfl, hb6⟩
      rw [HD.out]
      have HJ6 := Lib.hid (HJ5.out.below hb6)
      have HX6 := Lib.hid (HX5.out.below hb6)
      have HM6 := Lib.hid (HM5.out.below hb6)
      have HZ6 := Lib.hid (HZ5.out.below hb6)
      have HB6 := Lib.hid (grew HB5.out hb6)
      clear hb6 HJ5 HX5 HM5 HZ5 HB5
      go_wp2_with fail
      refine (ref01_Same v4 _ xs xs _ HJ6.out HX6.out (by omega) (by omega)).mono ?_
      rintro e w7 ⟨rfl, hb7⟩
      rw [show decide (xs = xs) = true from decide_eq_true rfl]
      have HM7 := Lib.hid (HM6.out.below hb7)
      have HZ7 := Lib.hid (HZ6.out.below hb7)
      have HB7 := Lib.hid (grew HB6.out hb7)
      clear hb7
      go_wp2_with fail
      refine (ref01_Same v5 v2 (Vecs.zeros xs.length) (Vecs.zeros xs.length) _ HM7.out HZ7.out (by omega) (by omega)).mono ?_
      rintro e w8 ⟨rfl, hb8⟩
      rw [show decide (Vecs.zeros xs.length = Vecs.zeros xs.length) = true from decide_eq_true rfl]
      have HZ8 := Lib.hid (HZ7.out.below hb8)
      have HB8 := Lib.hid (grew HB7.out hb8)
      clear hb8
      go_wp2_with fail
      refine (ref06_Zero xs.length _ (by omega)).mono ?_
      rintro e w9 ⟨r, rfl, hs9, hb9⟩
      have HS9 : Hid (SliceI w9 r (Vecs.zeros xs.length)) := Lib.hid hs9
      have HZ9 := Lib.hid (HZ8.out.below hb9)
      have HB9 := Lib.hid (grew HB8.out hb9)
      clear hs9 hb9
      go_wp2_with fail
      refine (ref01_Same v2 r (Vecs.zeros xs.length) (Vecs.zeros xs.length) _ HZ9.out HS9.out (by omega) (by omega)).mono ?_
      rintro e w10 ⟨rfl, hb10⟩
      rw [show decide (Vecs.zeros xs.length = Vecs.zeros xs.length) = true from decide_eq_true rfl]
      go_wp2_with fail
      refine (law06_live _).mono ?_
      rintro e w11 ⟨rfl, hb11⟩
      go_wp2
      go_ret
      exact ⟨rfl, grew HB9.out (grew hb10 hb11)⟩
end Go.Proofs.Ytbbjoaennnopoaa
