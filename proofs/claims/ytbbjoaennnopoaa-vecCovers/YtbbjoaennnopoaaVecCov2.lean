/- The walk of VecCovers. -/
import Derived.Test.YtbbjoaennnopoaaVecTurn
import Derived.Test.YtbbjoaennnopoaaVecOpen
import Derived.Test.YtbbjoaennnopoaaVecMath2
namespace Go.Proofs.Ytbbjoaennnopoaa
open Go.RowKit
set_option linter.unusedVariables false

/-- What a comparison comes to, and what it says of what is covered. -/
theorem cmpV_cases (xs ys : List Int) : cmpV xs ys = .tuple #[.int .i64 0, .int .i64 1] ∨ (cmpV xs ys = .tuple #[.int .i64 0, .int .i64 0] ∧ Vecs.together xs ys = true ∧ Vecs.below xs ys = true) ∨ (cmpV xs ys = .tuple #[.int .i64 1, .int .i64 0] ∧ Vecs.together xs ys = true ∧ Vecs.below xs ys = true) ∨ cmpV xs ys = .tuple #[.int .i64 2, .int .i64 0] ∨ cmpV xs ys = .tuple #[.int .i64 3, .int .i64 0] := by
  cases ht : Vecs.together xs ys
  · exact .inl (cmpV_no ht)
  · rw [cmpV_yes ht]
    unfold Vecs.cmp
    cases h1 : Vecs.below xs ys <;> cases h2 : Vecs.below ys xs
    · exact .inr (.inr (.inr (.inr rfl)))
    · exact .inr (.inr (.inr (.inl rfl)))
    · exact .inr (.inr (.inl ⟨rfl, rfl, rfl⟩))
    · exact .inr (.inl ⟨rfl, rfl, rfl⟩)

set_option maxRecDepth 100000 in
set_option maxHeartbeats 8000000 in
theorem walk_VecCovers (u t : Value) (xs ys : List Int) (site seq : Int) (w : World) (h : SliceI w u xs ∧ SliceI w t ys ∧ xs.length ≤ maxLen ∧ ys.length ≤ maxLen) :
    Calls Try.prog 7 #[.agg #[u, t, .int .i64 site, .int .i64 seq]] w fun e w' => e = .returned (.bool true) ∧ Below w.heap.size w w' := by
  obtain ⟨hu, ht, hlx, hly⟩ := h
  have HX := Lib.hid hu
  have HY := Lib.hid ht
  obtain ⟨a, cap, rfl, _, _⟩ := hu
  obtain ⟨b, cup, rfl, _, _⟩ := ht
  go_enter Try.func7, Try.ntmps7
  go_wp2_with fail
  go_quiet (fail)
  go_wp2_with fail
  refine (ref06_May _ xs _ (HX.out.below (grew (grew_alloc _ _) (grew_drewN _ nq))) hlx).mono ?_
  rintro e w1 ⟨rfl, rfl⟩
  have HX1 := Lib.hid (HX.out.below (grew (grew_alloc w (.cells #[.slice a xs.length cap, .slice b ys.length cup, .int .i64 site, .int .i64 seq] 47)) (grew_drewN _ nq)))
  have HY1 := Lib.hid (HY.out.below (grew (grew_alloc w (.cells #[.slice a xs.length cap, .slice b ys.length cup, .int .i64 site, .int .i64 seq] 47)) (grew_drewN _ nq)))
  have HB1 := Lib.hid (grew (grew_alloc w (.cells #[.slice a xs.length cap, .slice b ys.length cup, .int .i64 site, .int .i64 seq] 47)) (grew_drewN _ nq))
  generalize hW : World.drewN _ nq = w1 at *
  clear hW HX HY
  cases hm : Vecs.may xs with
  | false =>
    clear hm
    go_wp2_with fail
    refine (law06_live _).mono ?_
    rintro e w4 ⟨rfl, hb⟩
    go_wp2
    go_ret
    exact ⟨rfl, grew HB1.out hb⟩
  | true =>
    have HM := Lib.hid hm
    clear hm
    go_wp2_with fail
    refine (ref06_May _ ys _ HY1.out hly).mono ?_
    rintro e w2 ⟨rfl, rfl⟩
    cases hn : Vecs.may ys with
    | false =>
      clear hn
      go_wp2_with fail
      refine (law06_live _).mono ?_
      rintro e w4 ⟨rfl, hb⟩
      go_wp2
      go_ret
      exact ⟨rfl, grew HB1.out hb⟩
    | true =>
      have h16 := Vecs.may_len HM.out
      clear hn
      go_wp2_with fail
      refine (vec_Covers _ xs site seq _ HX1.out hlx).mono ?_
      rintro e w3 ⟨rfl, rfl⟩
      by_cases h0 : 0 ≤ site
      · have hd0 : decide (0 ≤ site) = true := decide_eq_true h0
        by_cases h1 : site < xs.length
        · obtain ⟨k, rfl⟩ : ∃ k : Nat, site = k := ⟨site.toNat, by omega⟩
          have hk : k < xs.length := by omega
          have hik : (k : Int) < (xs.length : Int) := by omega
          have hd1 : decide ((k : Int) < (xs.length : Int)) = true := decide_eq_true h1
          have hd1n : decide (k < xs.length) = true := decide_eq_true hk
          have HCA := Lib.hid (Vecs.covers_at HM.out hk seq)
          obtain ⟨b0, o0, rfl, hca⟩ : ∃ b off, a = some ⟨b, off, none⟩ ∧ w1.cell? ⟨b, off + k, none⟩ = some (.int .i64 xs[k]) := by
            obtain ⟨a', c, e, _, hrow⟩ := HX1.out
            injection e with e1 e2 e3
            subst e1
            exact SliceI.at (cap := c) hrow hk
          by_cases h2 : 1 ≤ seq
          · have hd2 : decide (1 ≤ seq) = true := decide_eq_true h2
            by_cases h3 : seq ≤ xs[k]
            · have hd3 : decide (seq ≤ xs[k]) = true := decide_eq_true h3
              have HCV : Hid (Vecs.covers xs (k : Int) seq = true) := Lib.hid (by rw [HCA.out, hd2, hd3]; rfl)
              rw [HCV.out]
              clear HCA h0 h1 h2 h3
              go_wp2_with fail
              refine (vec_Compare _ _ xs ys _ HX1.out HY1.out hlx hly).mono ?_
              rintro e w4 ⟨rfl, n4, rfl⟩
              have HX4 := Lib.hid (HX1.out.drewN n4)
              have HY4 := Lib.hid (HY1.out.drewN n4)
              have HB4 := Lib.hid (grew HB1.out (grew_drewN w1 n4))
              generalize w1.drewN n4 = w4 at *
              rcases cmpV_cases xs ys with hq | ⟨hq, ht, hbl⟩ | ⟨hq, ht, hbl⟩ | hq | hq
              · rw [hq]
                clear hq
                go_wp2_with fail
                refine (vec_Covers _ xs (k : Int) 0 _ HX4.out hlx).mono ?_
                rintro e w5 ⟨rfl, rfl⟩
                rw [Vecs.covers_zero]
                go_wp2_with fail
                refine (vec_Covers _ xs xs.length 1 _ HX4.out hlx).mono ?_
                rintro e w5 ⟨rfl, rfl⟩
                rw [Vecs.covers_out (.inr (Int.le_refl _))]
                go_wp2_with fail
                refine (law06_live _).mono ?_
                rintro e w6 ⟨rfl, hb⟩
                go_wp2
                go_ret
                exact ⟨rfl, grew HB4.out hb⟩
              · rw [hq]
                have HCY := Lib.hid (Vecs.covers_below ht hbl HCV.out)
                clear hq ht hbl
                go_wp2_with fail
                refine (vec_Covers _ ys (k : Int) seq _ HY4.out hly).mono ?_
                rintro e w5 ⟨rfl, rfl⟩
                rw [HCY.out]
                go_wp2_with fail
                refine (vec_Covers _ xs (k : Int) 0 _ HX4.out hlx).mono ?_
                rintro e w5 ⟨rfl, rfl⟩
                rw [Vecs.covers_zero]
                go_wp2_with fail
                refine (vec_Covers _ xs xs.length 1 _ HX4.out hlx).mono ?_
                rintro e w5 ⟨rfl, rfl⟩
                rw [Vecs.covers_out (.inr (Int.le_refl _))]
                go_wp2_with fail
                refine (law06_live _).mono ?_
                rintro e w6 ⟨rfl, hb⟩
                go_wp2
                go_ret
                exact ⟨rfl, grew HB4.out hb⟩
              · rw [hq]
                have HCY := Lib.hid (Vecs.covers_below ht hbl HCV.out)
                clear hq ht hbl
                go_wp2_with fail
                refine (vec_Covers _ ys (k : Int) seq _ HY4.out hly).mono ?_
                rintro e w5 ⟨rfl, rfl⟩
                rw [HCY.out]
                go_wp2_with fail
                refine (vec_Covers _ xs (k : Int) 0 _ HX4.out hlx).mono ?_
                rintro e w5 ⟨rfl, rfl⟩
                rw [Vecs.covers_zero]
                go_wp2_with fail
                refine (vec_Covers _ xs xs.length 1 _ HX4.out hlx).mono ?_
                rintro e w5 ⟨rfl, rfl⟩
                rw [Vecs.covers_out (.inr (Int.le_refl _))]
                go_wp2_with fail
                refine (law06_live _).mono ?_
                rintro e w6 ⟨rfl, hb⟩
                go_wp2
                go_ret
                exact ⟨rfl, grew HB4.out hb⟩
              · rw [hq]
                clear hq
                go_wp2_with fail
                refine (vec_Covers _ xs (k : Int) 0 _ HX4.out hlx).mono ?_
                rintro e w5 ⟨rfl, rfl⟩
                rw [Vecs.covers_zero]
                go_wp2_with fail
                refine (vec_Covers _ xs xs.length 1 _ HX4.out hlx).mono ?_
                rintro e w5 ⟨rfl, rfl⟩
                rw [Vecs.covers_out (.inr (Int.le_refl _))]
                go_wp2_with fail
                refine (law06_live _).mono ?_
                rintro e w6 ⟨rfl, hb⟩
                go_wp2
                go_ret
                exact ⟨rfl, grew HB4.out hb⟩
              · rw [hq]
                clear hq
                go_wp2_with fail
                refine (vec_Covers _ xs (k : Int) 0 _ HX4.out hlx).mono ?_
                rintro e w5 ⟨rfl, rfl⟩
                rw [Vecs.covers_zero]
                go_wp2_with fail
                refine (vec_Covers _ xs xs.length 1 _ HX4.out hlx).mono ?_
                rintro e w5 ⟨rfl, rfl⟩
                rw [Vecs.covers_out (.inr (Int.le_refl _))]
                go_wp2_with fail
                refine (law06_live _).mono ?_
                rintro e w6 ⟨rfl, hb⟩
                go_wp2
                go_ret
                exact ⟨rfl, grew HB4.out hb⟩
            · have hd3 : decide (seq ≤ xs[k]) = false := decide_eq_false h3
              have HCV : Hid (Vecs.covers xs (k : Int) seq = false) := Lib.hid (by rw [HCA.out, hd2, hd3]; rfl)
              rw [HCV.out]
              clear HCA h0 h1 h2 h3
              go_wp2_with fail
              refine (vec_Compare _ _ xs ys _ HX1.out HY1.out hlx hly).mono ?_
              rintro e w4 ⟨rfl, n4, rfl⟩
              have HX4 := Lib.hid (HX1.out.drewN n4)
              have HY4 := Lib.hid (HY1.out.drewN n4)
              have HB4 := Lib.hid (grew HB1.out (grew_drewN w1 n4))
              generalize w1.drewN n4 = w4 at *
              rcases cmpV_cases xs ys with hq | ⟨hq, ht, hbl⟩ | ⟨hq, ht, hbl⟩ | hq | hq
              all_goals
                rw [hq]
                clear hq
                go_wp2_with fail
                refine (vec_Covers _ xs (k : Int) 0 _ HX4.out hlx).mono ?_
                rintro e w5 ⟨rfl, rfl⟩
                rw [Vecs.covers_zero]
                go_wp2_with fail
                refine (vec_Covers _ xs xs.length 1 _ HX4.out hlx).mono ?_
                rintro e w5 ⟨rfl, rfl⟩
                rw [Vecs.covers_out (.inr (Int.le_refl _))]
                go_wp2_with fail
                refine (law06_live _).mono ?_
                rintro e w6 ⟨rfl, hb⟩
                go_wp2
                go_ret
                exact ⟨rfl, grew HB4.out hb⟩
          · have hd2 : decide (1 ≤ seq) = false := decide_eq_false h2
            have HCV : Hid (Vecs.covers xs (k : Int) seq = false) := Lib.hid (by rw [HCA.out, hd2]; rfl)
            rw [HCV.out]
            clear HCA h0 h1 h2
            go_wp2_with fail
            refine (vec_Compare _ _ xs ys _ HX1.out HY1.out hlx hly).mono ?_
            rintro e w4 ⟨rfl, n4, rfl⟩
            have HX4 := Lib.hid (HX1.out.drewN n4)
            have HY4 := Lib.hid (HY1.out.drewN n4)
            have HB4 := Lib.hid (grew HB1.out (grew_drewN w1 n4))
            generalize w1.drewN n4 = w4 at *
            rcases cmpV_cases xs ys with hq | ⟨hq, ht, hbl⟩ | ⟨hq, ht, hbl⟩ | hq | hq
            all_goals
              rw [hq]
              clear hq
              go_wp2_with fail
              refine (vec_Covers _ xs (k : Int) 0 _ HX4.out hlx).mono ?_
              rintro e w5 ⟨rfl, rfl⟩
              rw [Vecs.covers_zero]
              go_wp2_with fail
              refine (vec_Covers _ xs xs.length 1 _ HX4.out hlx).mono ?_
              rintro e w5 ⟨rfl, rfl⟩
              rw [Vecs.covers_out (.inr (Int.le_refl _))]
              go_wp2_with fail
              refine (law06_live _).mono ?_
              rintro e w6 ⟨rfl, hb⟩
              go_wp2
              go_ret
              exact ⟨rfl, grew HB4.out hb⟩
        · have hd1 : decide (site < (xs.length : Int)) = false := decide_eq_false h1
          have HCV : Hid (Vecs.covers xs site seq = false) := Lib.hid (Vecs.covers_out (.inr (by omega)))
          rw [HCV.out]
          clear h0 h1
          go_wp2_with fail
          refine (vec_Compare _ _ xs ys _ HX1.out HY1.out hlx hly).mono ?_
          rintro e w4 ⟨rfl, n4, rfl⟩
          have HX4 := Lib.hid (HX1.out.drewN n4)
          have HY4 := Lib.hid (HY1.out.drewN n4)
          have HB4 := Lib.hid (grew HB1.out (grew_drewN w1 n4))
          generalize w1.drewN n4 = w4 at *
          rcases cmpV_cases xs ys with hq | ⟨hq, ht, hbl⟩ | ⟨hq, ht, hbl⟩ | hq | hq
          all_goals
            rw [hq]
            clear hq
            go_wp2_with fail
            refine (vec_Covers _ xs site 0 _ HX4.out hlx).mono ?_
            rintro e w5 ⟨rfl, rfl⟩
            rw [Vecs.covers_zero]
            go_wp2_with fail
            refine (vec_Covers _ xs xs.length 1 _ HX4.out hlx).mono ?_
            rintro e w5 ⟨rfl, rfl⟩
            rw [Vecs.covers_out (.inr (Int.le_refl _))]
            go_wp2_with fail
            refine (law06_live _).mono ?_
            rintro e w6 ⟨rfl, hb⟩
            go_wp2
            go_ret
            exact ⟨rfl, grew HB4.out hb⟩
      · have hd0 : decide (0 ≤ site) = false := decide_eq_false h0
        have HCV : Hid (Vecs.covers xs site seq = false) := Lib.hid (Vecs.covers_out (.inl (by omega)))
        rw [HCV.out]
        clear h0
        go_wp2_with fail
        refine (vec_Compare _ _ xs ys _ HX1.out HY1.out hlx hly).mono ?_
        rintro e w4 ⟨rfl, n4, rfl⟩
        have HX4 := Lib.hid (HX1.out.drewN n4)
        have HY4 := Lib.hid (HY1.out.drewN n4)
        have HB4 := Lib.hid (grew HB1.out (grew_drewN w1 n4))
        generalize w1.drewN n4 = w4 at *
        rcases cmpV_cases xs ys with hq | ⟨hq, ht, hbl⟩ | ⟨hq, ht, hbl⟩ | hq | hq
        all_goals
          rw [hq]
          clear hq
          go_wp2_with fail
          refine (vec_Covers _ xs site 0 _ HX4.out hlx).mono ?_
          rintro e w5 ⟨rfl, rfl⟩
          rw [Vecs.covers_zero]
          go_wp2_with fail
          refine (vec_Covers _ xs xs.length 1 _ HX4.out hlx).mono ?_
          rintro e w5 ⟨rfl, rfl⟩
          rw [Vecs.covers_out (.inr (Int.le_refl _))]
          go_wp2_with fail
          refine (law06_live _).mono ?_
          rintro e w6 ⟨rfl, hb⟩
          go_wp2
          go_ret
          exact ⟨rfl, grew HB4.out hb⟩
end Go.Proofs.Ytbbjoaennnopoaa
