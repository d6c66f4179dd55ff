/- The walks of VecTurned, VecTicks and VecZero. -/
import Derived.Test.YtbbjoaennnopoaaVecLive
set_option linter.unusedVariables false
namespace Vecs

theorem below_refl (xs : List Int) : below xs xs = true := below_iff.2 fun k _ _ => Int.le_refl _
theorem below_antisymm {xs ys : List Int} (hl : xs.length = ys.length) (h : below xs ys = true) (h' : below ys xs = true) : xs = ys := by
  refine List.ext_getElem hl fun k h1 h2 => ?_
  have a := below_iff.1 h k h1 h2
  have b := below_iff.1 h' k h2 h1
  omega
theorem cmp_refl (xs : List Int) : cmp xs xs = 0 := by unfold cmp; rw [below_refl]; rfl
theorem together_comm (xs ys : List Int) : together xs ys = together ys xs := by
  rw [Bool.eq_iff_iff, together_iff, together_iff]
  exact ⟨fun ⟨a, b, c⟩ => ⟨b, a, c.symm⟩, fun ⟨a, b, c⟩ => ⟨b, a, c.symm⟩⟩
theorem together_self {xs ys : List Int} (h : together xs ys = true) : together xs xs = true := by
  obtain ⟨a, b, c⟩ := together_iff.1 h
  exact together_iff.2 ⟨a, a, rfl⟩
/-- How two stand, both ways round, and whether they are the same. -/
theorem cmp_cases {xs ys : List Int} (h : together xs ys = true) :
    (cmp xs ys = 0 ∧ cmp ys xs = 0 ∧ decide (xs = ys) = true) ∨ (cmp xs ys = 1 ∧ cmp ys xs = 2 ∧ decide (xs = ys) = false) ∨ (cmp xs ys = 2 ∧ cmp ys xs = 1 ∧ decide (xs = ys) = false) ∨ (cmp xs ys = 3 ∧ cmp ys xs = 3 ∧ decide (xs = ys) = false) := by
  have hl := (together_iff.1 h).2.2
  have hs : xs = ys → below xs ys = true ∧ below ys xs = true := fun e => by subst e; exact ⟨below_refl _, below_refl _⟩
  cases h1 : below xs ys <;> cases h2 : below ys xs
  · exact .inr (.inr (.inr ⟨by simp [cmp, h1, h2], by simp [cmp, h1, h2], decide_eq_false fun e => by rw [h1] at hs; exact absurd (hs e).1 (by decide)⟩))
  · exact .inr (.inr (.inl ⟨by simp [cmp, h1, h2], by simp [cmp, h1, h2], decide_eq_false fun e => by rw [h1] at hs; exact absurd (hs e).1 (by decide)⟩))
  · exact .inr (.inl ⟨by simp [cmp, h1, h2], by simp [cmp, h1, h2], decide_eq_false fun e => by rw [h2] at hs; exact absurd (hs e).2 (by decide)⟩)
  · exact .inl ⟨by simp [cmp, h1, h2], by simp [cmp, h1, h2], decide_eq_true (below_antisymm hl h1 h2)⟩
end Vecs

namespace Go.Proofs.Ytbbjoaennnopoaa
open Go.RowKit
set_option linter.unusedVariables false

theorem cmpV_self (xs : List Int) : cmpV xs xs = if Vecs.may xs then .tuple #[.int .i64 0, .int .i64 0] else .tuple #[.int .i64 0, .int .i64 1] := by
  unfold cmpV
  have : Vecs.together xs xs = Vecs.may xs := by rw [Bool.eq_iff_iff, Vecs.together_iff]; simp
  rw [this, Vecs.cmp_refl]

set_option maxRecDepth 100000 in
set_option maxHeartbeats 4000000 in
theorem walk_VecTurned (a0 : Option Addr) (len0 cap0 : Nat) (z0 : List Int) (a1 : Option Addr) (len1 cap1 : Nat) (z1 : List Int) (w : World) (h0 : IsRow .i64 w a0 len0 cap0 z0) (h1 : IsRow .i64 w a1 len1 cap1 z1) :
    Calls Try.prog 6 #[.slice a0 len0 cap0, .slice a1 len1 cap1] w fun e w' => e = .returned (.bool true) ∧ Below w.heap.size w w' := by
  obtain ⟨xs, hx, rfl, hlx, _⟩ := h0.slice
  obtain ⟨ys, hy, rfl, hly, _⟩ := h1.slice
  have HX := Lib.hid hx
  have HY := Lib.hid hy
  clear h0 h1 hx hy
  by_cases hlong : xs.length > 30 ∨ ys.length > 30
  · unfold maxLen at hlx hly
    rcases (by omega : 30 < xs.length ∨ (¬ 30 < xs.length ∧ 30 < ys.length)) with hd | ⟨hd, hd2⟩
    · have hd' : decide ((30 : Int) < (xs.length : Int)) = true := decide_eq_true (by omega)
      clear hlong hd
      go_enter Try.func6, Try.ntmps6
      go_wp2_with fail
      refine (law06_live _).mono ?_
      rintro e w1 ⟨rfl, hb⟩
      go_wp2
      go_ret
      exact ⟨rfl, hb⟩
    · have hd' : decide ((30 : Int) < (xs.length : Int)) = false := decide_eq_false (by omega)
      have hd2' : decide ((30 : Int) < (ys.length : Int)) = true := decide_eq_true (by omega)
      clear hlong hd hd2
      go_enter Try.func6, Try.ntmps6
      go_wp2_with fail
      refine (law06_live _).mono ?_
      rintro e w1 ⟨rfl, hb⟩
      go_wp2
      go_ret
      exact ⟨rfl, hb⟩
  · have hd' : decide ((30 : Int) < (xs.length : Int)) = false := decide_eq_false (by omega)
    have hd2' : decide ((30 : Int) < (ys.length : Int)) = false := decide_eq_false (by omega)
    have hlx' : xs.length ≤ 30 := by omega
    have hly' : ys.length ≤ 30 := by omega
    clear hlong
    go_enter Try.func6, Try.ntmps6
    go_wp2_with fail
    refine (vec_Compare _ _ xs ys _ HX.out HY.out hlx hly).mono ?_
    rintro e w1 ⟨rfl, n1, rfl⟩
    have HX1 := Lib.hid (HX.out.drewN n1)
    have HY1 := Lib.hid (HY.out.drewN n1)
    have HB1 := Lib.hid (grew_drewN w n1)
    generalize w.drewN n1 = w1 at *
    cases ht : Vecs.together xs ys with
    | false =>
      rw [cmpV_no ht]
      have ht2 := ht
      rw [Vecs.together_comm] at ht2
      have HT2 := Lib.hid ht2
      clear ht ht2
      go_wp2_with fail
      refine (vec_Compare _ _ ys xs _ HY1.out HX1.out hly hlx).mono ?_
      rintro e w2 ⟨rfl, n2, rfl⟩
      rw [cmpV_no HT2.out]
      have HX2 := Lib.hid (HX1.out.drewN n2)
      have HB2 := Lib.hid (grew HB1.out (grew_drewN w1 n2))
      generalize w1.drewN n2 = w2 at *
      go_wp2_with fail
      refine (vec_Compare _ _ xs xs _ HX2.out HX2.out hlx hlx).mono ?_
      rintro e w3 ⟨rfl, n3, rfl⟩
      have HB3 := Lib.hid (grew HB2.out (grew_drewN w2 n3))
      generalize w2.drewN n3 = w3 at *
      rw [cmpV_self]
      cases hm : Vecs.may xs
      all_goals
        simp only [Bool.false_eq_true, if_false, if_true]
        go_wp2_with fail
        refine (law06_live _).mono ?_
        rintro e w4 ⟨rfl, hb⟩
        go_wp2
        go_ret
        exact ⟨rfl, grew HB3.out hb⟩
    | true =>
      rw [cmpV_yes ht]
      have ht2 := ht
      rw [Vecs.together_comm] at ht2
      have HT2 := Lib.hid ht2
      have HM := Lib.hid (Vecs.together_iff.1 ht).1
      have HC := Lib.hid (Vecs.cmp_cases ht)
      clear ht ht2
      go_wp2_with fail
      refine (vec_Compare _ _ ys xs _ HY1.out HX1.out hly hlx).mono ?_
      rintro e w2 ⟨rfl, n2, rfl⟩
      rw [cmpV_yes HT2.out]
      have HX2 := Lib.hid (HX1.out.drewN n2)
      have HY2 := Lib.hid (HY1.out.drewN n2)
      have HB2 := Lib.hid (grew HB1.out (grew_drewN w1 n2))
      generalize w1.drewN n2 = w2 at *
      go_wp2_with fail
      refine (vec_Compare _ _ xs xs _ HX2.out HX2.out hlx hlx).mono ?_
      rintro e w3 ⟨rfl, n3, rfl⟩
      have HX3 := Lib.hid (HX2.out.drewN n3)
      have HY3 := Lib.hid (HY2.out.drewN n3)
      have HB3 := Lib.hid (grew HB2.out (grew_drewN w2 n3))
      generalize w2.drewN n3 = w3 at *
      rw [cmpV_self, HM.out]
      simp only [if_true]
      generalize Vecs.cmp xs ys = p at *
      generalize Vecs.cmp ys xs = q at *
      have hc := HC.out
      clear HC
      rcases hc with ⟨rfl, rfl, he⟩ | ⟨rfl, rfl, he⟩ | ⟨rfl, rfl, he⟩ | ⟨rfl, rfl, he⟩
      all_goals
        have HE := Lib.hid he
        clear he
        go_wp2_with fail
        refine (ref01_Same _ _ xs ys _ HX3.out HY3.out (by omega) (by omega)).mono ?_
        rintro e w4 ⟨rfl, hb4⟩
        rw [HE.out]
        go_wp2_with fail
        refine (law06_live _).mono ?_
        rintro e w5 ⟨rfl, hb5⟩
        go_wp2
        go_ret
        exact ⟨rfl, grew HB3.out (grew hb4 hb5)⟩
end Go.Proofs.Ytbbjoaennnopoaa
