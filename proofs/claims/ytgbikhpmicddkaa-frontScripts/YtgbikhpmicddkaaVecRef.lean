/- What May, together, Below, Compare, Covers of duetref06 and Compare of vec come to. -/
import Derived.Test.YtgbikhpmicddkaaVecChk
namespace Go.Proofs.Ytgbikhpmicddkaa
open Go.RowKit
set_option linter.unusedVariables false

set_option maxHeartbeats 1000000 in
theorem ref06_May (v : Value) (zs : List Int) (w : World) (hv : SliceI w v zs) (hm : zs.length ≤ maxLen) :
    Calls Try.prog 23 #[v] w fun e w' => e = .returned (.bool (Vecs.may zs)) ∧ w = w' := by
  unfold maxLen at hm
  obtain ⟨a, cap, rfl, hcap, hrow⟩ := hv
  have HROW := Lib.hid hrow
  have HY : Hid ((∀ z ∈ zs, Vecs.Ok z) → Vecs.may zs = (decide ((1 : Int) ≤ (zs.length : Int)) && decide ((zs.length : Int) ≤ 16))) := Lib.hid (fun h => by
    rw [Bool.eq_iff_iff, Vecs.may_iff]
    simp only [Bool.and_eq_true, decide_eq_true_eq]
    exact ⟨fun g => ⟨by omega, by omega⟩, fun g => ⟨by omega, by omega, h⟩⟩)
  clear hrow
  go_enter Try.func23, Try.ntmps23
  go_wp2
  go_loopw [3] (fun i wr => ∃ k : Nat, k ≤ zs.length ∧ i = .int .i64 k ∧ (∀ z ∈ zs.take k, Vecs.Ok z) ∧ w = wr) (fun i _ => zs.length - (intOf i).toNat)
  case atStart => exact ⟨0, by omega, rfl, by simp, rfl⟩
  case round =>
    obtain ⟨k, hk, rfl, hfit, rfl⟩ := hrel
    have HF := Lib.hid hfit
    clear hfit
    by_cases hlt : k < zs.length
    · have hdk : decide ((k : Int) < (zs.length : Int)) = true := decide_eq_true (by omega)
      have hdn : decide (k < zs.length) = true := by simpa using hlt
      have hik : (k : Int) < (zs.length : Int) := by omega
      obtain ⟨blk, off, rfl, hcell⟩ := SliceI.at (cap := cap) HROW.out hlt
      have HO : Hid (Vecs.Ok zs[k] → ∀ z ∈ zs.take (k + 1), Vecs.Ok z) := Lib.hid (fun h => Vecs.ok_snoc hlt HF.out h)
      have HB : Hid (¬ Vecs.Ok zs[k] → Vecs.may zs = false) := Lib.hid (fun h => Vecs.may_bad hlt h)
      generalize zs[k] = x at *
      by_cases hx : Vecs.Ok x
      · have hx1 : decide (x < 0) = false := decide_eq_false (by have := hx.1; omega)
        have hx2 : decide (4294967295 < x) = false := decide_eq_false (by have := hx.2; omega)
        have HO2 := Lib.hid (HO.out hx)
        clear hx
        go_wp2
        go_roundw
        case rel => exact ⟨k + 1, by omega, by go_num, HO2.out, trivial⟩
        case measure => simp [intOf]; omega
      · have HB2 := Lib.hid (HB.out hx)
        by_cases hx0 : x < 0
        · have hx1 : decide (x < 0) = true := by simpa using hx0
          clear hx hx0
          go_wp2
          go_ret
          exact ⟨by rw [HB2.out]; rfl, rfl⟩
        · have hx1 : decide (x < 0) = false := by simpa using hx0
          have hx2 : decide (4294967295 < x) = true := decide_eq_true (by unfold Vecs.Ok at hx; omega)
          clear hx hx0
          go_wp2
          go_ret
          exact ⟨by rw [HB2.out]; rfl, rfl⟩
    · have hdn : decide (k < zs.length) = false := by simpa using hlt
      have e1 : zs.take k = zs := List.take_of_length_le (by omega)
      have HE := Lib.hid (HY.out (by rw [← e1]; exact HF.out))
      clear e1
      by_cases h1 : 1 ≤ zs.length
      · have hd1 : decide ((1 : Int) ≤ (zs.length : Int)) = true := decide_eq_true (by omega)
        clear h1
        go_wp2
        go_ret
        exact ⟨by rw [HE.out, hd1]; rfl, rfl⟩
      · obtain rfl : zs = [] := List.eq_nil_of_length_eq_zero (by omega)
        clear h1
        go_wp2
        go_ret
        exact ⟨rfl, rfl⟩

set_option maxHeartbeats 1000000 in
theorem ref06_together (v u : Value) (xs ys : List Int) (w : World) (hv : SliceI w v xs) (hu : SliceI w u ys) (hm : xs.length ≤ maxLen) (hm2 : ys.length ≤ maxLen) :
    Calls Try.prog 35 #[v, u] w fun e w' => e = .returned (.bool (Vecs.together xs ys)) ∧ w = w' := by
  have HC := Lib.hid (ref06_May v xs w hv hm)
  have HD := Lib.hid (ref06_May u ys w hu hm2)
  obtain ⟨a, cap, rfl, hcap, hrow⟩ := hv
  obtain ⟨b, cup, rfl, hcup, hrow2⟩ := hu
  unfold maxLen at hm hm2
  clear hrow hrow2
  have HE : Hid (((xs.length : Int) == (ys.length : Int)) = decide (xs.length = ys.length)) := Lib.hid (by
    rw [Bool.eq_iff_iff, beq_iff_eq, decide_eq_true_eq]; omega)
  go_enter Try.func35, Try.ntmps35
  go_wp2_with fail
  refine HC.out.mono ?_
  rintro e w1 ⟨rfl, rfl⟩
  cases hx : Vecs.may xs with
  | false =>
    have HT : Hid (Vecs.together xs ys = false) := Lib.hid (by unfold Vecs.together; rw [hx]; rfl)
    clear hx
    go_wp2
    go_ret
    exact ⟨by rw [HT.out]; rfl, rfl⟩
  | true =>
    have HX := Lib.hid hx
    clear hx
    go_wp2_with fail
    refine HD.out.mono ?_
    rintro e w1 ⟨rfl, rfl⟩
    cases hy : Vecs.may ys with
    | false =>
      have HT : Hid (Vecs.together xs ys = false) := Lib.hid (by unfold Vecs.together; rw [hy, Bool.and_false]; rfl)
      clear hy
      go_wp2
      go_ret
      exact ⟨by rw [HT.out]; rfl, rfl⟩
    | true =>
      have HT : Hid (Vecs.together xs ys = ((xs.length : Int) == (ys.length : Int))) := Lib.hid (by unfold Vecs.together; rw [hy, HX.out, HE.out]; rfl)
      clear hy
      go_wp2
      go_ret
      exact ⟨by rw [HT.out]; rfl, rfl⟩

/-- What Compare hands back. -/
def cmpV (xs ys : List Int) : Value := if Vecs.together xs ys then .tuple #[.int .i64 (Vecs.cmp xs ys), .int .i64 0] else .tuple #[.int .i64 0, .int .i64 1]
theorem cmpV_yes {xs ys : List Int} (h : Vecs.together xs ys = true) : cmpV xs ys = .tuple #[.int .i64 (Vecs.cmp xs ys), .int .i64 0] := by unfold cmpV; rw [if_pos h]
theorem cmpV_no {xs ys : List Int} (h : Vecs.together xs ys = false) : cmpV xs ys = .tuple #[.int .i64 0, .int .i64 1] := by unfold cmpV; rw [h]; rfl

theorem SliceI.drewN {w : World} {v : Value} {zs : List Int} (h : SliceI w v zs) (n : Nat) : SliceI (w.drewN n) v zs := h.below (grew_drewN w n)

set_option maxHeartbeats 1000000 in
theorem vec_Compare (v u : Value) (xs ys : List Int) (w : World) (hv : SliceI w v xs) (hu : SliceI w u ys) (hm : xs.length ≤ maxLen) (hm2 : ys.length ≤ maxLen) :
    Calls Try.prog 29 #[v, u] w fun e w' => e = .returned (cmpV xs ys) ∧ ∃ n, w' = w.drewN n := by
  have HC := Lib.hid (vec_together v u xs ys w hv hu hm hm2)
  obtain ⟨a, cap, rfl, hcap, hrow⟩ := hv
  obtain ⟨b, cup, rfl, hcup, hrow2⟩ := hu
  have HA := Lib.hid hrow
  have HB := Lib.hid hrow2
  unfold maxLen at hm hm2
  clear hrow hrow2
  go_enter Try.func29, Try.ntmps29
  go_wp2_with fail
  refine HC.out.mono ?_
  rintro e w1 ⟨rfl, rfl⟩
  cases hx : Vecs.together xs ys with
  | false =>
    have HR := Lib.hid (cmpV_no hx)
    clear hx
    go_wp2
    go_ret2
    exact ⟨by rw [HR.out]; rfl, 0, rfl⟩
  | true =>
    have HR := Lib.hid (cmpV_yes hx)
    have HL := Lib.hid (Vecs.together_iff.1 hx).2.2
    clear hx
    go_wp2
    go_loopw [6, 7, 15] (fun p q i wr => ∃ k : Nat, k ≤ xs.length ∧ i = .int .i64 k ∧ p = .bool (!Vecs.below (xs.take k) (ys.take k)) ∧ q = .bool (!Vecs.below (ys.take k) (xs.take k)) ∧ ∃ n, wr = w.drewN n) (fun _ _ i _ => xs.length - (intOf i).toNat)
    case atStart => exact ⟨0, by omega, rfl, rfl, rfl, 0, rfl⟩
    case round =>
      obtain ⟨k, hk, rfl, rfl, rfl, n, rfl⟩ := hrel
      by_cases hlt : k < xs.length
      · have hdk : decide ((k : Int) < (xs.length : Int)) = true := decide_eq_true (by omega)
        have hdn : decide (k < xs.length) = true := decide_eq_true hlt
        have hlt2 : k < ys.length := by rw [← HL.out]; exact hlt
        have hia : (k : Int) < (xs.length : Int) := by omega
        have hib : (k : Int) < (ys.length : Int) := by omega
        obtain ⟨ba, oa, rfl, hca⟩ := SliceI.at (cap := cap) HA.out hlt
        obtain ⟨bb, ob, rfl, hcb⟩ := SliceI.at (cap := cup) HB.out hlt2
        have HS := Lib.hid (Vecs.below_snoc hlt hlt2)
        have HS2 := Lib.hid (Vecs.below_snoc hlt2 hlt)
        have HXY : Hid (decide (xs[k] ≤ ys[k]) = !decide (ys[k] < xs[k])) := Lib.hid (by rw [← decide_not]; exact decide_eq_decide.2 (by omega))
        have HYX : Hid (decide (ys[k] ≤ xs[k]) = !decide (xs[k] < ys[k])) := Lib.hid (by rw [← decide_not]; exact decide_eq_decide.2 (by omega))
        generalize xs[k] = x at *
        generalize ys[k] = y at *
        generalize Vecs.below (xs.take k) (ys.take k) = p at *
        generalize Vecs.below (ys.take k) (xs.take k) = q at *
        cases p <;> cases q
        all_goals
          simp only [Bool.not_true, Bool.not_false]
          go_wp2
          go_quiet (fail)
          go_wp2
          go_quiet (fail)
          go_wp2
          go_roundw
          case rel => exact ⟨k + 1, by omega, by go_num, by rw [HS.out, HXY.out]; simp, by rw [HS2.out, HYX.out]; simp, _, rfl⟩
          case measure => simp [intOf]; omega
      · have hdk : decide ((k : Int) < (xs.length : Int)) = false := decide_eq_false (by omega)
        have hdn : decide (k < xs.length) = false := decide_eq_false hlt
        have e1 : xs.take k = xs := List.take_of_length_le (by omega)
        have e2 : ys.take k = ys := List.take_of_length_le (by rw [← HL.out]; omega)
        rw [e1, e2]
        clear e1 e2
        have HCM : Hid (Vecs.cmp xs ys = if Vecs.below xs ys then (if Vecs.below ys xs then 0 else 1) else (if Vecs.below ys xs then 2 else 3)) := Lib.hid rfl
        generalize Vecs.below xs ys = p at *
        generalize Vecs.below ys xs = q at *
        cases p <;> cases q
        all_goals
          simp only [Bool.not_true, Bool.not_false]
          go_wp2
          go_ret2
          exact ⟨by rw [HR.out, HCM.out]; rfl, n, rfl⟩
end Go.Proofs.Ytgbikhpmicddkaa
