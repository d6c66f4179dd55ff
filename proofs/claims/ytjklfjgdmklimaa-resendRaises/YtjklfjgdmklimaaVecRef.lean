/- What May, together, Below, Compare, Covers of duetref06 and Compare of vec come to. -/
import Derived.Test.YtjklfjgdmklimaaVecChk
namespace Go.Proofs.Ytjklfjgdmklimaa
open Go.RowKit
set_option linter.unusedVariables false

set_option maxHeartbeats 1000000 in
theorem ref06_Below (v u : Value) (xs ys : List Int) (w : World) (hv : SliceI w v xs) (hu : SliceI w u ys) (hm : xs.length ≤ maxLen) (hm2 : ys.length ≤ maxLen) :
    Calls Try.prog 22 #[v, u] w fun e w' => e = .returned (.bool (Vecs.below xs ys)) ∧ ∃ n, w' = w.drewN n := by
  obtain ⟨a, cap, rfl, hcap, hrow⟩ := hv
  obtain ⟨b, cup, rfl, hcup, hrow2⟩ := hu
  have HA := Lib.hid hrow
  have HB := Lib.hid hrow2
  unfold maxLen at hm hm2
  clear hrow hrow2
  go_enter Try.func22, Try.ntmps22
  go_wp2
  go_loopw [5] (fun i wr => ∃ k : Nat, k ≤ xs.length ∧ k ≤ ys.length ∧ i = .int .i64 k ∧ Vecs.below (xs.take k) (ys.take k) = true ∧ ∃ n, wr = w.drewN n) (fun i _ => xs.length - (intOf i).toNat)
  case atStart => exact ⟨0, by omega, by omega, rfl, rfl, 0, rfl⟩
  case round =>
    obtain ⟨k, hk, hk2, rfl, hbel, n, rfl⟩ := hrel
    have HL := Lib.hid hbel
    clear hbel
    by_cases hlt : k < xs.length
    · have hdk : decide ((k : Int) < (xs.length : Int)) = true := decide_eq_true (by omega)
      have hdn : decide (k < xs.length) = true := decide_eq_true hlt
      by_cases hlt2 : k < ys.length
      · have hdk2 : decide ((k : Int) < (ys.length : Int)) = true := decide_eq_true (by omega)
        have hdn2 : decide (k < ys.length) = true := decide_eq_true hlt2
        have hia : (k : Int) < (xs.length : Int) := by omega
        have hib : (k : Int) < (ys.length : Int) := by omega
        obtain ⟨ba, oa, rfl, hca⟩ := SliceI.at (cap := cap) HA.out hlt
        obtain ⟨bb, ob, rfl, hcb⟩ := SliceI.at (cap := cup) HB.out hlt2
        have HS := Lib.hid (Vecs.below_snoc hlt hlt2)
        have HN : Hid (ys[k] < xs[k] → Vecs.below xs ys = false) := Lib.hid (fun h => by
          rw [← Bool.not_eq_true]; intro g; have := Vecs.below_iff.1 g k hlt hlt2; omega)
        generalize xs[k] = x at *
        generalize ys[k] = y at *
        by_cases hxy : y < x
        · have hd : decide (y < x) = true := decide_eq_true hxy
          have HR := Lib.hid (HN.out hxy)
          clear hxy
          go_wp2
          go_quiet (fail)
          go_wp2
          go_ret
          exact ⟨by rw [HR.out]; rfl, _, World.drewN_drewN _ _ _⟩
        · have hd : decide (y < x) = false := decide_eq_false hxy
          have HR : Hid (Vecs.below (xs.take (k + 1)) (ys.take (k + 1)) = true) := Lib.hid (by rw [HS.out, HL.out, decide_eq_true (by omega)]; rfl)
          clear hxy
          go_wp2
          go_quiet (fail)
          go_wp2
          go_roundw
          case rel => exact ⟨k + 1, by omega, by omega, by go_num, HR.out, n + nq, by simp⟩
          case measure => simp [intOf]; omega
      · have hdk2 : decide ((k : Int) < (ys.length : Int)) = false := decide_eq_false (by omega)
        have hdn2 : decide (k < ys.length) = false := decide_eq_false hlt2
        have HR : Hid (Vecs.below xs ys = true) := Lib.hid (by
          refine Vecs.below_iff.2 fun j h1 h2 => ?_
          have := Vecs.below_iff.1 HL.out j (by rw [List.length_take]; omega) (by rw [List.length_take]; omega)
          simpa using this)
        go_wp2
        go_ret
        exact ⟨by rw [HR.out]; rfl, n, rfl⟩
    · have hdk : decide ((k : Int) < (xs.length : Int)) = false := decide_eq_false (by omega)
      have hdn : decide (k < xs.length) = false := decide_eq_false hlt
      have HR : Hid (Vecs.below xs ys = true) := Lib.hid (by
        refine Vecs.below_iff.2 fun j h1 h2 => ?_
        have := Vecs.below_iff.1 HL.out j (by rw [List.length_take]; omega) (by rw [List.length_take]; omega)
        simpa using this)
      go_wp2
      go_ret
      exact ⟨by rw [HR.out]; rfl, n, rfl⟩

/-- What Compare hands back. -/
def cmpV (xs ys : List Int) : Value := if Vecs.together xs ys then .tuple #[.int .i64 (Vecs.cmp xs ys), .int .i64 0] else .tuple #[.int .i64 0, .int .i64 1]
theorem cmpV_yes {xs ys : List Int} (h : Vecs.together xs ys = true) : cmpV xs ys = .tuple #[.int .i64 (Vecs.cmp xs ys), .int .i64 0] := by unfold cmpV; rw [if_pos h]
theorem cmpV_no {xs ys : List Int} (h : Vecs.together xs ys = false) : cmpV xs ys = .tuple #[.int .i64 0, .int .i64 1] := by unfold cmpV; rw [h]; rfl

theorem SliceI.drewN {w : World} {v : Value} {zs : List Int} (h : SliceI w v zs) (n : Nat) : SliceI (w.drewN n) v zs := h.below (grew_drewN w n)

set_option maxHeartbeats 1000000 in
theorem vec_Compare (v u : Value) (xs ys : List Int) (w : World) (hv : SliceI w v xs) (hu : SliceI w u ys) (hm : xs.length ≤ maxLen) (hm2 : ys.length ≤ maxLen) :
    Calls Try.prog 48 #[v, u] w fun e w' => e = .returned (cmpV xs ys) ∧ ∃ n, w' = w.drewN n := by
  have HC := Lib.hid (vec_together v u xs ys w hv hu hm hm2)
  obtain ⟨a, cap, rfl, hcap, hrow⟩ := hv
  obtain ⟨b, cup, rfl, hcup, hrow2⟩ := hu
  have HA := Lib.hid hrow
  have HB := Lib.hid hrow2
  unfold maxLen at hm hm2
  clear hrow hrow2
  go_enter Try.func48, Try.ntmps48
  go_wp2_with fail
  refine HC.out.mono ?_
  rintro e w1 ⟨rfl, rfl⟩
  cases hx : Vecs.together xs ys with
  | false =>
    have HR := Lib.hid (cmpV_no hx)
    clear hx
    go_wp2
    go_ret2
    exact ⟨by rw [HR.out]; rfl, 0, rfl⟩
  | true =>
    have HR := Lib.hid (cmpV_yes hx)
    have HL := Lib.hid (Vecs.together_iff.1 hx).2.2
    clear hx
    go_wp2
    go_loopw [6, 7, 15] (fun p q i wr => ∃ k : Nat, k ≤ xs.length ∧ i = .int .i64 k ∧ p = .bool (!Vecs.below (xs.take k) (ys.take k)) ∧ q = .bool (!Vecs.below (ys.take k) (xs.take k)) ∧ ∃ n, wr = w.drewN n) (fun _ _ i _ => xs.length - (intOf i).toNat)
    case atStart => exact ⟨0, by omega, rfl, rfl, rfl, 0, rfl⟩
    case round =>
      obtain ⟨k, hk, rfl, rfl, rfl, n, rfl⟩ := hrel
      by_cases hlt : k < xs.length
      · have hdk : decide ((k : Int) < (xs.length : Int)) = true := decide_eq_true (by omega)
        have hdn : decide (k < xs.length) = true := decide_eq_true hlt
        have hlt2 : k < ys.length := by rw [← HL.out]; exact hlt
        have hia : (k : Int) < (xs.length : Int) := by omega
        have hib : (k : Int) < (ys.length : Int) := by omega
        obtain ⟨ba, oa, rfl, hca⟩ := SliceI.at (cap := cap) HA.out hlt
        obtain ⟨bb, ob, rfl, hcb⟩ := SliceI.at (cap := cup) HB.out hlt2
        have HS := Lib.hid (Vecs.below_snoc hlt hlt2)
        have HS2 := Lib.hid (Vecs.below_snoc hlt2 hlt)
        have HXY : Hid (decide (xs[k] ≤ ys[k]) = !decide (ys[k] < xs[k])) := Lib.hid (by rw [← decide_not]; exact decide_eq_decide.2 (by omega))
        have HYX : Hid (decide (ys[k] ≤ xs[k]) = !decide (xs[k] < ys[k])) := Lib.hid (by rw [← decide_not]; exact decide_eq_decide.2 (by omega))
        generalize xs[k] = x at *
        generalize ys[k] = y at *
        generalize Vecs.below (xs.take k) (ys.take k) = p at *
        generalize Vecs.below (ys.take k) (xs.take k) = q at *
        cases p <;> cases q
        all_goals
          simp only [Bool.not_true, Bool.not_false]
          go_wp2
          go_quiet (fail)
          go_wp2
          go_quiet (fail)
          go_wp2
          go_roundw
          case rel => exact ⟨k + 1, by omega, by go_num, by rw [HS.out, HXY.out]; simp, by rw [HS2.out, HYX.out]; simp, _, rfl⟩
          case measure => simp [intOf]; omega
      · have hdk : decide ((k : Int) < (xs.length : Int)) = false := decide_eq_false (by omega)
        have hdn : decide (k < xs.length) = false := decide_eq_false hlt
        have e1 : xs.take k = xs := List.take_of_length_le (by omega)
        have e2 : ys.take k = ys := List.take_of_length_le (by rw [← HL.out]; omega)
        rw [e1, e2]
        clear e1 e2
        have HCM : Hid (Vecs.cmp xs ys = if Vecs.below xs ys then (if Vecs.below ys xs then 0 else 1) else (if Vecs.below ys xs then 2 else 3)) := Lib.hid rfl
        generalize Vecs.below xs ys = p at *
        generalize Vecs.below ys xs = q at *
        cases p <;> cases q
        all_goals
          simp only [Bool.not_true, Bool.not_false]
          go_wp2
          go_ret2
          exact ⟨by rw [HR.out, HCM.out]; rfl, n, rfl⟩
end Go.Proofs.Ytjklfjgdmklimaa
