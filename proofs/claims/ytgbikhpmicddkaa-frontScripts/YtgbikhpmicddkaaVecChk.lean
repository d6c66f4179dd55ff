/- What Check, has, together, Covers of vec, and May, together, Covers of the reference, come to. -/
import Derived.Test.YtgbikhpmicddkaaInts
import Derived.Test.YtgbikhpmicddkaaVecMath
namespace Go.Proofs.Ytgbikhpmicddkaa
open Go.RowKit
set_option linter.unusedVariables false

def chkN (zs : List Int) : Int := if Vecs.may zs then 0 else 1

set_option maxHeartbeats 1000000 in
theorem vec_Check (v : Value) (zs : List Int) (w : World) (hv : SliceI w v zs) (hm : zs.length ≤ maxLen) :
    Calls Try.prog 37 #[v] w fun e w' => e = .returned (.int .i64 (chkN zs)) ∧ w = w' := by
  unfold maxLen at hm
  obtain ⟨a, cap, rfl, hcap, hrow⟩ := hv
  by_cases h1 : zs.length < 1
  · obtain rfl : zs = [] := List.eq_nil_of_length_eq_zero (by omega)
    clear hrow h1
    go_enter Try.func37, Try.ntmps37
    go_wp2
    go_ret
    exact ⟨rfl, rfl⟩
  · have hd : decide ((zs.length : Int) < 1) = false := decide_eq_false (by omega)
    by_cases h2 : 16 < zs.length
    · have HR : Hid (chkN zs = 1) := Lib.hid (by unfold chkN; rw [Vecs.may_long h2]; rfl)
      have hd2 : decide ((16 : Int) < (zs.length : Int)) = true := decide_eq_true (by omega)
      clear hrow h1 h2
      go_enter Try.func37, Try.ntmps37
      go_wp2
      go_ret
      exact ⟨by rw [HR.out]; rfl, rfl⟩
    · have hd2 : decide ((16 : Int) < (zs.length : Int)) = false := decide_eq_false (by omega)
      have h16 : zs.length ≤ 16 := by omega
      have HROW := Lib.hid hrow
      have HY : Hid ((∀ z ∈ zs, Vecs.Ok z) → chkN zs = 0) := Lib.hid (fun h => by unfold chkN; rw [Vecs.may_iff.2 ⟨by omega, h16, h⟩]; rfl)
      clear hrow h1 h2
      go_enter Try.func37, Try.ntmps37
      go_wp2
      go_loopw [15] (fun i wr => ∃ k : Nat, k ≤ zs.length ∧ i = .int .i64 k ∧ (∀ z ∈ zs.take k, Vecs.Ok z) ∧ w = wr) (fun i _ => zs.length - (intOf i).toNat)
      case atStart => exact ⟨0, by omega, rfl, by simp, rfl⟩
      case round =>
        obtain ⟨k, hk, rfl, hfit, rfl⟩ := hrel
        have HF := Lib.hid hfit
        clear hfit
        by_cases hlt : k < zs.length
        · have hdk : decide ((k : Int) < (zs.length : Int)) = true := decide_eq_true (by omega)
          have hdn : decide (k < zs.length) = true := by simpa using hlt
          have hik : (k : Int) < (zs.length : Int) := by omega
          rcases HROW.out with h | ⟨blk, off, rfl, hblk, hcells⟩
          · subst h; simp at hlt
          · have hcell := hcells k hlt
            clear hcells
            have HO : Hid (Vecs.Ok zs[k] → ∀ z ∈ zs.take (k + 1), Vecs.Ok z) := Lib.hid (fun h => Vecs.ok_snoc hlt HF.out h)
            have HB : Hid (¬ Vecs.Ok zs[k] → chkN zs = 1) := Lib.hid (fun h => by unfold chkN; rw [Vecs.may_bad hlt h]; rfl)
            generalize zs[k] = x at *
            by_cases hx : Vecs.Ok x
            · have hx1 : decide (x < 0) = false := by have := hx.1; simp; omega
              have hx2 : decide (4294967295 < x) = false := by have := hx.2; simp; omega
              have HO2 := Lib.hid (HO.out hx)
              clear hx
              go_wp2
              go_roundw
              case rel => exact ⟨k + 1, by omega, by go_num, HO2.out, trivial⟩
              case measure => simp [intOf]; omega
            · have HB2 := Lib.hid (HB.out hx)
              by_cases hx0 : x < 0
              · have hx1 : decide (x < 0) = true := by simpa using hx0
                clear hx hx0
                go_wp2
                go_ret
                exact ⟨by rw [HB2.out]; rfl, rfl⟩
              · have hx1 : decide (x < 0) = false := by simpa using hx0
                have hx2 : decide (4294967295 < x) = true := by unfold Vecs.Ok at hx; simp; omega
                clear hx hx0
                go_wp2
                go_ret
                exact ⟨by rw [HB2.out]; rfl, rfl⟩
        · have hdn : decide (k < zs.length) = false := by simpa using hlt
          have e1 : zs.take k = zs := List.take_of_length_le (by omega)
          have HE : Hid (chkN zs = 0) := Lib.hid (HY.out (by rw [← e1]; exact HF.out))
          clear e1
          go_wp2
          go_ret
          exact ⟨by rw [HE.out]; rfl, rfl⟩

set_option maxHeartbeats 1000000 in
theorem vec_together (v u : Value) (xs ys : List Int) (w : World) (hv : SliceI w v xs) (hu : SliceI w u ys) (hm : xs.length ≤ maxLen) (hm2 : ys.length ≤ maxLen) :
    Calls Try.prog 31 #[v, u] w fun e w' => e = .returned (.bool (Vecs.together xs ys)) ∧ w = w' := by
  have HC := Lib.hid (vec_Check v xs w hv hm)
  have HD := Lib.hid (vec_Check u ys w hu hm2)
  obtain ⟨a, cap, rfl, hcap, hrow⟩ := hv
  obtain ⟨b, cup, rfl, hcup, hrow2⟩ := hu
  unfold maxLen at hm hm2
  clear hrow hrow2
  by_cases hl : xs.length = ys.length
  · have hd : ((xs.length : Int) == (ys.length : Int)) = true := by rw [beq_iff_eq]; omega
    have HL := Lib.hid hl
    clear hl
    go_enter Try.func31, Try.ntmps31
    go_wp2_with fail
    refine HC.out.mono ?_
    rintro e w1 ⟨rfl, rfl⟩
    by_cases hx : Vecs.may xs = true
    · rw [show chkN xs = 0 from by unfold chkN; rw [hx]; rfl]
      have HX := Lib.hid hx
      clear hx
      go_wp2_with fail
      refine HD.out.mono ?_
      rintro e w1 ⟨rfl, rfl⟩
      by_cases hy : Vecs.may ys = true
      · rw [show chkN ys = 0 from by unfold chkN; rw [hy]; rfl]
        have HT : Hid (Vecs.together xs ys = true) := Lib.hid (Vecs.together_iff.2 ⟨HX.out, hy, HL.out⟩)
        clear hy
        go_wp2
        go_ret
        exact ⟨by rw [HT.out]; rfl, rfl⟩
      · rw [show chkN ys = 1 from by unfold chkN; rw [if_neg hy]]
        have HT : Hid (Vecs.together xs ys = false) := Lib.hid (by rw [← Bool.not_eq_true]; exact fun h => hy (Vecs.together_iff.1 h).2.1)
        clear hy
        go_wp2
        go_ret
        exact ⟨by rw [HT.out]; rfl, rfl⟩
    · rw [show chkN xs = 1 from by unfold chkN; rw [if_neg hx]]
      have HT : Hid (Vecs.together xs ys = false) := Lib.hid (by rw [← Bool.not_eq_true]; exact fun h => hx (Vecs.together_iff.1 h).1)
      clear hx
      go_wp2
      go_ret
      exact ⟨by rw [HT.out]; rfl, rfl⟩
  · have hd : ((xs.length : Int) == (ys.length : Int)) = false := by rw [beq_eq_false_iff_ne]; omega
    have HT : Hid (Vecs.together xs ys = false) := Lib.hid (by rw [← Bool.not_eq_true]; exact fun h => hl (Vecs.together_iff.1 h).2.2)
    clear hl
    go_enter Try.func31, Try.ntmps31
    go_wp2
    go_ret
    exact ⟨by rw [HT.out]; rfl, rfl⟩

/-- A cell of a slice. -/
theorem SliceI.at {w : World} {a : Option Addr} {cap : Nat} {zs : List Int} (hrow : zs = [] ∨ ∃ b off, a = some ⟨b, off, none⟩ ∧ b < w.heap.size ∧ ∀ i (h : i < zs.length), w.cell? ⟨b, off + i, none⟩ = some (.int .i64 zs[i])) {k : Nat} (hk : k < zs.length) :
    ∃ b off, a = some ⟨b, off, none⟩ ∧ w.cell? ⟨b, off + k, none⟩ = some (.int .i64 zs[k]) := by
  rcases hrow with h | ⟨b, off, ha, _, hc⟩
  · subst h; simp at hk
  · exact ⟨b, off, ha, hc k hk⟩

end Go.Proofs.Ytgbikhpmicddkaa