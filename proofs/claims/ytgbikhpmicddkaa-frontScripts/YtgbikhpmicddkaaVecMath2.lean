/- Plain mathematics of Vecs, more: ticks, zeros, the lattice. -/
import Derived.Test.YtgbikhpmicddkaaVecMath
set_option linter.unusedVariables false
namespace Vecs
open Go

theorem ext_at {xs ys : List Int} (hl : xs.length = ys.length) (h : ∀ k (h1 : k < xs.length) (h2 : k < ys.length), xs[k] = ys[k]) : xs = ys := List.ext_getElem hl h

theorem cmp_low {xs ys : List Int} (h : below xs ys = true) : cmp xs ys = 0 ∨ cmp xs ys = 1 := by
  unfold cmp
  rw [if_pos h]
  cases below ys xs
  · exact .inr rfl
  · exact .inl rfl

/-! Ticks -/
theorem may_tick {zs : List Int} (h : may zs = true) {k : Nat} (hk : k < zs.length) (hz : zs[k] ≠ 4294967295) : may (tick zs k) = true := by
  have hl := may_len h
  refine may_of (by rw [tick_len]; omega) (by rw [tick_len]; omega) (fun j hj => ?_)
  rw [tick_at hk]
  have hj' : j < zs.length := by rw [tick_len] at hj; exact hj
  have a := may_ok h j hj'
  have b := may_ok h k hk
  split <;> omega
theorem together_tick {zs : List Int} (h : may zs = true) {k : Nat} (hk : k < zs.length) (hz : zs[k] ≠ 4294967295) : together (tick zs k) zs = true ∧ together zs (tick zs k) = true :=
  ⟨together_iff.2 ⟨may_tick h hk hz, h, tick_len zs k⟩, together_iff.2 ⟨h, may_tick h hk hz, (tick_len zs k).symm⟩⟩
theorem below_tick {zs : List Int} {k : Nat} (hk : k < zs.length) : below zs (tick zs k) = true ∧ below (tick zs k) zs = false := by
  constructor
  · refine below_iff.2 fun j h1 h2 => ?_
    rw [tick_at hk]
    split
    · subst_vars; omega
    · omega
  · rw [← Bool.not_eq_true]
    intro h
    have := below_iff.1 h k (by rw [tick_len]; exact hk) hk
    rw [tick_at hk, if_pos rfl] at this
    omega
theorem cmp_tick {zs : List Int} {k : Nat} (hk : k < zs.length) : cmp (tick zs k) zs = 2 ∧ cmp zs (tick zs k) = 1 := by
  obtain ⟨a, b⟩ := below_tick hk
  exact ⟨by simp [cmp, a, b], by simp [cmp, a, b]⟩
theorem join_tick {zs : List Int} {k : Nat} (hk : k < zs.length) : join zs (tick zs k) = tick zs k := by
  have hl : zs.length = (tick zs k).length := (tick_len zs k).symm
  refine ext_at (by rw [join_len hl, tick_len]) fun j h1 h2 => ?_
  rw [join_at j h1]
  have := below_iff.1 (below_tick hk).1 j (by rw [join_len hl] at h1; exact h1) h2
  omega
theorem getD_at {zs : List Int} {k : Nat} (hk : k < zs.length) : zs.getD k 0 = zs[k] := by simp [hk]
theorem covers_at {zs : List Int} (h : may zs = true) {k : Nat} (hk : k < zs.length) (q : Int) : covers zs (k : Int) q = (decide (1 ≤ q) && decide (q ≤ zs[k])) := by
  unfold covers
  rw [h, decide_eq_true (show (0 : Int) ≤ (k : Int) by omega), decide_eq_true (show (k : Int) < (zs.length : Int) by omega), Int.toNat_natCast, getD_at hk]
  simp
theorem covers_out {zs : List Int} {site q : Int} (h : site < 0 ∨ (zs.length : Int) ≤ site) : covers zs site q = false := by
  unfold covers
  rcases h with h | h
  · rw [decide_eq_false (show ¬ 0 ≤ site by omega)]; simp
  · rw [decide_eq_false (show ¬ site < (zs.length : Int) by omega)]; simp
theorem covers_zero (zs : List Int) (site : Int) : covers zs site 0 = false := by
  unfold covers
  rw [decide_eq_false (show ¬ (1 : Int) ≤ 0 by omega)]; simp
theorem covers_tick {zs : List Int} (h : may zs = true) {k : Nat} (hk : k < zs.length) (hz : zs[k] ≠ 4294967295) : covers (tick zs k) (k : Int) (zs[k] + 1) = true ∧ covers zs (k : Int) (zs[k] + 1) = false := by
  have b := may_ok h k hk
  constructor
  · rw [covers_at (may_tick h hk hz) (by rw [tick_len]; exact hk), tick_at hk, if_pos rfl]
    simp; omega
  · rw [covers_at h hk]
    simp
    omega

/-! Zeros -/
def zeros (n : Nat) : List Int := List.replicate n 0
theorem zeros_len (n : Nat) : (zeros n).length = n := by simp [zeros]
theorem zeros_at {n : Nat} {k : Nat} (h : k < (zeros n).length) : (zeros n)[k] = 0 := by simp [zeros]
theorem may_zeros {zs : List Int} (h : may zs = true) : may (zeros zs.length) = true := by
  have := may_len h
  exact may_of (by rw [zeros_len]; omega) (by rw [zeros_len]; omega) (fun k hk => by rw [zeros_at hk]; omega)
theorem together_zeros {zs : List Int} (h : may zs = true) : together (zeros zs.length) zs = true ∧ together zs (zeros zs.length) = true :=
  ⟨together_iff.2 ⟨may_zeros h, h, zeros_len _⟩, together_iff.2 ⟨h, may_zeros h, (zeros_len _).symm⟩⟩
theorem below_zeros {zs : List Int} (h : may zs = true) : below (zeros zs.length) zs = true :=
  below_iff.2 fun k h1 h2 => by rw [zeros_at h1]; exact (may_ok h k h2).1
theorem join_zeros {zs : List Int} (h : may zs = true) : join (zeros zs.length) zs = zs := by
  have hl := zeros_len zs.length
  refine ext_at (by rw [join_len hl, hl]) fun k h1 h2 => ?_
  rw [join_at k h1, zeros_at]
  have := may_ok h k h2
  omega
theorem meet_zeros {zs : List Int} (h : may zs = true) : meet zs (zeros zs.length) = zeros zs.length := by
  have hl := (zeros_len zs.length).symm
  refine ext_at (by rw [meet_len hl]; exact hl) fun k h1 h2 => ?_
  rw [meet_at k h1, zeros_at h2]
  have := may_ok h k (by rw [meet_len hl] at h1; exact h1)
  omega

/-! The lattice -/
theorem join_comm (xs ys : List Int) : join xs ys = join ys xs := by
  refine ext_at (by simp [join, Nat.min_comm]) fun k h1 h2 => ?_
  rw [join_at, join_at]; omega
theorem meet_comm (xs ys : List Int) : meet xs ys = meet ys xs := by
  refine ext_at (by simp [meet, Nat.min_comm]) fun k h1 h2 => ?_
  rw [meet_at, meet_at]; omega
theorem join_assoc (xs ys zs : List Int) : join (join xs ys) zs = join xs (join ys zs) := by
  refine ext_at (by simp [join, Nat.min_assoc]) fun k h1 h2 => ?_
  rw [join_at, join_at, join_at, join_at]; omega
theorem below_join {xs ys : List Int} (hl : xs.length = ys.length) : below xs (join xs ys) = true :=
  below_iff.2 fun k h1 h2 => by rw [join_at]; omega
theorem join_meet {xs ys : List Int} (hl : xs.length = ys.length) : join xs (meet xs ys) = xs := by
  refine ext_at (by rw [join_len (by rw [meet_len hl])]) fun k h1 h2 => ?_
  rw [join_at, meet_at]; omega
theorem meet_join {xs ys : List Int} (hl : xs.length = ys.length) : meet xs (join xs ys) = xs := by
  refine ext_at (by rw [meet_len (by rw [join_len hl])]) fun k h1 h2 => ?_
  rw [meet_at, join_at]; omega
theorem below_lub {xs ys zs : List Int} (hl : xs.length = ys.length) (h : below xs zs = true) (h' : below ys zs = true) : below (join xs ys) zs = true :=
  below_iff.2 fun k h1 h2 => by
    rw [join_at]
    rw [join_len hl] at h1
    have := below_iff.1 h k h1 h2
    have := below_iff.1 h' k (by omega) h2
    omega
theorem covers_below {xs ys : List Int} (ht : together xs ys = true) (h : below xs ys = true) {site q : Int} (hc : covers xs site q = true) : covers ys site q = true := by
  obtain ⟨hx, hy, hl⟩ := together_iff.1 ht
  by_cases hs : 0 ≤ site ∧ site < xs.length
  · obtain ⟨k, rfl⟩ : ∃ k : Nat, site = k := ⟨site.toNat, by omega⟩
    have hk : k < xs.length := by omega
    rw [covers_at hx hk] at hc
    rw [covers_at hy (by omega)]
    have := below_iff.1 h k hk (by omega)
    simp at hc ⊢
    omega
  · rw [covers_out (by omega)] at hc
    cases hc
end Vecs
