/- Plain mathematics of numbers as bytes: a greater number has greater bytes, and cut off they are none. -/
import Derived.Test.YtiofmcjnpnokbaaPackMath2
import Derived.Test.YtiofmcjnpnokbaaHead
namespace Pack
open Go

def digits : Nat → Nat → List UInt8
  | 0, _ => []
  | k + 1, n => by1 (n / 256 ^ k) :: digits k n

theorem digits_len : ∀ k n, (digits k n).length = k
  | 0, _ => rfl
  | k + 1, n => by simp [digits, digits_len k n]

def head (n : Nat) : Nat := if n < 248 then n else 247 + behind n

theorem num_digits (n : Nat) : num n = by1 (head n) :: digits (behind n) n := by
  unfold head
  by_cases h0 : n < 248
  · have hb : behind n = 0 := by unfold behind; rw [if_pos h0]
    rw [hb, if_pos h0]; unfold num; rw [if_pos h0]; rfl
  · rw [if_neg h0]
    by_cases h1 : n < 256
    · have hb : behind n = 1 := by unfold behind; rw [if_neg h0, if_pos h1]
      rw [hb]; unfold num; rw [if_neg h0, if_pos h1]; simp [digits, by1]
    · by_cases h2 : n < 65536
      · have hb : behind n = 2 := by unfold behind; rw [if_neg h0, if_neg h1, if_pos h2]
        rw [hb]; unfold num; rw [if_neg h0, if_neg h1, if_pos h2]; simp [digits, by1]
      · by_cases h3 : n < 16777216
        · have hb : behind n = 3 := by unfold behind; rw [if_neg h0, if_neg h1, if_neg h2, if_pos h3]
          rw [hb]; unfold num; rw [if_neg h0, if_neg h1, if_neg h2, if_pos h3]; simp [digits, by1]
        · have hb : behind n = 4 := by unfold behind; rw [if_neg h0, if_neg h1, if_neg h2, if_neg h3]
          rw [hb]; unfold num; rw [if_neg h0, if_neg h1, if_neg h2, if_neg h3]; simp [digits, by1]

theorem less_head {a b : UInt8} (x y : List UInt8) (h : a.toNat < b.toNat) : Op.bytesLess (a :: x) (b :: y) = true := by
  have : a < b := UInt8.lt_iff_toNat_lt.2 h
  simp [Op.bytesLess, this]
theorem less_tail (a : UInt8) {x y : List UInt8} (h : Op.bytesLess x y = true) : Op.bytesLess (a :: x) (a :: y) = true := by simp [Op.bytesLess, h]
theorem less_irrefl : ∀ x : List UInt8, Op.bytesLess x x = false
  | [] => rfl
  | a :: x => by simp [Op.bytesLess, less_irrefl x]
theorem less_asymm : ∀ x y : List UInt8, Op.bytesLess x y = true → Op.bytesLess y x = false
  | _, [], h => by simp [Op.bytesLess] at h
  | [], _ :: _, _ => rfl
  | a :: x, b :: y, h => by
    simp only [Op.bytesLess, Bool.or_eq_true, Bool.and_eq_true, decide_eq_true_eq, beq_iff_eq] at h
    rcases h with h | ⟨rfl, h⟩
    · have h' : a.toNat < b.toNat := UInt8.lt_iff_toNat_lt.1 h
      have h1 : ¬ b < a := fun g => by have := UInt8.lt_iff_toNat_lt.1 g; omega
      have h2 : (b == a) = false := by rw [beq_eq_false_iff_ne]; intro e; rw [e] at h'; omega
      simp [Op.bytesLess, h1, h2]
    · simp [Op.bytesLess, less_asymm x y h]

theorem digits_less : ∀ k n m, n % 256 ^ k < m % 256 ^ k → Op.bytesLess (digits k n) (digits k m) = true
  | 0, n, m, h => by simp [Nat.mod_one] at h
  | k + 1, n, m, h => by
    rw [Nat.mod_pow_succ, Nat.mod_pow_succ] at h
    have ih := digits_less k n m
    have hp : 0 < 256 ^ k := Nat.pow_pos (by omega)
    have hr := Nat.mod_lt m hp
    unfold digits
    have ea := by1_toNat (n / 256 ^ k)
    have eb := by1_toNat (m / 256 ^ k)
    generalize 256 ^ k = P at *
    by_cases h1 : n / P % 256 < m / P % 256
    · exact less_head _ _ (by rw [ea, eb]; exact h1)
    · by_cases h2 : n / P % 256 = m / P % 256
      · have e : by1 (n / P) = by1 (m / P) := UInt8.toNat_inj.1 (by rw [ea, eb, h2])
        rw [e]
        refine less_tail _ (ih ?_)
        rw [h2] at h
        omega
      · exfalso
        have h3 : m / P % 256 + 1 ≤ n / P % 256 := by omega
        have h4 := Nat.mul_le_mul_left P h3
        rw [Nat.mul_add, Nat.mul_one] at h4
        omega

theorem behind_le (n : Nat) : behind n ≤ 4 := by
  unfold behind
  repeat (first | omega | split)

theorem behind_pow (n : Nat) (hn : n < 4294967296) (h : 248 ≤ n) : n < 256 ^ behind n := by
  unfold behind
  repeat (first | omega | split)

theorem behind_pos {n : Nat} (h : 248 ≤ n) : 1 ≤ behind n := by
  unfold behind
  repeat (first | omega | split)

theorem behind_mono {n m : Nat} (h : n ≤ m) : behind n ≤ behind m := by
  unfold behind
  repeat (first | omega | split)

theorem head_lt {n : Nat} : head n < 256 := by
  unfold head
  have := behind_le n
  split <;> omega

theorem num_less (n m : Nat) (hm : m < 4294967296) (h : n < m) : Op.bytesLess (num n) (num m) = true := by
  rw [num_digits n, num_digits m]
  have hh : (by1 (head n)).toNat = head n := by rw [by1_toNat]; exact Nat.mod_eq_of_lt head_lt
  have hg : (by1 (head m)).toNat = head m := by rw [by1_toNat]; exact Nat.mod_eq_of_lt head_lt
  by_cases e : head n = head m
  · have hbm := behind_mono (Nat.le_of_lt h)
    have key : 248 ≤ n ∧ behind n = behind m := by
      unfold head at e
      by_cases h0 : n < 248
      · rw [if_pos h0] at e
        by_cases h1 : m < 248
        · rw [if_pos h1] at e; omega
        · have := behind_pos (show 248 ≤ m by omega)
          rw [if_neg h1] at e; omega
      · rw [if_neg h0, if_neg (by omega)] at e
        exact ⟨by omega, by omega⟩
    rw [e, key.2]
    refine less_tail _ (digits_less _ _ _ ?_)
    have p1 := behind_pow n (by omega) key.1
    have p2 := behind_pow m hm (by omega)
    rw [key.2] at p1
    rw [Nat.mod_eq_of_lt p1, Nat.mod_eq_of_lt p2]
    exact h
  · refine less_head _ _ ?_
    rw [hh, hg]
    have hbm := behind_mono (Nat.le_of_lt h)
    unfold head at e ⊢
    by_cases h0 : n < 248
    · rw [if_pos h0] at e ⊢
      by_cases h1 : m < 248
      · rw [if_pos h1]; exact h
      · have := behind_pos (show 248 ≤ m by omega)
        rw [if_neg h1]; omega
    · rw [if_neg h0] at e ⊢
      rw [if_neg (by omega)] at e ⊢
      omega

theorem num_order (n m : Nat) (hn : n < 4294967296) (hm : m < 4294967296) : Op.bytesLess (num n) (num m) = decide (n < m) := by
  by_cases h : n < m
  · rw [num_less n m hm h]; simp [h]
  · by_cases e : n = m
    · subst e; rw [less_irrefl]; simp
    · rw [less_asymm _ _ (num_less m n hn (by omega))]; simp [h]

theorem num_cut (n c : Nat) (hc : c < (num n).length) : take ((num n).take c) = (0, [], 3) := by
  have hr : read ((num n).take c) = (0, 0, 3) := by
    rw [num_digits] at hc ⊢
    match c, hc with
    | 0, _ => rfl
    | c + 1, hc =>
      simp only [List.length_cons, digits_len] at hc
      have hh : (by1 (head n)).toNat = head n := by rw [by1_toNat]; exact Nat.mod_eq_of_lt head_lt
      have hb := behind_le n
      have h248 : 248 ≤ n := by
        apply Classical.byContradiction
        intro h
        have : behind n = 0 := by unfold behind; rw [if_pos (by omega)]
        omega
      have e : head n = 247 + behind n := by unfold head; rw [if_neg (by omega)]
      rw [List.take_succ_cons, read_cons, hh, e, if_neg (by omega), if_neg (by omega), if_pos]
      rw [List.length_take, digits_len]
      omega
  unfold take
  rw [hr]
  rfl
end Pack
