/- Plain mathematics of the sums: a text whose bits are turned within 24 that stand one behind the other has another sum. -/
import Derived.Test.YtlmigmejfkflmaaCrcMath2
namespace Crc

/-- The bit q of a text, the highest of the first byte being the bit 0. -/
def bitAt (l : List UInt8) (q : Nat) : Bool := (l.getD (q / 8) 0).toNat.testBit (7 - q % 8)

theorem bitsOf_map : ∀ l : List UInt8, bitsOf l = (List.range (8 * l.length)).map (bitAt l)
  | [] => rfl
  | c :: l => by
    have ih := bitsOf_map l
    have e : 8 * (c :: l).length = 8 + 8 * l.length := by simp only [List.length_cons]; omega
    rw [e, List.range_add, List.map_append, List.map_map]
    show byteBits c ++ bitsOf l = _
    rw [ih]
    congr 1
    apply List.map_congr_left
    intro q _
    show _ = bitAt (c :: l) (8 + q)
    unfold bitAt
    have e1 : (8 + q) / 8 = q / 8 + 1 := by omega
    have e2 : (8 + q) % 8 = q % 8 := by omega
    rw [e1, e2, List.getD_cons_succ]

theorem zip_map (f g : Nat → Bool) : ∀ l : List Nat, List.zipWith xor (l.map f) (l.map g) = l.map (fun q => xor (f q) (g q))
  | [] => rfl
  | a :: l => by simp [zip_map f g l]

theorem mask_list (f n : Nat) (pat : Nat → Bool) (h : f + 24 ≤ n) :
    (List.range n).map (fun q => decide (f ≤ q ∧ q < f + 24) && pat (q - f)) = List.replicate f false ++ (List.range 24).map pat ++ List.replicate (n - f - 24) false := by
  obtain ⟨r, rfl⟩ : ∃ r, n = f + (24 + r) := ⟨n - f - 24, by omega⟩
  rw [List.range_add, List.range_add, List.map_append, List.map_map, List.map_append, List.map_map, ← List.append_assoc]
  congr 1
  · congr 1
    · apply List.ext_getElem
      · simp
      · intro i h1 h2
        simp at h1 h2 ⊢
        intro h3; omega
    · apply List.map_congr_left
      intro q hq
      simp at hq
      simp
      intro h1; omega
  · apply List.ext_getElem
    · simp
    · intro i h1 h2
      simp at h1 h2 ⊢
      intro h3
      omega

theorem more_masked (x : BitVec 24) (l l' : List UInt8) (f : Nat) (pat : Nat → Bool) (hlen : l'.length = l.length) (hf : f + 24 ≤ 8 * l.length)
    (h : ∀ q, q < 8 * l.length → bitAt l' q = xor (bitAt l q) (decide (f ≤ q ∧ q < f + 24) && pat (q - f))) (hp : ∃ i, i < 24 ∧ pat i = true) : more x l' ≠ more x l := by
  have e : bitsOf l' = List.zipWith xor (bitsOf l) (List.replicate f false ++ (List.range 24).map pat ++ List.replicate (8 * l.length - f - 24) false) := by
    rw [← mask_list f (8 * l.length) pat hf, bitsOf_map l', hlen, bitsOf_map l, zip_map]
    apply List.map_congr_left
    intro q hq
    exact h q (by simpa using hq)
  unfold more
  rw [e]
  refine bitsOn_turned x (bitsOf l) f (8 * l.length - f - 24) _ (by simp) (by rw [bitsOf_len]; omega) ?_
  obtain ⟨i, hi, hpi⟩ := hp
  exact ⟨true, by rw [← hpi]; exact List.mem_map_of_mem (by simpa using hi), rfl⟩

/-- A text with one bit turned. -/
def turn1 (l : List UInt8) (p : Nat) : List UInt8 := l.set (p / 8) (l.getD (p / 8) 0 ^^^ UInt8.ofNat (128 / 2 ^ (p % 8)))

theorem one_bit (r t : Nat) (hr : r < 8) (ht : t < 8) : (128 / 2 ^ r).testBit (7 - t) = decide (t = r) := by
  have all : ∀ r t : Fin 8, (128 / 2 ^ r.val).testBit (7 - t.val) = decide (t.val = r.val) := by decide
  exact all ⟨r, hr⟩ ⟨t, ht⟩

theorem bitAt_turn1 (l : List UInt8) (p q : Nat) (hp : p < 8 * l.length) : bitAt (turn1 l p) q = xor (bitAt l q) (decide (q = p)) := by
  unfold bitAt turn1
  by_cases e : p / 8 = q / 8
  · have hl : q / 8 < l.length := by omega
    rw [e]
    simp only [List.getD_eq_getElem?_getD, List.getElem?_set_self hl, Option.getD_some]
    rw [UInt8.toNat_xor, Nat.testBit_xor]
    congr 1
    have h8 : 128 / 2 ^ (p % 8) < 256 := Nat.lt_of_le_of_lt (Nat.div_le_self _ _) (by omega)
    rw [UInt8.toNat_ofNat', Nat.mod_eq_of_lt h8, one_bit _ _ (by omega) (by omega)]
    simp only [decide_eq_decide]
    omega
  · have hne : q ≠ p := fun h => e (by rw [h])
    simp [List.getElem?_set_ne e, hne]

theorem turn1_len (l : List UInt8) (p : Nat) : (turn1 l p).length = l.length := by simp [turn1]

/-- A text with some of k bits turned, from the bit f on. -/
def turnM (l : List UInt8) (f : Nat) (pat : Nat → Bool) : Nat → List UInt8
  | 0 => l
  | k + 1 => if pat k then turn1 (turnM l f pat k) (f + k) else turnM l f pat k

theorem turnM_len (l : List UInt8) (f : Nat) (pat : Nat → Bool) : ∀ k, (turnM l f pat k).length = l.length
  | 0 => rfl
  | k + 1 => by
    simp only [turnM]
    split
    · rw [turn1_len]; exact turnM_len l f pat k
    · exact turnM_len l f pat k

theorem bitAt_turnM (l : List UInt8) (f : Nat) (pat : Nat → Bool) : ∀ k q, f + k ≤ 8 * l.length → bitAt (turnM l f pat k) q = xor (bitAt l q) (decide (f ≤ q ∧ q < f + k) && pat (q - f))
  | 0, q, _ => by
    have : decide (f ≤ q ∧ q < f + 0) = false := by simp
    rw [this]
    simp [turnM]
  | k + 1, q, h => by
    have ih := bitAt_turnM l f pat k q (by omega)
    simp only [turnM]
    by_cases hk : pat k = true
    · rw [if_pos hk, bitAt_turn1 _ _ _ (by rw [turnM_len]; omega), ih]
      by_cases e : q = f + k
      · subst e
        have h1 : ¬ (f ≤ f + k ∧ f + k < f + k) := by omega
        have h2 : f ≤ f + k ∧ f + k < f + (k + 1) := by omega
        simp [hk]
      · have h1 : (f ≤ q ∧ q < f + (k + 1)) = (f ≤ q ∧ q < f + k) := by
          simp only [eq_iff_iff]; omega
        simp [e, h1]
    · rw [if_neg hk, ih]
      by_cases e : q = f + k
      · subst e
        simp at hk
        simp [hk]
      · have h1 : (f ≤ q ∧ q < f + (k + 1)) = (f ≤ q ∧ q < f + k) := by
          simp only [eq_iff_iff]; omega
        simp [h1]

theorem sum_turned (l : List UInt8) (f : Nat) (pat : Nat → Bool) (hf : f + 24 ≤ 8 * l.length) (hp : ∃ i, i < 24 ∧ pat i = true) : sum (turnM l f pat 24) ≠ sum l :=
  more_masked begin24 l _ f pat (turnM_len l f pat 24) hf (fun q _ => bitAt_turnM l f pat 24 q hf) hp

/-- A number of which no bit of the lowest k is 1. -/
theorem low_bits (a : Int) : ∀ k : Nat, (∀ i : Nat, i < k → (a / 2 ^ i) % 2 = 0) → a % 2 ^ k = 0
  | 0, _ => by simp [Int.emod_one]
  | k + 1, h => by
    have ih := low_bits a k (fun i hi => h i (by omega))
    have hk := h k (by omega)
    have hd := Int.mul_ediv_add_emod a (2 ^ k)
    have h2 := Int.mul_ediv_add_emod (a / 2 ^ k) 2
    rw [ih, Int.add_zero] at hd
    rw [hk, Int.add_zero] at h2
    rw [← hd, ← h2, Int.pow_succ, ← Int.mul_assoc]
    exact Int.mul_emod_right _ _
end Crc
