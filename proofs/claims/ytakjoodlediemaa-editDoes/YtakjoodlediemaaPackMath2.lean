/- Plain mathematics of numbers, texts and lists as bytes, gone on with: texts and lists. -/
import Derived.Test.YtakjoodlediemaaPackMath
namespace Pack

def take (l : List UInt8) : Nat × List UInt8 × Nat := if (read l).2.2 = 0 then ((read l).1, l.drop (read l).2.1, 0) else (0, [], (read l).2.2)
def text (l : List UInt8) : List UInt8 × Nat := if 65535 < l.length then ([], 1) else (num l.length ++ l, 0)
def cut (l : List UInt8) : List UInt8 × List UInt8 × Nat :=
  if (take l).2.2 = 0 then
    if 65535 < (take l).1 then ([], [], 2)
    else if (take l).2.1.length < (take l).1 then ([], [], 3)
    else ((take l).2.1.take (take l).1, (take l).2.1.drop (take l).1, 0)
  else ([], [], (take l).2.2)

/-- The bytes of numbers, one behind the other. -/
def nums (l : List Nat) : List UInt8 := l.flatMap num
/-- So many numbers, one behind the other, and what is behind these. -/
def eachN : Nat → List UInt8 → List Nat × List UInt8 × Nat
  | 0, l => ([], l, 0)
  | k + 1, l =>
    if (take l).2.2 = 0 then
      if (eachN k (take l).2.1).2.2 = 0 then ((take l).1 :: (eachN k (take l).2.1).1, (eachN k (take l).2.1).2.1, 0)
      else ([], [], (eachN k (take l).2.1).2.2)
    else ([], [], (take l).2.2)
def each (l : List UInt8) : List Nat × List UInt8 × Nat :=
  if (take l).2.2 = 0 then
    if 1000 < (take l).1 then ([], [], 2) else eachN (take l).1 (take l).2.1
  else ([], [], (take l).2.2)

theorem num_len_le (n : Nat) : 1 ≤ (num n).length ∧ (num n).length ≤ 5 := by
  rw [num_len]
  unfold behind
  repeat (first | omega | split)

theorem take_num (n : Nat) (t : List UInt8) (hn : n < 4294967296) : take (num n ++ t) = (n, t, 0) := by
  unfold take
  rw [num_read n t hn]
  simp

/-- What Take reads is what Num wrote. -/
theorem take_cases (l : List UInt8) : (∃ n t, take l = (n, t, 0) ∧ n < 4294967296 ∧ l = num n ++ t) ∨ (∃ e, take l = (0, [], e) ∧ (e = 2 ∨ e = 3)) := by
  rcases read_num l with ⟨n, k, hr, hn, hk, hl⟩ | ⟨e, hr, he⟩
  · refine .inl ⟨n, l.drop k, ?_, hn, hl⟩
    unfold take
    rw [hr]
    simp
  · refine .inr ⟨e, ?_, he⟩
    unfold take
    rw [hr]
    rcases he with rfl | rfl <;> simp

theorem cut_text (l t : List UInt8) (h : l.length ≤ 65535) : cut (num l.length ++ l ++ t) = (l, t, 0) := by
  unfold cut
  rw [List.append_assoc, take_num _ _ (by omega)]
  simp only [if_true]
  rw [if_neg (by omega), if_neg (by simp)]
  simp

theorem eachN_nums : ∀ (zs : List Nat) (t : List UInt8), (∀ z ∈ zs, z < 4294967296) → eachN zs.length (nums zs ++ t) = (zs, t, 0)
  | [], t, _ => rfl
  | z :: zs, t, h => by
    have ih := eachN_nums zs t (fun x hx => h x (List.mem_cons_of_mem _ hx))
    have e : nums (z :: zs) ++ t = num z ++ (nums zs ++ t) := by simp [nums]
    rw [e, List.length_cons]
    unfold eachN
    rw [take_num _ _ (h z (List.mem_cons_self ..))]
    simp only [ih]
    simp

theorem each_nums (zs : List Nat) (t : List UInt8) (hl : zs.length ≤ 1000) (h : ∀ z ∈ zs, z < 4294967296) : each (num zs.length ++ nums zs ++ t) = (zs, t, 0) := by
  unfold each
  rw [List.append_assoc, take_num _ _ (by omega)]
  simp only [if_true]
  rw [if_neg (by omega), eachN_nums zs t h]

theorem eachN_back : ∀ (k : Nat) (l : List UInt8), (eachN k l).2.2 = 0 → (eachN k l).1.length = k ∧ (∀ z ∈ (eachN k l).1, z < 4294967296) ∧ l = nums (eachN k l).1 ++ (eachN k l).2.1
  | 0, l, _ => ⟨rfl, by simp [eachN], by simp [eachN, nums]⟩
  | k + 1, l, h => by
    rcases take_cases l with ⟨n, t, ht, hn, hl⟩ | ⟨e, ht, he⟩
    · have hz : (eachN k t).2.2 = 0 := by
        apply Classical.byContradiction
        intro hne
        unfold eachN at h
        rw [ht] at h
        simp only [if_true] at h
        rw [if_neg hne] at h
        exact hne h
      have ih := eachN_back k t hz
      have e : eachN (k + 1) l = (n :: (eachN k t).1, (eachN k t).2.1, 0) := by
        conv => lhs; unfold eachN
        rw [ht]
        simp only [if_true]
        rw [if_pos hz]
      rw [e]
      refine ⟨by simp [ih.1], ?_, ?_⟩
      · intro z hz'
        rcases List.mem_cons.1 hz' with rfl | hz'
        · exact hn
        · exact ih.2.1 z hz'
      · have e2 : nums (n :: (eachN k t).1) = num n ++ nums (eachN k t).1 := by simp [nums]
        rw [hl, e2, List.append_assoc, ← ih.2.2]
    · exfalso
      unfold eachN at h
      rw [ht] at h
      rcases he with rfl | rfl <;> simp at h

theorem eachN_err : ∀ (k : Nat) (l : List UInt8), (eachN k l).2.2 ≠ 0 → (eachN k l).1 = [] ∧ (eachN k l).2.1 = []
  | 0, l, h => absurd rfl h
  | k + 1, l, h => by
    unfold eachN at h ⊢
    split
    · rename_i h1
      rw [if_pos h1] at h
      split
      · rename_i h2
        rw [if_pos h2] at h
        exact absurd rfl h
      · exact ⟨rfl, rfl⟩
    · exact ⟨rfl, rfl⟩
end Pack
