/- Plain mathematics of the sums of 24 bits: steps are linear, and bits that are turned within 24 are seen. -/
namespace Crc
/-- One step with the bit 0, of a sum of 24 bits. -/
def step0 (x : BitVec 24) : BitVec 24 := (x <<< 1) ^^^ (if x.msb then 0x864cfb#24 else 0#24)

theorem step0_xor (x y : BitVec 24) : step0 (x ^^^ y) = step0 x ^^^ step0 y := by
  unfold step0
  rw [BitVec.msb_xor, BitVec.shiftLeft_xor_distrib]
  cases x.msb <;> cases y.msb <;> simp [BitVec.xor_assoc]
  · rw [BitVec.xor_comm]
  · rw [BitVec.xor_comm (y <<< 1), ← BitVec.xor_assoc (0x864cfb#24)]
    simp

theorem step0_zero : step0 0#24 = 0#24 := by decide

theorem step0_eq_zero {x : BitVec 24} (h : step0 x = 0#24) : x = 0#24 := by
  unfold step0 at h
  by_cases hm : x.msb = true
  · rw [if_pos hm] at h
    have := congrArg (fun v : BitVec 24 => v.getLsbD 0) h
    simp at this
  · rw [if_neg hm] at h
    simp at h
    apply BitVec.eq_of_getLsbD_eq
    intro i hi
    by_cases h23 : i = 23
    · subst h23
      simp only [BitVec.msb, BitVec.getMsbD] at hm
      simpa using hm
    · have := congrArg (fun v : BitVec 24 => v.getLsbD (i + 1)) h
      simp at this
      rw [this (by omega)]; simp

def iter : Nat → BitVec 24 → BitVec 24
  | 0, x => x
  | n + 1, x => iter n (step0 x)

theorem iter_xor (n : Nat) (x y : BitVec 24) : iter n (x ^^^ y) = iter n x ^^^ iter n y := by
  induction n generalizing x y with
  | zero => rfl
  | succ n ih => simp only [iter]; rw [step0_xor, ih]

theorem iter_zero (n : Nat) : iter n 0#24 = 0#24 := by
  induction n with
  | zero => rfl
  | succ n ih => simp only [iter]; rw [step0_zero, ih]

theorem iter_eq_zero {n : Nat} {x : BitVec 24} (h : iter n x = 0#24) : x = 0#24 := by
  induction n generalizing x with
  | zero => exact h
  | succ n ih => exact step0_eq_zero (ih h)

/-- One step with a bit. -/
def stepB (x : BitVec 24) (b : Bool) : BitVec 24 := (x <<< 1) ^^^ (if x.msb != b then 0x864cfb#24 else 0#24)

def top (b : Bool) : BitVec 24 := if b then 0x800000#24 else 0#24

theorem stepB_eq (x : BitVec 24) (b : Bool) : stepB x b = step0 (x ^^^ top b) := by
  unfold stepB step0 top
  cases b
  · simp
  · simp [BitVec.msb_xor, BitVec.shiftLeft_xor_distrib]
    have h : (8388608#24).msb = true := by decide
    rw [h]
    cases x.msb <;> simp

/-- The bits of a row, one behind the other, gone on with. -/
def bitsOn (x : BitVec 24) (l : List Bool) : BitVec 24 := l.foldl stepB x

theorem bitsOn_append (x : BitVec 24) (l m : List Bool) : bitsOn x (l ++ m) = bitsOn (bitsOn x l) m := by
  simp [bitsOn]

theorem bitsOn_xor (x y : BitVec 24) : ∀ (l m : List Bool), l.length = m.length →
    bitsOn (x ^^^ y) (List.zipWith xor l m) = bitsOn x l ^^^ bitsOn y m := by
  intro l
  induction l generalizing x y with
  | nil => intro m h; cases m with
    | nil => rfl
    | cons _ _ => simp at h
  | cons a l ih => intro m h; cases m with
    | nil => simp at h
    | cons b m =>
      simp only [bitsOn, List.zipWith, List.foldl] at ih ⊢
      have e : stepB (x ^^^ y) (xor a b) = stepB x a ^^^ stepB y b := by
        rw [stepB_eq, stepB_eq, stepB_eq, ← step0_xor]
        congr 1
        have : top (xor a b) = top a ^^^ top b := by cases a <;> cases b <;> decide
        rw [this]
        rw [BitVec.xor_assoc, BitVec.xor_assoc]
        congr 1
        rw [← BitVec.xor_assoc, BitVec.xor_comm y, BitVec.xor_assoc]
      rw [e]
      exact ih (stepB x a) (stepB y b) m (by simpa using h)

theorem bitsOn_zeros (x : BitVec 24) (n : Nat) : bitsOn x (List.replicate n false) = iter n x := by
  induction n generalizing x with
  | zero => rfl
  | succ n ih =>
    simp only [List.replicate_succ, bitsOn, List.foldl, iter] at ih ⊢
    rw [stepB_eq]
    simpa [top] using ih (step0 x)

/-- The bits of a row as a sum's, the first one highest. -/
def packTop : List Bool → BitVec 24
  | [] => 0#24
  | b :: l => top b ^^^ (packTop l >>> 1)

theorem top_low (b : Bool) (i : Nat) (h : i < 23) : (top b).getLsbD i = false := by
  have all : ∀ b : Bool, ∀ i : Fin 23, (top b).getLsbD i.val = false := by decide
  exact all b ⟨i, h⟩

theorem packTop_low : ∀ (l : List Bool) (i : Nat), i + l.length < 24 → (packTop l).getLsbD i = false
  | [], i, _ => by simp [packTop]
  | b :: l, i, h => by
    simp only [List.length_cons] at h
    have ih := packTop_low l (i + 1) (by omega)
    simp only [packTop, BitVec.getLsbD_xor, BitVec.getLsbD_ushiftRight, top_low b i (by omega), Nat.add_comm 1 i, ih]
    rfl

theorem packTop_at : ∀ (l : List Bool) (j : Nat) (h : j < l.length), j < 24 → (packTop l).getLsbD (23 - j) = l[j]
  | [], j, h, _ => by simp at h
  | b :: l, 0, h, _ => by
    have ht : (top b).getLsbD 23 = b := by cases b <;> decide
    have hl : (packTop l).getLsbD (1 + 23) = false := BitVec.getLsbD_of_ge _ _ (by omega)
    simp only [packTop, BitVec.getLsbD_xor, BitVec.getLsbD_ushiftRight, Nat.sub_zero, ht, hl, List.getElem_cons_zero]
    cases b <;> rfl
  | b :: l, j + 1, h, h24 => by
    simp only [List.length_cons] at h
    have ih := packTop_at l j (by omega) (by omega)
    have ht := top_low b (23 - (j + 1)) (by omega)
    have e : 1 + (23 - (j + 1)) = 23 - j := by omega
    simp only [packTop, BitVec.getLsbD_xor, BitVec.getLsbD_ushiftRight, ht, e, ih, List.getElem_cons_succ, Bool.false_bne]

theorem step0_shift {y : BitVec 24} (h : y.getLsbD 0 = false) : step0 (y >>> 1) = y := by
  unfold step0
  have hm : (y >>> 1).msb = false := by simp [BitVec.msb_ushiftRight]
  rw [hm]
  simp
  apply BitVec.eq_of_getLsbD_eq
  intro i hi
  by_cases h0 : i = 0
  · subst h0; rw [h]; simp
  · have e : 1 + (i - 1) = i := by omega
    have h1 : ¬ i < 1 := by omega
    simp only [BitVec.getLsbD_shiftLeft, BitVec.getLsbD_ushiftRight, hi, h1, e]
    simp

theorem bitsOn_pack : ∀ (l : List Bool) (x : BitVec 24), l.length ≤ 24 → bitsOn x l = iter l.length (x ^^^ packTop l)
  | [], x, _ => by simp [bitsOn, iter, packTop]
  | b :: l, x, h => by
    simp only [List.length_cons] at h
    have ih := bitsOn_pack l (stepB x b) (by omega)
    show bitsOn (stepB x b) l = iter l.length (step0 (x ^^^ (top b ^^^ packTop l >>> 1)))
    rw [ih, stepB_eq, ← BitVec.xor_assoc, step0_xor, step0_xor, step0_shift (packTop_low l 0 (by omega)), step0_xor]

theorem bitsOn_burst (l : List Bool) (h : l.length = 24) (hz : bitsOn 0#24 l = 0#24) : ∀ b ∈ l, b = false := by
  rw [bitsOn_pack l _ (by omega)] at hz
  have hp := iter_eq_zero hz
  simp at hp
  intro b hb
  obtain ⟨j, hj, rfl⟩ := List.getElem_of_mem hb
  rw [← packTop_at l j hj (by omega), hp]
  simp

/-- Bits that are turned within 24 make another sum. -/
theorem bitsOn_turned (x : BitVec 24) (l : List Bool) (p q : Nat) (pat : List Bool) (hp : pat.length = 24) (hl : l.length = p + 24 + q) (hne : ∃ b ∈ pat, b = true) :
    bitsOn x (List.zipWith xor l (List.replicate p false ++ pat ++ List.replicate q false)) ≠ bitsOn x l := by
  intro h
  have hx := bitsOn_xor x 0#24 l (List.replicate p false ++ pat ++ List.replicate q false) (by simp; omega)
  rw [BitVec.xor_zero] at hx
  rw [hx] at h
  have hz : bitsOn 0#24 (List.replicate p false ++ pat ++ List.replicate q false) = 0#24 := by
    have := congrArg (fun v => bitsOn x l ^^^ v) h
    simpa [← BitVec.xor_assoc] using this
  rw [bitsOn_append, bitsOn_append, bitsOn_zeros, bitsOn_zeros, iter_zero] at hz
  obtain ⟨b, hb, ht⟩ := hne
  rw [bitsOn_burst pat hp (iter_eq_zero hz) b hb] at ht
  cases ht

def byteBits (c : UInt8) : List Bool := (List.range 8).map fun i => c.toNat.testBit (7 - i)
def bitsOf (l : List UInt8) : List Bool := l.flatMap byteBits
def more (x : BitVec 24) (l : List UInt8) : BitVec 24 := bitsOn x (bitsOf l)
def begin24 : BitVec 24 := 0xb704ce#24
def sum (l : List UInt8) : BitVec 24 := more begin24 l

theorem byteBits_len (c : UInt8) : (byteBits c).length = 8 := by simp [byteBits]
theorem bitsOf_len (l : List UInt8) : (bitsOf l).length = 8 * l.length := by
  induction l with
  | nil => rfl
  | cons c l ih => simp only [bitsOf, List.flatMap_cons, List.length_append, byteBits_len, List.length_cons] at ih ⊢; omega
theorem more_nil (x : BitVec 24) : more x [] = x := rfl
theorem more_append (x : BitVec 24) (l m : List UInt8) : more x (l ++ m) = more (more x l) m := by
  simp [more, bitsOf, bitsOn_append]
theorem more_cons (x : BitVec 24) (c : UInt8) (m : List UInt8) : more x (c :: m) = more (bitsOn x (byteBits c)) m := by
  simp [more, bitsOf, bitsOn_append]

/-- The three bytes of a sum. -/
def tail3 (x : BitVec 24) : List UInt8 := [UInt8.ofNat (x.toNat / 65536), UInt8.ofNat (x.toNat / 256), UInt8.ofNat x.toNat]
end Crc
