/- Plain mathematics of the sums: three bytes behind a text bring its sum to nothing just if they are that sum's own. -/
import Derived.Test.YtlmigmejfkflmaaCrcMath
namespace Crc

theorem top_toNat (b : Bool) : (top b).toNat = b.toNat * 8388608 := by cases b <;> decide

theorem xor_add (b y : Nat) (hy : y < 8388608) : (b * 8388608) ^^^ y = b * 8388608 + y := by
  have h := Nat.two_pow_add_eq_or_of_lt (i := 23) (b := y) (by simpa using hy) b
  have e : b * 8388608 = 2 ^ 23 * b := by omega
  rw [e, h]
  apply Nat.eq_of_testBit_eq
  intro i
  rw [Nat.testBit_xor, Nat.testBit_or]
  by_cases hi : i < 23
  · rw [Nat.testBit_two_pow_mul]
    simp [show ¬ 23 ≤ i by omega]
  · have : y.testBit i = false := Nat.testBit_lt_two_pow (Nat.lt_of_lt_of_le hy (by
      have := Nat.pow_le_pow_right (n := 2) (by omega) (show 23 ≤ i by omega)
      simpa using this))
    simp [this]

theorem pack_cons (b : Bool) (l : List Bool) : (packTop (b :: l)).toNat = b.toNat * 8388608 + (packTop l).toNat / 2 := by
  have hlt := (packTop l).isLt
  simp only [packTop, BitVec.toNat_xor, top_toNat, BitVec.toNat_ushiftRight, Nat.shiftRight_eq_div_pow]
  rw [xor_add _ _ (by omega)]

theorem byte_sum (c : UInt8) : c.toNat = 128 * (c.toNat.testBit 7).toNat + 64 * (c.toNat.testBit 6).toNat + 32 * (c.toNat.testBit 5).toNat + 16 * (c.toNat.testBit 4).toNat
    + 8 * (c.toNat.testBit 3).toNat + 4 * (c.toNat.testBit 2).toNat + 2 * (c.toNat.testBit 1).toNat + (c.toNat.testBit 0).toNat := by
  have all : ∀ n : Fin 256, n.val = 128 * (n.val.testBit 7).toNat + 64 * (n.val.testBit 6).toNat + 32 * (n.val.testBit 5).toNat + 16 * (n.val.testBit 4).toNat
    + 8 * (n.val.testBit 3).toNat + 4 * (n.val.testBit 2).toNat + 2 * (n.val.testBit 1).toNat + (n.val.testBit 0).toNat := by decide +kernel
  exact all ⟨c.toNat, c.toNat_lt⟩

theorem pack_byte (c : UInt8) (l : List Bool) : (packTop (byteBits c ++ l)).toNat = c.toNat * 65536 + (packTop l).toNat / 256 := by
  have hc := byte_sum c
  have e : byteBits c ++ l = c.toNat.testBit 7 :: c.toNat.testBit 6 :: c.toNat.testBit 5 :: c.toNat.testBit 4 :: c.toNat.testBit 3 :: c.toNat.testBit 2 :: c.toNat.testBit 1 :: c.toNat.testBit 0 :: l := rfl
  rw [e, pack_cons, pack_cons, pack_cons, pack_cons, pack_cons, pack_cons, pack_cons, pack_cons]
  have hb : ∀ b : Bool, b.toNat ≤ 1 := by decide
  have h7 := hb (c.toNat.testBit 7); have h6 := hb (c.toNat.testBit 6); have h5 := hb (c.toNat.testBit 5); have h4 := hb (c.toNat.testBit 4)
  have h3 := hb (c.toNat.testBit 3); have h2 := hb (c.toNat.testBit 2); have h1 := hb (c.toNat.testBit 1); have h0 := hb (c.toNat.testBit 0)
  omega

theorem pack_three (a b c : UInt8) : (packTop (bitsOf [a, b, c])).toNat = a.toNat * 65536 + b.toNat * 256 + c.toNat := by
  have e : bitsOf [a, b, c] = byteBits a ++ (byteBits b ++ (byteBits c ++ [])) := rfl
  have hz : (packTop []).toNat = 0 := rfl
  have hb := b.toNat_lt
  have hc := c.toNat_lt
  rw [e, pack_byte, pack_byte, pack_byte, hz]
  omega

theorem more_three (x : BitVec 24) (a b c : UInt8) : more x [a, b, c] = 0#24 ↔ tail3 x = [a, b, c] := by
  have hl : (bitsOf [a, b, c]).length = 24 := rfl
  have ha := a.toNat_lt
  have hb := b.toNat_lt
  have hc := c.toNat_lt
  have hx := x.isLt
  have hp := pack_three a b c
  have h1 : more x [a, b, c] = 0#24 ↔ x.toNat = a.toNat * 65536 + b.toNat * 256 + c.toNat := by
    rw [← hp]
    constructor
    · intro h
      unfold more at h
      rw [bitsOn_pack _ _ (by omega)] at h
      have := iter_eq_zero h
      have e : x = packTop (bitsOf [a, b, c]) := by
        have h2 := congrArg (fun v => v ^^^ packTop (bitsOf [a, b, c])) this
        simpa [BitVec.xor_assoc] using h2
      rw [← e]
    · intro h
      have e : x = packTop (bitsOf [a, b, c]) := BitVec.eq_of_toNat_eq h
      unfold more
      rw [bitsOn_pack _ _ (by omega), ← e, BitVec.xor_self, iter_zero]
  rw [h1]
  unfold tail3
  simp only [List.cons.injEq, and_true, ← UInt8.toNat_inj, UInt8.toNat_ofNat']
  omega

theorem sum_sealed (l : List UInt8) : sum (l ++ tail3 (sum l)) = 0#24 := by
  unfold sum
  rw [more_append]
  exact (more_three _ _ _ _).2 rfl

/-- A text of three bytes or more sums to nothing just if its last three are the sum's of what is ahead. -/
theorem sum_zero_iff (t u : List UInt8) (hu : u.length = 3) : sum (t ++ u) = 0#24 ↔ tail3 (sum t) = u := by
  match u, hu with
  | [a, b, c], _ =>
    unfold sum
    rw [more_append]
    exact more_three _ _ _ _
end Crc
