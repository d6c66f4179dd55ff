/- What crcs.More and crcs.Sum come to. -/
import Derived.Test.YtlmigmejfkflmaaCrcSteps
namespace Go.Proofs.Ytlmigmejfkflmaa
open Go.RowKit
set_option linter.unusedVariables false

/-- Half a byte, by the table. -/
def nib (x : BitVec 24) (h : Nat) : BitVec 24 := (x <<< 4) ^^^ tabV ((x.toNat / 1048576) ^^^ h)

theorem setRow_one (w : World) (old cs : Array Value) (t : TypeId) : (w.alloc (.cells old t)).setRow w.heap.size cs = w.alloc (.cells cs t) := by
  unfold World.setRow World.alloc
  simp only [World.mk.injEq, and_true]
  apply Array.ext
  · simp
  · intro i h1 h2
    rw [Array.getElem_modify]
    simp only [Array.size_modify, Array.size_push] at h1
    by_cases e : w.heap.size = i
    · subst e; simp [Array.getElem_push]
    · rw [if_neg e]
      simp only [Array.getElem_push]
      rw [dif_pos (by omega), dif_pos (by omega)]

theorem size_two (w : World) (A B : Obj) : ((w.alloc A).alloc B).heap.size = w.heap.size + 1 + 1 := by simp

theorem heap_three (w : World) (A B C : Obj) : (((w.alloc A).alloc B).alloc C).heap[w.heap.size + 1 + 1]? = some C := by
  rw [← size_two w A B]; exact heap_alloc_new _ _

theorem setRow_three (w : World) (A B : Obj) (old cs : Array Value) (t : TypeId) :
    (((w.alloc A).alloc B).alloc (.cells old t)).setRow (w.heap.size + 1 + 1) cs = ((w.alloc A).alloc B).alloc (.cells cs t) := by
  rw [← size_two w A B]; exact setRow_one _ _ _ _

theorem more_start (sum : Int) : Value.int .i64 (bits .and .i64 sum 16777215) = .int .i64 ((Crc.more (BitVec.ofInt 24 sum) (List.take 0 ([] : List UInt8))).toNat : Int) := by
  show _ = Value.int .i64 ((BitVec.ofInt 24 sum).toNat : Int)
  rw [i64_mask24, BitVec.toNat_ofInt]
  congr 1
  omega

theorem wrap64_small {c : Nat} (h : c < 256) : wrap64 (c : Int) = c := IntWalk.wrap64_in _ ⟨by omega, by omega⟩
theorem div16 (c : Nat) : (c : Int) / 16 = ((c / 16 : Nat) : Int) := by omega
theorem mod16 (c : Nat) : (c : Int) % 16 = ((c % 16 : Nat) : Int) := by omega

/-- The sum behind m halves of a byte. -/
def halfs (x : BitVec 24) (hi lo : Nat) : Nat → BitVec 24
  | 0 => x
  | 1 => nib x hi
  | _ => nib (nib x hi) lo

theorem nib_idx (x : BitVec 24) (h : Nat) (hh : h < 16) :
    bits .xor .i64 ((x.toNat : Int) / 1048576) (h : Int) = (((x.toNat / 1048576) ^^^ h : Nat) : Int) ∧ (x.toNat / 1048576) ^^^ h < 16 := by
  have := x.isLt
  refine ⟨?_, Nat.xor_lt_two_pow (n := 4) (by omega) (by omega)⟩
  rw [show ((x.toNat : Int) / 1048576) = ((x.toNat / 1048576 : Nat) : Int) from by omega]
  exact i64_xor_nat _ _ (by omega) (by omega)

theorem nib_val (x : BitVec 24) (h : Nat) :
    bits .xor .i64 (bits .and .i64 ((x.toNat : Int) * 16) 16777215) ((tabV ((x.toNat / 1048576) ^^^ h)).toNat : Int) = ((nib x h).toNat : Int) := by
  have e : bits .and .i64 ((x.toNat : Int) * 16) 16777215 = ((x <<< 4).toNat : Int) := by
    rw [i64_mask24, BitVec.toNat_shiftLeft, Nat.shiftLeft_eq]; omega
  rw [e, i64_xor_nat _ _ (by have := (x <<< 4).isLt; omega) (by have := (tabV ((x.toNat / 1048576) ^^^ h)).isLt; omega)]
  unfold nib
  rw [BitVec.toNat_xor]

theorem index_two0 (a b : Value) (w : World) : (Instr.index 58 (.agg #[a, b]) (.int .i64 0)).run Try.prog w = .ok a w := by kernel_rfl
theorem index_two1 (a b : Value) (w : World) : (Instr.index 58 (.agg #[a, b]) (.int .i64 1)).run Try.prog w = .ok b w := by kernel_rfl

theorem ofNat_shift (i : Nat) : BitVec.ofNat 24 (i * 1048576) = BitVec.ofNat 24 i <<< 20 := by
  apply BitVec.eq_of_toNat_eq
  simp only [BitVec.toNat_ofNat, BitVec.toNat_shiftLeft, Nat.shiftLeft_eq]
  omega

theorem split24 (x : BitVec 24) : x = ((x >>> 20) <<< 20) ^^^ ((x <<< 4) >>> 4) := by
  apply BitVec.eq_of_getLsbD_eq
  intro i hi
  simp only [BitVec.getLsbD_xor, BitVec.getLsbD_shiftLeft, BitVec.getLsbD_ushiftRight]
  by_cases h : i < 20
  · have e1 : 4 + i < 24 := by omega
    have e2 : ¬ 4 + i < 4 := by omega
    have e3 : 4 + i - 4 = i := by omega
    simp [h, e1, e3]
  · have e1 : ¬ 4 + i < 24 := by omega
    have e2 : 20 + (i - 20) = i := by omega
    simp [h, e1, e2, hi]

theorem iter_low (y : BitVec 24) : Crc.iter 4 ((y <<< 4) >>> 4) = y <<< 4 := by
  have e : (y <<< 4) >>> 4 = ((((y <<< 4) >>> 1) >>> 1) >>> 1) >>> 1 := by
    simp only [← BitVec.shiftRight_add]
  rw [e]
  show Crc.step0 (Crc.step0 (Crc.step0 (Crc.step0 _))) = _
  have hl : ∀ j, j < 4 → (y <<< 4).getLsbD j = false := fun j hj => by
    simp only [BitVec.getLsbD_shiftLeft]
    have : decide (j < 4) = true := by simp; omega
    simp [this]
  rw [Crc.step0_shift, Crc.step0_shift, Crc.step0_shift, Crc.step0_shift]
  · exact hl 0 (by omega)
  · rw [BitVec.getLsbD_ushiftRight]; exact hl 1 (by omega)
  · rw [BitVec.getLsbD_ushiftRight, BitVec.getLsbD_ushiftRight]; exact hl 2 (by omega)
  · rw [BitVec.getLsbD_ushiftRight, BitVec.getLsbD_ushiftRight, BitVec.getLsbD_ushiftRight]; exact hl 3 (by omega)

theorem nib_iter (x : BitVec 24) (h : Nat) : nib x h = Crc.iter 4 (x ^^^ (BitVec.ofNat 24 h <<< 20)) := by
  unfold nib tabV
  have hd : BitVec.ofNat 24 ((x.toNat / 1048576) ^^^ h) = (x >>> 20) ^^^ BitVec.ofNat 24 h := by
    apply BitVec.eq_of_toNat_eq
    have e : x.toNat / 1048576 % 2 ^ 24 = x.toNat / 1048576 := Nat.mod_eq_of_lt (by have := x.isLt; omega)
    rw [BitVec.toNat_xor, BitVec.toNat_ofNat, BitVec.toNat_ofNat, BitVec.toNat_ushiftRight, Nat.shiftRight_eq_div_pow, Nat.xor_mod_two_pow, e]
  rw [ofNat_shift, hd, BitVec.shiftLeft_xor_distrib, Crc.iter_xor, Crc.iter_xor, ← BitVec.xor_assoc]
  congr 1
  conv => rhs; rw [split24 x]
  rw [Crc.iter_xor, iter_low, BitVec.xor_comm]

/-- Four bits at once: by the table, as bit by bit. -/
theorem nib_bits (x : BitVec 24) (a b c d : Bool) : Crc.bitsOn x [a, b, c, d] = nib x (8 * a.toNat + 4 * b.toNat + 2 * c.toNat + d.toNat) := by
  rw [Crc.bitsOn_pack _ _ (by simp), nib_iter]
  have e : Crc.packTop [a, b, c, d] = BitVec.ofNat 24 (8 * a.toNat + 4 * b.toNat + 2 * c.toNat + d.toNat) <<< 20 := by
    revert a b c d; decide
  rw [e]
  rfl

theorem byte_halves (c : UInt8) : c.toNat / 16 = 8 * (c.toNat.testBit 7).toNat + 4 * (c.toNat.testBit 6).toNat + 2 * (c.toNat.testBit 5).toNat + (c.toNat.testBit 4).toNat
    ∧ c.toNat % 16 = 8 * (c.toNat.testBit 3).toNat + 4 * (c.toNat.testBit 2).toNat + 2 * (c.toNat.testBit 1).toNat + (c.toNat.testBit 0).toNat := by
  have all : ∀ n : Fin 256, n.val / 16 = 8 * (n.val.testBit 7).toNat + 4 * (n.val.testBit 6).toNat + 2 * (n.val.testBit 5).toNat + (n.val.testBit 4).toNat
    ∧ n.val % 16 = 8 * (n.val.testBit 3).toNat + 4 * (n.val.testBit 2).toNat + 2 * (n.val.testBit 1).toNat + (n.val.testBit 0).toNat := by decide +kernel
  exact all ⟨c.toNat, c.toNat_lt⟩

theorem nib_byte (x : BitVec 24) (c : UInt8) : Crc.bitsOn x (Crc.byteBits c) = nib (nib x (c.toNat / 16)) (c.toNat % 16) := by
  rw [(byte_halves c).1, (byte_halves c).2, ← nib_bits, ← nib_bits, ← Crc.bitsOn_append]
  rfl

theorem more_take (x : BitVec 24) (s : ByteArray) (k : Nat) (h : k < s.size) :
    Crc.more x (s.data.toList.take (k + 1)) = Crc.bitsOn (Crc.more x (s.data.toList.take k)) (Crc.byteBits s[k]) := by
  have e : s.data.toList.take (k + 1) = s.data.toList.take k ++ [s[k]] := by
    rw [List.take_succ_eq_append_getElem (by simpa using h)]; rfl
  rw [e, Crc.more_append]
  simp [Crc.more, Crc.bitsOf]

set_option maxHeartbeats 1000000 in
theorem crcs_more (sum : Int) (s : ByteArray) (w : World) (hs : s.size ≤ maxLen) :
    Calls Try.prog 31 #[.int .i64 sum, .string s] w fun e w' => e = .returned (.int .i64 ((Crc.more (BitVec.ofInt 24 sum) s.data.toList).toNat : Int)) ∧ Below w.heap.size w w' := by
  unfold maxLen at hs
  go_enter Try.func31, Try.ntmps31
  go_wp2_with (first | (go_at_call 35; refine (crcs_steps _).mono ?_; rintro e w' ⟨rfl, rfl⟩) | (refine wpList_store_row rfl 56 _ _ rfl (w.heap.size + 1 + 1) (tabArr 16) rfl rfl 56 _ (heap_three _ _ _ _) (by rw [tab_size]; kernel_rfl) (by rw [tab_size]; rfl) tab_one ?_; rw [setRow_three]))
  have hB : Below w.heap.size w (((w.alloc (.cells (tabArr 16) 56)).alloc (.cells (tabArr 16) 56)).alloc (.cells (tabArr 16) 56)) := by go_grown
  have hC : ∀ i, i < 16 → (((w.alloc (.cells (tabArr 16) 56)).alloc (.cells (tabArr 16) 56)).alloc (.cells (tabArr 16) 56)).cell? ⟨w.heap.size + 1 + 1, i, none⟩ = some (.int .i64 ((tabV i).toNat : Int)) := fun i hi => by
    rw [cell_of_row _ _ _ _ _ _ (heap_three _ _ _ _)]
    simp [tabArr, tabRow, hi]
  have HC := Lib.hid hC
  clear hC
  generalize ((w.alloc (.cells (tabArr 16) 56)).alloc (.cells (tabArr 16) 56)).alloc (.cells (tabArr 16) 56) = W at *
  go_loop [0, 15] (fun v i => ∃ k : Nat, k ≤ s.size ∧ i = .int .i64 k ∧ v = .int .i64 ((Crc.more (BitVec.ofInt 24 sum) (s.data.toList.take k)).toNat : Int)) (fun _ i => s.size - (intOf i).toNat)
  case atStart => exact ⟨0, by omega, rfl, more_start sum⟩
  case round =>
    obtain ⟨k, hk, rfl, rfl⟩ := hrel
    by_cases hlt : k < s.size
    · have hd : decide ((k : Int) < (s.size : Int)) = true := by simp; omega
      obtain ⟨c, hc⟩ : ∃ c : UInt8, c = s[k] := ⟨_, rfl⟩
      have HT := Lib.hid (more_take (BitVec.ofInt 24 sum) s k hlt)
      go_wp2
      rw [← hc] at *
      clear hc
      have hc256 : c.toNat < 256 := c.toNat_lt
      have HN := Lib.hid (nib_byte (Crc.more (BitVec.ofInt 24 sum) (s.data.toList.take k)) c)
      rw [wrap64_small hc256, div16 c.toNat, i64_mask4, mod16 c.toNat]
      have hhi : c.toNat / 16 < 16 := by omega
      have hlo : c.toNat % 16 < 16 := by omega
      generalize c.toNat / 16 = hi at *
      generalize c.toNat % 16 = lo at *
      generalize hX : Crc.more (BitVec.ofInt 24 sum) (s.data.toList.take k) = X at *
      have HX := Lib.hid hX
      clear hX
      go_loop [0, 27] (fun v j => ∃ m : Nat, m ≤ 2 ∧ j = .int .i64 m ∧ v = .int .i64 ((halfs X hi lo m).toNat : Int)) (fun _ j => 2 - (intOf j).toNat)
      case atStart => exact ⟨0, by omega, rfl, rfl⟩
      case round =>
        obtain ⟨m, hm, rfl, rfl⟩ := hrel
        by_cases h2 : m < 2
        · have hd2 : decide ((m : Int) < 2) = true := by simp; omega
          have i0 := index_two0
          have i1 := index_two1
          rcases (by omega : m = 0 ∨ m = 1) with rfl | rfl
          · obtain ⟨hx, hi16⟩ := nib_idx X hi hhi
            have hv := nib_val X hi
            have hcell := HC.out _ hi16
            have h0 : halfs X hi lo 0 = X := rfl
            generalize (X.toNat / 1048576) ^^^ hi = idx at *
            go_wp2
            go_round
            case rel => exact ⟨1, by omega, rfl, rfl⟩
            case measure => simp [intOf]
          · obtain ⟨hx, hi16⟩ := nib_idx (nib X hi) lo hlo
            have hv := nib_val (nib X hi) lo
            have hcell := HC.out _ hi16
            have h0 : halfs X hi lo 1 = nib X hi := rfl
            generalize ((nib X hi).toNat / 1048576) ^^^ lo = idx at *
            go_wp2
            go_round
            case rel => exact ⟨2, by omega, rfl, rfl⟩
            case measure => simp [intOf]
        · obtain rfl : m = 2 := by omega
          have h0 : halfs X hi lo 2 = nib (nib X hi) lo := rfl
          go_wp2
          go_round
          case rel => exact ⟨k + 1, by omega, by go_num, by rw [HT.out, HN.out]; rfl⟩
          case measure => simp [intOf]; omega
    · go_wp2
      go_ret
      refine ⟨?_, hB⟩
      rw [List.take_of_length_le (by simp; omega)]
      rfl

/-- What a text sums to. -/
theorem crcs_sum (s : ByteArray) (w : World) (hs : s.size ≤ maxLen) :
    Calls Try.prog 28 #[.string s] w fun e w' => e = .returned (.int .i64 ((Crc.sum s.data.toList).toNat : Int)) ∧ Below w.heap.size w w' := by
  go_enter Try.func28, Try.ntmps28
  go_wp2_with (go_at_call 31; refine (crcs_more _ _ _ hs).mono ?_; rintro e w' ⟨rfl, hb⟩)
  go_ret
  exact ⟨rfl, hb⟩
end Go.Proofs.Ytlmigmejfkflmaa
