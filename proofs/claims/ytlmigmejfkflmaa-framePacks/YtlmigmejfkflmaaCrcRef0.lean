/- What the document's own answers of layer 2 come to. -/
import Derived.Test.YtlmigmejfkflmaaCrcSeal
namespace Go.Proofs.Ytlmigmejfkflmaa
open Go.RowKit
set_option linter.unusedVariables false

theorem ref_step_hit (x : BitVec 24) : bits .xor .i64 ((2 : Int) * (x.toNat : Int) % (16777216 : Int)) 8801531 = ((x <<< 1 ^^^ 0x864cfb#24).toNat : Int) := by
  rw [show (2 : Int) * (x.toNat : Int) % (16777216 : Int) = ((x <<< 1).toNat : Int) from by rw [shl1_toNat]; omega, show (8801531 : Int) = ((8801531 : Nat) : Int) from rfl,
    i64_xor_nat _ _ (by have := (x <<< 1).isLt; omega) (by omega), BitVec.toNat_xor]
  rfl
theorem ref_step_miss (x : BitVec 24) : (2 : Int) * (x.toNat : Int) % (16777216 : Int) = ((x <<< 1 ^^^ 0#24).toNat : Int) := by
  rw [BitVec.xor_zero, shl1_toNat]; omega

theorem ref_high (x : BitVec 24) (b : Bool) : (((x.toNat : Int) / 8388608) != (b.toNat : Int)) = (x.msb != b) := by
  have hx := x.isLt
  have hm := msb_iff x
  have h2 : (x.toNat : Int) / 8388608 = 0 ∨ (x.toNat : Int) / 8388608 = 1 := by omega
  rw [hm]
  rcases h2 with h | h <;> rw [h] <;> cases b <;> rfl

set_option maxHeartbeats 400000 in
theorem ref02_step (x : BitVec 24) (b : Bool) (w : World) :
    Calls Try.prog 36 #[.int .i64 (x.toNat : Int), .int .i64 (b.toNat : Int)] w fun e w' => e = .returned (.int .i64 ((Crc.stepB x b).toNat : Int)) ∧ w = w' := by
  have hlt : x.toNat < 16777216 := x.isLt
  have hm := ref_high x b
  cases hb : (x.msb != b)
  · rw [hb] at hm
    have HV := Lib.hid (show (2 : Int) * (x.toNat : Int) % (16777216 : Int) = ((Crc.stepB x b).toNat : Int) from by
      unfold Crc.stepB; rw [hb, ref_step_miss]; rfl)
    clear hb
    go_enter Try.func36, Try.ntmps36
    go_wp2
    go_ret
    exact ⟨ret_int HV.out, rfl⟩
  · rw [hb] at hm
    have HV := Lib.hid (show bits .xor .i64 ((2 : Int) * (x.toNat : Int) % (16777216 : Int)) 8801531 = ((Crc.stepB x b).toNat : Int) from by
      unfold Crc.stepB; rw [hb, ref_step_hit]; rfl)
    clear hb
    go_enter Try.func36, Try.ntmps36
    go_wp2
    go_ret
    exact ⟨ret_int HV.out, rfl⟩

theorem bit_at (c : UInt8) (m : Nat) : (wrap64 (c.toNat : Int) / 2 ^ (7 - m)).tmod 2 = ((c.toNat.testBit (7 - m)).toNat : Int) := by
  rw [wrap64_small c.toNat_lt]
  have e : ((c.toNat : Int) / 2 ^ (7 - m)) = ((c.toNat / 2 ^ (7 - m) : Nat) : Int) := by simp
  rw [e, Nat.testBit_eq_decide_div_mod_eq]
  rw [Int.tmod_eq_emod_of_nonneg (Int.natCast_nonneg _)]
  by_cases h : c.toNat / 2 ^ (7 - m) % 2 = 1
  · simp [h]; omega
  · simp [h]; omega

theorem bits_take (c : UInt8) (x : BitVec 24) (m : Nat) (h : m < 8) :
    Crc.bitsOn x ((Crc.byteBits c).take (m + 1)) = Crc.stepB (Crc.bitsOn x ((Crc.byteBits c).take m)) (c.toNat.testBit (7 - m)) := by
  have hl : m < (Crc.byteBits c).length := by rw [Crc.byteBits_len]; exact h
  rw [List.take_succ_eq_append_getElem hl, Crc.bitsOn_append]
  have e : (Crc.byteBits c)[m] = c.toNat.testBit (7 - m) := by simp [Crc.byteBits]
  rw [e]
  rfl

set_option maxHeartbeats 1000000 in
theorem ref02_more (sum : Int) (s : ByteArray) (w : World) (hs : s.size ≤ maxLen) :
    Calls Try.prog 32 #[.int .i64 sum, .string s] w fun e w' => e = .returned (.int .i64 ((Crc.more (BitVec.ofInt 24 sum) s.data.toList).toNat : Int)) ∧ w = w' := by
  unfold maxLen at hs
  go_enter Try.func32, Try.ntmps32
  go_wp2
  go_loop [0, 5] (fun v i => ∃ k : Nat, k ≤ s.size ∧ i = .int .i64 k ∧ v = .int .i64 ((Crc.more (BitVec.ofInt 24 sum) (s.data.toList.take k)).toNat : Int)) (fun _ i => s.size - (intOf i).toNat)
  case atStart => exact ⟨0, by omega, rfl, more_start sum⟩
  case round =>
    obtain ⟨k, hk, rfl, rfl⟩ := hrel
    by_cases hlt : k < s.size
    · have hd : decide ((k : Int) < (s.size : Int)) = true := by simp; omega
      have HT := Lib.hid (more_take (BitVec.ofInt 24 sum) s k hlt)
      generalize hX : Crc.more (BitVec.ofInt 24 sum) (s.data.toList.take k) = X at *
      clear hX
      go_wp2
      go_loop [0, 6] (fun v i => ∃ m : Nat, m ≤ 8 ∧ i = .int .i64 (7 - (m : Int)) ∧ v = .int .i64 ((Crc.bitsOn X ((Crc.byteBits s[k]).take m)).toNat : Int)) (fun _ i => (intOf i + 1).toNat)
      case atStart => exact ⟨0, by omega, rfl, rfl⟩
      case round =>
        obtain ⟨m, hm, rfl, rfl⟩ := hrel
        by_cases h8 : m < 8
        · have hd8 : decide ((0 : Int) ≤ 7 - (m : Int)) = true := by simp; omega
          go_wp2_with fail
          rw [bit_at]
          refine (ref02_step _ _ _).mono ?_
          rintro e w' ⟨rfl, rfl⟩
          go_wp2
          go_round
          case rel => exact ⟨m + 1, by omega, by go_num, by rw [bits_take s[k] X m h8]⟩
          case measure => simp [intOf]; omega
        · obtain rfl : m = 8 := by omega
          go_wp2
          go_round
          case rel => exact ⟨k + 1, by omega, by go_num, by rw [HT.out]; rfl⟩
          case measure => simp [intOf]; omega
    · go_wp2
      go_ret
      refine ⟨?_, rfl⟩
      rw [List.take_of_length_le (by simp; omega)]
      rfl

theorem ref02_sum (s : ByteArray) (w : World) (hs : s.size ≤ maxLen) :
    Calls Try.prog 29 #[.string s] w fun e w' => e = .returned (.int .i64 ((Crc.sum s.data.toList).toNat : Int)) ∧ w = w' := by
  go_enter Try.func29, Try.ntmps29
  go_wp2_with (go_at_call 32; refine (ref02_more _ _ _ hs).mono ?_; rintro e w' ⟨rfl, rfl⟩)
  go_ret
  exact ⟨rfl, rfl⟩

set_option maxHeartbeats 400000 in
theorem ref02_Seal (s : ByteArray) (w : World) (hs : s.size ≤ 1000000) :
    Calls Try.prog 22 #[.string s] w fun e w' => e = .returned (.string (sealS s)) ∧ Below w.heap.size w w' := by
  have hx := (Crc.sum s.data.toList).isLt
  have hts : (tailS (Crc.sum s.data.toList)).size = 3 := rfl
  have hcv := tail_convert (Crc.sum s.data.toList) w
  go_enter Try.func22, Try.ntmps22
  go_wp2_with fail
  refine (ref02_sum s _ (by unfold maxLen; omega)).mono ?_
  rintro e w1 ⟨rfl, rfl⟩
  go_wp2
  go_ret
  exact ⟨rfl, grew_alloc _ _⟩

set_option maxHeartbeats 400000 in
theorem ref02_Open_short (s : ByteArray) (w : World) (hs : s.size < 3) :
    Calls Try.prog 26 #[.string s] w fun e w' => e = .returned (.tuple #[.string ⟨#[]⟩, .int .i64 3]) ∧ Below w.heap.size w w' := by
  have hd : decide ((s.size : Int) < 3) = true := by simp; omega
  go_enter Try.func26, Try.ntmps26
  go_wp2
  go_ret2
  exact ⟨rfl, Below.refl _ _⟩

theorem open_again (s : ByteArray) (hs : 3 ≤ s.size) : (Crc.sum s.data.toList = 0#24 ↔ sealS (s.extract 0 (s.size - 3)) = s) := by
  rw [open_parts s hs]
  unfold sealS
  constructor
  · intro h
    rw [h]
    exact str_cut s _ (by omega)
  · intro h
    have e := str_cut s (s.size - 3) (by omega)
    have hsz : (s.extract 0 (s.size - 3)).size = s.size - 3 := by rw [ByteArray.size_extract]; omega
    have h1 := str_back (s.extract 0 (s.size - 3)) (tailS (Crc.sum (s.extract 0 (s.size - 3)).data.toList))
    rw [h, hsz] at h1
    rw [h1]

set_option maxHeartbeats 400000 in
theorem ref02_Open_ok (s : ByteArray) (w : World) (hs : 3 ≤ s.size) (hm : s.size ≤ 1000000) (hz : Crc.sum s.data.toList = 0#24) :
    Calls Try.prog 26 #[.string s] w fun e w' => e = .returned (.tuple #[.string (s.extract 0 (s.size - 3)), .int .i64 0]) ∧ Below w.heap.size w w' := by
  have H := Lib.hid (str_same ((open_again s hs).1 hz))
  clear hz
  have ht : (s.extract 0 (s.size - 3)).size ≤ 1000000 := by rw [ByteArray.size_extract]; omega
  have hd : decide ((s.size : Int) < 3) = false := by simp; omega
  go_enter Try.func26, Try.ntmps26
  go_wp2_with fail
  generalize hte : s.extract 0 (s.size - 3) = t at *
  have Hte := Lib.hid hte
  clear hte
  refine (ref02_Seal t _ ht).mono ?_
  rintro e w1 ⟨rfl, hb1⟩
  have he := H.out
  go_wp2
  go_ret2
  exact ⟨by rw [Hte.out]; rfl, hb1⟩

set_option maxHeartbeats 400000 in
theorem ref02_Open_bad (s : ByteArray) (w : World) (hs : 3 ≤ s.size) (hm : s.size ≤ 1000000) (hz : Crc.sum s.data.toList ≠ 0#24) :
    Calls Try.prog 26 #[.string s] w fun e w' => e = .returned (.tuple #[.string ⟨#[]⟩, .int .i64 4]) ∧ Below w.heap.size w w' := by
  have H := Lib.hid (str_other (fun h => hz ((open_again s hs).2 h)))
  clear hz
  have ht : (s.extract 0 (s.size - 3)).size ≤ 1000000 := by rw [ByteArray.size_extract]; omega
  have hd : decide ((s.size : Int) < 3) = false := by simp; omega
  go_enter Try.func26, Try.ntmps26
  go_wp2_with fail
  generalize hte : s.extract 0 (s.size - 3) = t at *
  clear hte
  refine (ref02_Seal t _ ht).mono ?_
  rintro e w1 ⟨rfl, hb1⟩
  have he := H.out
  go_wp2
  go_ret2
  exact ⟨rfl, hb1⟩

end Go.Proofs.Ytlmigmejfkflmaa
