/- What one step of crcs comes to. -/
import Derived.Test.YtlmigmejfkflmaaHead
import Derived.Test.YtlmigmejfkflmaaCrcMath
import Derived.Test.YtlmigmejfkflmaaBits
namespace Go.Proofs.Ytlmigmejfkflmaa
open Go.RowKit

theorem msb_iff (x : BitVec 24) : x.msb = (((x.toNat : Int) / 8388608) != 0) := by
  rw [BitVec.msb_eq_decide, Bool.eq_iff_iff]
  have := x.isLt
  simp
  omega

theorem shl1_toNat (x : BitVec 24) : (x <<< 1).toNat = x.toNat * 2 % 16777216 := by
  rw [BitVec.toNat_shiftLeft, Nat.shiftLeft_eq]

theorem mask_shl1 (x : BitVec 24) : bits .and .i64 ((x.toNat : Int) * 2) 16777215 = ((x <<< 1).toNat : Int) := by
  rw [i64_mask24, shl1_toNat]; omega

theorem step_hit (x : BitVec 24) (h : x.msb = true) :
    bits .xor .i64 (bits .and .i64 ((x.toNat : Int) * 2) 16777215) 8801531 = ((Crc.step0 x).toNat : Int) := by
  rw [mask_shl1, show (8801531 : Int) = ((8801531 : Nat) : Int) from rfl, i64_xor_nat _ _ (by have := (x <<< 1).isLt; omega) (by omega)]
  unfold Crc.step0
  rw [if_pos h, BitVec.toNat_xor]; rfl

theorem step_miss (x : BitVec 24) (h : x.msb = false) :
    bits .and .i64 ((x.toNat : Int) * 2) 16777215 = ((Crc.step0 x).toNat : Int) := by
  rw [mask_shl1]
  unfold Crc.step0
  rw [if_neg (by simp [h])]; simp

set_option maxHeartbeats 400000 in
theorem crcs_step (x : BitVec 24) (w : World) :
    Calls Try.prog 41 #[.int .i64 (x.toNat : Int)] w fun e w' => e = .returned (.int .i64 ((Crc.step0 x).toNat : Int)) ∧ w = w' := by
  have hlt : x.toNat < 16777216 := x.isLt
  have hm := msb_iff x
  cases hb : x.msb
  · rw [hb] at hm
    have ht := hm.symm
    have HB := Lib.hid (step_miss x hb)
    clear hm hb
    go_enter Try.func41, Try.ntmps41
    go_wp2
    go_ret
    exact ⟨ret_int HB.out, rfl⟩
  · rw [hb] at hm
    have ht := hm.symm
    have HB := Lib.hid (step_hit x hb)
    clear hm hb
    go_enter Try.func41, Try.ntmps41
    go_wp2
    go_ret
    exact ⟨ret_int HB.out, rfl⟩
end Go.Proofs.Ytlmigmejfkflmaa
