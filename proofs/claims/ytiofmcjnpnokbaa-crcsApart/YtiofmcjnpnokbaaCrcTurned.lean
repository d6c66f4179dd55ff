/- The walk of CrcsTurned: bits that are turned within 24 of a sealed text are seen. -/
import Derived.Test.YtiofmcjnpnokbaaCrcLaws
import Derived.Test.YtiofmcjnpnokbaaCrcMath3
import Derived.Test.YtiofmcjnpnokbaaBytes
namespace Go.Proofs.Ytiofmcjnpnokbaa
open Go.RowKit
set_option linter.unusedVariables false

/-- Is the bit i of a number to be turned? -/
def oddAt (a : Int) (i : Nat) : Bool := (a / 2 ^ i).tmod 2 != 0

theorem oddAt_some (a : Int) (h : a % 16777216 ≠ 0) : ∃ i, i < 24 ∧ oddAt a i = true := by
  apply Classical.byContradiction
  intro hn
  apply h
  have := Crc.low_bits a 24 (fun i hi => by
    have h1 : ¬ oddAt a i = true := fun h2 => hn ⟨i, hi, h2⟩
    unfold oddAt at h1
    have h2 : (a / 2 ^ i).tmod 2 = 0 := by simpa using h1
    exact Int.emod_eq_zero_of_dvd (Int.dvd_of_tmod_eq_zero h2))
  simpa using this

theorem turn_value (c : UInt8) (r : Nat) : bits .xor .u8 (c.toNat : Int) ((128 : Int) / 2 ^ r) = ((c ^^^ UInt8.ofNat (128 / 2 ^ r)).toNat : Int) := by
  have h8 : 128 / 2 ^ r < 256 := Nat.lt_of_le_of_lt (Nat.div_le_self _ _) (by omega)
  have e : (128 : Int) / 2 ^ r = ((128 / 2 ^ r : Nat) : Int) := by simp
  rw [e, u8_xor_nat _ _ c.toNat_lt h8, UInt8.toNat_xor, UInt8.toNat_ofNat', Nat.mod_eq_of_lt h8]

theorem turn_next {wr : World} {g : Nat} {l : List UInt8} {f k : Nat} {pat : Nat → Bool} (hp : pat k = true) (hj : (f + k) / 8 < (Crc.turnM l f pat k).length) (hr : RowIs wr g (Crc.turnM l f pat k)) :
    RowIs (wr.setCell ⟨g, (f + k) / 8, none⟩ (.int .u8 (((Crc.turnM l f pat k)[(f + k) / 8] ^^^ UInt8.ofNat (128 / 2 ^ ((f + k) % 8))).toNat : Int))) g (Crc.turnM l f pat (k + 1)) := by
  have h := hr.set ((f + k) / 8) ((Crc.turnM l f pat k)[(f + k) / 8] ^^^ UInt8.ofNat (128 / 2 ^ ((f + k) % 8))) hj
  have e : Crc.turnM l f pat (k + 1) = (Crc.turnM l f pat k).set ((f + k) / 8) ((Crc.turnM l f pat k)[(f + k) / 8] ^^^ UInt8.ofNat (128 / 2 ^ ((f + k) % 8))) := by
    simp only [Crc.turnM]
    rw [if_pos hp]
    unfold Crc.turn1
    rw [List.getD_eq_getElem?_getD, List.getElem?_eq_getElem hj]
    rfl
  rw [e]
  exact h

set_option maxHeartbeats 1000000 in
theorem walk_CrcsTurned_main (s : ByteArray) (at_ bts : Int) (w : World) (hs : s.size ≤ 3000) (h0 : 0 ≤ at_) (hat : at_ ≤ 9223372036854775807)
    (hb : bts % 16777216 ≠ 0) (hb1 : -9223372036854775808 ≤ bts) (hb2 : bts ≤ 9223372036854775807) :
    Calls Try.prog 12 #[.string s, .int .i64 at_, .int .i64 bts] w fun e w' => e = .returned (.bool true) ∧ Below w.heap.size w w' := by
  have hd : decide ((s.size : Int) ≤ 3000) = true := by simp; omega
  have hd2 : decide (at_ < 0) = false := by simp; omega
  have hd3 : (bits .and .i64 bts 16777215 == 0) = false := by rw [i64_mask24]; simpa using hb
  have HS := Lib.hid (sealS_size s)
  have HZ := Lib.hid (sealS_sum s)
  have HP := Lib.hid (oddAt_some bts hb)
  clear hb
  go_enter Try.func12, Try.ntmps12
  go_wp2_with fail
  refine (law02_short s _ (by unfold maxLen; omega)).mono ?_
  rintro e w' ⟨rfl, rfl⟩
  go_wp2_with fail
  refine (crcs_Seal s _ (by omega)).mono ?_
  rintro e w1 ⟨rfl, hw1⟩
  obtain ⟨cap, W, hrun, hcap, hrow, hW, hWs⟩ := bytes_made (sealS s) w1
  have HW := Lib.hid hWs
  have hsz : (sealS s).size = s.size + 3 := HS.out
  clear hWs
  go_wp2
  obtain ⟨f, hF, hf⟩ : ∃ f : Nat, at_ % (8 * ((s.size : Int) + 3) - 23) = (f : Int) ∧ f + 24 ≤ 8 * (s.size + 3) := by
    have h1 := Int.emod_nonneg at_ (show (8 * ((s.size : Int) + 3) - 23) ≠ 0 by omega)
    have h2 := Int.emod_lt_of_pos at_ (show (0 : Int) < 8 * ((s.size : Int) + 3) - 23 by omega)
    exact ⟨(at_ % (8 * ((s.size : Int) + 3) - 23)).toNat, by omega, by omega⟩
  rw [hF]
  clear hF
  have hlen : (sealS s).data.toList.length = s.size + 3 := by rw [size_list]; exact HS.out
  have HL := Lib.hid hlen
  have HB := Lib.hid hW
  have HR := Lib.hid hrow
  have hg : w1.heap.size < W.heap.size := by rw [HW.out]; omega
  clear hlen hW hrow hrun hsz
  generalize (sealS s).data.toList = l at *
  go_loopw [9] (fun v wr => ∃ k : Nat, k ≤ 24 ∧ v = .int .i64 k ∧ RowIs wr w1.heap.size (Crc.turnM l f (oddAt bts) k) ∧ Below w1.heap.size w1 wr) (fun v _ => 24 - (intOf v).toNat)
  case atStart => exact ⟨0, by omega, rfl, HR.out, HB.out⟩
  case round =>
    obtain ⟨k, hk, rfl, hrow, hbel⟩ := hrel
    have HRow := Lib.hid hrow
    have HBel := Lib.hid hbel
    clear hrow hbel
    by_cases hlt : k < 24
    · have hd24 : decide ((k : Int) < 24) = true := by simp; omega
      have hj : (f + k) / 8 < (Crc.turnM l f (oddAt bts) k).length := by rw [Crc.turnM_len, HL.out]; omega
      have hjn : (f + k) / 8 < s.size + 3 := by omega
      obtain ⟨hcell, hfro⟩ := HRow.out _ hj
      have hset := HRow.out
      have hval := turn_value (Crc.turnM l f (oddAt bts) k)[(f + k) / 8] ((f + k) % 8)
      by_cases hodd : oddAt bts k = true
      · have hbit : ((bts / 2 ^ k).tmod 2 != 0) = true := hodd
        have HN := Lib.hid (turn_next hodd hj (HRow.out))
        generalize (Crc.turnM l f (oddAt bts) k)[(f + k) / 8] = c at *
        clear hset hodd
        go_wp2
        go_roundw
        case rel => exact ⟨k + 1, by omega, by go_num, HN.out, HBel.out.setCell (Nat.le_refl _) _⟩
        case measure => simp [intOf]; omega
      · have hbit : ((bts / 2 ^ k).tmod 2 != 0) = false := by simpa [oddAt] using hodd
        clear hval hcell hfro
        go_wp2
        go_roundw
        case rel => exact ⟨k + 1, by omega, by go_num, by simp only [Crc.turnM]; rw [if_neg hodd]; exact HRow.out, HBel.out⟩
        case measure => simp [intOf]; omega
    · obtain rfl : k = 24 := by omega
      have hl2 : (Crc.turnM l f (oddAt bts) 24).length = s.size + 3 := by rw [Crc.turnM_len, HL.out]
      have hconv := bytes_text wr w1.heap.size cap _ HRow.out
      rw [hl2] at hconv
      have HS2 := Lib.hid hl2
      clear hl2
      have HX : Hid (Crc.sum (Crc.turnM l f (oddAt bts) 24) ≠ 0#24) := Lib.hid (by
        have := Crc.sum_turned l f (oddAt bts) (by rw [HL.out]; exact hf) HP.out
        rw [HZ.out] at this
        exact this)
      generalize Crc.turnM l f (oddAt bts) 24 = m at *
      have hms : (ByteArray.mk m.toArray).size = s.size + 3 := by rw [← size_list]; simpa using HS2.out
      have HM := Lib.hid hms
      clear hms
      go_wp2_with fail
      refine (crcs_Open_bad ⟨m.toArray⟩ _ (by rw [HM.out]; omega) (by rw [HM.out]; omega) (by simpa using HX.out)).mono ?_
      rintro e w2 ⟨rfl, hw2⟩
      go_wp2_with fail
      refine (law02_live _).mono ?_
      rintro e w3 ⟨rfl, hw3⟩
      go_wp2
      go_ret
      exact ⟨rfl, grew (grew hw1 HBel.out) (grew hw2 hw3)⟩

set_option maxHeartbeats 1000000 in
theorem walk_CrcsTurned (s : ByteArray) (at_ bts : Int) (w : World) (hs : s.size ≤ maxLen) (wa : (Lit.int .i64 at_).wf = true) (wb : (Lit.int .i64 bts).wf = true) :
    Calls Try.prog 12 #[.string s, .int .i64 at_, .int .i64 bts] w fun e w' => e = .returned (.bool true) ∧ Below w.heap.size w w' := by
  obtain ⟨ha1, ha2⟩ := bounds_i64 wa
  obtain ⟨hb1, hb2⟩ := bounds_i64 wb
  by_cases h : s.size ≤ 3000
  · have hd : decide ((s.size : Int) ≤ 3000) = true := by simp; omega
    by_cases h0 : 0 ≤ at_
    · have hd2 : decide (at_ < 0) = false := by simp; omega
      by_cases hb : bts % 16777216 = 0
      · have hd3 : (bits .and .i64 bts 16777215 == 0) = true := by rw [i64_mask24]; simpa using hb
        clear hb
        go_enter Try.func12, Try.ntmps12
        go_wp2_with fail
        refine (law02_short s _ hs).mono ?_
        rintro e w' ⟨rfl, rfl⟩
        go_wp2_with fail
        refine (law02_live _).mono ?_
        rintro e w3 ⟨rfl, hb3⟩
        go_wp2
        go_ret
        exact ⟨rfl, hb3⟩
      · exact walk_CrcsTurned_main s at_ bts w h h0 ha2 hb hb1 hb2
    · have hd2 : decide (at_ < 0) = true := by simp; omega
      go_enter Try.func12, Try.ntmps12
      go_wp2_with fail
      refine (law02_short s _ hs).mono ?_
      rintro e w' ⟨rfl, rfl⟩
      go_wp2_with fail
      refine (law02_live _).mono ?_
      rintro e w3 ⟨rfl, hb3⟩
      go_wp2
      go_ret
      exact ⟨rfl, hb3⟩
  · have hd : decide ((s.size : Int) ≤ 3000) = false := by simp; omega
    go_enter Try.func12, Try.ntmps12
    go_wp2_with fail
    refine (law02_short s _ hs).mono ?_
    rintro e w' ⟨rfl, rfl⟩
    go_wp2_with fail
    refine (law02_live _).mono ?_
    rintro e w3 ⟨rfl, hb3⟩
    go_wp2
    go_ret
    exact ⟨rfl, hb3⟩
end Go.Proofs.Ytiofmcjnpnokbaa
