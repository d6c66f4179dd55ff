/- The walk of CrcsApart: texts that are not alike just within 24 bits have unlike sums. -/
import Derived.Test.YtiofmcjnpnokbaaCrcTurned
import Derived.RegionTactic
namespace Go.Proofs.Ytiofmcjnpnokbaa
open Go.RowKit
set_option linter.unusedVariables false

theorem part0 (x y z : Int) (w : World) : (part 5 #[.int .u8 x, .int .u8 y, .int .u8 z] 0).run Try.prog w = .ok (.int .u8 x) w := by kernel_rfl
theorem part1 (x y z : Int) (w : World) : (part 5 #[.int .u8 x, .int .u8 y, .int .u8 z] 1).run Try.prog w = .ok (.int .u8 y) w := by kernel_rfl
theorem part2 (x y z : Int) (w : World) : (part 5 #[.int .u8 x, .int .u8 y, .int .u8 z] 2).run Try.prog w = .ok (.int .u8 z) w := by kernel_rfl
theorem size8 (w : World) : (sizeOf 5).run Try.prog w = .ok 1 w := by kernel_rfl
theorem eq_three (a b c : Int) (w : World) :
    (Op.equalIn 10000 49 (.agg #[.int .u8 a, .int .u8 b, .int .u8 c]) (.agg #[.int .u8 0, .int .u8 0, .int .u8 0])).run Try.prog w = .ok (a == 0 && b == 0 && c == 0) w := by
  have e : ∀ (d : Nat) (n m : Int), (Op.equalIn (d + 1) 5 (.int .u8 n) (.int .u8 m)).run Try.prog w = .ok (n == m) w := fun d n m => run_equalIn_int (P := Try.prog) w d _ .u8 .u8 n m Try.underlying5
  show (Op.equalIn (9998 + 1 + 1) _ _ _).run Try.prog w = _
  generalize 9998 = d
  unfold Op.equalIn
  simp only [Sem.run_bind, run_underlying Try.underlying49, Result.andThen_ok, size8]
  simp [Std.Legacy.Range.forIn_eq_forIn_range', Std.Legacy.Range.size, List.range', Sem.run_bind, part0, part1, part2, e, Sem.run_ite, Sem.run_pure]
  by_cases ha : a = 0 <;> by_cases hb : b = 0 <;> by_cases hc : c = 0 <;> simp [ha, hb, hc]

/-- A text with i bytes changed by those of a, from the byte f on. -/
def apartM (l : List UInt8) (f : Nat) (a : List UInt8) : Nat → List UInt8
  | 0 => l
  | i + 1 => (apartM l f a i).set (f + i) ((apartM l f a i).getD (f + i) 0 ^^^ a.getD i 0)

theorem apartM_len (l : List UInt8) (f : Nat) (a : List UInt8) : ∀ i, (apartM l f a i).length = l.length
  | 0 => rfl
  | i + 1 => by simp only [apartM, List.length_set]; exact apartM_len l f a i

theorem bitAt_apartM (l : List UInt8) (f : Nat) (a : List UInt8) : ∀ i q, f + i ≤ l.length →
    Crc.bitAt (apartM l f a i) q = xor (Crc.bitAt l q) (decide (8 * f ≤ q ∧ q < 8 * f + 8 * i) && Crc.bitAt a (q - 8 * f))
  | 0, q, _ => by
    have : decide (8 * f ≤ q ∧ q < 8 * f + 8 * 0) = false := by simp
    rw [this]
    simp [apartM]
  | i + 1, q, h => by
    have ih := bitAt_apartM l f a i q (by omega)
    have hl : f + i < (apartM l f a i).length := by rw [apartM_len]; omega
    by_cases e : f + i = q / 8
    · have h1 : decide (8 * f ≤ q ∧ q < 8 * f + 8 * i) = false := by simp; omega
      have h2 : decide (8 * f ≤ q ∧ q < 8 * f + 8 * (i + 1)) = true := by simp; omega
      rw [h1] at ih
      rw [h2]
      simp only [Bool.false_and, Bool.xor_false] at ih
      rw [← ih]
      have e1 : (q - 8 * f) / 8 = i := by omega
      have e2 : (q - 8 * f) % 8 = q % 8 := by omega
      unfold Crc.bitAt
      simp only [apartM, Bool.true_and]
      rw [e1, e2, ← e, List.getD_eq_getElem?_getD, List.getElem?_set_self hl, Option.getD_some, UInt8.toNat_xor, Nat.testBit_xor]
    · have h1 : decide (8 * f ≤ q ∧ q < 8 * f + 8 * (i + 1)) = decide (8 * f ≤ q ∧ q < 8 * f + 8 * i) := by
        simp only [decide_eq_decide]; omega
      rw [h1, ← ih]
      unfold Crc.bitAt
      simp [apartM, List.getElem?_set_ne e]

theorem bit_some (c : UInt8) (h : c ≠ 0) : ∃ r, r < 8 ∧ c.toNat.testBit (7 - r) = true := by
  have all : ∀ n : Fin 256, n.val ≠ 0 → ∃ r : Fin 8, n.val.testBit (7 - r.val) = true := by decide +kernel
  obtain ⟨r, hr⟩ := all ⟨c.toNat, c.toNat_lt⟩ (fun e => h (UInt8.toNat_inj.1 (by simpa using e)))
  exact ⟨r.val, r.isLt, hr⟩

theorem three_some (x y z : UInt8) (h : ¬ (x = 0 ∧ y = 0 ∧ z = 0)) : ∃ i, i < 24 ∧ Crc.bitAt [x, y, z] i = true := by
  by_cases hx : x = 0
  · by_cases hy : y = 0
    · obtain ⟨r, hr, hb⟩ := bit_some z (fun hz => h ⟨hx, hy, hz⟩)
      refine ⟨16 + r, by omega, ?_⟩
      unfold Crc.bitAt
      rw [show (16 + r) / 8 = 2 by omega, show (16 + r) % 8 = r by omega]
      exact hb
    · obtain ⟨r, hr, hb⟩ := bit_some y hy
      refine ⟨8 + r, by omega, ?_⟩
      unfold Crc.bitAt
      rw [show (8 + r) / 8 = 1 by omega, show (8 + r) % 8 = r by omega]
      exact hb
  · obtain ⟨r, hr, hb⟩ := bit_some x hx
    refine ⟨r, by omega, ?_⟩
    unfold Crc.bitAt
    rw [show r / 8 = 0 by omega, show r % 8 = r by omega]
    exact hb

theorem sum_apart (l : List UInt8) (f : Nat) (x y z : UInt8) (hf : f + 3 ≤ l.length) (h : ¬ (x = 0 ∧ y = 0 ∧ z = 0)) : Crc.sum (apartM l f [x, y, z] 3) ≠ Crc.sum l :=
  Crc.more_masked Crc.begin24 l _ (8 * f) (Crc.bitAt [x, y, z]) (apartM_len l f _ 3) (by omega) (fun q _ => bitAt_apartM l f [x, y, z] 3 q hf) (three_some x y z h)

theorem three_eq (x y z : UInt8) (h : ¬ (x = 0 ∧ y = 0 ∧ z = 0)) : (((x.toNat : Int) == 0) && ((y.toNat : Int) == 0) && ((z.toNat : Int) == 0)) = false := by
  cases he : (((x.toNat : Int) == 0) && ((y.toNat : Int) == 0) && ((z.toNat : Int) == 0))
  · rfl
  · exfalso
    apply h
    simp at he
    obtain ⟨⟨h1, h2⟩, h3⟩ := he
    exact ⟨UInt8.toNat_inj.1 (by simpa using h1), UInt8.toNat_inj.1 (by simpa using h2), UInt8.toNat_inj.1 (by simpa using h3)⟩

theorem apart_next {wr : World} {g : Nat} {l a : List UInt8} {f i : Nat} (hj : f + i < (apartM l f a i).length) (hr : RowIs wr g (apartM l f a i)) :
    RowIs (wr.setCell ⟨g, f + i, none⟩ (.int .u8 (((apartM l f a i)[f + i] ^^^ a.getD i 0).toNat : Int))) g (apartM l f a (i + 1)) := by
  have h := hr.set (f + i) ((apartM l f a i)[f + i] ^^^ a.getD i 0) hj
  have e : apartM l f a (i + 1) = (apartM l f a i).set (f + i) ((apartM l f a i)[f + i] ^^^ a.getD i 0) := by
    simp only [apartM]
    rw [List.getD_eq_getElem?_getD, List.getElem?_eq_getElem hj]
    rfl
  rw [e]
  exact h

theorem xor_value (c d : UInt8) : bits .xor .u8 (c.toNat : Int) (d.toNat : Int) = ((c ^^^ d).toNat : Int) := by
  rw [u8_xor_nat _ _ c.toNat_lt d.toNat_lt, UInt8.toNat_xor]

set_option maxHeartbeats 1000000 in
theorem walk_CrcsApart_main (s : ByteArray) (at_ : Int) (x y z : UInt8) (w : World) (hs : s.size ≤ 3000) (h3 : 3 ≤ s.size) (h0 : 0 ≤ at_) (hat : at_ ≤ 9223372036854775807)
    (hne : ¬ (x = 0 ∧ y = 0 ∧ z = 0)) :
    Calls Try.prog 14 #[.string s, .int .i64 at_, .agg #[.int .u8 (x.toNat : Int), .int .u8 (y.toNat : Int), .int .u8 (z.toNat : Int)]] w fun e w' => e = .returned (.bool true) ∧ Below w.heap.size w w' := by
  have hd : decide ((s.size : Int) ≤ 3000) = true := by simp; omega
  have hd2 : decide (at_ < 0) = false := by simp; omega
  have hd3 : decide ((s.size : Int) < 3) = false := by simp; omega
  have heq := fun W => eq_three (x.toNat : Int) (y.toNat : Int) (z.toNat : Int) W
  rw [three_eq x y z hne] at heq
  have HNE := Lib.hid hne
  clear hne
  obtain ⟨w1, hw1⟩ : ∃ w1, w1 = w.alloc (.cells #[.int .u8 (x.toNat : Int), .int .u8 (y.toNat : Int), .int .u8 (z.toNat : Int)] 49) := ⟨_, rfl⟩
  have HB1 : Hid (Below w.heap.size w w1) := Lib.hid (by rw [hw1]; exact grew_alloc _ _)
  have HS1 : Hid (w1.heap.size = w.heap.size + 1) := Lib.hid (by rw [hw1]; simp)
  have HA : Hid (∀ i, i < 3 → w1.cell? ⟨w.heap.size, i, none⟩ = some (.int .u8 (([x, y, z].getD i 0).toNat : Int))) := Lib.hid (fun i hi => by
    rw [hw1, cell_of_row _ _ _ _ _ _ (heap_alloc_new _ _)]
    rcases (by omega : i = 0 ∨ i = 1 ∨ i = 2) with rfl | rfl | rfl <;> rfl)
  obtain ⟨cap, W, hrun, hcap, hrow, hW, hWs⟩ := bytes_made s w1
  rw [hw1] at hrun
  have HW1 := Lib.hid hw1
  clear hw1
  have HRow := Lib.hid hrow
  have HW := Lib.hid hW
  clear hrow hW hWs
  have HL := Lib.hid (size_list s)
  go_enter Try.func14, Try.ntmps14
  go_wp2_with fail
  refine (law02_short s _ (by unfold maxLen; omega)).mono ?_
  rintro e w' ⟨rfl, rfl⟩
  go_wp2_with fail
  obtain ⟨f, hF, hf⟩ : ∃ f : Nat, at_ % ((s.size : Int) - 2) = (f : Int) ∧ f + 3 ≤ s.size := by
    have h1 := Int.emod_nonneg at_ (show ((s.size : Int) - 2) ≠ 0 by omega)
    have h2 := Int.emod_lt_of_pos at_ (show (0 : Int) < (s.size : Int) - 2 by omega)
    exact ⟨(at_ % ((s.size : Int) - 2)).toNat, by omega, by omega⟩
  rw [hF]
  clear hF hrun heq
  go_loopw [9] (fun v wr => ∃ k : Nat, k ≤ 3 ∧ v = .int .i64 k ∧ RowIs wr (w.heap.size + 1) (apartM s.data.toList f [x, y, z] k) ∧ Below w1.heap.size w1 wr) (fun v _ => 3 - (intOf v).toNat)
  case atStart => exact ⟨0, by omega, rfl, by rw [← HS1.out]; exact HRow.out, HW.out⟩
  case round =>
    obtain ⟨k, hk, rfl, hrow, hbel⟩ := hrel
    have HR := Lib.hid hrow
    have HBel := Lib.hid hbel
    clear hrow hbel
    by_cases hlt : k < 3
    · have hd3' : decide ((k : Int) < 3) = true := by simp; omega
      have hj : f + k < (apartM s.data.toList f [x, y, z] k).length := by rw [apartM_len, HL.out]; omega
      have hjn : f + k < s.size := by omega
      obtain ⟨hcell, hfro⟩ := HR.out _ hj
      have hbox : wr.cell? ⟨w.heap.size, k, none⟩ = some (.int .u8 (([x, y, z].getD k 0).toNat : Int)) := by
        rw [HBel.out.cell (p := ⟨w.heap.size, k, none⟩) (by rw [HS1.out]; exact Nat.lt_succ_self _)]
        exact HA.out k hlt
      have HN := Lib.hid (apart_next hj HR.out)
      have hval := xor_value (apartM s.data.toList f [x, y, z] k)[f + k] ([x, y, z].getD k 0)
      generalize (apartM s.data.toList f [x, y, z] k)[f + k] = c at *
      generalize [x, y, z].getD k 0 = d at *
      go_wp2
      go_region
      all_goals go_wp2
      all_goals
        go_roundw
        case rel => exact ⟨k + 1, by omega, by go_num, HN.out.drew, (HBel.out.setCell (by rw [HS1.out]; exact Nat.le_refl _) _).drew⟩
        case measure => simp [intOf]; omega
    · obtain rfl : k = 3 := by omega
      have hl2 : (apartM s.data.toList f [x, y, z] 3).length = s.size := by rw [apartM_len, HL.out]
      have hconv := bytes_text wr (w.heap.size + 1) cap _ HR.out
      rw [hl2] at hconv
      have HS2 := Lib.hid hl2
      clear hl2
      have HX := Lib.hid (sum_apart s.data.toList f x y z (by rw [HL.out]; exact hf) HNE.out)
      generalize apartM s.data.toList f [x, y, z] 3 = m at *
      have hms : (ByteArray.mk m.toArray).size = s.size := by rw [← size_list]; simpa using HS2.out
      have HM := Lib.hid hms
      clear hms
      go_wp2_with fail
      refine (crcs_sum ⟨m.toArray⟩ _ (by rw [HM.out]; unfold maxLen; omega)).mono ?_
      rintro e w2 ⟨rfl, hw2⟩
      go_wp2_with fail
      refine (crcs_sum s _ (by unfold maxLen; omega)).mono ?_
      rintro e w3 ⟨rfl, hw3⟩
      have hneq : (((Crc.sum m).toNat : Int) != ((Crc.sum s.data.toList).toNat : Int)) = true := by
        rw [bne_iff_ne]
        intro h
        exact HX.out (BitVec.eq_of_toNat_eq (by omega))
      go_wp2_with fail
      refine (law02_live _).mono ?_
      rintro e w4 ⟨rfl, hw4⟩
      go_wp2
      go_ret
      exact ⟨rfl, grew (grew HB1.out HBel.out) (grew hw2 (grew hw3 hw4))⟩

theorem bounds_byte {n : Int} (h : (Lit.int .u8 n).wf = true) : ∃ c : UInt8, n = (c.toNat : Int) := by
  obtain ⟨h1, h2⟩ := bounds_u8 h
  refine ⟨UInt8.ofNat n.toNat, ?_⟩
  rw [UInt8.toNat_ofNat', Nat.mod_eq_of_lt (by omega)]
  omega

set_option maxHeartbeats 1000000 in
theorem walk_CrcsApart (s : ByteArray) (at_ x' y' z' : Int) (w : World) (hs : s.size ≤ maxLen) (wa : (Lit.int .i64 at_).wf = true)
    (wb : (Lit.int .u8 x').wf = true ∧ (Lit.int .u8 y').wf = true ∧ (Lit.int .u8 z').wf = true) :
    Calls Try.prog 14 #[.string s, .int .i64 at_, .agg #[.int .u8 x', .int .u8 y', .int .u8 z']] w fun e w' => e = .returned (.bool true) ∧ Below w.heap.size w w' := by
  obtain ⟨ha1, ha2⟩ := bounds_i64 wa
  obtain ⟨x, rfl⟩ := bounds_byte wb.1
  obtain ⟨y, rfl⟩ := bounds_byte wb.2.1
  obtain ⟨z, rfl⟩ := bounds_byte wb.2.2
  clear wa wb
  have box := grew_alloc w (.cells #[.int .u8 (x.toNat : Int), .int .u8 (y.toNat : Int), .int .u8 (z.toNat : Int)] 49)
  by_cases h : s.size ≤ 3000
  · have hd : decide ((s.size : Int) ≤ 3000) = true := by simp; omega
    by_cases h0 : 0 ≤ at_
    · have hd2 : decide (at_ < 0) = false := by simp; omega
      by_cases h3 : 3 ≤ s.size
      · have hd3 : decide ((s.size : Int) < 3) = false := by simp; omega
        by_cases hne : x = 0 ∧ y = 0 ∧ z = 0
        · obtain ⟨rfl, rfl, rfl⟩ := hne
          have heq := fun W => eq_three 0 0 0 W
          go_enter Try.func14, Try.ntmps14
          go_wp2_with fail
          refine (law02_short s _ hs).mono ?_
          rintro e w' ⟨rfl, rfl⟩
          go_wp2_with fail
          refine (law02_live _).mono ?_
          rintro e w3 ⟨rfl, hb3⟩
          go_wp2
          go_ret
          exact ⟨rfl, grew box hb3⟩
        · exact walk_CrcsApart_main s at_ x y z w h h3 h0 ha2 hne
      · have hd3 : decide ((s.size : Int) < 3) = true := by simp; omega
        go_enter Try.func14, Try.ntmps14
        go_wp2_with fail
        refine (law02_short s _ hs).mono ?_
        rintro e w' ⟨rfl, rfl⟩
        go_wp2_with fail
        refine (law02_live _).mono ?_
        rintro e w3 ⟨rfl, hb3⟩
        go_wp2
        go_ret
        exact ⟨rfl, grew box hb3⟩
    · have hd2 : decide (at_ < 0) = true := by simp; omega
      go_enter Try.func14, Try.ntmps14
      go_wp2_with fail
      refine (law02_short s _ hs).mono ?_
      rintro e w' ⟨rfl, rfl⟩
      go_wp2_with fail
      refine (law02_live _).mono ?_
      rintro e w3 ⟨rfl, hb3⟩
      go_wp2
      go_ret
      exact ⟨rfl, grew box hb3⟩
  · have hd : decide ((s.size : Int) ≤ 3000) = false := by simp; omega
    go_enter Try.func14, Try.ntmps14
    go_wp2_with fail
    refine (law02_short s _ hs).mono ?_
    rintro e w' ⟨rfl, rfl⟩
    go_wp2_with fail
    refine (law02_live _).mono ?_
    rintro e w3 ⟨rfl, hb3⟩
    go_wp2
    go_ret
    exact ⟨rfl, grew box hb3⟩
end Go.Proofs.Ytiofmcjnpnokbaa
