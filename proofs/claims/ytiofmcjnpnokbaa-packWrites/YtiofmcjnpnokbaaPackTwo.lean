/- The walks of PackWrites and PackReads: the code's answers are the document's. -/
import Derived.Test.YtiofmcjnpnokbaaPackRef3
namespace Go.Proofs.Ytiofmcjnpnokbaa
open Go.RowKit
set_option linter.unusedVariables false

theorem Num_two (n : Int) : ∃ (t : ByteArray) (er : Int), (∀ w, Calls Try.prog 17 #[.int .i64 n] w fun e w' => e = .returned (.tuple #[.string t, .int .i64 er]) ∧ Below w.heap.size w w')
    ∧ (∀ w, Calls Try.prog 18 #[.int .i64 n] w fun e w' => e = .returned (.tuple #[.string t, .int .i64 er]) ∧ Below w.heap.size w w') := by
  by_cases h : 0 ≤ n ∧ n ≤ 4294967295
  · obtain ⟨a, rfl⟩ : ∃ a : Nat, n = (a : Int) := ⟨n.toNat, by omega⟩
    exact ⟨_, _, fun w => pack_Num_yes a w (by omega), fun w => ref01_Num_yes a w (by omega)⟩
  · exact ⟨_, _, fun w => pack_Num_no n w (by omega), fun w => ref01_Num_no n w (by omega)⟩

set_option maxRecDepth 100000 in
set_option maxHeartbeats 2000000 in
theorem walk_PackWrites (n : Int) (s : ByteArray) (a : Option Addr) (len cap : Nat) (zs : List Int) (w : World) (wn : (Lit.int .i64 n).wf = true) (hs : s.size ≤ maxLen) (hr : IsRow .i64 w a len cap zs) :
    Calls Try.prog 3 #[.int .i64 n, .string s, .slice a len cap] w fun e w' => e = .returned (.bool true) ∧ Below w.heap.size w w' := by
  obtain ⟨ys, hsl, hyl, hm, hbd⟩ := hr.slice
  have hm2 : len ≤ 2 ^ 63 - 1 := hm
  have HSL := Lib.hid hsl
  clear hsl hr hbd wn
  by_cases h : s.size ≤ 70000
  · have hd : decide ((s.size : Int) ≤ 70000) = true := by simp; omega
    by_cases g : len ≤ 1100
    · have hg : decide ((1100 : Int) < (len : Int)) = false := by simp; omega
      obtain ⟨t, er, N1, N2⟩ := Num_two n
      have HN1 := Lib.hid N1
      have HN2 := Lib.hid N2
      have HYL := Lib.hid hyl
      clear N1 N2 hm hyl
      go_enter Try.func3, Try.ntmps3
      go_wp2_with fail
      refine (law01_short s _ hs).mono ?_
      rintro e w' ⟨rfl, rfl⟩
      go_wp2_with fail
      refine (HN1.out _).mono ?_
      rintro e w1 ⟨rfl, hb1⟩
      go_wp2_with fail
      refine (HN2.out _).mono ?_
      rintro e w2 ⟨rfl, hb2⟩
      go_wp2_with fail
      refine (pack_Text s _ (by omega)).mono ?_
      rintro e w3 ⟨rfl, hb3⟩
      unfold textV
      go_wp2_with fail
      refine (ref01_Text s _ (by omega)).mono ?_
      rintro e w4 ⟨rfl, hb4⟩
      unfold textV
      have HS4 := Lib.hid (HSL.out.below (grew hb1 (grew hb2 (grew hb3 hb4))))
      go_wp2_with fail
      refine (pack_List _ ys _ HS4.out (by rw [HYL.out]; unfold maxLen; omega)).mono ?_
      rintro e w5 ⟨rfl, hb5⟩
      unfold textV
      have HS5 := Lib.hid (HS4.out.below hb5)
      go_wp2_with fail
      refine (ref01_List _ ys _ HS5.out (by rw [HYL.out]; unfold maxLen; omega)).mono ?_
      rintro e w6 ⟨rfl, hb6⟩
      unfold textV
      go_wp2_with fail
      refine (law01_live _).mono ?_
      rintro e w7 ⟨rfl, hb7⟩
      go_wp2
      go_ret
      exact ⟨rfl, grew hb1 (grew hb2 (grew hb3 (grew hb4 (grew hb5 (grew hb6 hb7)))))⟩
    · have hg : decide ((1100 : Int) < (len : Int)) = true := by simp; omega
      clear hyl hm
      go_enter Try.func3, Try.ntmps3
      go_wp2_with fail
      refine (law01_short s _ hs).mono ?_
      rintro e w' ⟨rfl, rfl⟩
      go_wp2_with fail
      refine (law01_live _).mono ?_
      rintro e w3 ⟨rfl, hb3⟩
      go_wp2
      go_ret
      exact ⟨rfl, hb3⟩
  · have hd : decide ((s.size : Int) ≤ 70000) = false := by simp; omega
    clear hyl hm
    go_enter Try.func3, Try.ntmps3
    go_wp2_with fail
    refine (law01_short s _ hs).mono ?_
    rintro e w' ⟨rfl, rfl⟩
    go_wp2_with fail
    refine (law01_live _).mono ?_
    rintro e w3 ⟨rfl, hb3⟩
    go_wp2
    go_ret
    exact ⟨rfl, hb3⟩

theorem each_len (l : List UInt8) : (Pack.each l).1.length ≤ 1000 := by
  by_cases h : (Pack.each l).2.2 = 0
  · exact (each_back l h).1
  · rw [(each_err l h).1]; simp

set_option maxRecDepth 100000 in
set_option maxHeartbeats 2000000 in
theorem walk_PackReads (s : ByteArray) (w : World) (hs : s.size ≤ maxLen) :
    Calls Try.prog 4 #[.string s] w fun e w' => e = .returned (.bool true) ∧ Below w.heap.size w w' := by
  by_cases h : s.size ≤ 70000
  · have hd : decide ((s.size : Int) ≤ 70000) = true := by simp; omega
    have hel : (natI (Pack.each s.data.toList).1).length ≤ 1000 := by
      have := each_len s.data.toList
      simpa [natI] using this
    go_enter Try.func4, Try.ntmps4
    go_wp2_with fail
    refine (law01_short s _ hs).mono ?_
    rintro e w' ⟨rfl, rfl⟩
    go_wp2_with fail
    refine (pack_Take s _ (by omega)).mono ?_
    rintro e w1 ⟨rfl, hb1⟩
    unfold takeV
    go_wp2_with fail
    refine (ref01_Take s _ (by omega)).mono ?_
    rintro e w2 ⟨rfl, hb2⟩
    unfold takeV
    go_wp2_with fail
    refine (pack_Cut s _ (by omega)).mono ?_
    rintro e w3 ⟨rfl, hb3⟩
    unfold cutV
    go_wp2_with fail
    refine (ref01_Cut s _ (by omega)).mono ?_
    rintro e w4 ⟨rfl, hb4⟩
    unfold cutV
    go_wp2_with fail
    refine (pack_Each s _ (by omega)).mono ?_
    rintro e w5 ⟨he5, hb5⟩
    obtain ⟨v5, rfl, hs5⟩ := he5
    have HS5 := Lib.hid hs5
    clear hs5
    go_wp2_with fail
    refine (ref01_Each s _ (by omega)).mono ?_
    rintro e w6 ⟨he6, hb6⟩
    obtain ⟨v6, rfl, hs6⟩ := he6
    have HS6 := Lib.hid hs6
    have HS56 := Lib.hid (HS5.out.below hb6)
    clear hs6
    generalize natI (Pack.each s.data.toList).1 = zs at *
    go_wp2_with fail
    refine (ref01_Same v5 v6 zs zs _ HS56.out HS6.out (by omega) (by omega)).mono ?_
    rintro e w7 ⟨rfl, hb7⟩
    have htrue : decide (zs = zs) = true := by simp
    rw [htrue]
    go_wp2_with fail
    refine (law01_live _).mono ?_
    rintro e w8 ⟨rfl, hb8⟩
    go_wp2
    go_ret
    exact ⟨rfl, grew hb1 (grew hb2 (grew hb3 (grew hb4 (grew hb5 (grew hb6 (grew hb7 hb8))))))⟩
  · have hd : decide ((s.size : Int) ≤ 70000) = false := by simp; omega
    go_enter Try.func4, Try.ntmps4
    go_wp2_with fail
    refine (law01_short s _ hs).mono ?_
    rintro e w' ⟨rfl, rfl⟩
    go_wp2_with fail
    refine (law01_live _).mono ?_
    rintro e w3 ⟨rfl, hb3⟩
    go_wp2
    go_ret
    exact ⟨rfl, hb3⟩
end Go.Proofs.Ytiofmcjnpnokbaa
