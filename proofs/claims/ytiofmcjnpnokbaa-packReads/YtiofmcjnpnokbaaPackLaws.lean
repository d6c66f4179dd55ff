/- The walks of the statements of layer 1 that need the code's own answers alone. -/
import Derived.Test.YtiofmcjnpnokbaaPackLive
import Derived.Test.YtiofmcjnpnokbaaPackOrd
namespace Go.Proofs.Ytiofmcjnpnokbaa
open Go.RowKit
set_option linter.unusedVariables false

theorem num_str_size (n : Nat) : (str (Pack.num n)).size = (Pack.num n).length := str_size _

theorem pack_Num_any (n : Int) : ∃ (t : ByteArray) (er : Int), ∀ w, Calls Try.prog 17 #[.int .i64 n] w fun e w' => e = .returned (.tuple #[.string t, .int .i64 er]) ∧ Below w.heap.size w w' := by
  by_cases h : 0 ≤ n ∧ n ≤ 4294967295
  · obtain ⟨a, rfl⟩ : ∃ a : Nat, n = (a : Int) := ⟨n.toNat, by omega⟩
    exact ⟨_, _, fun w => pack_Num_yes a w (by omega)⟩
  · exact ⟨_, _, fun w => pack_Num_no n w (by omega)⟩

set_option maxHeartbeats 2000000 in
theorem walk_PackOrder (n m cut : Int) (w : World) (wn : (Lit.int .i64 n).wf = true) (wm : (Lit.int .i64 m).wf = true) (wc : (Lit.int .i64 cut).wf = true) :
    Calls Try.prog 7 #[.int .i64 n, .int .i64 m, .int .i64 cut] w fun e w' => e = .returned (.bool true) ∧ Below w.heap.size w w' := by
  obtain ⟨n1, n2⟩ := bounds_i64 wn
  obtain ⟨m1, m2⟩ := bounds_i64 wm
  obtain ⟨c1, c2⟩ := bounds_i64 wc
  clear wn wm wc
  by_cases hn : 0 ≤ n ∧ n ≤ 4294967295
  · obtain ⟨a, rfl⟩ : ∃ a : Nat, n = (a : Int) := ⟨n.toNat, by omega⟩
    have ha : a < 4294967296 := by omega
    clear hn
    by_cases hm : 0 ≤ m ∧ m ≤ 4294967295
    · obtain ⟨b, rfl⟩ : ∃ b : Nat, m = (b : Int) := ⟨m.toNat, by omega⟩
      have hb : b < 4294967296 := by omega
      clear hm
      have hl := Pack.num_len_le a
      have HO : Hid (Op.bytesLess (str (Pack.num a)).toList (str (Pack.num b)).toList = decide ((a : Int) < (b : Int))) := Lib.hid (by
        rw [ByteArray.toList_eq, ByteArray.toList_eq, str_data, str_data, Pack.num_order a b ha hb]
        simp)
      have hz := num_str_size a
      have HA := Lib.hid (fun W => pack_Num_yes a W ha)
      have HB := Lib.hid (fun W => pack_Num_yes b W hb)
      have HC : Hid (∀ k, k < (Pack.num a).length → takeV (Pack.take ((str (Pack.num a)).extract 0 k).data.toList) = .tuple #[.int .i64 0, .string ⟨#[]⟩, .int .i64 3]) := Lib.hid (fun k hk => by
        rw [str_take, str_data, str_data, Pack.num_cut a k hk]; rfl)
      generalize (Pack.num a).length = la at *
      have hne : ((la : Int) == 0) = false := by simp; omega
      have hgt : decide ((5 : Int) < (la : Int)) = false := by simp; omega
      generalize str (Pack.num a) = A at *
      generalize str (Pack.num b) = B at *
      have hxor : (decide ((a : Int) < (b : Int)) != Op.bytesLess A.toList B.toList) = false := by rw [HO.out]; simp
      have hlss : Op.bytesLess A.toList B.toList = decide ((a : Int) < (b : Int)) := HO.out
      by_cases hc : cut < 0
      · have hd1 : decide (cut < 0) = true := by simpa using hc
        go_enter Try.func7, Try.ntmps7
        go_wp2_with fail
        refine (HA.out _).mono ?_
        rintro e w1 ⟨rfl, hb1⟩
        go_wp2_with fail
        refine (HB.out _).mono ?_
        rintro e w2 ⟨rfl, hb2⟩
        go_wp2_with fail
        refine (law01_live _).mono ?_
        rintro e w3 ⟨rfl, hb3⟩
        go_wp2
        go_ret
        exact ⟨rfl, grew hb1 (grew hb2 hb3)⟩
      · have hd1 : decide (cut < 0) = false := by simpa using hc
        obtain ⟨c, rfl⟩ : ∃ c : Nat, cut = (c : Int) := ⟨cut.toNat, by omega⟩
        clear hc
        by_cases hcl : la ≤ c
        · have hd2 : decide ((la : Int) ≤ (c : Int)) = true := by simp; omega
          have hd2n : decide (la ≤ c) = true := by simpa using hcl
          go_enter Try.func7, Try.ntmps7
          go_wp2_with fail
          refine (HA.out _).mono ?_
          rintro e w1 ⟨rfl, hb1⟩
          go_wp2_with fail
          refine (HB.out _).mono ?_
          rintro e w2 ⟨rfl, hb2⟩
          go_wp2_with fail
          refine (law01_live _).mono ?_
          rintro e w3 ⟨rfl, hb3⟩
          go_wp2
          go_ret
          exact ⟨rfl, grew hb1 (grew hb2 hb3)⟩
        · have hd2 : decide ((la : Int) ≤ (c : Int)) = false := by simp; omega
          have hd2n : decide (la ≤ c) = false := by simpa using hcl
          have hcl' : c < la := by omega
          have HT := Lib.hid (HC.out c hcl')
          have hxs : (A.extract 0 c).size ≤ 1000000000 := by rw [ByteArray.size_extract]; omega
          clear hcl
          go_enter Try.func7, Try.ntmps7
          go_wp2_with fail
          refine (HA.out _).mono ?_
          rintro e w1 ⟨rfl, hb1⟩
          go_wp2_with fail
          refine (HB.out _).mono ?_
          rintro e w2 ⟨rfl, hb2⟩
          go_wp2_with fail
          refine (pack_Take (A.extract 0 c) _ hxs).mono ?_
          rintro e w3 ⟨rfl, hb3⟩
          rw [HT.out]
          go_wp2_with fail
          refine (law01_live _).mono ?_
          rintro e w4 ⟨rfl, hb4⟩
          go_wp2
          go_ret
          exact ⟨rfl, grew hb1 (grew hb2 (grew hb3 hb4))⟩
    · have HM : Hid (m < 0 ∨ 4294967295 < m) := Lib.hid (by omega)
      clear hm
      go_enter Try.func7, Try.ntmps7
      go_wp2_with fail
      refine (pack_Num_yes a _ ha).mono ?_
      rintro e w1 ⟨rfl, hb1⟩
      go_wp2_with fail
      refine (pack_Num_no m _ HM.out).mono ?_
      rintro e w2 ⟨rfl, hb2⟩
      go_wp2_with fail
      refine (law01_live _).mono ?_
      rintro e w3 ⟨rfl, hb3⟩
      go_wp2
      go_ret
      exact ⟨rfl, grew hb1 (grew hb2 hb3)⟩
  · obtain ⟨t, er, HM⟩ := pack_Num_any m
    have HN : Hid (n < 0 ∨ 4294967295 < n) := Lib.hid (by omega)
    clear hn
    have HM2 := Lib.hid HM
    clear HM
    go_enter Try.func7, Try.ntmps7
    go_wp2_with fail
    refine (pack_Num_no n _ HN.out).mono ?_
    rintro e w1 ⟨rfl, hb1⟩
    go_wp2_with fail
    refine (HM2.out _).mono ?_
    rintro e w2 ⟨rfl, hb2⟩
    go_wp2_with fail
    refine (law01_live _).mono ?_
    rintro e w3 ⟨rfl, hb3⟩
    go_wp2
    go_ret
    exact ⟨rfl, grew hb1 (grew hb2 hb3)⟩
end Go.Proofs.Ytiofmcjnpnokbaa
