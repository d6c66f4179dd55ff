/- The walk of PackAgain: what is read is what was written. -/
import Derived.Test.YtiofmcjnpnokbaaPackBack
namespace Go.Proofs.Ytiofmcjnpnokbaa
open Go.RowKit
set_option linter.unusedVariables false

theorem cut_back (l : List UInt8) (h : (Pack.cut l).2.2 = 0) : (Pack.cut l).1.length ≤ 65535 ∧ l = Pack.num (Pack.cut l).1.length ++ (Pack.cut l).1 ++ (Pack.cut l).2.1 := by
  rcases Pack.take_cases l with ⟨n, t, ht, hn, hl⟩ | ⟨e, ht, he⟩
  · by_cases h1 : 65535 < n
    · exfalso
      unfold Pack.cut at h
      rw [ht] at h
      simp only [if_true] at h
      rw [if_pos h1] at h
      exact absurd h (by decide)
    · by_cases h2 : t.length < n
      · exfalso
        unfold Pack.cut at h
        rw [ht] at h
        simp only [if_true] at h
        rw [if_neg h1, if_pos h2] at h
        exact absurd h (by decide)
      · have e : Pack.cut l = (t.take n, t.drop n, 0) := by
          unfold Pack.cut
          rw [ht]
          simp only [if_true]
          rw [if_neg h1, if_neg h2]
        have hlen : (t.take n).length = n := by rw [List.length_take]; omega
        rw [e]
        refine ⟨by rw [hlen]; omega, ?_⟩
        rw [hlen, List.append_assoc, List.take_append_drop]
        exact hl
  · exfalso
    unfold Pack.cut at h
    rw [ht] at h
    rcases he with rfl | rfl
    · exact absurd h (by decide)
    · exact absurd h (by decide)

theorem each_back (l : List UInt8) (h : (Pack.each l).2.2 = 0) : (Pack.each l).1.length ≤ 1000 ∧ (∀ z ∈ (Pack.each l).1, z < 4294967296) ∧ l = Pack.num (Pack.each l).1.length ++ Pack.nums (Pack.each l).1 ++ (Pack.each l).2.1 := by
  rcases Pack.take_cases l with ⟨n, t, ht, hn, hl⟩ | ⟨e, ht, he⟩
  · by_cases h1 : 1000 < n
    · exfalso
      unfold Pack.each at h
      rw [ht] at h
      simp only [if_true] at h
      rw [if_pos h1] at h
      exact absurd h (by decide)
    · have e : Pack.each l = Pack.eachN n t := by
        unfold Pack.each
        rw [ht]
        simp only [if_true]
        rw [if_neg h1]
      rw [e] at h ⊢
      obtain ⟨b1, b2, b3⟩ := Pack.eachN_back n t h
      refine ⟨by rw [b1]; omega, b2, ?_⟩
      rw [b1, List.append_assoc, ← b3]
      exact hl
  · exfalso
    unfold Pack.each at h
    rw [ht] at h
    rcases he with rfl | rfl
    · exact absurd h (by decide)
    · exact absurd h (by decide)

theorem each_err (l : List UInt8) (h : (Pack.each l).2.2 ≠ 0) : (Pack.each l).1 = [] ∧ (Pack.each l).2.1 = [] := by
  unfold Pack.each at h ⊢
  split
  · rename_i h1
    rw [if_pos h1] at h
    split
    · exact ⟨rfl, rfl⟩
    · rename_i h2
      rw [if_neg h2] at h
      exact Pack.eachN_err _ _ h
  · exact ⟨rfl, rfl⟩

theorem list_natI (ns : List Nat) (hl : ns.length ≤ 1000) (h : ∀ n ∈ ns, n < 4294967296) : listR (natI ns) = (Pack.num ns.length ++ Pack.nums ns, 0) := by
  have hlen : (natI ns).length = ns.length := by simp [natI]
  have hf : ∀ z ∈ natI ns, Fits z := by
    intro z hz
    obtain ⟨n, hn, rfl⟩ := List.mem_map.1 hz
    have := h n hn
    unfold Fits
    show (0 : Int) ≤ (n : Int) ∧ (n : Int) ≤ 4294967295
    omega
  have hm : (natI ns).map Int.toNat = ns := by
    unfold natI
    rw [List.map_map]
    conv => rhs; rw [← List.map_id ns]
    apply List.map_congr_left
    intro n _
    rfl
  unfold listR
  rw [hlen, if_neg (by omega), if_pos hf, hm]

set_option maxRecDepth 100000 in
set_option maxHeartbeats 4000000 in
theorem walk_PackAgain_A (s : ByteArray) (w : World) (hs : s.size ≤ 70000) (n : Nat) (t : List UInt8) (ht : Pack.take s.data.toList = (n, t, 0)) (hn : n < 4294967296) (hl : s.data.toList = Pack.num n ++ t)
    (hc : (Pack.cut s.data.toList).2.2 = 0) (he : (Pack.each s.data.toList).2.2 = 0) :
    Calls Try.prog 6 #[.string s] w fun e w' => e = .returned (.bool true) ∧ Below w.heap.size w w' := by
  have hd : decide ((s.size : Int) ≤ 70000) = true := by simp; omega
  have hsl := size_list s
  have HT : Hid (takeV (Pack.take s.data.toList) = .tuple #[.int .i64 (n : Int), .string (str t), .int .i64 0]) := Lib.hid (by rw [ht]; rfl)
  have HA1 : Hid (str (Pack.num n) ++ str t = s) := Lib.hid (by rw [str_append, ← hl, str_of])
  have hlt : t.length ≤ 70000 := by
    have := congrArg List.length hl
    rw [List.length_append, hsl] at this
    omega
  have hts : (str t).size ≤ 70000 := by rw [str_size]; exact hlt
  have hns : (str (Pack.num n)).size ≤ 5 := by rw [str_size]; exact (Pack.num_len_le n).2
  obtain ⟨k1, k2⟩ := cut_back _ hc
  have HCV : Hid (cutV (Pack.cut s.data.toList) = .tuple #[.string (str (Pack.cut s.data.toList).1), .string (str (Pack.cut s.data.toList).2.1), .int .i64 0]) := Lib.hid (by unfold cutV; rw [hc]; rfl)
  have hx1 : (str (Pack.cut s.data.toList).1).size ≤ 70000 := by rw [str_size]; omega
  have hx2 : (str (Pack.cut s.data.toList).2.1).size ≤ 70000 := by
    have := congrArg List.length k2
    rw [List.length_append, List.length_append, hsl] at this
    rw [str_size]; omega
  have HTX : Hid (textV (Pack.text (str (Pack.cut s.data.toList).1).data.toList) = .tuple #[.string (str (Pack.num (Pack.cut s.data.toList).1.length ++ (Pack.cut s.data.toList).1)), .int .i64 0]) := Lib.hid (by
    rw [str_data]; unfold Pack.text; rw [if_neg (by omega)]; rfl)
  have hx3 : (str (Pack.num (Pack.cut s.data.toList).1.length ++ (Pack.cut s.data.toList).1)).size ≤ 70005 := by
    have := (Pack.num_len_le (Pack.cut s.data.toList).1.length).2
    rw [str_size, List.length_append]; omega
  have HA2 : Hid (str (Pack.num (Pack.cut s.data.toList).1.length ++ (Pack.cut s.data.toList).1) ++ str (Pack.cut s.data.toList).2.1 = s) := Lib.hid (by
    rw [str_append, ← k2, str_of])
  clear k1 k2
  generalize str (Pack.num (Pack.cut s.data.toList).1.length ++ (Pack.cut s.data.toList).1) = X3 at *
  generalize str (Pack.cut s.data.toList).1 = X1 at *
  generalize str (Pack.cut s.data.toList).2.1 = X2 at *
  obtain ⟨q1, q2, q3⟩ := each_back _ he
  have HLR : Hid (textV (listR (natI (Pack.each s.data.toList).1)) = .tuple #[.string (str (Pack.num (Pack.each s.data.toList).1.length ++ Pack.nums (Pack.each s.data.toList).1)), .int .i64 0]) := Lib.hid (by
    rw [list_natI _ q1 q2]; rfl)
  have HA3 : Hid (str (Pack.num (Pack.each s.data.toList).1.length ++ Pack.nums (Pack.each s.data.toList).1) ++ str (Pack.each s.data.toList).2.1 = s) := Lib.hid (by
    rw [str_append, ← q3, str_of])
  have hnl : (natI (Pack.each s.data.toList).1).length ≤ 1000 := by simpa [natI] using q1
  have hq4 := congrArg List.length q3
  rw [List.length_append, List.length_append, hsl] at hq4
  have hy1 : (str (Pack.num (Pack.each s.data.toList).1.length ++ Pack.nums (Pack.each s.data.toList).1)).size ≤ 70000 := by rw [str_size, List.length_append]; omega
  have hy2 : (str (Pack.each s.data.toList).2.1).size ≤ 70000 := by rw [str_size]; omega
  clear q1 q2 q3 hq4
  generalize str (Pack.num (Pack.each s.data.toList).1.length ++ Pack.nums (Pack.each s.data.toList).1) = Y1 at *
  have HC := Lib.hid hc
  have HEE := Lib.hid he
  clear hc he ht hl hsl hlt
  go_enter Try.func6, Try.ntmps6
  go_wp2_with fail
  refine (law01_short s _ (by unfold maxLen; omega)).mono ?_
  rintro e w' ⟨rfl, rfl⟩
  go_wp2_with fail
  refine (pack_Take s _ (by omega)).mono ?_
  rintro e w1 ⟨rfl, hb1⟩
  rw [HT.out]
  go_wp2_with fail
  refine (pack_Num_yes n _ hn).mono ?_
  rintro e w2 ⟨rfl, hb2⟩
  generalize str (Pack.num n) = N at *
  generalize str t = R at *
  have hcmp := str_same HA1.out
  go_wp2_with fail
  refine (pack_Cut s _ (by omega)).mono ?_
  rintro e w3 ⟨rfl, hb3⟩
  rw [HCV.out]
  go_wp2_with fail
  refine (pack_Text X1 _ (by omega)).mono ?_
  rintro e w4 ⟨rfl, hb4⟩
  rw [HTX.out]
  have hcmp2 := str_same HA2.out
  go_wp2_with fail
  refine (pack_Each s _ (by omega)).mono ?_
  rintro e w5 ⟨he5, hb5⟩
  obtain ⟨v5, rfl, hs5⟩ := he5
  rw [HEE.out]
  have HS5 := Lib.hid hs5
  clear hs5
  generalize str (Pack.each s.data.toList).2.1 = Y2 at *
  generalize natI (Pack.each s.data.toList).1 = zs at *
  go_wp2_with fail
  refine (pack_List v5 zs _ HS5.out (by unfold maxLen; omega)).mono ?_
  rintro e w6 ⟨rfl, hb6⟩
  rw [HLR.out]
  have hcmp3 := str_same HA3.out
  go_wp2_with fail
  refine (law01_live _).mono ?_
  rintro e w7 ⟨rfl, hb7⟩
  go_wp2
  go_ret
  exact ⟨rfl, grew hb1 (grew hb2 (grew hb3 (grew hb4 (grew hb5 (grew hb6 hb7)))))⟩

set_option maxRecDepth 100000 in
set_option maxHeartbeats 4000000 in
theorem walk_PackAgain_B (s : ByteArray) (w : World) (hs : s.size ≤ 70000) (n : Nat) (t : List UInt8) (ht : Pack.take s.data.toList = (n, t, 0)) (hn : n < 4294967296) (hl : s.data.toList = Pack.num n ++ t)
    (hc : (Pack.cut s.data.toList).2.2 = 0) (he : (Pack.each s.data.toList).2.2 ≠ 0) :
    Calls Try.prog 6 #[.string s] w fun e w' => e = .returned (.bool true) ∧ Below w.heap.size w w' := by
  have hd : decide ((s.size : Int) ≤ 70000) = true := by simp; omega
  have hsl := size_list s
  have HT : Hid (takeV (Pack.take s.data.toList) = .tuple #[.int .i64 (n : Int), .string (str t), .int .i64 0]) := Lib.hid (by rw [ht]; rfl)
  have HA1 : Hid (str (Pack.num n) ++ str t = s) := Lib.hid (by rw [str_append, ← hl, str_of])
  have hlt : t.length ≤ 70000 := by
    have := congrArg List.length hl
    rw [List.length_append, hsl] at this
    omega
  have hts : (str t).size ≤ 70000 := by rw [str_size]; exact hlt
  have hns : (str (Pack.num n)).size ≤ 5 := by rw [str_size]; exact (Pack.num_len_le n).2
  obtain ⟨k1, k2⟩ := cut_back _ hc
  have HCV : Hid (cutV (Pack.cut s.data.toList) = .tuple #[.string (str (Pack.cut s.data.toList).1), .string (str (Pack.cut s.data.toList).2.1), .int .i64 0]) := Lib.hid (by unfold cutV; rw [hc]; rfl)
  have hx1 : (str (Pack.cut s.data.toList).1).size ≤ 70000 := by rw [str_size]; omega
  have hx2 : (str (Pack.cut s.data.toList).2.1).size ≤ 70000 := by
    have := congrArg List.length k2
    rw [List.length_append, List.length_append, hsl] at this
    rw [str_size]; omega
  have HTX : Hid (textV (Pack.text (str (Pack.cut s.data.toList).1).data.toList) = .tuple #[.string (str (Pack.num (Pack.cut s.data.toList).1.length ++ (Pack.cut s.data.toList).1)), .int .i64 0]) := Lib.hid (by
    rw [str_data]; unfold Pack.text; rw [if_neg (by omega)]; rfl)
  have hx3 : (str (Pack.num (Pack.cut s.data.toList).1.length ++ (Pack.cut s.data.toList).1)).size ≤ 70005 := by
    have := (Pack.num_len_le (Pack.cut s.data.toList).1.length).2
    rw [str_size, List.length_append]; omega
  have HA2 : Hid (str (Pack.num (Pack.cut s.data.toList).1.length ++ (Pack.cut s.data.toList).1) ++ str (Pack.cut s.data.toList).2.1 = s) := Lib.hid (by
    rw [str_append, ← k2, str_of])
  clear k1 k2
  generalize str (Pack.num (Pack.cut s.data.toList).1.length ++ (Pack.cut s.data.toList).1) = X3 at *
  generalize str (Pack.cut s.data.toList).1 = X1 at *
  generalize str (Pack.cut s.data.toList).2.1 = X2 at *
  obtain ⟨q1, q2⟩ := each_err _ he
  have hee : (((Pack.each s.data.toList).2.2 : Int) != 0) = true := by simp; omega
  have HC := Lib.hid hc
  have HEE := Lib.hid he
  clear hc he ht hl hsl hlt
  go_enter Try.func6, Try.ntmps6
  go_wp2_with fail
  refine (law01_short s _ (by unfold maxLen; omega)).mono ?_
  rintro e w' ⟨rfl, rfl⟩
  go_wp2_with fail
  refine (pack_Take s _ (by omega)).mono ?_
  rintro e w1 ⟨rfl, hb1⟩
  rw [HT.out]
  go_wp2_with fail
  refine (pack_Num_yes n _ hn).mono ?_
  rintro e w2 ⟨rfl, hb2⟩
  generalize str (Pack.num n) = N at *
  generalize str t = R at *
  have hcmp := str_same HA1.out
  go_wp2_with fail
  refine (pack_Cut s _ (by omega)).mono ?_
  rintro e w3 ⟨rfl, hb3⟩
  rw [HCV.out]
  go_wp2_with fail
  refine (pack_Text X1 _ (by omega)).mono ?_
  rintro e w4 ⟨rfl, hb4⟩
  rw [HTX.out]
  have hcmp2 := str_same HA2.out
  go_wp2_with fail
  refine (pack_Each s _ (by omega)).mono ?_
  rintro e w5 ⟨he5, hb5⟩
  obtain ⟨v5, rfl, hs5⟩ := he5
  rw [q1] at hs5
  obtain ⟨a5, c5, rfl, _, _⟩ := hs5
  generalize (Pack.each s.data.toList).2.2 = er at *
  generalize (Pack.each s.data.toList).2.1 = rr at *
  rw [show (natI []).length = 0 from rfl]
  clear q1 q2
  go_wp2_with fail
  refine (law01_live _).mono ?_
  rintro e w7 ⟨rfl, hb7⟩
  go_wp2
  go_ret
  exact ⟨rfl, grew hb1 (grew hb2 (grew hb3 (grew hb4 (grew hb5 hb7))))⟩

set_option maxRecDepth 100000 in
set_option maxHeartbeats 4000000 in
theorem walk_PackAgain_C (s : ByteArray) (w : World) (hs : s.size ≤ 70000) (n : Nat) (t : List UInt8) (ht : Pack.take s.data.toList = (n, t, 0)) (hn : n < 4294967296) (hl : s.data.toList = Pack.num n ++ t)
    (hc : (Pack.cut s.data.toList).2.2 ≠ 0) (he : (Pack.each s.data.toList).2.2 = 0) :
    Calls Try.prog 6 #[.string s] w fun e w' => e = .returned (.bool true) ∧ Below w.heap.size w w' := by
  have hd : decide ((s.size : Int) ≤ 70000) = true := by simp; omega
  have hsl := size_list s
  have HT : Hid (takeV (Pack.take s.data.toList) = .tuple #[.int .i64 (n : Int), .string (str t), .int .i64 0]) := Lib.hid (by rw [ht]; rfl)
  have HA1 : Hid (str (Pack.num n) ++ str t = s) := Lib.hid (by rw [str_append, ← hl, str_of])
  have hlt : t.length ≤ 70000 := by
    have := congrArg List.length hl
    rw [List.length_append, hsl] at this
    omega
  have hts : (str t).size ≤ 70000 := by rw [str_size]; exact hlt
  have hns : (str (Pack.num n)).size ≤ 5 := by rw [str_size]; exact (Pack.num_len_le n).2
  have HCV : Hid (∃ x y : ByteArray, cutV (Pack.cut s.data.toList) = .tuple #[.string x, .string y, .int .i64 ((Pack.cut s.data.toList).2.2 : Int)]) := Lib.hid ⟨_, _, rfl⟩
  have hce : (((Pack.cut s.data.toList).2.2 : Int) == 0) = false := by simp; omega
  obtain ⟨X1, X2, hcv⟩ := HCV.out
  clear HCV
  have HCV := Lib.hid hcv
  clear hcv
  generalize (Pack.cut s.data.toList).2.2 = ce at *
  obtain ⟨q1, q2, q3⟩ := each_back _ he
  have HLR : Hid (textV (listR (natI (Pack.each s.data.toList).1)) = .tuple #[.string (str (Pack.num (Pack.each s.data.toList).1.length ++ Pack.nums (Pack.each s.data.toList).1)), .int .i64 0]) := Lib.hid (by
    rw [list_natI _ q1 q2]; rfl)
  have HA3 : Hid (str (Pack.num (Pack.each s.data.toList).1.length ++ Pack.nums (Pack.each s.data.toList).1) ++ str (Pack.each s.data.toList).2.1 = s) := Lib.hid (by
    rw [str_append, ← q3, str_of])
  have hnl : (natI (Pack.each s.data.toList).1).length ≤ 1000 := by simpa [natI] using q1
  have hq4 := congrArg List.length q3
  rw [List.length_append, List.length_append, hsl] at hq4
  have hy1 : (str (Pack.num (Pack.each s.data.toList).1.length ++ Pack.nums (Pack.each s.data.toList).1)).size ≤ 70000 := by rw [str_size, List.length_append]; omega
  have hy2 : (str (Pack.each s.data.toList).2.1).size ≤ 70000 := by rw [str_size]; omega
  clear q1 q2 q3 hq4
  generalize str (Pack.num (Pack.each s.data.toList).1.length ++ Pack.nums (Pack.each s.data.toList).1) = Y1 at *
  have HC := Lib.hid hc
  have HEE := Lib.hid he
  clear hc he ht hl hsl hlt
  go_enter Try.func6, Try.ntmps6
  go_wp2_with fail
  refine (law01_short s _ (by unfold maxLen; omega)).mono ?_
  rintro e w' ⟨rfl, rfl⟩
  go_wp2_with fail
  refine (pack_Take s _ (by omega)).mono ?_
  rintro e w1 ⟨rfl, hb1⟩
  rw [HT.out]
  go_wp2_with fail
  refine (pack_Num_yes n _ hn).mono ?_
  rintro e w2 ⟨rfl, hb2⟩
  generalize str (Pack.num n) = N at *
  generalize str t = R at *
  have hcmp := str_same HA1.out
  go_wp2_with fail
  refine (pack_Cut s _ (by omega)).mono ?_
  rintro e w3 ⟨rfl, hb3⟩
  rw [HCV.out]
  have hb4 := Below.refl w3.heap.size w3
  go_wp2_with fail
  refine (pack_Each s _ (by omega)).mono ?_
  rintro e w5 ⟨he5, hb5⟩
  obtain ⟨v5, rfl, hs5⟩ := he5
  rw [HEE.out]
  have HS5 := Lib.hid hs5
  clear hs5
  generalize str (Pack.each s.data.toList).2.1 = Y2 at *
  generalize natI (Pack.each s.data.toList).1 = zs at *
  go_wp2_with fail
  refine (pack_List v5 zs _ HS5.out (by unfold maxLen; omega)).mono ?_
  rintro e w6 ⟨rfl, hb6⟩
  rw [HLR.out]
  have hcmp3 := str_same HA3.out
  go_wp2_with fail
  refine (law01_live _).mono ?_
  rintro e w7 ⟨rfl, hb7⟩
  go_wp2
  go_ret
  exact ⟨rfl, grew hb1 (grew hb2 (grew hb3 (grew hb4 (grew hb5 (grew hb6 hb7)))))⟩

set_option maxRecDepth 100000 in
set_option maxHeartbeats 4000000 in
theorem walk_PackAgain_D (s : ByteArray) (w : World) (hs : s.size ≤ 70000) (n : Nat) (t : List UInt8) (ht : Pack.take s.data.toList = (n, t, 0)) (hn : n < 4294967296) (hl : s.data.toList = Pack.num n ++ t)
    (hc : (Pack.cut s.data.toList).2.2 ≠ 0) (he : (Pack.each s.data.toList).2.2 ≠ 0) :
    Calls Try.prog 6 #[.string s] w fun e w' => e = .returned (.bool true) ∧ Below w.heap.size w w' := by
  have hd : decide ((s.size : Int) ≤ 70000) = true := by simp; omega
  have hsl := size_list s
  have HT : Hid (takeV (Pack.take s.data.toList) = .tuple #[.int .i64 (n : Int), .string (str t), .int .i64 0]) := Lib.hid (by rw [ht]; rfl)
  have HA1 : Hid (str (Pack.num n) ++ str t = s) := Lib.hid (by rw [str_append, ← hl, str_of])
  have hlt : t.length ≤ 70000 := by
    have := congrArg List.length hl
    rw [List.length_append, hsl] at this
    omega
  have hts : (str t).size ≤ 70000 := by rw [str_size]; exact hlt
  have hns : (str (Pack.num n)).size ≤ 5 := by rw [str_size]; exact (Pack.num_len_le n).2
  have HCV : Hid (∃ x y : ByteArray, cutV (Pack.cut s.data.toList) = .tuple #[.string x, .string y, .int .i64 ((Pack.cut s.data.toList).2.2 : Int)]) := Lib.hid ⟨_, _, rfl⟩
  have hce : (((Pack.cut s.data.toList).2.2 : Int) == 0) = false := by simp; omega
  obtain ⟨X1, X2, hcv⟩ := HCV.out
  clear HCV
  have HCV := Lib.hid hcv
  clear hcv
  generalize (Pack.cut s.data.toList).2.2 = ce at *
  obtain ⟨q1, q2⟩ := each_err _ he
  have hee : (((Pack.each s.data.toList).2.2 : Int) != 0) = true := by simp; omega
  have HC := Lib.hid hc
  have HEE := Lib.hid he
  clear hc he ht hl hsl hlt
  go_enter Try.func6, Try.ntmps6
  go_wp2_with fail
  refine (law01_short s _ (by unfold maxLen; omega)).mono ?_
  rintro e w' ⟨rfl, rfl⟩
  go_wp2_with fail
  refine (pack_Take s _ (by omega)).mono ?_
  rintro e w1 ⟨rfl, hb1⟩
  rw [HT.out]
  go_wp2_with fail
  refine (pack_Num_yes n _ hn).mono ?_
  rintro e w2 ⟨rfl, hb2⟩
  generalize str (Pack.num n) = N at *
  generalize str t = R at *
  have hcmp := str_same HA1.out
  go_wp2_with fail
  refine (pack_Cut s _ (by omega)).mono ?_
  rintro e w3 ⟨rfl, hb3⟩
  rw [HCV.out]
  have hb4 := Below.refl w3.heap.size w3
  go_wp2_with fail
  refine (pack_Each s _ (by omega)).mono ?_
  rintro e w5 ⟨he5, hb5⟩
  obtain ⟨v5, rfl, hs5⟩ := he5
  rw [q1] at hs5
  obtain ⟨a5, c5, rfl, _, _⟩ := hs5
  generalize (Pack.each s.data.toList).2.2 = er at *
  generalize (Pack.each s.data.toList).2.1 = rr at *
  rw [show (natI []).length = 0 from rfl]
  clear q1 q2
  go_wp2_with fail
  refine (law01_live _).mono ?_
  rintro e w7 ⟨rfl, hb7⟩
  go_wp2
  go_ret
  exact ⟨rfl, grew hb1 (grew hb2 (grew hb3 (grew hb4 (grew hb5 hb7))))⟩

set_option maxHeartbeats 1000000 in
theorem walk_PackAgain (s : ByteArray) (w : World) (hs : s.size ≤ maxLen) :
    Calls Try.prog 6 #[.string s] w fun e w' => e = .returned (.bool true) ∧ Below w.heap.size w w' := by
  by_cases h : s.size ≤ 70000
  · rcases Pack.take_cases s.data.toList with ⟨n, t, ht, hn, hl⟩ | ⟨er, ht, he⟩
    · by_cases hc : (Pack.cut s.data.toList).2.2 = 0
      · by_cases he : (Pack.each s.data.toList).2.2 = 0
        · exact walk_PackAgain_A s w h n t ht hn hl hc he
        · exact walk_PackAgain_B s w h n t ht hn hl hc he
      · by_cases he : (Pack.each s.data.toList).2.2 = 0
        · exact walk_PackAgain_C s w h n t ht hn hl hc he
        · exact walk_PackAgain_D s w h n t ht hn hl hc he
    · have hd : decide ((s.size : Int) ≤ 70000) = true := by simp; omega
      have HT : Hid (takeV (Pack.take s.data.toList) = .tuple #[.int .i64 0, .string ⟨#[]⟩, .int .i64 (er : Int)]) := Lib.hid (by rw [ht]; rfl)
      have hne : ((er : Int) != 0) = true := by rcases he with rfl | rfl <;> rfl
      clear ht he
      go_enter Try.func6, Try.ntmps6
      go_wp2_with fail
      refine (law01_short s _ hs).mono ?_
      rintro e w' ⟨rfl, rfl⟩
      go_wp2_with fail
      refine (pack_Take s _ (by omega)).mono ?_
      rintro e w1 ⟨rfl, hb1⟩
      rw [HT.out]
      go_wp2_with fail
      refine (law01_live _).mono ?_
      rintro e w3 ⟨rfl, hb3⟩
      go_wp2
      go_ret
      exact ⟨rfl, grew hb1 hb3⟩
  · have hd : decide ((s.size : Int) ≤ 70000) = false := by simp; omega
    go_enter Try.func6, Try.ntmps6
    go_wp2_with fail
    refine (law01_short s _ hs).mono ?_
    rintro e w' ⟨rfl, rfl⟩
    go_wp2_with fail
    refine (law01_live _).mono ?_
    rintro e w3 ⟨rfl, hb3⟩
    go_wp2
    go_ret
    exact ⟨rfl, hb3⟩
end Go.Proofs.Ytiofmcjnpnokbaa
