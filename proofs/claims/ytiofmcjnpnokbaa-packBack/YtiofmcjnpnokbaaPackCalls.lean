/- What pack.Num, Take, Text and Cut come to. -/
import Derived.Test.YtiofmcjnpnokbaaPackRead
import Derived.Test.YtiofmcjnpnokbaaPackMath2
import Derived.Test.YtiofmcjnpnokbaaShelf
import Derived.Deep.RegionWith
namespace Go.Proofs.Ytiofmcjnpnokbaa
open Go.RowKit
set_option linter.unusedVariables false

def str (l : List UInt8) : ByteArray := ⟨l.toArray⟩
theorem str_data (l : List UInt8) : (str l).data.toList = l := by simp [str]
theorem str_of (s : ByteArray) : str s.data.toList = s := str_ext (str_data _)
theorem str_size (l : List UInt8) : (str l).size = l.length := by rw [← size_list, str_data]
theorem str_append (a b : List UInt8) : str a ++ str b = str (a ++ b) := str_ext (by rw [str_app, str_data, str_data, str_data])
theorem str_drop (s : ByteArray) (k : Nat) : s.extract k s.size = str (s.data.toList.drop k) := by
  apply str_ext
  rw [Lib.extract_data, str_data, List.take_of_length_le]
  rw [List.length_drop, size_list]; omega
theorem str_take (s : ByteArray) (k : Nat) : s.extract 0 k = str (s.data.toList.take k) := by
  apply str_ext
  rw [Lib.extract_data, str_data]
  simp

set_option maxHeartbeats 400000 in
theorem pack_Num_yes (n : Nat) (w : World) (hn : n < 4294967296) :
    Calls Try.prog 17 #[.int .i64 (n : Int)] w fun e w' => e = .returned (.tuple #[.string (str (Pack.num n)), .int .i64 0]) ∧ Below w.heap.size w w' := by
  go_enter Try.func17, Try.ntmps17
  go_wp2_with fail
  refine (pack_fits_yes _ _ (by omega) (by omega)).mono ?_
  rintro e w' ⟨rfl, rfl⟩
  go_wp2_with fail
  refine (pack_put (.slice none 0 0) [] n w.heap.size w hn (OwnsB.nil _ _) (Nat.le_refl _) (by simp)).mono ?_
  rintro e w1 ⟨v, rfl, hown, hb⟩
  have hcv := hown.text
  go_wp2
  go_ret2
  exact ⟨rfl, hb⟩

theorem pack_Num_no (n : Int) (w : World) (h : n < 0 ∨ 4294967295 < n) :
    Calls Try.prog 17 #[.int .i64 n] w fun e w' => e = .returned (.tuple #[.string ⟨#[]⟩, .int .i64 1]) ∧ Below w.heap.size w w' := by
  have H := Lib.hid h
  clear h
  go_enter Try.func17, Try.ntmps17
  go_wp2_with fail
  refine (pack_fits_no _ _ H.out).mono ?_
  rintro e w' ⟨rfl, rfl⟩
  go_wp2
  go_ret2
  exact ⟨rfl, Below.refl _ _⟩

def takeV (r : Nat × List UInt8 × Nat) : Value := .tuple #[.int .i64 (r.1 : Int), .string (str r.2.1), .int .i64 (r.2.2 : Int)]

set_option maxHeartbeats 400000 in
theorem pack_Take (s : ByteArray) (w : World) (hs : s.size ≤ 1000000000) :
    Calls Try.prog 23 #[.string s] w fun e w' => e = .returned (takeV (Pack.take s.data.toList)) ∧ Below w.heap.size w w' := by
  rcases Pack.read_num s.data.toList with ⟨n, k, hr, hn, hk, hl⟩ | ⟨er, hr, he⟩
  · have HR := Lib.hid hr
    have HT : Hid (Pack.take s.data.toList = (n, s.data.toList.drop k, 0)) := Lib.hid (by unfold Pack.take; rw [hr]; simp)
    have hks : k ≤ s.size := by
      have h1 := congrArg List.length hl
      rw [List.length_append, ← hk, List.length_drop, size_list] at h1
      omega
    have HX := Lib.hid (str_drop s k)
    have hxs : (str (s.data.toList.drop k)).size ≤ 1000000000 := by rw [str_size, List.length_drop, size_list]; omega
    clear hr hl hk
    go_enter Try.func23, Try.ntmps23
    go_wp2_with fail
    refine (pack_read s _ (by unfold maxLen; omega)).mono ?_
    rintro e w' ⟨rfl, rfl⟩
    rw [HR.out]
    unfold readV
    go_wp2_with fail
    rw [HX.out]
    refine (strings_Clone _ _ (by omega)).mono ?_
    rintro e w1 ⟨rfl, hb⟩
    go_wp2
    go_ret3
    exact ⟨by rw [HT.out]; rfl, hb⟩
  · have HR := Lib.hid hr
    have HT : Hid (Pack.take s.data.toList = (0, [], er)) := Lib.hid (by unfold Pack.take; rw [hr]; rcases he with rfl | rfl <;> simp)
    have hne : ((er : Int) != 0) = true := by rcases he with rfl | rfl <;> rfl
    clear hr he
    go_enter Try.func23, Try.ntmps23
    go_wp2_with fail
    refine (pack_read s _ (by unfold maxLen; omega)).mono ?_
    rintro e w' ⟨rfl, rfl⟩
    rw [HR.out]
    unfold readV
    go_wp2
    go_ret3
    exact ⟨by rw [HT.out]; rfl, Below.refl _ _⟩

def textV (r : List UInt8 × Nat) : Value := .tuple #[.string (str r.1), .int .i64 (r.2 : Int)]

set_option maxHeartbeats 400000 in
theorem pack_Text (s : ByteArray) (w : World) (hs : s.size ≤ 1000000000) :
    Calls Try.prog 19 #[.string s] w fun e w' => e = .returned (textV (Pack.text s.data.toList)) ∧ Below w.heap.size w w' := by
  have hl := size_list s
  by_cases h : 65535 < s.size
  · have HT : Hid (Pack.text s.data.toList = ([], 1)) := Lib.hid (by unfold Pack.text; rw [hl, if_pos h])
    have hd : decide ((65535 : Int) < (s.size : Int)) = true := by simp; omega
    clear hl h
    go_enter Try.func19, Try.ntmps19
    go_wp2
    go_ret2
    exact ⟨by rw [HT.out]; rfl, Below.refl _ _⟩
  · have HT : Hid (Pack.text s.data.toList = (Pack.num s.size ++ s.data.toList, 0)) := Lib.hid (by unfold Pack.text; rw [hl, if_neg h])
    have hd : decide ((65535 : Int) < (s.size : Int)) = false := by simp; omega
    have hnl := (Pack.num_len_le s.size).2
    have hss : (ByteArray.mk (Pack.num s.size).toArray).size = (Pack.num s.size).length := str_size _
    have HSS := Lib.hid (show ByteArray.mk (Pack.num s.size).toArray ++ s = str (Pack.num s.size ++ s.data.toList) from by
      rw [← str_append, str_of]; rfl)
    have hsz : s.size ≤ 65535 := by omega
    clear hl h
    go_enter Try.func19, Try.ntmps19
    go_wp2_with fail
    refine (pack_put (.slice none 0 0) [] s.size w.heap.size w (by omega) (OwnsB.nil _ _) (Nat.le_refl _) (by simp)).mono ?_
    rintro e w1 ⟨v, rfl, hown, hb⟩
    have hcv := hown.text
    rw [List.nil_append] at hcv
    go_wp2
    go_ret2
    exact ⟨by rw [HT.out, HSS.out]; rfl, hb⟩

def cutV (r : List UInt8 × List UInt8 × Nat) : Value := .tuple #[.string (str r.1), .string (str r.2.1), .int .i64 (r.2.2 : Int)]

set_option maxHeartbeats 1000000 in
theorem pack_Cut (s : ByteArray) (w : World) (hs : s.size ≤ 1000000000) :
    Calls Try.prog 25 #[.string s] w fun e w' => e = .returned (cutV (Pack.cut s.data.toList)) ∧ Below w.heap.size w w' := by
  rcases Pack.read_num s.data.toList with ⟨n, k, hr, hn, hk, hl⟩ | ⟨er, hr, he⟩
  · have HR := Lib.hid hr
    have hT : Pack.take s.data.toList = (n, s.data.toList.drop k, 0) := by unfold Pack.take; rw [hr]; simp
    have hks : k ≤ s.size := by
      have h1 := congrArg List.length hl
      rw [List.length_append, ← hk, List.length_drop, size_list] at h1
      omega
    have HX := Lib.hid (str_drop s k)
    have hxl : (s.data.toList.drop k).length = s.size - k := by rw [List.length_drop, size_list]
    have hxs : (str (s.data.toList.drop k)).size = s.size - k := by rw [str_size, hxl]
    have hxd : (str (s.data.toList.drop k)).data.toList = s.data.toList.drop k := str_data _
    clear hr hl hk
    by_cases h1 : 65535 < n
    · have HC : Hid (Pack.cut s.data.toList = ([], [], 2)) := Lib.hid (by unfold Pack.cut; rw [hT]; simp only [if_true]; rw [if_pos h1])
      have hd : decide ((65535 : Int) < (n : Int)) = true := by simp; omega
      clear hT h1 hxl hxs hxd
      go_enter Try.func25, Try.ntmps25
      go_wp2_with fail
      refine (pack_read s _ (by unfold maxLen; omega)).mono ?_
      rintro e w' ⟨rfl, rfl⟩
      rw [HR.out]
      unfold readV
      go_wp2
      go_ret3
      exact ⟨by rw [HC.out]; rfl, Below.refl _ _⟩
    · have hd : decide ((65535 : Int) < (n : Int)) = false := by simp; omega
      generalize hrest : s.data.toList.drop k = rest at *
      by_cases h2 : rest.length < n
      · have HC : Hid (Pack.cut s.data.toList = ([], [], 3)) := Lib.hid (by unfold Pack.cut; rw [hT]; simp only [if_true]; rw [if_neg h1, if_pos h2])
        have hlt : s.size - k < n := by omega
        clear hT h1 h2 hxl hxs hxd hrest
        go_enter Try.func25, Try.ntmps25
        go_wp2_with fail
        refine (pack_read s _ (by unfold maxLen; omega)).mono ?_
        rintro e w' ⟨rfl, rfl⟩
        rw [HR.out]
        unfold readV
        go_wp2
        go_ret3
        exact ⟨by rw [HC.out]; rfl, Below.refl _ _⟩
      · have HC : Hid (Pack.cut s.data.toList = (rest.take n, rest.drop n, 0)) := Lib.hid (by unfold Pack.cut; rw [hT]; simp only [if_true]; rw [if_neg h1, if_neg h2])
        have hle : n ≤ s.size - k := by omega
        have hln : ¬ s.size - k < n := by omega
        have HXS := Lib.hid hxs
        have HFin : Hid (cutV (Pack.cut s.data.toList) = .tuple #[.string ((str rest).extract 0 n), .string ((str rest).extract n (s.size - k)), .int .i64 0]) := Lib.hid (by
          rw [HC.out, str_take, hxd, ← hxs, str_drop, hxd]; rfl)
        clear hT h1 h2 hxl hxs hxd hrest
        go_enter Try.func25, Try.ntmps25
        go_wp2_with fail
        refine (pack_read s _ (by unfold maxLen; omega)).mono ?_
        rintro e w' ⟨rfl, rfl⟩
        rw [HR.out]
        unfold readV
        go_wp2_with fail
        rw [HX.out]
        have hsz : (str rest).size = s.size - k := HXS.out
        go_region_with ((go_at_call 43; refine (strings_Clone _ _ (by simp [ByteArray.size_extract, hsz]; omega)).mono ?_; rintro e w' ⟨rfl, hb⟩))
        all_goals go_wp2
        all_goals go_ret3
        all_goals exact ⟨by rw [HFin.out]; rfl, grew (grew_drew w) (grew ‹Below w.drew.heap.size w.drew _› ‹_›)⟩
  · have HR := Lib.hid hr
    have HC : Hid (Pack.cut s.data.toList = ([], [], er)) := Lib.hid (by
      have hT : Pack.take s.data.toList = (0, [], er) := by unfold Pack.take; rw [hr]; rcases he with rfl | rfl <;> simp
      unfold Pack.cut; rw [hT]; rcases he with rfl | rfl <;> rfl)
    have hne : ((er : Int) != 0) = true := by rcases he with rfl | rfl <;> rfl
    clear hr he
    go_enter Try.func25, Try.ntmps25
    go_wp2_with fail
    refine (pack_read s _ (by unfold maxLen; omega)).mono ?_
    rintro e w' ⟨rfl, rfl⟩
    rw [HR.out]
    unfold readV
    go_wp2
    go_ret3
    exact ⟨by rw [HC.out]; rfl, Below.refl _ _⟩
end Go.Proofs.Ytiofmcjnpnokbaa
