/- What pack.Num, Take, Text and Cut come to. -/
import Derived.Test.YtohlnhnelkoakaaPackRead
import Derived.Test.YtohlnhnelkoakaaPackMath2
import Derived.Test.YtohlnhnelkoakaaShelf
import Derived.Deep.RegionWith
namespace Go.Proofs.Ytohlnhnelkoakaa
open Go.RowKit
set_option linter.unusedVariables false

def str (l : List UInt8) : ByteArray := ⟨l.toArray⟩
theorem str_data (l : List UInt8) : (str l).data.toList = l := by simp [str]
theorem str_of (s : ByteArray) : str s.data.toList = s := str_ext (str_data _)
theorem str_size (l : List UInt8) : (str l).size = l.length := by rw [← size_list, str_data]
theorem str_append (a b : List UInt8) : str a ++ str b = str (a ++ b) := str_ext (by rw [str_app, str_data, str_data, str_data])
theorem str_drop (s : ByteArray) (k : Nat) : s.extract k s.size = str (s.data.toList.drop k) := by
  apply str_ext
  rw [Lib.extract_data, str_data, List.take_of_length_le]
  rw [List.length_drop, size_list]; omega
theorem str_take (s : ByteArray) (k : Nat) : s.extract 0 k = str (s.data.toList.take k) := by
  apply str_ext
  rw [Lib.extract_data, str_data]
  simp

set_option maxHeartbeats 400000 in
theorem pack_Num_yes (n : Nat) (w : World) (hn : n < 4294967296) :
    Calls Try.prog 45 #[.int .i64 (n : Int)] w fun e w' => e = .returned (.tuple #[.string (str (Pack.num n)), .int .i64 0]) ∧ Below w.heap.size w w' := by
  go_enter Try.func45, Try.ntmps45
  go_wp2_with fail
  refine (pack_fits_yes _ _ (by omega) (by omega)).mono ?_
  rintro e w' ⟨rfl, rfl⟩
  go_wp2_with fail
  refine (pack_put (.slice none 0 0) [] n w.heap.size w hn (OwnsB.nil _ _) (Nat.le_refl _) (by simp)).mono ?_
  rintro e w1 ⟨v, rfl, hown, hb⟩
  have hcv := hown.text
  go_wp2
  go_ret2
  exact ⟨rfl, hb⟩

theorem pack_Num_no (n : Int) (w : World) (h : n < 0 ∨ 4294967295 < n) :
    Calls Try.prog 45 #[.int .i64 n] w fun e w' => e = .returned (.tuple #[.string ⟨#[]⟩, .int .i64 1]) ∧ Below w.heap.size w w' := by
  have H := Lib.hid h
  clear h
  go_enter Try.func45, Try.ntmps45
  go_wp2_with fail
  refine (pack_fits_no _ _ H.out).mono ?_
  rintro e w' ⟨rfl, rfl⟩
  go_wp2
  go_ret2
  exact ⟨rfl, Below.refl _ _⟩

def takeV (r : Nat × List UInt8 × Nat) : Value := .tuple #[.int .i64 (r.1 : Int), .string (str r.2.1), .int .i64 (r.2.2 : Int)]

set_option maxHeartbeats 400000 in
theorem pack_Take (s : ByteArray) (w : World) (hs : s.size ≤ 1000000000) :
    Calls Try.prog 51 #[.string s] w fun e w' => e = .returned (takeV (Pack.take s.data.toList)) ∧ Below w.heap.size w w' := by
  rcases Pack.read_num s.data.toList with ⟨n, k, hr, hn, hk, hl⟩ | ⟨er, hr, he⟩
  · have HR := Lib.hid hr
    have HT : Hid (Pack.take s.data.toList = (n, s.data.toList.drop k, 0)) := Lib.hid (by unfold Pack.take; rw [hr]; simp)
    have hks : k ≤ s.size := by
      have h1 := congrArg List.length hl
      rw [List.length_append, ← hk, List.length_drop, size_list] at h1
      omega
    have HX := Lib.hid (str_drop s k)
    have hxs : (str (s.data.toList.drop k)).size ≤ 1000000000 := by rw [str_size, List.length_drop, size_list]; omega
    clear hr hl hk
    go_enter Try.func51, Try.ntmps51
    go_wp2_with fail
    refine (pack_read s _ (by unfold maxLen; omega)).mono ?_
    rintro e w' ⟨rfl, rfl⟩
    rw [HR.out]
    unfold readV
    go_wp2_with fail
    rw [HX.out]
    refine (strings_Clone _ _ (by omega)).mono ?_
    rintro e w1 ⟨rfl, hb⟩
    go_wp2
    go_ret3
    exact ⟨by rw [HT.out]; rfl, hb⟩
  · have HR := Lib.hid hr
    have HT : Hid (Pack.take s.data.toList = (0, [], er)) := Lib.hid (by unfold Pack.take; rw [hr]; rcases he with rfl | rfl <;> simp)
    have hne : ((er : Int) != 0) = true := by rcases he with rfl | rfl <;> rfl
    clear hr he
    go_enter Try.func51, Try.ntmps51
    go_wp2_with fail
    refine (pack_read s _ (by unfold maxLen; omega)).mono ?_
    rintro e w' ⟨rfl, rfl⟩
    rw [HR.out]
    unfold readV
    go_wp2
    go_ret3
    exact ⟨by rw [HT.out]; rfl, Below.refl _ _⟩

def textV (r : List UInt8 × Nat) : Value := .tuple #[.string (str r.1), .int .i64 (r.2 : Int)]

def cutV (r : List UInt8 × List UInt8 × Nat) : Value := .tuple #[.string (str r.1), .string (str r.2.1), .int .i64 (r.2.2 : Int)]

end Go.Proofs.Ytohlnhnelkoakaa