/- What crcs.Seal and crcs.Open come to. -/
import Derived.Test.YtlmigmejfkflmaaCrcMore
import Derived.Test.YtlmigmejfkflmaaShelf
import Derived.Test.YtlmigmejfkflmaaCrcMath2
import Derived.Test.YtlmigmejfkflmaaStr
import Derived.BigQuiet
import Derived.Deep.QuietTactic
namespace Go.Proofs.Ytlmigmejfkflmaa
open Go.RowKit
set_option linter.unusedVariables false

/-- The three bytes of a sum, as a text. -/
def tailS (x : BitVec 24) : ByteArray := ⟨(Crc.tail3 x).toArray⟩

theorem tail_convert (x : BitVec 24) (w : World) :
    (convert 39 9 (.slice (some ⟨w.heap.size, 0, none⟩) 3 3)).run Try.prog (w.alloc (.cells #[.int .u8 ((x.toNat : Int) / 65536), .int .u8 ((x.toNat : Int) / 256 % 256), .int .u8 ((x.toNat : Int) % 256)] 5))
      = .ok (.string (tailS x)) (w.alloc (.cells #[.int .u8 ((x.toNat : Int) / 65536), .int .u8 ((x.toNat : Int) / 256 % 256), .int .u8 ((x.toNat : Int) % 256)] 5)) := by
  have hlt : x.toNat < 16777216 := x.isLt
  refine run_convert_bytes_back (P := Try.prog) _ 39 9 5 ⟨w.heap.size, 0, none⟩ 3 (Crc.tail3 x) Try.underlying39 Try.underlying5 Try.underlying9 (fun j hj => ?_)
  have hj3 : j < 3 := by simpa [Crc.tail3] using hj
  rw [show (⟨w.heap.size, 0, none⟩ : Addr).add j = ⟨w.heap.size, j, none⟩ from by unfold Addr.add; split <;> simp_all, cell_of_row _ _ _ _ _ _ (heap_alloc_new _ _)]
  rcases (by omega : j = 0 ∨ j = 1 ∨ j = 2) with rfl | rfl | rfl
  · simp [Crc.tail3]; omega
  · simp [Crc.tail3]
  · simp [Crc.tail3]

set_option maxHeartbeats 400000 in
theorem crcs_bytesOf (x : BitVec 24) (w : World) :
    Calls Try.prog 27 #[.int .i64 (x.toNat : Int)] w fun e w' => e = .returned (.string (tailS x)) ∧ Below w.heap.size w w' := by
  have hlt : x.toNat < 16777216 := x.isLt
  have hcv := tail_convert x w
  go_enter Try.func27, Try.ntmps27
  go_wp2
  go_ret
  exact ⟨rfl, (Below.refl _ _).alloc (Nat.le_refl _) _⟩

/-- A text with its sum behind it. -/
def sealS (s : ByteArray) : ByteArray := s ++ tailS (Crc.sum s.data.toList)

set_option maxHeartbeats 400000 in
theorem crcs_Seal (s : ByteArray) (w : World) (hs : s.size ≤ 1000000) :
    Calls Try.prog 20 #[.string s] w fun e w' => e = .returned (.string (sealS s)) ∧ Below w.heap.size w w' := by
  go_enter Try.func20, Try.ntmps20
  go_wp2_with fail
  refine (crcs_sum s _ (by unfold maxLen; omega)).mono ?_
  rintro e w1 ⟨rfl, hb1⟩
  go_wp2_with fail
  refine (crcs_bytesOf _ _).mono ?_
  rintro e w2 ⟨rfl, hb2⟩
  have hts : (tailS (Crc.sum s.data.toList)).size = 3 := rfl
  go_wp2
  go_ret
  exact ⟨rfl, hb1.trans (hb2.mono hb1.size)⟩

set_option maxHeartbeats 400000 in
theorem crcs_Open_short (s : ByteArray) (w : World) (hs : s.size < 3) :
    Calls Try.prog 34 #[.string s] w fun e w' => e = .returned (.tuple #[.string ⟨#[]⟩, .int .i64 3]) ∧ Below w.heap.size w w' := by
  have hd : decide ((s.size : Int) < 3) = true := by simp; omega
  go_enter Try.func34, Try.ntmps34
  go_wp2
  go_ret2
  exact ⟨rfl, Below.refl _ _⟩

theorem open_parts (s : ByteArray) (hs : 3 ≤ s.size) :
    (Crc.sum s.data.toList = 0#24 ↔ tailS (Crc.sum (s.extract 0 (s.size - 3)).data.toList) = s.extract (s.size - 3) s.size) := by
  have hl := size_list s
  have e : s.data.toList = (s.extract 0 (s.size - 3)).data.toList ++ (s.extract (s.size - 3) s.size).data.toList := by
    rw [Lib.extract_data, Lib.extract_data]
    simp only [List.drop_zero, Nat.sub_zero]
    rw [show s.size - (s.size - 3) = 3 by omega]
    conv => lhs; rw [← List.take_append_drop (s.size - 3) s.data.toList]
    congr 1
    rw [List.take_of_length_le]
    rw [List.length_drop, hl]; omega
  have hu : (s.extract (s.size - 3) s.size).data.toList.length = 3 := by
    rw [Lib.extract_data, List.length_take, List.length_drop, hl]; omega
  rw [e, Crc.sum_zero_iff _ _ hu]
  constructor
  · intro h
    apply ByteArray.ext
    apply Array.toList_inj.1
    rw [← h]
    rfl
  · intro h
    rw [← h]
    rfl

set_option maxHeartbeats 400000 in
theorem crcs_Open_ok (s : ByteArray) (w : World) (hs : 3 ≤ s.size) (hm : s.size ≤ 1000000) (hz : Crc.sum s.data.toList = 0#24) :
    Calls Try.prog 34 #[.string s] w fun e w' => e = .returned (.tuple #[.string (s.extract 0 (s.size - 3)), .int .i64 0]) ∧ Below w.heap.size w w' := by
  have H := Lib.hid ((open_parts s hs).1 hz)
  clear hz
  have ht : (s.extract 0 (s.size - 3)).size ≤ 1000000 := by rw [ByteArray.size_extract]; omega
  have hd : decide ((s.size : Int) < 3) = false := by simp; omega
  go_enter Try.func34, Try.ntmps34
  go_wp2
  go_quiet (fail)
  generalize hte : s.extract 0 (s.size - 3) = t at *
  have Hte := Lib.hid hte
  clear hte
  generalize s.extract (s.size - 3) s.size = u at *
  go_wp2_with fail
  refine (crcs_sum t _ (by unfold maxLen; omega)).mono ?_
  rintro e w1 ⟨rfl, hb1⟩
  go_wp2_with fail
  refine (crcs_bytesOf _ _).mono ?_
  rintro e w2 ⟨rfl, hb2⟩
  have he := str_same H.out
  go_wp2_with fail
  refine (strings_Clone t _ (by omega)).mono ?_
  rintro e w3 ⟨rfl, hb3⟩
  go_wp2
  go_ret2
  exact ⟨by rw [Hte.out]; rfl, grew (grew_drewN w nq) (grew hb1 (grew hb2 hb3))⟩

set_option maxHeartbeats 400000 in
theorem crcs_Open_bad (s : ByteArray) (w : World) (hs : 3 ≤ s.size) (hm : s.size ≤ 1000000) (hz : Crc.sum s.data.toList ≠ 0#24) :
    Calls Try.prog 34 #[.string s] w fun e w' => e = .returned (.tuple #[.string ⟨#[]⟩, .int .i64 4]) ∧ Below w.heap.size w w' := by
  have H := Lib.hid (str_other (fun h => hz ((open_parts s hs).2 h)))
  clear hz
  have ht : (s.extract 0 (s.size - 3)).size ≤ 1000000 := by rw [ByteArray.size_extract]; omega
  have hd : decide ((s.size : Int) < 3) = false := by simp; omega
  go_enter Try.func34, Try.ntmps34
  go_wp2
  go_quiet (fail)
  generalize s.extract 0 (s.size - 3) = t at *
  generalize s.extract (s.size - 3) s.size = u at *
  go_wp2_with fail
  refine (crcs_sum t _ (by unfold maxLen; omega)).mono ?_
  rintro e w1 ⟨rfl, hb1⟩
  go_wp2_with fail
  refine (crcs_bytesOf _ _).mono ?_
  rintro e w2 ⟨rfl, hb2⟩
  have he := H.out
  go_wp2
  go_ret2
  exact ⟨rfl, grew (grew_drewN w nq) (grew hb1 hb2)⟩
end Go.Proofs.Ytlmigmejfkflmaa
