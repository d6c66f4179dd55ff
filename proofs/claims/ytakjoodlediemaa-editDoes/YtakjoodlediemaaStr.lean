/- Plain facts on texts: when two are the same, as the walk asks it. -/
import Derived.Test.YtakjoodlediemaaHead
import Derived.Lib.Strings
import Derived.Lib.SmallJoins
namespace Go.Proofs.Ytakjoodlediemaa
open Go.RowKit
set_option linter.unusedVariables false

theorem str_same {a b : ByteArray} (h : a = b) : (a.toList == b.toList) = true := by subst h; simp
theorem str_other {a b : ByteArray} (h : a ≠ b) : (a.toList == b.toList) = false := by
  rw [beq_eq_false_iff_ne]
  intro e
  rw [ByteArray.toList_eq, ByteArray.toList_eq] at e
  exact h (ByteArray.ext (Array.toList_inj.1 e))
theorem str_ext {a b : ByteArray} (h : a.data.toList = b.data.toList) : a = b := ByteArray.ext (Array.toList_inj.1 h)
theorem size_list (s : ByteArray) : s.data.toList.length = s.size := by simp
theorem str_app (a b : ByteArray) : (a ++ b).data.toList = a.data.toList ++ b.data.toList := Joins.data_append a b
theorem str_cut (s : ByteArray) (k : Nat) (h : k ≤ s.size) : s.extract 0 k ++ s.extract k s.size = s := by
  apply str_ext
  rw [str_app, Lib.extract_data, Lib.extract_data]
  simp only [List.drop_zero, Nat.sub_zero]
  conv => rhs; rw [← List.take_append_drop k s.data.toList]
  congr 1
  rw [List.take_of_length_le]
  rw [List.length_drop, size_list]; omega
theorem str_front (a b : ByteArray) : (a ++ b).extract 0 a.size = a := by
  apply str_ext
  rw [Lib.extract_data, str_app]
  simp
theorem str_back (a b : ByteArray) : (a ++ b).extract a.size (a ++ b).size = b := by
  apply str_ext
  rw [Lib.extract_data, str_app]
  simp
  exact List.take_of_length_le (by rw [size_list]; omega)
theorem size_app (a b : ByteArray) : (a ++ b).size = a.size + b.size := by simp

theorem grew {a b c : World} (h : Below a.heap.size a b) (k : Below b.heap.size b c) : Below a.heap.size a c := h.trans (k.mono h.size)
theorem grew_drewN (w : World) (n : Nat) : Below w.heap.size w (w.drewN n) := below_drewN (Below.refl _ _) n
theorem grew_drew (w : World) : Below w.heap.size w w.drew := (Below.refl _ _).drew
theorem grew_alloc (w : World) (o : Obj) : Below w.heap.size w (w.alloc o) := (Below.refl _ _).alloc (Nat.le_refl _) _
theorem ret_two {k : IntKind} {a b : ByteArray} {x y : Int} (h : a = b) (g : x = y) : Ending.returned (.tuple #[.string a, .int k x]) = .returned (.tuple #[.string b, .int k y]) := by rw [h, g]
end Go.Proofs.Ytakjoodlediemaa
