/- Len, New, and no line. -/
import Derived.Test.YtohmhbjiapflpaaWvInsert
namespace Go.Proofs.Ytohmhbjiapflpaa
open Go.RowKit Go.Maps
set_option linter.unusedVariables false

set_option maxRecDepth 100000 in
theorem weave_New (w : World) : Calls Try.prog 14 #[] w fun e w' => e = .returned (.pointer (some ⟨w.heap.size, 0, none⟩)) ∧ IsLine w' (fun k => k = w.heap.size) w.heap.size [] ∧ Below w.heap.size w w' := by
  have H := Lib.hid (Holds.new w [.map none, .map none] 84)
  have hz : (w.alloc (.cells #[.map none, .map none] 84)).heap.size = w.heap.size + 1 := Array.size_push _
  have HZ := Lib.hid hz
  have HB := Lib.hid (grew_alloc w (.cells #[.map none, .map none] 84))
  clear hz
  go_enter Try.func14, Try.ntmps14
  go_wp2
  go_ret
  exact ⟨rfl, ⟨rfl, fun k hk => by rw [hk]; exact H.out.lt, .inl ⟨rfl, H.out⟩⟩, HB.out⟩

set_option maxRecDepth 100000 in
theorem weave_Len {w : World} {p : Nat} {L : List Wel} (h : LRead w p L) : Calls Try.prog 27 #[.pointer (some ⟨p, 0, none⟩)] w fun e w' => e = .returned (.int .i64 (L.length : Nat)) ∧ Below w.heap.size w w' := by
  obtain ⟨mh, mk, hbox, _, _, _, hlen⟩ := h.maps
  have hl := hlen w (Below.refl _ _)
  have c0 := hbox.cell 0 (by simp)
  simp only [List.getElem_cons_zero] at c0
  clear hlen hbox h
  go_enter Try.func27, Try.ntmps27
  go_wp2
  go_ret
  exact ⟨rfl, Below.refl _ _⟩

set_option maxRecDepth 100000 in
theorem weave_Len_nil (w : World) : Calls Try.prog 27 #[.pointer none] w fun e w' => e = .returned (.int .i64 0) ∧ Below w.heap.size w w' := by
  go_enter Try.func27, Try.ntmps27
  go_wp2
  go_ret
  exact ⟨rfl, Below.refl _ _⟩

set_option maxRecDepth 100000 in
theorem weave_Insert_nil (x ref : Int × Int) (r : Int) (w : World) : Calls Try.prog 17 #[.pointer none, idV x, idV ref, .int .i64 r] w fun e w' => e = .returned (.int .i64 1) ∧ Below w.heap.size w w' := by
  have HB := Lib.hid (grew (grew_alloc w (.cells #[.int .i64 x.1, .int .i64 x.2] 24)) (grew_alloc _ (.cells #[.int .i64 ref.1, .int .i64 ref.2] 24)))
  simp only [idV]
  go_enter Try.func17, Try.ntmps17
  go_wp2
  go_ret
  exact ⟨rfl, HB.out⟩

set_option maxRecDepth 100000 in
theorem weave_Drop_nil (x : Int × Int) (w : World) : Calls Try.prog 15 #[.pointer none, idV x] w fun e w' => e = .returned (.int .i64 1) ∧ Below w.heap.size w w' := by
  have HB := Lib.hid (grew_alloc w (.cells #[.int .i64 x.1, .int .i64 x.2] 24))
  simp only [idV]
  go_enter Try.func15, Try.ntmps15
  go_wp2
  go_ret
  exact ⟨rfl, HB.out⟩

set_option maxRecDepth 100000 in
theorem weave_Place_nil (x : Int × Int) (w : World) : Calls Try.prog 19 #[.pointer none, idV x] w fun e w' => e = .returned (.tuple #[.int .i64 0, .bool false]) ∧ Below w.heap.size w w' := by
  simp only [idV]
  go_enter Try.func19, Try.ntmps19
  go_wp2
  go_ret2
  exact ⟨rfl, grew_alloc _ _⟩

set_option maxRecDepth 100000 in
theorem weave_Elements_nil (w : World) : Calls Try.prog 22 #[.pointer none] w fun e w' => e = .returned (.slice none 0 0) ∧ Below w.heap.size w w' := by
  go_enter Try.func22, Try.ntmps22
  go_wp2
  go_ret
  exact ⟨rfl, Below.refl _ _⟩

set_option maxRecDepth 100000 in
theorem weave_Kids_nil (x : Int × Int) (w : World) : Calls Try.prog 25 #[.pointer none, idV x] w fun e w' => e = .returned (.slice none 0 0) ∧ Below w.heap.size w w' := by
  simp only [idV]
  go_enter Try.func25, Try.ntmps25
  go_wp2
  go_ret
  exact ⟨rfl, grew_alloc _ _⟩
end Go.Proofs.Ytohmhbjiapflpaa
