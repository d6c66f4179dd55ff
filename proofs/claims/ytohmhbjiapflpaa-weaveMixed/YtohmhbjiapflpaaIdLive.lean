/- Some answers that the document gives of Ids. -/
import Derived.Test.YtohmhbjiapflpaaIdRef
import Derived.Deep.RegionHeld3
namespace Go.Proofs.Ytohmhbjiapflpaa
open Go.RowKit
set_option linter.unusedVariables false

theorem four_ids (w : World) (a b c d e f g h : Int) : SliceG 2 idL (w.alloc (.cells #[.int .i64 a, .int .i64 b, .int .i64 c, .int .i64 d, .int .i64 e, .int .i64 f, .int .i64 g, .int .i64 h] 24)) (.slice (some ⟨w.heap.size, 0, none⟩) 4 4) [(a, b), (c, d), (e, f), (g, h)] := by
  have hh := Holds.new w [.int .i64 a, .int .i64 b, .int .i64 c, .int .i64 d, .int .i64 e, .int .i64 f, .int .i64 g, .int .i64 h] 24
  refine IdRow.slice (g := w.heap.size) (ys := [(a, b), (c, d), (e, f), (g, h)]) (cap := 4) ⟨hh.lt, fun i hi => ?_⟩ (by simp)
  have hi' : i < 4 := by simpa using hi
  rcases (by omega : i = 0 ∨ i = 1 ∨ i = 2 ∨ i = 3) with rfl | rfl | rfl | rfl <;> exact ⟨⟨hh.cell _ (by simp), hh.cell _ (by simp)⟩, hh.frozen _, hh.frozen _⟩
theorem three_ids (w : World) (a b c d e f : Int) : SliceG 2 idL (w.alloc (.cells #[.int .i64 a, .int .i64 b, .int .i64 c, .int .i64 d, .int .i64 e, .int .i64 f] 24)) (.slice (some ⟨w.heap.size, 0, none⟩) 3 3) [(a, b), (c, d), (e, f)] := by
  have hh := Holds.new w [.int .i64 a, .int .i64 b, .int .i64 c, .int .i64 d, .int .i64 e, .int .i64 f] 24
  refine IdRow.slice (g := w.heap.size) (ys := [(a, b), (c, d), (e, f)]) (cap := 3) ⟨hh.lt, fun i hi => ?_⟩ (by simp)
  have hi' : i < 3 := by simpa using hi
  rcases (by omega : i = 0 ∨ i = 1 ∨ i = 2) with rfl | rfl | rfl <;> exact ⟨⟨hh.cell _ (by simp), hh.cell _ (by simp)⟩, hh.frozen _, hh.frozen _⟩

theorem live_order : Idn.IsOrder [(2, 1), (1, 5), (2, 0), (2, 1)] [(1, 5), (2, 0), (2, 1)] := ⟨by decide +kernel, fun x => by simp only [List.mem_cons, List.not_mem_nil, or_false]; exact ⟨fun h => by rcases h with h | h | h <;> simp [h], fun h => by rcases h with h | h | h | h <;> simp [h]⟩⟩

end Go.Proofs.Ytohmhbjiapflpaa