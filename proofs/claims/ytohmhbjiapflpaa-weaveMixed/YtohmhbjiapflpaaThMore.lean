/- Boxes and lists of numbers as things of the call's own. -/
import Derived.Test.YtohmhbjiapflpaaThings
import Derived.Test.YtohmhbjiapflpaaInts0
namespace Go.Proofs.Ytohmhbjiapflpaa
open Go.RowKit
set_option linter.unusedVariables false

/-- The block b holds just these cells. -/
def BoxV (b : Nat) (cs : List Value) (t : TypeId) : Th := fun w F => Holds w b cs t ∧ ∀ k, F k ↔ k = b
theorem BoxV.good (b : Nat) (cs : List Value) (t : TypeId) : Good (BoxV b cs t) := by
  refine ⟨fun ⟨h1, h2⟩ hk => ?_, fun ⟨h1, h2⟩ hk hn => ⟨h1.keep hk (hn b ((h2 b).2 rfl)), h2⟩⟩
  rw [(h2 _).1 hk]
  exact h1.lt
theorem Mine.box {Ts : List Th} {w0 w : World} {b : Nat} {cs : List Value} {t : TypeId} (h : Mine (BoxV b cs t :: Ts) w0 w) : Holds w b cs t := by
  obtain ⟨F, hF, _⟩ := h.first
  exact hF.1
theorem Mine.alloc {Ts : List Th} {w0 w : World} (h : Mine Ts w0 w) (cs : List Value) (t : TypeId) : Mine (BoxV w.heap.size cs t :: Ts) w0 (w.alloc (.cells cs.toArray t)) :=
  h.new (BoxV.good _ _ _) ⟨Holds.new w cs t, fun k => Iff.rfl⟩ (fun k hk => Nat.le_of_eq hk.symm) (grew_alloc _ _)
/-- The numbers zs, in v. -/
def IntsV (v : Value) (zs : List Int) : Th := fun w F => ∃ a cap, v = .slice a zs.length cap ∧ zs.length ≤ cap ∧ (zs = [] ∨ ∃ b off, a = some ⟨b, off, none⟩ ∧ F b ∧ ∀ i (h : i < zs.length), w.cell? ⟨b, off + i, none⟩ = some (.int .i64 zs[i])) ∧ ∀ k, F k → k < w.heap.size
theorem IntsV.good (v : Value) (zs : List Int) : Good (IntsV v zs) := by
  refine ⟨fun ⟨a, cap, h1, h2, h3, h4⟩ hk => h4 _ hk, fun ⟨a, cap, h1, h2, h3, h4⟩ hk hn => ⟨a, cap, h1, h2, ?_, fun k hF => Nat.lt_of_lt_of_le (h4 k hF) hk.size⟩⟩
  rcases h3 with h3 | ⟨b, off, e, hF, hc⟩
  · exact .inl h3
  · exact .inr ⟨b, off, e, hF, fun i hi => (hk.cell (h4 b hF) (hn b hF)).trans (hc i hi)⟩
theorem IntsV.slice {v : Value} {zs : List Int} {w : World} {F : Nat → Prop} (h : IntsV v zs w F) : SliceI w v zs := by
  obtain ⟨a, cap, h1, h2, h3, h4⟩ := h
  refine ⟨a, cap, h1, h2, ?_⟩
  rcases h3 with h3 | ⟨b, off, e, hF, hc⟩
  · exact .inl h3
  · exact .inr ⟨b, off, e, h4 b hF, hc⟩
theorem Mine.ints {Ts : List Th} {w0 w : World} {v : Value} {zs : List Int} (h : Mine (IntsV v zs :: Ts) w0 w) : SliceI w v zs := by
  obtain ⟨F, hF, _⟩ := h.first
  exact hF.slice
/-- A row of numbers, just made. -/
theorem Mine.row {Ts : List Th} {w0 w : World} (h : Mine Ts w0 w) (zs : List Int) : Mine (IntsV (.slice (some ⟨w.heap.size, 0, none⟩) zs.length zs.length) zs :: Ts) w0 (w.alloc (.cells (zs.map (Value.int .i64)).toArray 3)) := by
  refine h.new (F := fun k => k = w.heap.size) (IntsV.good _ _) ⟨_, _, rfl, Nat.le_refl _, .inr ⟨w.heap.size, 0, rfl, rfl, fun i hi => ?_⟩, fun k hk => ?_⟩ (fun k hk => Nat.le_of_eq hk.symm) (grew_alloc _ _)
  · rw [cell_of_row _ _ _ _ _ _ (heap_alloc_new _ _)]
    simp [hi]
  · rw [hk]
    simp
end Go.Proofs.Ytohmhbjiapflpaa
