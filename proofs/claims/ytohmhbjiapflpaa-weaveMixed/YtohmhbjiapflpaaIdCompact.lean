/- slices.Compact at Ids: of Ids that are the same, one behind the other, one stays. -/
import Derived.Test.YtohmhbjiapflpaaIdLay
import Derived.Test.YtohmhbjiapflpaaIdEq
import Derived.Lib.SlicesCompact
import Derived.Lib.SliceRun
namespace Go.Proofs.Ytohmhbjiapflpaa
open Go.RowKit
open Go.Lib (keeps compactUpTo CompInv keeps_lt_one keeps_pos keeps_neg compactUpTo_all range_map_get)
set_option linter.unusedVariables false

/-- The block g begins with the Ids d, and these may be written. -/
def IdRow (w : World) (g : Nat) (d : Array (Int × Int)) : Prop :=
  g < w.heap.size ∧ ∀ i, i < d.size → (w.cell? ⟨g, i * 2, none⟩ = some (.int .i64 d[i]!.1) ∧ w.cell? ⟨g, i * 2 + 1, none⟩ = some (.int .i64 d[i]!.2)) ∧ w.frozen? ⟨g, i * 2, none⟩ = false ∧ w.frozen? ⟨g, i * 2 + 1, none⟩ = false
theorem IdRow.keep {S : Nat → Prop} {w w' : World} {g : Nat} {d : Array (Int × Int)} (h : IdRow w g d) (hk : Keep S w w') (hn : ¬ S g) : IdRow w' g d :=
  ⟨Nat.lt_of_lt_of_le h.1 hk.size, fun i hi => by rw [hk.cell h.1 hn, hk.cell h.1 hn, hk.frozen h.1 hn, hk.frozen h.1 hn]; exact h.2 i hi⟩
theorem IdRow.set {w : World} {g : Nat} {d : Array (Int × Int)} (h : IdRow w g d) {k : Nat} (hk : k < d.size) (a b : Int) : IdRow ((w.setCell ⟨g, k * 2, none⟩ (.int .i64 a)).setCell ⟨g, k * 2 + 1, none⟩ (.int .i64 b)) g (d.setIfInBounds k (a, b)) := by
  refine ⟨by simpa [World.setCell] using h.1, fun i hi => ?_⟩
  have hi' : i < d.size := by simpa using hi
  obtain ⟨⟨c0, c1⟩, f0, f1⟩ := h.2 i hi'
  rw [World.frozen?_setCell, World.frozen?_setCell, World.frozen?_setCell, World.frozen?_setCell]
  refine ⟨?_, f0, f1⟩
  by_cases e : i = k
  · subst e
    have hg : (d.setIfInBounds i (a, b))[i]! = (a, b) := by simp [hi']
    rw [hg]
    constructor
    · rw [World.cell?_setCell_other _ _ _ _ (by simp), World.cell?_setCell_same _ _ _ c0]
    · exact World.cell?_setCell_same _ _ _ (u := .int .i64 d[i]!.2) (by rw [World.cell?_setCell_other _ _ _ _ (by simp)]; exact c1)
  · have hg : (d.setIfInBounds k (a, b))[i]! = d[i]! := by simp [Array.getElem!_eq_getD, Ne.symm e]
    rw [hg]
    constructor
    · rw [World.cell?_setCell_other _ _ _ _ (fun h => by have := congrArg Addr.off h; simp at this; omega), World.cell?_setCell_other _ _ _ _ (fun h => by have := congrArg Addr.off h; simp at this; omega)]; exact c0
    · rw [World.cell?_setCell_other _ _ _ _ (fun h => by have := congrArg Addr.off h; simp at this; omega), World.cell?_setCell_other _ _ _ _ (fun h => by have := congrArg Addr.off h; simp at this; omega)]; exact c1
theorem IdRow.cut {w : World} {g : Nat} {d d' : Array (Int × Int)} (h : IdRow w g d) (hs : d'.size ≤ d.size) (he : ∀ i, i < d'.size → d'[i]! = d[i]!) : IdRow w g d' := ⟨h.1, fun i hi => by rw [he i hi]; exact h.2 i (by omega)⟩

theorem run_clear_ids (w : World) (ty : TypeId) (g o n c : Nat) (hn : 0 < n) (hc : ∀ j, j < n * 2 → (w.cell? ⟨g, o + j, none⟩).isSome = true) (hf : ∀ j, j < n * 2 → w.frozen? ⟨g, o + j, none⟩ = false) :
    (Builtin.clear_ #[41] ty #[.slice (some ⟨g, o, none⟩) n c]).run Try.prog w = .ok (.tuple #[]) (w.setCells g o (List.replicate (n * 2) (.int .i64 0))) := by
  have hzc : (Builtin.zeroCells (Value.agg #[.int .i64 0, .int .i64 0]).cells n).toList = List.replicate (n * 2) (.int .i64 0) := by
    simp [Builtin.zeroCells, Value.cells]
    apply List.ext_getElem
    · simp
    · intro i h1 h2
      simp
      rcases Nat.mod_two_eq_zero_or_one i with e | e <;> simp [e]
  have hst := run_storeCells_cells (P := Try.prog) g o (List.replicate (n * 2) (Value.int .i64 0)) 0 w (by simpa using hc) (by simpa using hf) (by intro v hv'; rw [List.eq_of_mem_replicate hv']; rfl)
  simp only [Nat.add_zero] at hst
  obtain ⟨m, rfl⟩ : ∃ m, n = m + 1 := ⟨n - 1, by omega⟩
  simp [Builtin.clear_, run_underlying Try.underlying41, Try.zeroValue24, hzc, hst]

theorem keep_setCells (g : Nat) : ∀ (vs : List Value) (o : Nat) (w : World), Keep (Just g) w (w.setCells g o vs)
  | [], _, w => Keep.refl _ w
  | v :: vs, o, w => (Keep.setCell w g o v).trans (keep_setCells g vs (o + 1) _) (fun _ _ h => h)

/-- What Compact hands back of the row d: a row of the same block that begins with what stays. -/
structure CompOut (w : World) (g cap : Nat) (d : Array (Int × Int)) (r : Value) (w' : World) : Prop where
  val : r = .slice (some ⟨g, 0, none⟩) (compactUpTo d d.size).length cap
  row : IdRow w' g (compactUpTo d d.size).toArray
  keep : Keep (Just g) w w'

end Go.Proofs.Ytohmhbjiapflpaa