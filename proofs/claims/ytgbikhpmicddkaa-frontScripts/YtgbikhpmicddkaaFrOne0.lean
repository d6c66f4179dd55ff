/- Lists of lists of the call's own. -/
import Derived.Test.YtgbikhpmicddkaaFrOnward
namespace Go.Proofs.Ytgbikhpmicddkaa
open Go.RowKit
set_option linter.unusedVariables false

theorem info_ints : (Try.prog.info? 30).map (fun i => (i.zero, i.size, i.bytes)) = some (some (.slice none 0 0), 1, 24) := by kernel_rfl

/-- The slice V is the call's own; its cells us are slices that hold the lists ls. -/
structure OwnV (w : World) (V : Value) (us : List Value) (ls : List (List Int)) : Prop where
  own : Owns w 30 1 V us.length us
  len : us.length = ls.length
  is : ∀ i (h : i < ls.length), SliceI w (us[i]'(by omega)) ls[i]
  pos : ∀ l ∈ ls, 1 ≤ l.length
theorem OwnV.nil (w : World) : OwnV w (.slice none 0 0) [] [] := ⟨Owns.nil _ _ _, rfl, fun i h => by simp at h, fun l h => by simp at h⟩
theorem OwnV.slices {w : World} {V : Value} {us : List Value} {ls : List (List Int)} (h : OwnV w V us ls) : ∀ u ∈ us, ∃ a n c, u = .slice a n c := fun u hu => by
  obtain ⟨i, hi, rfl⟩ := List.getElem_of_mem hu
  obtain ⟨a, c, e⟩ := (h.is i (by rw [← h.len]; exact hi)).shape
  exact ⟨a, _, c, e⟩
theorem OwnV.below {w w' : World} {V : Value} {us : List Value} {ls : List (List Int)} (h : OwnV w V us ls) (hb : Below w.heap.size w w') : OwnV w' V us ls :=
  ⟨Owns.keep h.own (Keep.of_grew hb Non) (fun _ _ h => h), h.len, fun i hi => (h.is i hi).below hb, h.pos⟩
/-- A list of numbers does not lie where slices lie. -/
theorem OwnV.off {w : World} {V : Value} {us : List Value} {ls : List (List Int)} (h : OwnV w V us ls) {v : Value} {zs : List Int} (hv : SliceI w v zs) (h1 : 1 ≤ zs.length) (hz : ∀ g cap cur, V = .slice (some ⟨g, 0, none⟩) us.length cap → w.heap[g]? = some (.cells cur 30 (0, 0)) → ∀ u ∈ cur.toList, ∃ a n c, u = .slice a n c) : ∀ g, V.ownBlock = some g → v.ownBlock ≠ some g := by
  intro g hg e
  rcases h.own.2 with ⟨rfl, _⟩ | ⟨g', cap, cur, rfl, _, hc, _⟩
  · cases hg
  · have : g' = g := Option.some.inj hg
    subst this
    exact hv.no_row h1 (show Holds w g' cur.toList 30 by unfold Holds; rw [hc]) (hz g' cap cur rfl hc) e
theorem OwnV.row {w : World} {V : Value} {us : List Value} {ls : List (List Int)} (h : OwnV w V us ls) : ∃ a cap, V = .slice a us.length cap := by
  rcases h.own.2 with ⟨rfl, h0⟩ | ⟨g, cap, cur, rfl, _⟩
  · exact ⟨none, 0, by rw [h0]⟩
  · exact ⟨_, cap, rfl⟩
end Go.Proofs.Ytgbikhpmicddkaa
