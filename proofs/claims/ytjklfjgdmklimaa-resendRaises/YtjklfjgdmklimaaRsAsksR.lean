/- What Asks and Same of the reference's stores come to. -/
import Derived.Test.YtjklfjgdmklimaaRsAsks
namespace Go.Proofs.Ytjklfjgdmklimaa
open Go.RowKit Go.Maps
set_option linter.unusedVariables false

/-- What a slice of Asks of one's own reads as. -/
theorem askCells_get {l : List (Int × Int)} {k : Nat} (hk : k < l.length) : (askCells l)[k * 2]? = some (.int .i64 l[k].1) ∧ (askCells l)[k * 2 + 1]? = some (.int .i64 l[k].2) := by
  induction l generalizing k with
  | nil => simp at hk
  | cons p l ih =>
    cases k with
    | zero => simp [askCells]
    | succ k =>
      have := ih (k := k) (by simpa using hk)
      have e1 : (k + 1) * 2 = k * 2 + 2 := by omega
      rw [e1]
      simpa [askCells] using this
theorem OwnA.read {w : World} {t : TypeId} {V : Value} {l : List (Int × Int)} (h : OwnA w t V l) : ∃ a cap, V = .slice a l.length cap ∧ (l = [] ∨ ∃ b, a = some ⟨b, 0, none⟩ ∧ b < w.heap.size ∧ ∀ k (hk : k < l.length), w.cell? ⟨b, k * 2, none⟩ = some (.int .i64 l[k].1) ∧ w.cell? ⟨b, k * 2 + 1, none⟩ = some (.int .i64 l[k].2)) := by
  rcases h.2 with ⟨e, h0⟩ | ⟨g, cap, cur, e, _⟩
  · exact ⟨none, 0, by rw [e, h0], .inl (List.eq_nil_of_length_eq_zero h0)⟩
  · subst e
    refine ⟨_, cap, rfl, .inr ⟨g, rfl, Owns.lt h rfl, fun k hk => ?_⟩⟩
    have h1 := World.ownsRow.cellAt h (k * 2) (by omega)
    have h2 := World.ownsRow.cellAt h (k * 2 + 1) (by omega)
    exact ⟨h1.trans (askCells_get hk).1, h2.trans (askCells_get hk).2⟩
theorem OwnA.below {w w' : World} {t : TypeId} {V : Value} {l : List (Int × Int)} (h : OwnA w t V l) (hb : Below w.heap.size w w') : OwnA w' t V l := Owns.keep h (Keep.of_grew hb Non) (fun _ _ h => h)

theorem take_extA {xs ys : List (Int × Int)} {k : Nat} (ha : k < xs.length) (hb : k < ys.length) (h : xs.take k = ys.take k) (e : xs[k] = ys[k]) : xs.take (k + 1) = ys.take (k + 1) := by
  rw [List.take_succ_eq_append_getElem ha, List.take_succ_eq_append_getElem hb, h, e]

end Go.Proofs.Ytjklfjgdmklimaa