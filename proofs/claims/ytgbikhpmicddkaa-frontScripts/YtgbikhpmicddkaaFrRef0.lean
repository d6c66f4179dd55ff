/- The reference's front: a row for each site, in a list of its own. -/
import Derived.Test.YtgbikhpmicddkaaFrOne0
import Derived.Test.YtgbikhpmicddkaaStepApp
namespace Go.Proofs.Ytgbikhpmicddkaa
open Go.RowKit
set_option linter.unusedVariables false

/-- The reference's front at q: its rows lie in the block g, in us. -/
structure IsRefW (w : World) (q g cap : Nat) (us : List Value) (rows : List (List Int)) : Prop where
  box : Holds w q [.slice (some ⟨g, 0, none⟩) rows.length cap] 50
  own : Owns w 30 1 (.slice (some ⟨g, 0, none⟩) rows.length cap) rows.length us
  vec : ∀ i (h : i < rows.length) (h' : i < us.length), SliceI w us[i] rows[i]
  may : ∀ r ∈ rows, Vecs.may r = true ∧ r.length = rows.length
  sites : 1 ≤ rows.length ∧ rows.length ≤ 16

theorem IsRefW.len {w : World} {q g cap : Nat} {us : List Value} {rows : List (List Int)} (h : IsRefW w q g cap us rows) : us.length = rows.length := by
  have := h.own.1
  omega
theorem IsRefW.row {w : World} {q g cap : Nat} {us : List Value} {rows : List (List Int)} (h : IsRefW w q g cap us rows) : ∃ cur : List Value, Holds w g cur 30 ∧ cur.take rows.length = us ∧ cur.length = cap ∧ rows.length ≤ cap ∧ cap ≤ maxLen := by
  rcases h.own.2 with ⟨h0, _⟩ | ⟨g', cap', cur, e, _, hg, hn, hm, hc, ht⟩
  · cases h0
  · injection e with e1 e2 e3
    injection e1 with e1
    injection e1 with e1
    subst e1
    subst e3
    exact ⟨cur.toList, by unfold Holds; rw [hg], by rw [← ht, Nat.mul_one], by rw [Array.length_toList, hc, Nat.mul_one], hn, hm⟩
theorem IsRefW.below {w w' : World} {q g cap : Nat} {us : List Value} {rows : List (List Int)} (h : IsRefW w q g cap us rows) (hb : Below w.heap.size w w') : IsRefW w' q g cap us rows :=
  ⟨h.box.keep (Keep.of_grew hb Non) (fun h => h), Owns.keep h.own (Keep.of_grew hb Non) (fun _ _ h => h), fun i h1 h2 => (h.vec i h1 h2).below hb, h.may, h.sites⟩
theorem IsRefW.cell {w : World} {q g cap : Nat} {us : List Value} {rows : List (List Int)} (h : IsRefW w q g cap us rows) {i : Nat} (hi : i < rows.length) (hi' : i < us.length) : w.cell? ⟨g, i, none⟩ = some us[i] := by
  obtain ⟨cur, h1, h2, h3, h4, _⟩ := h.row
  have := h1.cell i (by omega)
  rw [this]
  subst h2
  simp
theorem IsRefW.frozen {w : World} {q g cap : Nat} {us : List Value} {rows : List (List Int)} (h : IsRefW w q g cap us rows) (i : Nat) : w.frozen? ⟨g, i, none⟩ = false := by
  obtain ⟨cur, h1, _⟩ := h.row
  exact h1.frozen i
/-- A list of numbers has no cell that holds a slice. -/
theorem slice_over {w : World} {v : Value} {zs : List Int} (h : SliceI w v zs) {g i : Nat} {a : Option Addr} {n c : Nat} (hc : w.cell? ⟨g, i, none⟩ = some (.slice a n c)) (u : Value) : SliceI (w.setCell ⟨g, i, none⟩ u) v zs := by
  obtain ⟨va, vc, rfl, hcap, h⟩ := h
  refine ⟨va, vc, rfl, hcap, ?_⟩
  rcases h with h | ⟨b, off, rfl, hlt, hcell⟩
  · exact .inl h
  · refine .inr ⟨b, off, rfl, by simpa [World.setCell] using hlt, fun j hj => ?_⟩
    have h1 := hcell j hj
    rw [World.cell?_setCell_other _ _ _ _ (fun e => ?_)]
    · exact h1
    · rw [e, h1] at hc
      cases hc
theorem Holds.apart {w : World} {p g : Nat} {cs ds : List Value} {s t : TypeId} (h : Holds w p cs s) (k : Holds w g ds t) (hst : s ≠ t) : p ≠ g := fun e => by
  have h1 : w.heap[p]? = some _ := h
  have h2 : w.heap[g]? = some _ := k
  rw [e, h2] at h1
  have h3 := Option.some.inj h1
  injection h3 with _ h4
  exact hst h4.symm
theorem IsRefW.set {w : World} {q g cap : Nat} {us : List Value} {rows : List (List Int)} (h : IsRefW w q g cap us rows) {i : Nat} (hi : i < rows.length) {v : Value} {z : List Int} (hv : SliceI w v z) (hz : Vecs.may z = true) (hl : z.length = rows.length) : IsRefW (w.setCell ⟨g, i, none⟩ v) q g cap (us.set i v) (rows.set i z) := by
  obtain ⟨cur, h1, h2, h3, h4, h5⟩ := h.row
  have hul := h.len
  have hk : Keep (Just g) w (w.setCell ⟨g, i, none⟩ v) := Keep.setCell w g i v
  have hq : q ≠ g := h.box.apart h1 (by decide)
  have hc := h.cell hi (by omega)
  obtain ⟨a, n, e⟩ := (h.vec i hi (by omega)).shape
  rw [e] at hc
  refine ⟨by rw [List.length_set]; exact h.box.keep hk (fun e => hq e), ?_, fun j hj hj' => ?_, fun r hr => ?_, by rw [List.length_set]; exact h.sites⟩
  · rw [List.length_set]
    have h6 := h1.set i v (by omega)
    refine ⟨by rw [List.length_set]; omega, .inr ⟨g, cap, (cur.set i v).toArray, rfl, Nat.zero_le _, h6, h4, h5, by simp [h3], ?_⟩⟩
    rw [List.toList_toArray, Nat.mul_one, List.take_set, h2]
  · rw [List.length_set] at hj hj'
    rw [List.getElem_set, List.getElem_set]
    split
    · exact slice_over hv hc v
    · exact slice_over (h.vec j hj hj') hc v
  · rw [List.length_set]
    rcases List.mem_or_eq_of_mem_set hr with hr | rfl
    · exact h.may r hr
    · exact ⟨hz, hl⟩

/-- What may turn: nothing that lay there; or behind that one slice put in another one's place in the block g. -/
def Over (g : Nat) (w w' : World) : Prop := ∃ w1, Below w.heap.size w w1 ∧ (w' = w1 ∨ ∃ i u a n c cur, w1.cell? ⟨g, i, none⟩ = some (.slice a n c) ∧ Holds w1 g cur 30 ∧ w' = w1.setCell ⟨g, i, none⟩ u)
theorem Over.of {g : Nat} {w w' : World} (h : Below w.heap.size w w') : Over g w w' := ⟨w', h, .inl rfl⟩
theorem Over.ints {g : Nat} {w w' : World} (h : Over g w w') {v : Value} {zs : List Int} (hv : SliceI w v zs) : SliceI w' v zs := by
  obtain ⟨w1, hb, rfl | ⟨i, u, a, n, c, cur, hc, _, rfl⟩⟩ := h
  · exact hv.below hb
  · exact slice_over (hv.below hb) hc u
theorem Over.front {g : Nat} {w w' : World} (h : Over g w w') {p rb rc : Nat} {vs : List Value} {rows : List (List Int)} (hf : IsFrontW w p rb rc vs rows) : IsFrontW w' p rb rc vs rows := by
  obtain ⟨w1, hb, rfl | ⟨i, u, a, n, c, cur, hc, hh, rfl⟩⟩ := h
  · exact hf.below hb
  · have hf := hf.below hb
    have hk : Keep (Just g) w1 (w1.setCell ⟨g, i, none⟩ u) := Keep.setCell w1 g i u
    have h1 : p ≠ g := hf.box.apart hh (by decide)
    have h2 : rb ≠ g := hf.row.apart hh (by decide)
    exact ⟨hf.box.keep hk (fun e => h1 e), hf.row.keep hk (fun e => h2 e), hf.len, fun j hj => slice_over (hf.vec j hj) hc u, hf.may, hf.sites⟩
theorem Over.bel {g : Nat} {w0 w w' : World} (h : Over g w w') (hg : w0.heap.size ≤ g) (hb : Below w0.heap.size w0 w) : Below w0.heap.size w0 w' := by
  obtain ⟨w1, h1, rfl | ⟨i, u, a, n, c, cur, hc, hh, rfl⟩⟩ := h
  · exact grew hb h1
  · exact (grew hb h1).trans ((Keep.setCell w1 g i u).below (grew hb h1).size (fun j e => by have e : j = g := e; omega))
/-- What the other front turns. -/
theorem IsRefW.keep {w w' : World} {q g cap : Nat} {us : List Value} {rows : List (List Int)} (h : IsRefW w q g cap us rows) {rb : Nat} {vs : List Value} (hr : Holds w rb vs 37) (hs : ∀ u ∈ vs, ∃ a n c, u = .slice a n c) (hk : Keep (Just rb) w w') : IsRefW w' q g cap us rows := by
  obtain ⟨cur, h1, h2, h3, h4, h5⟩ := h.row
  have hq : q ≠ rb := h.box.apart hr (by decide)
  have hg : g ≠ rb := h1.apart hr (by decide)
  refine ⟨h.box.keep hk (fun e => hq e), Owns.keep h.own hk (fun g' e e' => ?_), fun i hi hi' => (h.vec i hi hi').keep hk (fun g' hg' e => (h.vec i hi hi').no_row ?_ hr hs (hg'.trans (congrArg some e))), h.may, h.sites⟩
  · have e : some g = some g' := e
    injection e with e
    subst e
    exact hg e'
  · rw [(h.may _ (List.getElem_mem hi)).2]
    exact h.sites.1
end Go.Proofs.Ytgbikhpmicddkaa
