/- A list of numbers of the call's own, written in place. -/
import Derived.Test.YtjklfjgdmklimaaHdLive2
namespace Go.Proofs.Ytjklfjgdmklimaa
open Go.RowKit Go.Maps
set_option linter.unusedVariables false

/-- The block g holds the numbers cs, and perhaps more behind them. -/
def Clk (W : World) (g cap : Nat) (cs : List Int) : Prop := cs.length ≤ cap ∧ ∃ rest, Holds W g (intCells cs ++ rest) 3
theorem Clk.lt {W : World} {g cap : Nat} {cs : List Int} (h : Clk W g cap cs) : g < W.heap.size := by
  obtain ⟨_, rest, h⟩ := h
  exact h.lt
theorem Clk.cell {W : World} {g cap : Nat} {cs : List Int} (h : Clk W g cap cs) {j : Nat} (hj : j < cs.length) : W.cell? ⟨g, j, none⟩ = some (.int .i64 cs[j]) := by
  obtain ⟨_, rest, h⟩ := h
  have hl : j < (intCells cs).length := by simp [intCells]; exact hj
  rw [h.cell j (by rw [List.length_append]; omega), List.getElem_append_left hl]
  simp [intCells]
theorem Clk.frozen {W : World} {g cap : Nat} {cs : List Int} (h : Clk W g cap cs) (j : Nat) : W.frozen? ⟨g, j, none⟩ = false := by
  obtain ⟨_, rest, h⟩ := h
  exact h.frozen j
theorem Clk.slice {W : World} {g cap : Nat} {cs : List Int} (h : Clk W g cap cs) : SliceI W (.slice (some ⟨g, 0, none⟩) cs.length cap) cs := ⟨_, cap, rfl, h.1, .inr ⟨g, 0, rfl, h.lt, fun i hi => by rw [Nat.zero_add]; exact h.cell hi⟩⟩
theorem Clk.set {W : World} {g cap : Nat} {cs : List Int} (h : Clk W g cap cs) {j : Nat} (hj : j < cs.length) (v : Int) : Clk (W.setCell ⟨g, j, none⟩ (.int .i64 v)) g cap (cs.set j v) := by
  obtain ⟨h1, rest, h⟩ := h
  have hl : j < (intCells cs).length := by simp [intCells]; exact hj
  refine ⟨by rw [List.length_set]; exact h1, rest, ?_⟩
  have := h.set j (.int .i64 v) (by rw [List.length_append]; omega)
  rw [List.set_append_left _ _ hl] at this
  have e : (intCells cs).set j (.int .i64 v) = intCells (cs.set j v) := by unfold intCells; rw [List.map_set]
  rwa [e] at this
theorem Clk.keep {S : Nat → Prop} {W W' : World} {g cap : Nat} {cs : List Int} (h : Clk W g cap cs) (hk : Keep S W W') (hn : ¬ S g) : Clk W' g cap cs := by
  obtain ⟨h1, rest, h⟩ := h
  exact ⟨h1, rest, h.keep hk hn⟩
theorem Clk.below {W W' : World} {g cap : Nat} {cs : List Int} (h : Clk W g cap cs) (hb : Below W.heap.size W W') : Clk W' g cap cs := h.keep (Keep.of_grew hb Non) (fun h => h)
theorem Clk.of {W : World} {base : Nat} {r : Value} {cs : List Int} (h : OwnsI W base r cs) (h1 : 1 ≤ cs.length) : ∃ g cap, r = .slice (some ⟨g, 0, none⟩) cs.length cap ∧ base ≤ g ∧ Clk W g cap cs := by
  rcases h.2 with ⟨_, h0⟩ | ⟨g, cap, cur, rfl, hb, hg, hn, hm, hcs, ht⟩
  · omega
  · refine ⟨g, cap, rfl, hb, hn, cur.toList.drop (cs.length * 1), ?_⟩
    unfold Holds
    rw [← ht, List.take_append_drop]
    simpa using hg
end Go.Proofs.Ytjklfjgdmklimaa
