/- A state and a key of the document's, as they are handed over. -/
import Derived.Test.YtakjoodlediemaaVecMake
import Derived.Test.YtakjoodlediemaaPairKey
import Derived.Deep.Slices
import Derived.Deep.Strs
import Derived.ChangeSlices
import Derived.OpenShut
namespace Go.Proofs.Ytakjoodlediemaa
open Go.ChangeShapes Go.WideShapes Go.ChangeAt Go.RowKit Go.Joins Go.Deep
set_option linter.unusedVariables false

section
variable {H : Type} {enc : TypeId × Value → H} {W : World} {n : Nat}
theorem trod_nume {sp : Nat → Bool} {c : Value} {l : List Value} {y : DataW H × List MemPlace} (h : DataW.trod enc Try.prog W 0 sp true n 3 l = some y) (hl : l = [c]) : ∃ x : Int, c = .int .i64 x ∧ I64 x := by
  subst hl
  obtain ⟨x, e, _, hw⟩ := DataW.trod_int Try.underlying3 h
  simp at e
  exact ⟨x, e, I64.of_wf hw⟩
theorem trod_row {c : Value} {l : List Value} {y : DataW H × List MemPlace} (h : DataW.trod enc Try.prog W 0 (fun _ => true) true n 22 l = some y) (hl : l = [c]) : ∃ zs, SliceI W c zs ∧ zs.length ≤ maxLen ∧ ∀ z ∈ zs, I64 z := by
  subst hl
  rcases open_ints Try.underlying22 Try.underlying3 (by kernel_rfl) h with ⟨hcs, _⟩ | ⟨x, l, cp, zs, hcs, _, hl, hm, hz, _, hcell, hwz⟩
  · simp at hcs
    subst hcs
    exact ⟨[], ⟨none, 0, rfl, by simp, .inl rfl⟩, by simp, by simp⟩
  · simp at hcs
    subst hcs
    obtain ⟨ys, h1, h2, h3, h4⟩ := IsRow.slice (a := some x) (len := l) (cap := cp) (zs := zs) (w := W) (.inr ⟨x, rfl, hl, hm, by simpa using hz, hcell, hwz⟩)
    exact ⟨ys, h1, by rw [h2]; exact h3, h4⟩
set_option maxRecDepth 100000 in
theorem open_state {b0 : Nat} {v : Value} {d : DataW H} {p : List MemPlace} (hv : Value.okWide Try.prog W .any b0 24 v) (h : DataW.Trod enc Try.prog W 0 (fun _ => true) true 24 v d p) :
    ∃ (lv kv : Value) (l kl : List Int) (z : Int), v = .agg #[lv, .int .i64 z, kv] ∧ SliceI W lv l ∧ SliceI W kv kl ∧ l.length ≤ maxLen ∧ kl.length ≤ maxLen ∧ I64 z ∧ (∀ x ∈ l, I64 x) ∧ ∀ x ∈ kl, I64 x := by
  have hI : Try.prog.cellsOf 3 = 1 := by kernel_rfl
  have hS : Try.prog.cellsOf 22 = 1 := by kernel_rfl
  have hC : Try.prog.cellsOf 24 = 3 := by kernel_rfl
  obtain ⟨cs, rfl, hsz⟩ := okWide_struct Try.underlying24 hv
  obtain ⟨l⟩ := cs
  match l, hsz.trans hC with
  | [c0, c1, c2], _ =>
    obtain ⟨fuel, hf⟩ := h
    obtain ⟨y0, y1, y2, m, _, _, h0, h1, h2⟩ := trod_struct3 Try.underlying24 hf
    obtain ⟨zs, a1, a2, a3⟩ := trod_row h0 (c := c0) (by show (List.drop 0 [c0, c1, c2]).take (Try.prog.cellsOf 22) = _; rw [hS]; rfl)
    obtain ⟨x, rfl, hx⟩ := trod_nume h1 (c := c1) (by show (List.drop 1 [c0, c1, c2]).take (Try.prog.cellsOf 3) = _; rw [hI]; rfl)
    obtain ⟨ks, b1, b2, b3⟩ := trod_row h2 (c := c2) (by show (List.drop 2 [c0, _, c2]).take (Try.prog.cellsOf 22) = _; rw [hS]; rfl)
    exact ⟨c0, c2, zs, ks, x, rfl, a1, b1, a2, b2, hx, a3, b3⟩
set_option maxRecDepth 100000 in
theorem open_key {b0 : Nat} {v : Value} {d : DataW H} {p : List MemPlace} (hv : Value.okWide Try.prog W .any b0 26 v) (h : DataW.Trod enc Try.prog W 0 (fun _ => true) true 26 v d p) : ∃ k r : Int, v = .agg #[.int .i64 k, .int .i64 r] ∧ I64 k ∧ I64 r := by
  have hI : Try.prog.cellsOf 3 = 1 := by kernel_rfl
  have hC : Try.prog.cellsOf 26 = 2 := by kernel_rfl
  obtain ⟨cs, rfl, hsz⟩ := okWide_struct Try.underlying26 hv
  obtain ⟨l⟩ := cs
  match l, hsz.trans hC with
  | [c0, c1], _ =>
    obtain ⟨fuel, hf⟩ := h
    obtain ⟨z0, z1, k', _, _, g0, g1⟩ := trod_struct2 Try.underlying26 hf
    obtain ⟨xa, rfl, ka⟩ := trod_nume g0 (c := c0) (by show (List.drop 0 [c0, c1]).take (Try.prog.cellsOf 3) = _; rw [hI]; rfl)
    obtain ⟨xb, rfl, kb⟩ := trod_nume g1 (c := c1) (by show (List.drop 1 [_, c1]).take (Try.prog.cellsOf 3) = _; rw [hI]; rfl)
    exact ⟨xa, xb, rfl, ka, kb⟩
end
end Go.Proofs.Ytakjoodlediemaa
