/- What is heard, as it is handed over; a front that is none. -/
import Derived.Test.YtgbikhpmicddkaaFrLive
import Derived.Deep.Slices
import Derived.ChangeSlices
import Derived.OpenShut
namespace Go.Proofs.Ytgbikhpmicddkaa
open Go.ChangeShapes Go.WideShapes Go.ChangeAt Go.RowKit Go.Joins Go.Deep
set_option linter.unusedVariables false

/-- What is heard of a site. -/
structure FOp where
  site : Int
  u : Value
  zs : List Int
def FOp.cells (o : FOp) : List Value := [.int .i64 o.site, o.u]
def FOp.ok (W : World) (o : FOp) : Prop := SliceI W o.u o.zs ∧ o.zs.length ≤ maxLen

section
variable {H : Type} {enc : TypeId × Value → H} {W : World} {n : Nat}
theorem trod_numf {sp : Nat → Bool} {c : Value} {l : List Value} {y : DataW H × List MemPlace} (h : DataW.trod enc Try.prog W 0 sp true n 3 l = some y) (hl : l = [c]) : ∃ x : Int, c = .int .i64 x := by
  subst hl
  obtain ⟨x, e, _⟩ := DataW.trod_int Try.underlying3 h
  simp at e
  exact ⟨x, e⟩
theorem trod_knowf {c : Value} {l : List Value} {y : DataW H × List MemPlace} (h : DataW.trod enc Try.prog W 0 (fun _ => true) true n 30 l = some y) (hl : l = [c]) : ∃ zs, SliceI W c zs ∧ zs.length ≤ maxLen := by
  subst hl
  rcases open_ints Try.underlying30 Try.underlying3 (by kernel_rfl) h with ⟨hcs, _⟩ | ⟨x, l, cp, zs, hcs, _, hl, hm, hz, _, hcell, hwz⟩
  · simp at hcs
    subst hcs
    exact ⟨[], ⟨none, 0, rfl, by simp, .inl rfl⟩, by simp⟩
  · simp at hcs
    subst hcs
    obtain ⟨ys, h1, h2, h3, _⟩ := IsRow.slice (a := some x) (len := l) (cap := cp) (zs := zs) (w := W) (.inr ⟨x, rfl, hl, hm, by simpa using hz, hcell, hwz⟩)
    exact ⟨ys, h1, by rw [h2]; exact h3⟩
set_option maxRecDepth 100000 in
theorem trod_fop {cs : List Value} {y : DataW H × List MemPlace} (h : DataW.trod enc Try.prog W 0 (fun _ => true) true n 32 cs = some y) (hl : cs.length = 2) : ∃ o : FOp, cs = o.cells ∧ o.ok W := by
  have hI : Try.prog.cellsOf 3 = 1 := by kernel_rfl
  have hS : Try.prog.cellsOf 30 = 1 := by kernel_rfl
  match cs, hl with
  | [c0, c1], _ =>
    obtain ⟨z0, z1, k', _, _, g0, g1⟩ := trod_struct2 Try.underlying32 h
    obtain ⟨xa, rfl⟩ := trod_numf g0 (c := c0) (by show (List.drop 0 [c0, c1]).take (Try.prog.cellsOf 3) = _; rw [hI]; rfl)
    obtain ⟨zs, k1, k2⟩ := trod_knowf g1 (c := c1) (by show (List.drop 1 [_, c1]).take (Try.prog.cellsOf 30) = _; rw [hS]; rfl)
    exact ⟨⟨xa, c1, zs⟩, rfl, k1, k2⟩
set_option maxRecDepth 100000 in
theorem open_fop {b0 : Nat} {v : Value} {d : DataW H} {p : List MemPlace} (hv : Value.okWide Try.prog W .any b0 32 v) (h : DataW.Trod enc Try.prog W 0 (fun _ => true) true 32 v d p) : ∃ o : FOp, v = .agg o.cells.toArray ∧ o.ok W := by
  have hC : Try.prog.cellsOf 32 = 2 := by kernel_rfl
  obtain ⟨cs, rfl, hsz⟩ := okWide_struct Try.underlying32 hv
  obtain ⟨fuel, hf⟩ := h
  obtain ⟨o, ho, hok⟩ := trod_fop hf (by simpa [Value.cells] using hsz.trans hC)
  refine ⟨o, ?_, hok⟩
  have : cs.toList = o.cells := by simpa [Value.cells] using ho
  rw [← this]
end

end Go.Proofs.Ytgbikhpmicddkaa