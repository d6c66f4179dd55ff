/- Two Vecs, a site and a number that are handed over as one struct: what it reads as. -/
import Derived.Test.YtbbjoaennnopoaaVecLive
import Derived.Lib.SmallJoins
import Derived.ChangeSlices
import Derived.OpenShut
namespace Go.Proofs.Ytbbjoaennnopoaa
open Go.ChangeShapes Go.WideShapes Go.ChangeAt Go.RowKit Go.Joins Go.Deep
set_option linter.unusedVariables false

/-- The value v is two Vecs, a site and a number. -/
def IsCase (W : World) (v u t : Value) (xs ys : List Int) (site seq : Int) : Prop := v = .agg #[u, t, .int .i64 site, .int .i64 seq] ∧ SliceI W u xs ∧ SliceI W t ys ∧ xs.length ≤ maxLen ∧ ys.length ≤ maxLen

section
variable {H : Type} {enc : TypeId × Value → H} {W : World} {sp : Nat → Bool} {n : Nat}
theorem trod_num {c : Value} {l : List Value} {y : DataW H × List MemPlace} (h : DataW.trod enc Try.prog W 0 sp true n 3 l = some y) (hl : l = [c]) : ∃ x : Int, c = .int .i64 x := by
  subst hl
  obtain ⟨x, e, _⟩ := DataW.trod_int Try.underlying3 h
  simp at e
  exact ⟨x, e⟩
theorem trod_know {c : Value} {l : List Value} {y : DataW H × List MemPlace} (h : DataW.trod enc Try.prog W 0 (fun _ => true) true n 22 l = some y) (hl : l = [c]) : ∃ zs, SliceI W c zs ∧ zs.length ≤ maxLen := by
  subst hl
  rcases open_ints Try.underlying22 Try.underlying3 (by kernel_rfl) h with ⟨hcs, _⟩ | ⟨x, l, cp, zs, hcs, _, hl, hm, hz, _, hcell, hwz⟩
  · simp at hcs
    subst hcs
    exact ⟨[], SliceI.none _, by simp⟩
  · simp at hcs
    subst hcs
    obtain ⟨ys, h1, h2, h3, _⟩ := IsRow.slice (a := some x) (len := l) (cap := cp) (zs := zs) (w := W) (.inr ⟨x, rfl, hl, hm, by simpa using hz, hcell, hwz⟩)
    exact ⟨ys, h1, by rw [h2]; exact h3⟩

theorem open_case {b0 : Nat} {v : Value} {d : DataW H} {p : List MemPlace} (hv : Value.okWide Try.prog W .any b0 24 v) (h : DataW.Trod enc Try.prog W 0 (fun _ => true) true 24 v d p) :
    ∃ (u t : Value) (xs ys : List Int) (site seq : Int), IsCase W v u t xs ys site seq := by
  have hI : Try.prog.cellsOf 3 = 1 := by kernel_rfl
  have hS : Try.prog.cellsOf 22 = 1 := by kernel_rfl
  have hC : Try.prog.cellsOf 24 = 4 := by kernel_rfl
  obtain ⟨cs, rfl, hsz⟩ := okWide_struct Try.underlying24 hv
  obtain ⟨l⟩ := cs
  match l, hsz.trans hC with
  | [c0, c1, c2, c3], _ =>
    obtain ⟨fuel, hf⟩ := h
    obtain ⟨y0, y1, y2, y3, m, _, _, h0, h1, h2, h3⟩ := trod_struct4 Try.underlying24 hf
    obtain ⟨xs, k1, k2⟩ := trod_know h0 (c := c0) (by show (List.drop 0 [c0, c1, c2, c3]).take (Try.prog.cellsOf 22) = _; rw [hS]; rfl)
    obtain ⟨ys, k3, k4⟩ := trod_know h1 (c := c1) (by show (List.drop 1 [c0, c1, c2, c3]).take (Try.prog.cellsOf 22) = _; rw [hS]; rfl)
    obtain ⟨x2, rfl⟩ := trod_num h2 (c := c2) (by show (List.drop 2 [c0, c1, c2, c3]).take (Try.prog.cellsOf 3) = _; rw [hI]; rfl)
    obtain ⟨x3, rfl⟩ := trod_num h3 (c := c3) (by show (List.drop 3 [c0, c1, _, c3]).take (Try.prog.cellsOf 3) = _; rw [hI]; rfl)
    exact ⟨c0, c1, xs, ys, x2, x3, rfl, k1, k3, k2, k4⟩

theorem open_look {b0 : Nat} {v : Value} {d : DataW H} {p : List MemPlace} (hv : Value.okWide Try.prog W .any b0 47 v) (h : DataW.Trod enc Try.prog W 0 (fun _ => true) true 47 v d p) :
    ∃ (u t : Value) (xs ys : List Int) (site seq : Int), IsCase W v u t xs ys site seq := by
  have hI : Try.prog.cellsOf 3 = 1 := by kernel_rfl
  have hS : Try.prog.cellsOf 22 = 1 := by kernel_rfl
  have hC : Try.prog.cellsOf 47 = 4 := by kernel_rfl
  obtain ⟨cs, rfl, hsz⟩ := okWide_struct Try.underlying47 hv
  obtain ⟨l⟩ := cs
  match l, hsz.trans hC with
  | [c0, c1, c2, c3], _ =>
    obtain ⟨fuel, hf⟩ := h
    obtain ⟨y0, y1, y2, y3, m, _, _, h0, h1, h2, h3⟩ := trod_struct4 Try.underlying47 hf
    obtain ⟨xs, k1, k2⟩ := trod_know h0 (c := c0) (by show (List.drop 0 [c0, c1, c2, c3]).take (Try.prog.cellsOf 22) = _; rw [hS]; rfl)
    obtain ⟨ys, k3, k4⟩ := trod_know h1 (c := c1) (by show (List.drop 1 [c0, c1, c2, c3]).take (Try.prog.cellsOf 22) = _; rw [hS]; rfl)
    obtain ⟨x2, rfl⟩ := trod_num h2 (c := c2) (by show (List.drop 2 [c0, c1, c2, c3]).take (Try.prog.cellsOf 3) = _; rw [hI]; rfl)
    obtain ⟨x3, rfl⟩ := trod_num h3 (c := c3) (by show (List.drop 3 [c0, c1, _, c3]).take (Try.prog.cellsOf 3) = _; rw [hI]; rfl)
    exact ⟨c0, c1, xs, ys, x2, x3, rfl, k1, k3, k2, k4⟩
end
end Go.Proofs.Ytbbjoaennnopoaa
