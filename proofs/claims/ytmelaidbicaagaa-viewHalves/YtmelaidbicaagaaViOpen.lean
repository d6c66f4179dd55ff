/- Elements as they are handed over. -/
import Derived.Test.YtmelaidbicaagaaViLive
import Derived.Lib.SmallJoins
import Derived.Deep.Slices
import Derived.ChangeSlices
import Derived.OpenShut
namespace Go.Proofs.Ytmelaidbicaagaa
open Go.ChangeShapes Go.WideShapes Go.ChangeAt Go.RowKit Go.Joins Go.Deep
set_option linter.unusedVariables false

section
variable {H : Type} {enc : TypeId × Value → H} {W : World} {n : Nat}
theorem trod_numv {c : Value} {l : List Value} {y : DataW H × List MemPlace} (h : DataW.trod enc Try.prog W 0 (fun _ => true) true n 3 l = some y) (hl : l = [c]) : ∃ x : Int, c = .int .i64 x := by
  subst hl
  obtain ⟨x, e, _⟩ := DataW.trod_int Try.underlying3 h
  simp at e
  exact ⟨x, e⟩
theorem trod_idv {c d : Value} {l : List Value} {y : DataW H × List MemPlace} (h : DataW.trod enc Try.prog W 0 (fun _ => true) true n 24 l = some y) (hl : l = [c, d]) : ∃ x z : Int, c = .int .i64 x ∧ d = .int .i64 z := by
  subst hl
  have hI : Try.prog.cellsOf 3 = 1 := by kernel_rfl
  obtain ⟨y0, y1, m, _, _, h0, h1⟩ := trod_struct2 Try.underlying24 h
  obtain ⟨x, rfl⟩ := trod_numv h0 (c := c) (by show (List.drop 0 [c, d]).take (Try.prog.cellsOf 3) = _; rw [hI]; rfl)
  obtain ⟨z, rfl⟩ := trod_numv h1 (c := d) (by show (List.drop 1 [_, d]).take (Try.prog.cellsOf 3) = _; rw [hI]; rfl)
  exact ⟨x, z, rfl, rfl⟩
theorem trod_users {c : Value} {l : List Value} {y : DataW H × List MemPlace} (h : DataW.trod enc Try.prog W 0 (fun _ => true) true n 38 l = some y) (hl : l = [c]) : ∃ a n k, c = .slice a n k ∧ n ≤ maxLen := by
  subst hl
  rcases open_ints Try.underlying38 Try.underlying3 (by kernel_rfl) h with ⟨hcs, _⟩ | ⟨x, l, cp, zs, hcs, _, hl, hm, hz, _, hcell, hwz⟩
  · simp at hcs
    exact ⟨none, 0, 0, hcs, by simp⟩
  · simp at hcs
    exact ⟨some x, l, cp, hcs, Nat.le_trans hl hm⟩
set_option maxRecDepth 100000 in
theorem trod_el {cs : List Value} {y : DataW H × List MemPlace} (h : DataW.trod enc Try.prog W 0 (fun _ => true) true n 44 cs = some y) (hl : cs.length = 6) : ∃ o : El, cs = o.cells ∧ o.un ≤ maxLen := by
  have hI : Try.prog.cellsOf 3 = 1 := by kernel_rfl
  have hS : Try.prog.cellsOf 38 = 1 := by kernel_rfl
  have hD : Try.prog.cellsOf 24 = 2 := by kernel_rfl
  match cs, hl with
  | [c0, c1, c2, c3, c4, c5], _ =>
    obtain ⟨y0, y1, y2, y3, m, _, _, h0, h1, h2, h3⟩ := trod_struct4 Try.underlying44 h
    obtain ⟨x0, x1, rfl, rfl⟩ := trod_idv h0 (c := c0) (d := c1) (by show (List.drop 0 [c0, c1, c2, c3, c4, c5]).take (Try.prog.cellsOf 24) = _; rw [hD]; rfl)
    obtain ⟨x2, x3, rfl, rfl⟩ := trod_idv h1 (c := c2) (d := c3) (by show (List.drop 2 [_, _, c2, c3, c4, c5]).take (Try.prog.cellsOf 24) = _; rw [hD]; rfl)
    obtain ⟨x4, rfl⟩ := trod_numv h2 (c := c4) (by show (List.drop 4 [_, _, _, _, c4, c5]).take (Try.prog.cellsOf 3) = _; rw [hI]; rfl)
    obtain ⟨a, k, c, rfl, hk⟩ := trod_users h3 (c := c5) (by show (List.drop 5 [_, _, _, _, _, c5]).take (Try.prog.cellsOf 38) = _; rw [hS]; rfl)
    exact ⟨⟨x0, x1, x2, x3, x4, a, k, c⟩, rfl, hk⟩
set_option maxRecDepth 100000 in
theorem open_el {b0 : Nat} {v : Value} {d : DataW H} {p : List MemPlace} (hv : Value.okWide Try.prog W .any b0 44 v) (h : DataW.Trod enc Try.prog W 0 (fun _ => true) true 44 v d p) : ∃ o : El, v = o.val ∧ o.un ≤ maxLen := by
  have hC : Try.prog.cellsOf 44 = 6 := by kernel_rfl
  obtain ⟨cs, rfl, hsz⟩ := okWide_struct Try.underlying44 hv
  obtain ⟨fuel, hf⟩ := h
  obtain ⟨o, ho, hok⟩ := trod_el hf (by simpa [Value.cells] using hsz.trans hC)
  refine ⟨o, ?_, hok⟩
  have : cs.toList = o.cells := by simpa [Value.cells] using ho
  unfold El.val
  rw [show cs = o.cells.toArray from by rw [← this]]
  rfl
/-- A list of elements that lies in a cell. -/
theorem trod_els {c : Value} {l : List Value} {y : DataW H × List MemPlace} (h : DataW.trod enc Try.prog W 0 (fun _ => true) true n 22 l = some y) (hl : l = [c]) : ∃ es, SliceG 6 El.cells W c es ∧ es.length ≤ maxLen ∧ ∀ e ∈ es, e.un ≤ maxLen := by
  subst hl
  have hc : ∃ a n k, c = .slice a n k := by
    rcases open_slice Try.underlying22 h with ⟨h0, _⟩ | ⟨b, l, cp, m, n, D, Pl, hcs, _⟩
    · simp at h0
      exact ⟨_, _, _, h0⟩
    · simp at hcs
      exact ⟨_, _, _, hcs⟩
  obtain ⟨a, k, cp, rfl⟩ := hc
  obtain ⟨os, e1, e2, e3, e4⟩ := open_sliceG (k := 6) (c := El.cells) (ok := fun e => e.un ≤ maxLen) Try.underlying22 (by kernel_rfl) (by decide) (fun n cs y h hl => trod_el h hl) h
  exact ⟨os, e1, by omega, e4⟩
set_option maxRecDepth 100000 in
theorem open_vcase {b0 : Nat} {v : Value} {d : DataW H} {p : List MemPlace} (hv : Value.okWide Try.prog W .any b0 26 v) (h : DataW.Trod enc Try.prog W 0 (fun _ => true) true 26 v d p) : ∃ (u : Value) (es : List El) (i x1 x2 t : Int), v = .agg #[u, .int .i64 i, .int .i64 x1, .int .i64 x2, .int .i64 t] ∧ SliceG 6 El.cells W u es ∧ es.length ≤ maxLen ∧ ∀ e ∈ es, e.un ≤ maxLen := by
  have hI : Try.prog.cellsOf 3 = 1 := by kernel_rfl
  have hS : Try.prog.cellsOf 22 = 1 := by kernel_rfl
  have hD : Try.prog.cellsOf 24 = 2 := by kernel_rfl
  have hC : Try.prog.cellsOf 26 = 5 := by kernel_rfl
  obtain ⟨cs, rfl, hsz⟩ := okWide_struct Try.underlying26 hv
  obtain ⟨l⟩ := cs
  match l, hsz.trans hC with
  | [c0, c1, c2, c3, c4], _ =>
    obtain ⟨fuel, hf⟩ := h
    obtain ⟨y0, y1, y2, y3, m, _, _, h0, h1, h2, h3⟩ := trod_struct4 Try.underlying26 hf
    obtain ⟨es, k1, k2, k3⟩ := trod_els h0 (c := c0) (by show (List.drop 0 [c0, c1, c2, c3, c4]).take (Try.prog.cellsOf 22) = _; rw [hS]; rfl)
    obtain ⟨x1, rfl⟩ := trod_numv h1 (c := c1) (by show (List.drop 1 [c0, c1, c2, c3, c4]).take (Try.prog.cellsOf 3) = _; rw [hI]; rfl)
    obtain ⟨x2, x3, rfl, rfl⟩ := trod_idv h2 (c := c2) (d := c3) (by show (List.drop 2 [c0, _, c2, c3, c4]).take (Try.prog.cellsOf 24) = _; rw [hD]; rfl)
    obtain ⟨x4, rfl⟩ := trod_numv h3 (c := c4) (by show (List.drop 4 [c0, _, _, _, c4]).take (Try.prog.cellsOf 3) = _; rw [hI]; rfl)
    exact ⟨c0, es, x1, x2, x3, x4, rfl, k1, k2, k3⟩
set_option maxRecDepth 100000 in
theorem open_cuts {b0 : Nat} {v : Value} {d : DataW H} {p : List MemPlace} (hv : Value.okWide Try.prog W .any b0 47 v) (h : DataW.Trod enc Try.prog W 0 (fun _ => true) true 47 v d p) : ∃ (u : Value) (es : List El) (i f t : Int), v = .agg #[u, .int .i64 i, .int .i64 f, .int .i64 t] ∧ SliceG 6 El.cells W u es ∧ es.length ≤ maxLen ∧ ∀ e ∈ es, e.un ≤ maxLen := by
  have hI : Try.prog.cellsOf 3 = 1 := by kernel_rfl
  have hS : Try.prog.cellsOf 22 = 1 := by kernel_rfl
  have hC : Try.prog.cellsOf 47 = 4 := by kernel_rfl
  obtain ⟨cs, rfl, hsz⟩ := okWide_struct Try.underlying47 hv
  obtain ⟨l⟩ := cs
  match l, hsz.trans hC with
  | [c0, c1, c2, c3], _ =>
    obtain ⟨fuel, hf⟩ := h
    obtain ⟨y0, y1, y2, y3, m, _, _, h0, h1, h2, h3⟩ := trod_struct4 Try.underlying47 hf
    obtain ⟨es, k1, k2, k3⟩ := trod_els h0 (c := c0) (by show (List.drop 0 [c0, c1, c2, c3]).take (Try.prog.cellsOf 22) = _; rw [hS]; rfl)
    obtain ⟨x1, rfl⟩ := trod_numv h1 (c := c1) (by show (List.drop 1 [c0, c1, c2, c3]).take (Try.prog.cellsOf 3) = _; rw [hI]; rfl)
    obtain ⟨x2, rfl⟩ := trod_numv h2 (c := c2) (by show (List.drop 2 [c0, _, c2, c3]).take (Try.prog.cellsOf 3) = _; rw [hI]; rfl)
    obtain ⟨x3, rfl⟩ := trod_numv h3 (c := c3) (by show (List.drop 3 [c0, _, _, c3]).take (Try.prog.cellsOf 3) = _; rw [hI]; rfl)
    exact ⟨c0, es, x1, x2, x3, rfl, k1, k2, k3⟩
end
end Go.Proofs.Ytmelaidbicaagaa
