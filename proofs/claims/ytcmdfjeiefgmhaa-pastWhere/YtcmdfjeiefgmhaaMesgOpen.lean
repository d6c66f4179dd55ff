/- A message that is handed over: what it reads as. -/
import Derived.Test.YtcmdfjeiefgmhaaMesgSame0
import Derived.Lib.SmallJoins
import Derived.ChangeSlices
namespace Go.Proofs.Ytcmdfjeiefgmhaa
open Go.ChangeShapes Go.WideShapes Go.ChangeAt Go.RowKit Go.Joins Go.Deep
set_option linter.unusedVariables false

/-- The value v is the message m, its numbers in u. -/
def IsMsg (W : World) (v : Value) (m : Mesg.Msg) (u : Value) : Prop := v = msgV m u ∧ SliceI W u m.know ∧ m.know.length ≤ maxLen

section
variable {H : Type} {enc : TypeId × Value → H} {W : World} {sp : Nat → Bool} {n : Nat}
theorem trod_num {c : Value} {l : List Value} {y : DataW H × List MemPlace} (h : DataW.trod enc Try.prog W 0 sp true n 3 l = some y) (hl : l = [c]) : ∃ x : Int, c = .int .i64 x := by
  subst hl
  obtain ⟨x, e, _⟩ := DataW.trod_int Try.underlying3 h
  simp at e
  exact ⟨x, e⟩
theorem trod_id {c d : Value} {l : List Value} {y : DataW H × List MemPlace} (h : DataW.trod enc Try.prog W 0 sp true n 34 l = some y) (hl : l = [c, d]) : ∃ x z : Int, c = .int .i64 x ∧ d = .int .i64 z := by
  subst hl
  have hI : Try.prog.cellsOf 3 = 1 := by kernel_rfl
  obtain ⟨y0, y1, m, _, _, h0, h1⟩ := trod_struct2 Try.underlying34 h
  obtain ⟨x, rfl⟩ := trod_num h0 (c := c) (by show (List.drop 0 [c, d]).take (Try.prog.cellsOf 3) = _; rw [hI]; rfl)
  obtain ⟨z, rfl⟩ := trod_num h1 (c := d) (by show (List.drop 1 [_, d]).take (Try.prog.cellsOf 3) = _; rw [hI]; rfl)
  exact ⟨x, z, rfl, rfl⟩
theorem trod_op {c0 c1 c2 c3 c4 c5 c6 : Value} {l : List Value} {y : DataW H × List MemPlace} (h : DataW.trod enc Try.prog W 0 sp true n 36 l = some y) (hl : l = [c0, c1, c2, c3, c4, c5, c6]) : ∃ o : Mesg.Op, [c0, c1, c2, c3, c4, c5, c6] = opL o := by
  subst hl
  have hI : Try.prog.cellsOf 3 = 1 := by kernel_rfl
  have hD : Try.prog.cellsOf 34 = 2 := by kernel_rfl
  obtain ⟨xs, m, _, _, _, hlen, hf⟩ := DataW.trod_struct Try.underlying36 h
  match xs, hlen with
  | [y0, y1, y2, y3, y4], _ =>
    have h0 := hf 0 _ rfl
    have h1 := hf 1 _ rfl
    have h2 := hf 2 _ rfl
    have h3 := hf 3 _ rfl
    have h4 := hf 4 _ rfl
    obtain ⟨x0, rfl⟩ := trod_num h0 (c := c0) (by show (List.drop 0 [c0, c1, c2, c3, c4, c5, c6]).take (Try.prog.cellsOf 3) = _; rw [hI]; rfl)
    obtain ⟨x1, rfl⟩ := trod_num h1 (c := c1) (by show (List.drop 1 [_, c1, c2, c3, c4, c5, c6]).take (Try.prog.cellsOf 3) = _; rw [hI]; rfl)
    obtain ⟨x2, x3, rfl, rfl⟩ := trod_id h2 (c := c2) (d := c3) (by show (List.drop 2 [_, _, c2, c3, c4, c5, c6]).take (Try.prog.cellsOf 34) = _; rw [hD]; rfl)
    obtain ⟨x4, x5, rfl, rfl⟩ := trod_id h3 (c := c4) (d := c5) (by show (List.drop 4 [_, _, _, _, c4, c5, c6]).take (Try.prog.cellsOf 34) = _; rw [hD]; rfl)
    obtain ⟨x6, rfl⟩ := trod_num h4 (c := c6) (by show (List.drop 6 [_, _, _, _, _, _, c6]).take (Try.prog.cellsOf 3) = _; rw [hI]; rfl)
    exact ⟨⟨x0, x1, ⟨x2, x3⟩, ⟨x4, x5⟩, x6⟩, rfl⟩
theorem trod_know {c : Value} {l : List Value} {y : DataW H × List MemPlace} (h : DataW.trod enc Try.prog W 0 (fun _ => true) true n 32 l = some y) (hl : l = [c]) : ∃ zs, SliceI W c zs ∧ zs.length ≤ maxLen := by
  subst hl
  rcases open_ints Try.underlying32 Try.underlying3 (by kernel_rfl) h with ⟨hcs, _⟩ | ⟨x, l, cp, zs, hcs, _, hl, hm, hz, _, hcell, hwz⟩
  · simp at hcs
    subst hcs
    exact ⟨[], ⟨none, 0, rfl, by simp, .inl rfl⟩, by simp⟩
  · simp at hcs
    subst hcs
    obtain ⟨ys, h1, h2, h3, _⟩ := IsRow.slice (a := some x) (len := l) (cap := cp) (zs := zs) (w := W) (.inr ⟨x, rfl, hl, hm, by simpa using hz, hcell, hwz⟩)
    exact ⟨ys, h1, by rw [h2]; exact h3⟩

set_option maxRecDepth 100000 in
theorem open_msg {b0 : Nat} {v : Value} {d : DataW H} {p : List MemPlace} (hv : Value.okWide Try.prog W .any b0 38 v) (h : DataW.Trod enc Try.prog W 0 (fun _ => true) true 38 v d p) :
    ∃ (m : Mesg.Msg) (u : Value), IsMsg W v m u := by
  have hI : Try.prog.cellsOf 3 = 1 := by kernel_rfl
  have hS : Try.prog.cellsOf 32 = 1 := by kernel_rfl
  have hO : Try.prog.cellsOf 36 = 7 := by kernel_rfl
  have hC : Try.prog.cellsOf 38 = 10 := by kernel_rfl
  obtain ⟨cs, rfl, hsz⟩ := okWide_struct Try.underlying38 hv
  obtain ⟨l⟩ := cs
  match l, hsz.trans hC with
  | [c0, c1, c2, c3, c4, c5, c6, c7, c8, c9], _ =>
    obtain ⟨fuel, hf⟩ := h
    obtain ⟨y0, y1, y2, y3, m, _, _, h0, h1, h2, h3⟩ := trod_struct4 Try.underlying38 hf
    obtain ⟨x0, rfl⟩ := trod_num h0 (c := c0) (by show (List.drop 0 [c0, c1, c2, c3, c4, c5, c6, c7, c8, c9]).take (Try.prog.cellsOf 3) = _; rw [hI]; rfl)
    obtain ⟨x1, rfl⟩ := trod_num h1 (c := c1) (by show (List.drop 1 [_, c1, c2, c3, c4, c5, c6, c7, c8, c9]).take (Try.prog.cellsOf 3) = _; rw [hI]; rfl)
    obtain ⟨zs, k1, k2⟩ := trod_know h2 (c := c2) (by show (List.drop 2 [_, _, c2, c3, c4, c5, c6, c7, c8, c9]).take (Try.prog.cellsOf 32) = _; rw [hS]; rfl)
    obtain ⟨o, ho⟩ := trod_op h3 (c0 := c3) (c1 := c4) (c2 := c5) (c3 := c6) (c4 := c7) (c5 := c8) (c6 := c9) (by show (List.drop 3 [_, _, _, c3, c4, c5, c6, c7, c8, c9]).take (Try.prog.cellsOf 36) = _; rw [hO]; rfl)
    simp only [opL, List.cons.injEq] at ho
    obtain ⟨rfl, rfl, rfl, rfl, rfl, rfl, rfl, _⟩ := ho
    exact ⟨⟨x0, x1, zs, o⟩, c2, rfl, k1, k2⟩
end
end Go.Proofs.Ytcmdfjeiefgmhaa
