/- What is done to a line, as it is handed over; a line that is none. -/
import Derived.Test.YtohmhbjiapflpaaWvLive
import Derived.Test.YtohmhbjiapflpaaIdOpen
import Derived.Lib.SmallJoins
import Derived.Deep.Slices
import Derived.ChangeSlices
import Derived.OpenShut
namespace Go.Proofs.Ytohmhbjiapflpaa
open Go.ChangeShapes Go.WideShapes Go.ChangeAt Go.RowKit Go.Joins Go.Deep
set_option linter.unusedVariables false

structure WOp where
  drop : Bool
  id : Int × Int
  ref : Int × Int
  rune : Int
def WOp.cells (o : WOp) : List Value := [.bool o.drop, .int .i64 o.id.1, .int .i64 o.id.2, .int .i64 o.ref.1, .int .i64 o.ref.2, .int .i64 o.rune]
def WOp.ok (o : WOp) : Prop := (I64 o.id.1 ∧ I64 o.id.2) ∧ I64 o.ref.1 ∧ I64 o.ref.2

section
variable {H : Type} {enc : TypeId × Value → H} {W : World} {n : Nat}
theorem trod_boolw {sp : Nat → Bool} {c : Value} {l : List Value} {y : DataW H × List MemPlace} (h : DataW.trod enc Try.prog W 0 sp true n 4 l = some y) (hl : l = [c]) : ∃ x : Bool, c = .bool x := by
  subst hl
  obtain ⟨x, e, _⟩ := DataW.trod_bool Try.underlying4 h
  simp at e
  exact ⟨x, e⟩
set_option maxRecDepth 100000 in
theorem trod_wop {cs : List Value} {y : DataW H × List MemPlace} (h : DataW.trod enc Try.prog W 0 (fun _ => true) true n 32 cs = some y) (hl : cs.length = 6) : ∃ o : WOp, cs = o.cells ∧ o.ok := by
  have hB : Try.prog.cellsOf 4 = 1 := by kernel_rfl
  have hI : Try.prog.cellsOf 3 = 1 := by kernel_rfl
  have hD : Try.prog.cellsOf 24 = 2 := by kernel_rfl
  match cs, hl with
  | [c0, c1, c2, c3, c4, c5], _ =>
    obtain ⟨z0, z1, z2, z3, k', _, _, g0, g1, g2, g3⟩ := trod_struct4 Try.underlying32 h
    obtain ⟨xa, rfl⟩ := trod_boolw g0 (c := c0) (by show (List.drop 0 [c0, c1, c2, c3, c4, c5]).take (Try.prog.cellsOf 4) = _; rw [hB]; rfl)
    have e1 : (List.drop 1 [Value.bool xa, c1, c2, c3, c4, c5]).take (Try.prog.cellsOf 24) = [c1, c2] := by rw [hD]; rfl
    have e2 : (List.drop 3 [Value.bool xa, c1, c2, c3, c4, c5]).take (Try.prog.cellsOf 24) = [c3, c4] := by rw [hD]; rfl
    rw [e1] at g1
    rw [e2] at g2
    obtain ⟨x, hx, x1, x2⟩ := trod_id g1 rfl
    obtain ⟨r, hr, r1, r2⟩ := trod_id g2 rfl
    obtain ⟨xr, rfl, _⟩ := trod_numi g3 (c := c5) (by show (List.drop 5 [Value.bool xa, c1, c2, c3, c4, c5]).take (Try.prog.cellsOf 3) = _; rw [hI]; rfl)
    unfold idL at hx hr
    injection hx with hx1 hx
    injection hx with hx2 _
    injection hr with hr1 hr
    injection hr with hr2 _
    subst hx1 hx2 hr1 hr2
    exact ⟨⟨xa, x, r, xr⟩, rfl, ⟨x1, x2⟩, r1, r2⟩
set_option maxRecDepth 100000 in
theorem open_wop {b0 : Nat} {v : Value} {d : DataW H} {p : List MemPlace} (hv : Value.okWide Try.prog W .any b0 32 v) (h : DataW.Trod enc Try.prog W 0 (fun _ => true) true 32 v d p) : ∃ o : WOp, v = .agg o.cells.toArray ∧ o.ok := by
  have hC : Try.prog.cellsOf 32 = 6 := by kernel_rfl
  obtain ⟨cs, rfl, hsz⟩ := okWide_struct Try.underlying32 hv
  obtain ⟨fuel, hf⟩ := h
  obtain ⟨o, ho, hok⟩ := trod_wop hf (by simpa [Value.cells] using hsz.trans hC)
  refine ⟨o, ?_, hok⟩
  have : cs.toList = o.cells := by simpa [Value.cells] using ho
  rw [← this]
end

end Go.Proofs.Ytohmhbjiapflpaa