/- Ids as they are handed over. -/
import Derived.Test.YtohmhbjiapflpaaIdLive
import Derived.Test.YtohmhbjiapflpaaPairKey
import Derived.Deep.Slices
import Derived.ChangeSlices
import Derived.OpenShut
namespace Go.Proofs.Ytohmhbjiapflpaa
open Go.ChangeShapes Go.WideShapes Go.ChangeAt Go.RowKit Go.Joins Go.Deep
set_option linter.unusedVariables false

section
variable {H : Type} {enc : TypeId × Value → H} {W : World} {n : Nat}
theorem trod_numi {sp : Nat → Bool} {c : Value} {l : List Value} {y : DataW H × List MemPlace} (h : DataW.trod enc Try.prog W 0 sp true n 3 l = some y) (hl : l = [c]) : ∃ x : Int, c = .int .i64 x ∧ I64 x := by
  subst hl
  obtain ⟨x, e, _, hw⟩ := DataW.trod_int Try.underlying3 h
  simp at e
  exact ⟨x, e, I64.of_wf hw⟩
set_option maxRecDepth 100000 in
theorem trod_id {cs : List Value} {y : DataW H × List MemPlace} (h : DataW.trod enc Try.prog W 0 (fun _ => true) true n 24 cs = some y) (hl : cs.length = 2) : ∃ x : Int × Int, cs = idL x ∧ I64 x.1 ∧ I64 x.2 := by
  have hI : Try.prog.cellsOf 3 = 1 := by kernel_rfl
  match cs, hl with
  | [c0, c1], _ =>
    obtain ⟨z0, z1, k', _, _, g0, g1⟩ := trod_struct2 Try.underlying24 h
    obtain ⟨xa, rfl, ka⟩ := trod_numi g0 (c := c0) (by show (List.drop 0 [c0, c1]).take (Try.prog.cellsOf 3) = _; rw [hI]; rfl)
    obtain ⟨xb, rfl, kb⟩ := trod_numi g1 (c := c1) (by show (List.drop 1 [_, c1]).take (Try.prog.cellsOf 3) = _; rw [hI]; rfl)
    exact ⟨(xa, xb), rfl, ka, kb⟩
set_option maxRecDepth 100000 in
theorem open_id {b0 : Nat} {v : Value} {d : DataW H} {p : List MemPlace} (hv : Value.okWide Try.prog W .any b0 24 v) (h : DataW.Trod enc Try.prog W 0 (fun _ => true) true 24 v d p) : ∃ x : Int × Int, v = idV x ∧ I64 x.1 ∧ I64 x.2 := by
  have hC : Try.prog.cellsOf 24 = 2 := by kernel_rfl
  obtain ⟨cs, rfl, hsz⟩ := okWide_struct Try.underlying24 hv
  obtain ⟨fuel, hf⟩ := h
  obtain ⟨o, ho, hok⟩ := trod_id hf (by simpa [Value.cells] using hsz.trans hC)
  refine ⟨o, ?_, hok⟩
  have : cs.toList = idL o := by simpa [Value.cells] using ho
  unfold idV
  rw [show cs = (idL o).toArray from by rw [← this]]
  rfl
end
end Go.Proofs.Ytohmhbjiapflpaa
