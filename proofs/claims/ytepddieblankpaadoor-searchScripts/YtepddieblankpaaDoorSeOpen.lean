/- The ops of layer 19 as they are handed over. -/
import Derived.Test.YtepddieblankpaaDoorSeKit
import Derived.Test.YtepddieblankpaaDoorSliceG
import Derived.Test.YtepddieblankpaaDoorSeLive
import Derived.Deep.Slices
import Derived.ChangeSlices
import Derived.OpenShut
namespace Go.Proofs.YtepddieblankpaaDoor
open Go.ChangeShapes Go.WideShapes Go.ChangeAt Go.RowKit Go.Joins Go.Deep
set_option linter.unusedVariables false

def In64 (a : Int) : Prop := -9223372036854775808 ≤ a ∧ a ≤ 9223372036854775807
/-- An op: what, and a rune. -/
def sopL (x : Int × Int) : List Value := [.int .i64 x.1, .int .i64 x.2]
/-- A step: what, and a text. -/
def stpL (x : Int × ByteArray) : List Value := [.int .i64 x.1, .string x.2]

section
variable {H : Type} {enc : TypeId × Value → H} {W : World} {n : Nat}
theorem trod_num19 {sp : Nat → Bool} {c : Value} {l : List Value} {y : DataW H × List MemPlace} (h : DataW.trod enc Tryd.prog W 0 sp true n 3 l = some y) (hl : l = [c]) : ∃ x : Int, c = .int .i64 x ∧ In64 x := by
  subst hl
  obtain ⟨x, e, _, hw⟩ := DataW.trod_int Tryd.underlying3 h
  simp at e
  exact ⟨x, e, bounds_i64 hw⟩
theorem trod_str19 {sp : Nat → Bool} {c : Value} {l : List Value} {y : DataW H × List MemPlace} (h : DataW.trod enc Tryd.prog W 0 sp true n 9 l = some y) (hl : l = [c]) : ∃ x : ByteArray, c = .string x := by
  subst hl
  obtain ⟨x, e, _⟩ := DataW.trod_string Tryd.underlying9 h
  simp at e
  exact ⟨x, e⟩
set_option maxRecDepth 100000 in
theorem trod_sop {cs : List Value} {y : DataW H × List MemPlace} (h : DataW.trod enc Tryd.prog W 0 (fun _ => true) true n 31 cs = some y) (hl : cs.length = 2) : ∃ x : Int × Int, cs = sopL x ∧ In64 x.1 ∧ In64 x.2 := by
  have hI : Tryd.prog.cellsOf 3 = 1 := by kernel_rfl
  match cs, hl with
  | [c0, c1], _ =>
    obtain ⟨z0, z1, k', _, _, g0, g1⟩ := trod_struct2 Tryd.underlying31 h
    obtain ⟨xa, rfl, ka⟩ := trod_num19 g0 (c := c0) (by show (List.drop 0 [c0, c1]).take (Tryd.prog.cellsOf 3) = _; rw [hI]; rfl)
    obtain ⟨xb, rfl, kb⟩ := trod_num19 g1 (c := c1) (by show (List.drop 1 [_, c1]).take (Tryd.prog.cellsOf 3) = _; rw [hI]; rfl)
    exact ⟨(xa, xb), rfl, ka, kb⟩
set_option maxRecDepth 100000 in
theorem trod_stp {cs : List Value} {y : DataW H × List MemPlace} (h : DataW.trod enc Tryd.prog W 0 (fun _ => true) true n 49 cs = some y) (hl : cs.length = 2) : ∃ x : Int × ByteArray, cs = stpL x ∧ In64 x.1 := by
  have hI : Tryd.prog.cellsOf 3 = 1 := by kernel_rfl
  have hS : Tryd.prog.cellsOf 9 = 1 := by kernel_rfl
  match cs, hl with
  | [c0, c1], _ =>
    obtain ⟨z0, z1, k', _, _, g0, g1⟩ := trod_struct2 Tryd.underlying49 h
    obtain ⟨xa, rfl, ka⟩ := trod_num19 g0 (c := c0) (by show (List.drop 0 [c0, c1]).take (Tryd.prog.cellsOf 3) = _; rw [hI]; rfl)
    obtain ⟨xb, rfl⟩ := trod_str19 g1 (c := c1) (by show (List.drop 1 [_, c1]).take (Tryd.prog.cellsOf 9) = _; rw [hS]; rfl)
    exact ⟨(xa, xb), rfl, ka⟩
set_option maxRecDepth 100000 in
theorem open_sop {b0 : Nat} {v : Value} {d : DataW H} {p : List MemPlace} (hv : Value.okWide Tryd.prog W .any b0 31 v) (h : DataW.Trod enc Tryd.prog W 0 (fun _ => true) true 31 v d p) : ∃ x : Int × Int, v = .agg #[.int .i64 x.1, .int .i64 x.2] ∧ In64 x.1 ∧ In64 x.2 := by
  have hC : Tryd.prog.cellsOf 31 = 2 := by kernel_rfl
  obtain ⟨cs, rfl, hsz⟩ := okWide_struct Tryd.underlying31 hv
  obtain ⟨fuel, hf⟩ := h
  obtain ⟨o, ho, hok⟩ := trod_sop hf (by simpa [Value.cells] using hsz.trans hC)
  refine ⟨o, ?_, hok⟩
  have : cs.toList = sopL o := by simpa [Value.cells] using ho
  rw [show cs = (sopL o).toArray from by rw [← this]]
  rfl
end
end Go.Proofs.YtepddieblankpaaDoor
