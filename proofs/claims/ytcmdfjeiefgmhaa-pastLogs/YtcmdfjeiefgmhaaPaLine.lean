/- Lines that are handed in, as they are handed over. -/
import Derived.Test.YtcmdfjeiefgmhaaPaCalls
import Derived.Test.YtcmdfjeiefgmhaaSliceG
import Derived.Lib.SmallJoins
import Derived.Deep.Slices
import Derived.ChangeSlices
import Derived.OpenShut
namespace Go.Proofs.Ytcmdfjeiefgmhaa
open Go.ChangeShapes Go.WideShapes Go.ChangeAt Go.RowKit Go.Joins Go.Deep
set_option linter.unusedVariables false

structure Ln where
  e : Int
  s : ByteArray
def Ln.cells (o : Ln) : List Value := [.int .i64 o.e, .string o.s]
section
variable {H : Type} {enc : TypeId × Value → H} {W : World} {n : Nat}
theorem trod_ln {cs : List Value} {y : DataW H × List MemPlace} (h : DataW.trod enc Try.prog W 0 (fun _ => true) true n 67 cs = some y) (hl : cs.length = 2) : ∃ o : Ln, cs = o.cells ∧ o.s.size ≤ maxLen := by
  have hI : Try.prog.cellsOf 3 = 1 := by kernel_rfl
  have hS : Try.prog.cellsOf 9 = 1 := by kernel_rfl
  match cs, hl with
  | [c0, c1], _ =>
    obtain ⟨z0, z1, k', _, _, g0, g1⟩ := trod_struct2 Try.underlying67 h
    have e0 : (List.drop 0 [c0, c1]).take (Try.prog.cellsOf 3) = [c0] := by rw [hI]; rfl
    have e1 : (List.drop 1 [c0, c1]).take (Try.prog.cellsOf 9) = [c1] := by rw [hS]; rfl
    rw [e0] at g0
    rw [e1] at g1
    obtain ⟨x, ex, _⟩ := DataW.trod_int Try.underlying3 g0
    obtain ⟨t, et, _, ht⟩ := DataW.trod_string Try.underlying9 g1
    simp at ex et
    subst ex et
    exact ⟨⟨x, t⟩, rfl, ht⟩
end
end Go.Proofs.Ytcmdfjeiefgmhaa
