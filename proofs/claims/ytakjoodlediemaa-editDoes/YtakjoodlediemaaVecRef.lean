/- What May, together, Below, Compare, Covers of duetref06 and Compare of vec come to. -/
import Derived.Test.YtakjoodlediemaaVecChk
namespace Go.Proofs.Ytakjoodlediemaa
open Go.RowKit
set_option linter.unusedVariables false

/-- What Compare hands back. -/
def cmpV (xs ys : List Int) : Value := if Vecs.together xs ys then .tuple #[.int .i64 (Vecs.cmp xs ys), .int .i64 0] else .tuple #[.int .i64 0, .int .i64 1]
theorem cmpV_yes {xs ys : List Int} (h : Vecs.together xs ys = true) : cmpV xs ys = .tuple #[.int .i64 (Vecs.cmp xs ys), .int .i64 0] := by unfold cmpV; rw [if_pos h]
theorem cmpV_no {xs ys : List Int} (h : Vecs.together xs ys = false) : cmpV xs ys = .tuple #[.int .i64 0, .int .i64 1] := by unfold cmpV; rw [h]; rfl

theorem SliceI.drewN {w : World} {v : Value} {zs : List Int} (h : SliceI w v zs) (n : Nat) : SliceI (w.drewN n) v zs := h.below (grew_drewN w n)

end Go.Proofs.Ytakjoodlediemaa