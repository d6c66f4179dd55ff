/- What Check, has, together, Covers of vec, and May, together, Covers of the reference, come to. -/
import Derived.Test.YtakjoodlediemaaInts
import Derived.Test.YtakjoodlediemaaVecMath
namespace Go.Proofs.Ytakjoodlediemaa
open Go.RowKit
set_option linter.unusedVariables false

def chkN (zs : List Int) : Int := if Vecs.may zs then 0 else 1

/-- A cell of a slice. -/
theorem SliceI.at {w : World} {a : Option Addr} {cap : Nat} {zs : List Int} (hrow : zs = [] ∨ ∃ b off, a = some ⟨b, off, none⟩ ∧ b < w.heap.size ∧ ∀ i (h : i < zs.length), w.cell? ⟨b, off + i, none⟩ = some (.int .i64 zs[i])) {k : Nat} (hk : k < zs.length) :
    ∃ b off, a = some ⟨b, off, none⟩ ∧ w.cell? ⟨b, off + k, none⟩ = some (.int .i64 zs[k]) := by
  rcases hrow with h | ⟨b, off, ha, _, hc⟩
  · subst h; simp at hk
  · exact ⟨b, off, ha, hc k hk⟩

end Go.Proofs.Ytakjoodlediemaa