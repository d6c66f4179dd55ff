/- A row of bytes of the call's own: what its cells hold, behind a store, and as a text again. -/
import Derived.Test.YtakjoodlediemaaStr
import Derived.Laws.IdiomStrings
import Derived.Lib.ConvBytes
namespace Go.Proofs.Ytakjoodlediemaa
open Go.RowKit
set_option linter.unusedVariables false

/-- The block g of w begins with the bytes l, and none of these is frozen. -/
def RowIs (w : World) (g : Nat) (l : List UInt8) : Prop :=
  ∀ j (h : j < l.length), w.cell? ⟨g, j, none⟩ = some (.int .u8 (l[j].toNat : Int)) ∧ w.frozen? ⟨g, j, none⟩ = false

theorem RowIs.set {w : World} {g : Nat} {l : List UInt8} (h : RowIs w g l) (k : Nat) (c : UInt8) (hk : k < l.length) : RowIs (w.setCell ⟨g, k, none⟩ (.int .u8 (c.toNat : Int))) g (l.set k c) := by
  intro j hj
  have hj' : j < l.length := by simpa using hj
  refine ⟨?_, by rw [World.frozen?_setCell]; exact (h j hj').2⟩
  by_cases e : k = j
  · subst e
    rw [World.cell?_setCell_same _ _ _ (h k hk).1]
    simp
  · rw [World.cell?_setCell_other _ _ _ _ (fun h => e (congrArg Addr.off h)), (h j hj').1]
    simp [List.getElem_set_ne e]

theorem RowIs.drew {w : World} {g : Nat} {l : List UInt8} (h : RowIs w g l) : RowIs w.drew g l := fun j hj => h j hj

theorem RowIs.below {w w' : World} {g : Nat} {l : List UInt8} (h : RowIs w g l) {B : Nat} (hb : Below B w w') (hg : g < B) : RowIs w' g l := fun j hj =>
  ⟨by rw [hb.cell (p := ⟨g, j, none⟩) hg]; exact (h j hj).1, by rw [hb.frozen (p := ⟨g, j, none⟩) hg]; exact (h j hj).2⟩

end Go.Proofs.Ytakjoodlediemaa