/- A row of bytes of the call's own: what its cells hold, behind a store, and as a text again. -/
import Derived.Test.YtepddieblankpaaDoorStr
import Derived.Laws.IdiomStrings
import Derived.Lib.ConvBytes
namespace Go.Proofs.YtepddieblankpaaDoor
open Go.RowKit
set_option linter.unusedVariables false

/-- The block g of w begins with the bytes l, and none of these is frozen. -/
def RowIs (w : World) (g : Nat) (l : List UInt8) : Prop :=
  ∀ j (h : j < l.length), w.cell? ⟨g, j, none⟩ = some (.int .u8 (l[j].toNat : Int)) ∧ w.frozen? ⟨g, j, none⟩ = false

theorem RowIs.set {w : World} {g : Nat} {l : List UInt8} (h : RowIs w g l) (k : Nat) (c : UInt8) (hk : k < l.length) : RowIs (w.setCell ⟨g, k, none⟩ (.int .u8 (c.toNat : Int))) g (l.set k c) := by
  intro j hj
  have hj' : j < l.length := by simpa using hj
  refine ⟨?_, by rw [World.frozen?_setCell]; exact (h j hj').2⟩
  by_cases e : k = j
  · subst e
    rw [World.cell?_setCell_same _ _ _ (h k hk).1]
    simp
  · rw [World.cell?_setCell_other _ _ _ _ (fun h => e (congrArg Addr.off h)), (h j hj').1]
    simp [List.getElem_set_ne e]

theorem RowIs.drew {w : World} {g : Nat} {l : List UInt8} (h : RowIs w g l) : RowIs w.drew g l := fun j hj => h j hj

theorem RowIs.below {w w' : World} {g : Nat} {l : List UInt8} (h : RowIs w g l) {B : Nat} (hb : Below B w w') (hg : g < B) : RowIs w' g l := fun j hj =>
  ⟨by rw [hb.cell (p := ⟨g, j, none⟩) hg]; exact (h j hj).1, by rw [hb.frozen (p := ⟨g, j, none⟩) hg]; exact (h j hj).2⟩

/-- '[]byte(s)': a new row with the bytes of s. -/
theorem bytes_made (s : ByteArray) (w : World) : ∃ cap W, (convert 9 80 (.string s)).run Tryd.prog w = .ok (.slice (some ⟨w.heap.size, 0, none⟩) s.size cap) W
    ∧ s.size ≤ cap ∧ RowIs W w.heap.size s.data.toList ∧ Below w.heap.size w W ∧ W.heap.size = w.heap.size + 1 := by
  refine ⟨_, _, Lib.run_convert_string_bytes (P := Tryd.prog) w 9 80 5 s Tryd.underlying9 Tryd.underlying80 Tryd.underlying5, ?_, ?_, ?_, Lib.bytesWorld_size w _ s⟩
  · exact grownCap_ge w _ _ _
  · intro j hj
    have hj' : j < s.size := by simpa using hj
    refine ⟨?_, ?_⟩
    · rw [Lib.bytesWorld_cell w _ s j hj']
      simp [List.getD, hj']
    · have hg := Lib.bytesWorld_at_new w 5 s
      have hz : s.size ≤ (Lib.bytesCells w 5 s).size := by simp [Lib.bytesCells]
      unfold World.frozen?
      rw [hg]
      simp
      omega
  · exact ⟨by simp [Lib.bytesWorld, World.freeze, World.alloc, World.drew, -World.alloc_eq, -World.drew_eq], by simp [Lib.bytesWorld, World.freeze, World.alloc, World.drew, -World.alloc_eq, -World.drew_eq], by simp [Lib.bytesWorld, World.freeze, World.alloc, World.drew, -World.alloc_eq, -World.drew_eq], by rw [Lib.bytesWorld_size]; omega, fun k hk => Lib.bytesWorld_at_old w _ s k hk⟩

/-- 'string(b)'. -/
theorem bytes_text (w : World) (g cap : Nat) (l : List UInt8) (h : RowIs w g l) :
    (convert 80 9 (.slice (some ⟨g, 0, none⟩) l.length cap)).run Tryd.prog w = .ok (.string ⟨l.toArray⟩) w :=
  run_convert_bytes_back (P := Tryd.prog) w 80 9 5 ⟨g, 0, none⟩ cap l Tryd.underlying80 Tryd.underlying5 Tryd.underlying9 (fun j hj => by
    rw [show (⟨g, 0, none⟩ : Addr).add j = ⟨g, j, none⟩ from by unfold Addr.add; split <;> simp_all]
    exact (h j hj).1)
end Go.Proofs.YtepddieblankpaaDoor
