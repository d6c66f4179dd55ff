/- What New, Tick, Join, Meet of vec come to. -/
import Derived.Test.YtakjoodlediemaaVecRef
import Derived.StillTailTactics
import Derived.Laws.OwnMore
import Derived.Laws.Cover3
namespace Go.Proofs.Ytakjoodlediemaa
open Go.RowKit
set_option linter.unusedVariables false

/-- 'make([]int, n)', of whichever name. -/
theorem ints_zeros {t : TypeId} (ht : Try.prog.underlying t = some (.slice 3)) (n : Nat) (w : World) (hn : n ≤ 1000000000) :
    ∃ W, (Instr.makeSlice t (.int .i64 (n : Int)) (.int .i64 (n : Int))).run Try.prog w = .ok (.slice (some ⟨w.heap.size, 0, none⟩) n n) W
    ∧ OwnsI W w.heap.size (.slice (some ⟨w.heap.size, 0, none⟩) n n) (List.replicate n 0) ∧ Below w.heap.size w W := by
  obtain ⟨i0, hi, hz0, hz1, hz2⟩ := info_parts info_i64
  have h := run_make (P := Try.prog) w t 3 i0 (.int .i64 0) ht hi hz0 .i64 .i64 (n : Int) (n : Int) (by omega) (by omega) (by rw [hz2]; omega) (by omega)
  rw [Int.toNat_natCast] at h
  refine ⟨_, h, ?_, grew_alloc _ _⟩
  have e : madeCells (Value.int .i64 0).cells (n * i0.size) = madeCells #[.int .i64 0] n := by rw [hz1, Nat.mul_one]; rfl
  rw [e]
  have := World.ownsRow_lit (base := w.heap.size) (e := 3) (size := 1) w (madeCells #[.int .i64 0] n) n (Nat.le_refl _) (by unfold maxLen; omega) (by rw [size_madeCells, Nat.mul_one])
  unfold OwnsI
  rw [toList_madeCells_one] at this
  have e2 : intCells (List.replicate n 0) = List.replicate n (.int .i64 0) := by simp [intCells]
  rw [e2, List.length_replicate]
  exact this

/-- What a call hands back that makes a Vec, or says why not. -/
def VecV (w0 w : World) (r : Value) (zs : List Int) (er : Int) : Prop := (er = 0 ∧ ∃ v, r = .tuple #[v, .int .i64 0] ∧ SliceI w v zs) ∨ (er ≠ 0 ∧ r = .tuple #[.slice none 0 0, .int .i64 er] ∧ zs = [])

theorem SliceI.none (w : World) : SliceI w (.slice none 0 0) [] := ⟨Option.none, 0, rfl, by simp, .inl rfl⟩

def newR (n : Int) : List Int × Int := if 1 ≤ n ∧ n ≤ 16 then (List.replicate n.toNat 0, 0) else ([], 1)

/-- A slice and a number. -/
def OutI (w : World) (r : Value) (q : List Int × Int) : Prop := ∃ v, r = .tuple #[v, .int .i64 q.2] ∧ SliceI w v q.1
theorem OutI.mk {w : World} {v : Value} {zs : List Int} (er : Int) (h : SliceI w v zs) : OutI w (.tuple #[v, .int .i64 er]) (zs, er) := ⟨v, rfl, h⟩
theorem OutI.below {w w' : World} {r : Value} {q : List Int × Int} (h : OutI w r q) (hb : Below w.heap.size w w') : OutI w' r q := by
  obtain ⟨v, hv, hs⟩ := h
  exact ⟨v, hv, hs.below hb⟩

theorem intCells_len (l : List Int) : (intCells l).length = l.length := by simp [intCells]

/-- A row's cells, read for an append. -/
theorem cells_news {w : World} {b off : Nat} {zs : List Int} (h : ∀ i (h : i < zs.length), w.cell? ⟨b, off + i, none⟩ = some (.int .i64 zs[i])) :
    ∀ j u, (intCells zs)[j]? = some u → w.cell? ((⟨b, off, none⟩ : Addr).add j) = some u := by
  intro j u hu
  rw [show (⟨b, off, none⟩ : Addr).add j = ⟨b, off + j, none⟩ from by unfold Addr.add; split <;> simp_all]
  have hj : j < zs.length := by
    have := (List.getElem?_eq_some_iff.1 hu).1
    rwa [intCells_len] at this
  rw [h j hj]
  simpa [intCells, List.getElem?_eq_getElem hj] using hu
theorem intCells_one (l : List Int) : ∀ u ∈ intCells l, u.oneCell' = true := by
  intro u hu
  obtain ⟨c, _, rfl⟩ := List.mem_map.1 hu
  rfl

/-- The call has a row of its own in a new block. -/
structure Fresh (w w' : World) (v : Value) (zs : List Int) (g cap : Nat) : Prop where
  val : v = .slice (some ⟨g, 0, none⟩) zs.length cap
  own : OwnI w' v zs
  new : w.heap.size ≤ g
  bel : Below w.heap.size w w'

theorem fresh_of {w w' : World} {v : Value} {zs : List Int} (h1 : 1 ≤ zs.length) (ho : OwnI w' v zs) (hn : ∀ g, v.ownBlock = some g → w.heap.size ≤ g) (hb : Below w.heap.size w w') : ∃ g cap, Fresh w w' v zs g cap := by
  rcases ho.2 with ⟨_, h0⟩ | ⟨g, cap, cur, rfl, r⟩
  · omega
  · exact ⟨g, cap, rfl, ho, hn g rfl, hb⟩

/-- A Vec with one number changed in place. -/
theorem intCells_set (l : List Int) (j : Nat) (z : Int) : (intCells l).set j (.int .i64 z) = intCells (l.set j z) := by simp [intCells, List.map_set]

theorem Fresh.stored {w w' : World} {v : Value} {zs : List Int} {g cap : Nat} (h : Fresh w w' v zs g cap) (j : Nat) (z : Int) : SliceI (w'.setCell ⟨g, j, none⟩ (.int .i64 z)) v (zs.set j z) ∧ Below w.heap.size w (w'.setCell ⟨g, j, none⟩ (.int .i64 z)) := by
  obtain ⟨rfl, ho, hn, hb⟩ := h
  have := World.ownsRow.stored ho j (.int .i64 z)
  rw [intCells_set] at this
  refine ⟨OwnI.slice (l := zs.set j z) (by unfold OwnI Owns; rw [List.length_set]; exact this.1), ?_⟩
  have hk : Keep (Just g) w' (w'.setCell ⟨g, j, none⟩ (.int .i64 z)) := Keep.setCell w' g j _
  exact hb.trans (hk.below hb.size (fun i hi => by rw [hi]; exact hn))
theorem Fresh.cell {w w' : World} {v : Value} {zs : List Int} {g cap : Nat} (h : Fresh w w' v zs g cap) (j : Nat) (hj : j < zs.length) : w'.cell? ⟨g, j, none⟩ = some (.int .i64 zs[j]) := by
  obtain ⟨rfl, ho, hn, hb⟩ := h
  rw [World.ownsRow.cellAt ho j (by omega)]
  simp [intCells, hj]
theorem Fresh.frozen {w w' : World} {v : Value} {zs : List Int} {g cap : Nat} (h : Fresh w w' v zs g cap) (j : Nat) : w'.frozen? ⟨g, j, none⟩ = false := by
  obtain ⟨rfl, ho, hn, hb⟩ := h
  exact World.ownsRow.frozenAt ho j

/-- What Tick comes to. -/
def tickR (zs : List Int) (site : Int) : List Int × Int :=
  if Vecs.may zs = true ∧ 0 ≤ site ∧ site < zs.length then (if zs.getD site.toNat 0 = 4294967295 then ([], 5) else (Vecs.tick zs site.toNat, 0)) else ([], 1)

end Go.Proofs.Ytakjoodlediemaa