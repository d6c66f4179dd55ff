/- A search and a Browse side by side. -/
import Derived.Test.YtepddieblankpaaDoorSeBrow
namespace Go.Proofs.YtepddieblankpaaDoor
open Go.RowKit Go.Shelf
set_option linter.unusedVariables false

/-- What a search wants of the library's own memory. -/
def Kit (w : World) : Prop := MaxLen w ∧ U8 w
theorem Kit.below {w w' : World} (h : Kit w) (hb : Below w.heap.size w w') : Kit w' := ⟨h.1.below hb, h.2.below hb⟩
theorem Kit.lt {w : World} (h : Kit w) : 3 < w.heap.size ∧ 1 < w.heap.size ∧ 2 < w.heap.size := by
  obtain ⟨⟨m, hm⟩, hu⟩ := h
  exact ⟨block_lt_of_cell hm, block_lt_of_cell (hu.1 0 (by decide)), block_lt_of_cell (hu.2 0 (by decide)).1⟩

/-- A search and a Browse, both made since w0, in blocks apart. -/
structure Duo (w0 w : World) (p : Nat) (v : Value) (ts : List ByteArray) (q : ByteArray) (pl : Int) (fd : Bool) (pb : Nat) (a : Option Addr) (cap : Nat) (tb : List ByteArray) (own : ByteArray) (k : Nat) : Prop where
  sea : Sea w p v ts q pl fd
  bro : Bro w pb a cap tb own k
  kit : Kit w
  bel : Below w0.heap.size w0 w
  low : w0.heap.size ≤ p
  lob : ∀ i, BroB pb a i → w0.heap.size ≤ i ∧ i ≠ p ∧ v.ownBlock ≠ some i
  tab : 1 < w0.heap.size ∧ 2 < w0.heap.size ∧ 3 < w0.heap.size
theorem Kit.keep {S : Nat → Prop} {w0 w w' : World} (h : Kit w) (hb : Below w0.heap.size w0 w') (h0 : Below w0.heap.size w0 w) (ht : 1 < w0.heap.size ∧ 2 < w0.heap.size ∧ 3 < w0.heap.size) : Kit w' := by
  have e : ∀ {b o : Nat}, b < w0.heap.size → w'.cell? ⟨b, o, none⟩ = w.cell? ⟨b, o, none⟩ := fun {b o} hlt => by
    rw [hb.cell (p := ⟨b, o, none⟩) hlt, h0.cell (p := ⟨b, o, none⟩) hlt]
  obtain ⟨⟨m, hm⟩, hu⟩ := h
  exact ⟨⟨m, by rw [e ht.2.2]; exact hm⟩, fun c hc => by rw [e ht.1]; exact hu.1 c hc, fun i hi => ⟨by rw [e ht.2.1]; exact (hu.2 i hi).1, by rw [e ht.2.1]; exact (hu.2 i hi).2⟩⟩

section
variable {w0 w w' : World} {p : Nat} {v : Value} {ts : List ByteArray} {q q' : ByteArray} {pl pl' : Int} {fd fd' : Bool} {pb : Nat} {a : Option Addr} {cap : Nat} {tb tb' : List ByteArray} {own own' : ByteArray} {k k' : Nat}
theorem Duo.below (h : Duo w0 w p v ts q pl fd pb a cap tb own k) (hb : Below w.heap.size w w') : Duo w0 w' p v ts q pl fd pb a cap tb own k :=
  ⟨h.sea.below hb, h.bro.below hb, h.kit.below hb, grew h.bel hb, h.low, h.lob, h.tab⟩
theorem Duo.ask (h : Duo w0 w p v ts q pl fd pb a cap tb own k) (hs : Sea w' p v ts q' pl' fd') (hk : Keep (Just p) w w') : Duo w0 w' p v ts q' pl' fd' pb a cap tb own k := by
  have hb : Below w0.heap.size w0 w' := h.bel.trans (hk.below h.bel.size (fun i e => by have e' : i = p := e; rw [e']; exact h.low))
  exact ⟨hs, h.bro.keep hk (fun i hi e => (h.lob i hi).2.1 e), h.kit.keep (S := Just p) hb h.bel h.tab, hb, h.low, h.lob, h.tab⟩
theorem Duo.turn (h : Duo w0 w p v ts q pl fd pb a cap tb own k) (hs : Bro w' pb a cap tb' own' k') (hk : Keep (BroB pb a) w w') : Duo w0 w' p v ts q pl fd pb a cap tb' own' k' := by
  have hb : Below w0.heap.size w0 w' := h.bel.trans (hk.below h.bel.size (fun i e => (h.lob i e).1))
  refine ⟨h.sea.keep hk (fun e => (h.lob p e).2.1 rfl) (fun g hg e => (h.lob g e).2.2 hg) (fun e => by have := (h.lob _ e).1; have := h.tab.2.2; omega), hs, h.kit.keep (S := BroB pb a) hb h.bel h.tab, hb, h.low, h.lob, h.tab⟩
theorem Duo.move (h : Duo w0 w p v ts q pl fd pb a cap tb own k) (hs : Bro w' pb a cap tb own k') (hk : Keep (Just pb) w w') : Duo w0 w' p v ts q pl fd pb a cap tb own k' :=
  h.turn hs (hk.more (fun i _ e => .inl e))
end

/-- A literal of texts. -/
theorem lit_texts (w : World) (l : List ByteArray) (t : TypeId) : SliceS (w.alloc (.cells (l.map Value.string).toArray t)) (.slice (some ⟨w.heap.size, 0, none⟩) l.length l.length) l :=
  ⟨_, l.length, rfl, Nat.le_refl _, .inr ⟨w.heap.size, 0, rfl, by simp, fun i hi => by
    rw [cell_of_row _ _ _ _ _ _ (heap_alloc_new _ _)]
    simp [List.getElem?_eq_getElem hi]⟩⟩
end Go.Proofs.YtepddieblankpaaDoor
