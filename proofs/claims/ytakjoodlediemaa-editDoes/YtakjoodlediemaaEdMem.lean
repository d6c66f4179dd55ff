/- Acts in memory; what one key does to a state, as it lies in a block. -/
import Derived.Test.YtakjoodlediemaaEdMath
import Derived.Test.YtakjoodlediemaaSliceG
import Derived.Test.YtakjoodlediemaaVecMake
import Derived.Test.YtakjoodlediemaaMesgCheck
namespace Go.Proofs.Ytakjoodlediemaa
open Go.RowKit
set_option linter.unusedVariables false

def EAct.cells (a : EAct) : List Value := [.int .i64 a.kind, .int .i64 a.at', .int .i64 a.rune]
def actCells (l : List EAct) : List Value := l.flatMap EAct.cells
theorem actCells_len (l : List EAct) : (actCells l).length = l.length * 3 := by
  induction l with
  | nil => rfl
  | cons a l ih =>
    unfold actCells at ih ⊢
    rw [List.flatMap_cons, List.length_append, ih]
    simp [EAct.cells]
    omega
theorem actCells_app (l m : List EAct) : actCells (l ++ m) = actCells l ++ actCells m := List.flatMap_append
theorem actCells_one (l : List EAct) : ∀ u ∈ actCells l, u.oneCell' = true := by
  intro u hu
  obtain ⟨a, _, h⟩ := List.mem_flatMap.1 hu
  simp [EAct.cells] at h
  rcases h with rfl | rfl | rfl <;> rfl
theorem actCells_get : ∀ (l : List EAct) (i : Nat) (h : i < l.length) (j : Nat) (u : Value), (l[i].cells)[j]? = some u → (actCells l)[i * 3 + j]? = some u
  | a :: l, 0, h, j, u, hu => by
    have hj : j < a.cells.length := (List.getElem?_eq_some_iff.1 hu).1
    unfold actCells
    rw [List.flatMap_cons, Nat.zero_mul, Nat.zero_add, List.getElem?_append_left hj]
    exact hu
  | a :: l, i + 1, h, j, u, hu => by
    have ih := actCells_get l i (by simpa using h) j u (by simpa using hu)
    unfold actCells at ih ⊢
    rw [List.flatMap_cons, List.getElem?_append_right (by simp [EAct.cells]; omega)]
    rw [← ih]
    congr 1
    simp [EAct.cells]
    omega
theorem info_act : (Try.prog.info? 70).map (fun i => (i.zero, i.size, i.bytes)) = some (some (.agg #[.int .i64 0, .int .i64 0, .int .i64 0]), 3, 24) := by kernel_rfl
/-- The slice v has a row of its own, that holds these acts. -/
def OwnAct (w : World) (v : Value) (l : List EAct) : Prop := Owns w 70 3 v l.length (actCells l)
theorem owns_actg {w : World} {e : TypeId} {v : Value} {l : List EAct} (h : Owns w e 3 v l.length (actCells l)) : SliceG 3 EAct.cells w v l := by
  rcases h.2 with ⟨rfl, h0⟩ | ⟨g, cap, cur, rfl, hb, hg, hn, hm, hc, ht⟩
  · have : l = [] := List.eq_nil_of_length_eq_zero h0
    subst this
    exact ⟨none, 0, rfl, by simp, .inl rfl⟩
  · refine ⟨_, cap, rfl, hn, .inr ⟨g, 0, rfl, (Array.getElem?_eq_some_iff.1 hg).1, fun i hi j u hu => ?_⟩⟩
    have := World.ownsRow.cells h (g := g) rfl (i * 3 + j) u (actCells_get l i hi j u hu)
    rw [show (⟨g, 0, none⟩ : Addr).add (i * 3 + j) = ⟨g, 0 + i * 3 + j, none⟩ from by unfold Addr.add; split <;> simp_all] at this
    exact this
theorem OwnAct.slice {w : World} {v : Value} {l : List EAct} (h : OwnAct w v l) : SliceG 3 EAct.cells w v l := owns_actg h
theorem OwnAct.nil (w : World) : OwnAct w (.slice none 0 0) [] := Owns.nil _ _ _
theorem OwnAct.shape {w : World} {v : Value} {l : List EAct} (h : OwnAct w v l) : ∃ a cap, v = .slice a l.length cap := h.slice.shape

theorem owns_form {w : World} {e : TypeId} {k n : Nat} {v : Value} {xs : List Value} (h : Owns w e k v n xs) : ∃ a c, v = .slice a n c := by
  rcases h.2 with ⟨e, h0⟩ | ⟨g, cap, cur, e, _⟩
  · exact ⟨none, 0, by rw [e, h0]⟩
  · exact ⟨_, cap, e⟩

def tnL (t : Tn) (lv kv av : Value) : List Value := [lv, .int .i64 t.at', .int .i64 t.long, kv, .int .i64 t.typed, av]
/-- A turn in the block g, made since w0: its line and what was killed lay there before. -/
structure IsTn (w0 w : World) (g : Nat) (t : Tn) (lv kv av : Value) : Prop where
  box : Holds w g (tnL t lv kv av) 54
  new : w0.heap.size ≤ g
  line : SliceI w0 lv t.line
  kill : SliceI w0 kv t.kill
  acts : OwnAct w av t.acts
  apart : ∀ b, av.ownBlock = some b → w0.heap.size ≤ b ∧ b ≠ g
  bel : Below w0.heap.size w0 w

theorem IsTn.grew {w0 w w' : World} {g : Nat} {t : Tn} {lv kv av : Value} (h : IsTn w0 w g t lv kv av) (hb : Below w.heap.size w w') : IsTn w0 w' g t lv kv av :=
  ⟨h.box.keep (Keep.of_grew hb Non) (fun h => h), h.new, h.line, h.kill, Owns.keep h.acts (Keep.of_grew hb Non) (fun _ _ h => h), h.apart, h.bel.trans (Below.mono hb h.bel.size)⟩
/-- A cell of the turn is written. -/
theorem IsTn.set {w0 w : World} {g : Nat} {t t' : Tn} {lv kv kv' av : Value} (h : IsTn w0 w g t lv kv av) (j : Nat) (u : Value) (hj : j < 6) (e : (tnL t lv kv av).set j u = tnL t' lv kv' av)
    (hl : t'.line = t.line) (hk : SliceI w0 kv' t'.kill) (ha : t'.acts = t.acts) : IsTn w0 (w.setCell ⟨g, j, none⟩ u) g t' lv kv' av := by
  refine ⟨?_, h.new, by rw [hl]; exact h.line, hk, ?_, h.apart, ?_⟩
  · rw [← e]
    exact h.box.set j u (by simpa [tnL] using hj)
  · rw [ha]
    exact Owns.keep h.acts (Keep.setCell w g j u) (fun b hb e => (h.apart b hb).2 e)
  · exact h.bel.trans ((Keep.setCell w g j u).below h.bel.size (fun i e => by rw [e]; exact h.new))
/-- One act more. -/
theorem IsTn.more {w0 w w1 : World} {g : Nat} {t t' : Tn} {lv kv av av' : Value} {a : EAct} (h : IsTn w0 w g t lv kv av) (ho : Owns w1 70 3 av' (t.acts.length + 1) (actCells t.acts ++ a.cells)) (hk : Keep (At av) w w1) (hn : Near w av av')
    (e : t' = { t with acts := t.acts ++ [a] }) : IsTn w0 (w1.setCell ⟨g, 5, none⟩ av') g t' lv kv av' := by
  subst e
  have hap : ∀ b, av'.ownBlock = some b → w0.heap.size ≤ b ∧ b ≠ g := fun b hb => by
    rcases hn b hb with q | q
    · exact h.apart b q
    · exact ⟨Nat.le_trans h.bel.size q, fun e => by have := h.box.lt; omega⟩
  have hbox : Holds w1 g (tnL t lv kv av) 54 := h.box.keep hk (fun e => (h.apart g e).2 rfl)
  refine ⟨?_, h.new, h.line, h.kill, ?_, hap, ?_⟩
  · exact hbox.set 5 av' (by simp [tnL])
  · have ho' : OwnAct w1 av' (t.acts ++ [a]) := by
      unfold OwnAct
      rw [List.length_append, actCells_app]
      simpa [actCells] using ho
    exact Owns.keep ho' (Keep.setCell w1 g 5 av') (fun b hb e => (hap b hb).2 e)
  · have h1 : Below w0.heap.size w w1 := hk.below h.bel.size (fun i e => (h.apart i e).1)
    exact (h.bel.trans h1).trans ((Keep.setCell w1 g 5 av').below (h.bel.trans h1).size (fun i e => by rw [e]; exact h.new))
theorem IsTn.cells {w0 w : World} {g : Nat} {t : Tn} {lv kv av : Value} (h : IsTn w0 w g t lv kv av) :
    w.cell? ⟨g, 0, none⟩ = some lv ∧ w.cell? ⟨g, 1, none⟩ = some (.int .i64 t.at') ∧ w.cell? ⟨g, 2, none⟩ = some (.int .i64 t.long) ∧ w.cell? ⟨g, 3, none⟩ = some kv ∧ w.cell? ⟨g, 4, none⟩ = some (.int .i64 t.typed) ∧ w.cell? ⟨g, 5, none⟩ = some av :=
  ⟨h.box.cell 0 (by simp [tnL]), h.box.cell 1 (by simp [tnL]), h.box.cell 2 (by simp [tnL]), h.box.cell 3 (by simp [tnL]), h.box.cell 4 (by simp [tnL]), h.box.cell 5 (by simp [tnL])⟩
theorem IsTn.frozen {w0 w : World} {g : Nat} {t : Tn} {lv kv av : Value} (h : IsTn w0 w g t lv kv av) (j : Nat) : w.frozen? ⟨g, j, none⟩ = false := h.box.frozen j
end Go.Proofs.Ytakjoodlediemaa
