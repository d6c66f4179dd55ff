/- Which blocks a piece of a run may turn: for things of the call's own that lie in several blocks and change side by side. -/
import Derived.Test.YtakjoodlediemaaOwn
import Derived.Test.YtakjoodlediemaaBytes
import Derived.Maps.AppendAt
namespace Go.Proofs.Ytakjoodlediemaa
open Go.RowKit
set_option linter.unusedVariables false

/-- Of the blocks of w only those in S may have turned; the streams are as they were. -/
structure Keep (S : Nat → Prop) (w w' : World) : Prop where
  os : w'.os = w.os
  tape : w'.tape = w.tape
  output : w'.output = w.output
  size : w.heap.size ≤ w'.heap.size
  block : ∀ k, k < w.heap.size → ¬ S k → w'.heap[k]? = w.heap[k]?

/-- No block. -/
def Non : Nat → Prop := fun _ => False
/-- One block. -/
def Just (g : Nat) : Nat → Prop := fun k => k = g

theorem Keep.refl (S : Nat → Prop) (w : World) : Keep S w w := ⟨rfl, rfl, rfl, Nat.le_refl _, fun _ _ _ => rfl⟩
theorem Keep.trans {S S' : Nat → Prop} {a b c : World} (h : Keep S a b) (k : Keep S' b c) (hs : ∀ i, i < a.heap.size → S' i → S i) : Keep S a c :=
  ⟨k.os.trans h.os, k.tape.trans h.tape, k.output.trans h.output, Nat.le_trans h.size k.size, fun i hi hn => (k.block i (Nat.lt_of_lt_of_le hi h.size) (fun h' => hn (hs i hi h'))).trans (h.block i hi hn)⟩
theorem Keep.more {S S' : Nat → Prop} {a b : World} (h : Keep S a b) (hs : ∀ i, i < a.heap.size → S i → S' i) : Keep S' a b :=
  ⟨h.os, h.tape, h.output, h.size, fun i hi hn => h.block i hi (fun h' => hn (hs i hi h'))⟩
theorem Keep.of_below {B : Nat} {a b : World} (h : Below B a b) : Keep (fun k => B ≤ k) a b :=
  ⟨h.os, h.tape, h.output, h.size, fun k _ hn => h.block k (by omega)⟩
theorem Keep.of_grew {a b : World} (h : Below a.heap.size a b) (S : Nat → Prop) : Keep S a b :=
  ⟨h.os, h.tape, h.output, h.size, fun k hk _ => h.block k hk⟩
theorem Keep.below {S : Nat → Prop} {B : Nat} {a b : World} (h : Keep S a b) (hB : B ≤ a.heap.size) (hs : ∀ i, S i → B ≤ i) : Below B a b :=
  ⟨h.os, h.tape, h.output, h.size, fun k hk => h.block k (by omega) (fun h' => by have := hs k h'; omega)⟩
theorem Keep.grew {a b : World} (h : Keep Non a b) : Below a.heap.size a b := h.below (Nat.le_refl _) (fun _ h => h.elim)
theorem Keep.fresh {S : Nat → Prop} {a b : World} (h : Keep S a b) (hs : ∀ i, i < a.heap.size → ¬ S i) : Below a.heap.size a b :=
  ⟨h.os, h.tape, h.output, h.size, fun k hk => h.block k hk (hs k hk)⟩
theorem Keep.of_grown {a b : World} {row : Option Nat} (h : a.grownBy b row) : Keep (fun k => some k = row) a b :=
  ⟨h.os, h.tape, h.output, h.size, fun k hk hn => h.block k hk hn⟩
theorem Keep.alloc (S : Nat → Prop) (w : World) (o : Obj) : Keep S w (w.alloc o) := Keep.of_grew (grew_alloc w o) S
theorem Keep.setCell (w : World) (g o : Nat) (u : Value) : Keep (Just g) w (w.setCell ⟨g, o, none⟩ u) :=
  ⟨rfl, rfl, rfl, by simp [World.setCell], fun k _ hn => Below.heap_setCell _ _ _ _ (fun e => hn e)⟩
theorem Keep.cell {S : Nat → Prop} {a b : World} (h : Keep S a b) {g o : Nat} (hg : g < a.heap.size) (hn : ¬ S g) : b.cell? ⟨g, o, none⟩ = a.cell? ⟨g, o, none⟩ := World.cell?_of_block (w := a) (h.block g hg hn)
theorem Keep.frozen {S : Nat → Prop} {a b : World} (h : Keep S a b) {g o : Nat} (hg : g < a.heap.size) (hn : ¬ S g) : b.frozen? ⟨g, o, none⟩ = a.frozen? ⟨g, o, none⟩ := World.frozen?_of_block (w := a) (h.block g hg hn)
theorem Keep.ownsRow {S : Nat → Prop} {a b : World} (h : Keep S a b) {base : Nat} {e : TypeId} {size : Nat} {v : Value} {n : Nat} {xs : List Value} (ho : a.ownsRow base e size v n xs) (hn : ∀ g, v.ownBlock = some g → ¬ S g) : b.ownsRow base e size v n xs := by
  obtain ⟨h1, h2⟩ := ho
  refine ⟨h1, ?_⟩
  rcases h2 with h2 | ⟨g, cap, cur, rfl, hb, hg, r⟩
  · exact .inl h2
  · exact .inr ⟨g, cap, cur, rfl, hb, by rw [h.block g (Array.getElem?_eq_some_iff.1 hg).1 (hn g rfl)]; exact hg, r⟩

/-- A block that holds just these cells, and may be written. -/
def Holds (w : World) (g : Nat) (cs : List Value) (t : TypeId) : Prop := w.heap[g]? = some (.cells cs.toArray t (0, 0))

theorem Holds.lt {w : World} {g : Nat} {cs : List Value} {t : TypeId} (h : Holds w g cs t) : g < w.heap.size := (Array.getElem?_eq_some_iff.1 h).1
theorem Holds.keep {S : Nat → Prop} {a b : World} {g : Nat} {cs : List Value} {t : TypeId} (h : Holds a g cs t) (hk : Keep S a b) (hn : ¬ S g) : Holds b g cs t := by
  unfold Holds; rw [hk.block g h.lt hn]; exact h
theorem Holds.cell {w : World} {g : Nat} {cs : List Value} {t : TypeId} (h : Holds w g cs t) (j : Nat) (hj : j < cs.length) : w.cell? ⟨g, j, none⟩ = some cs[j] := by
  rw [cell_of_row w g j cs.toArray t (0, 0) h]
  simp [hj]
theorem Holds.frozen {w : World} {g : Nat} {cs : List Value} {t : TypeId} (h : Holds w g cs t) (j : Nat) : w.frozen? ⟨g, j, none⟩ = false := by
  unfold World.frozen?
  rw [h]
  simp
theorem Holds.new (w : World) (cs : List Value) (t : TypeId) : Holds (w.alloc (.cells cs.toArray t)) w.heap.size cs t := heap_alloc_new w _
theorem Holds.set {w : World} {g : Nat} {cs : List Value} {t : TypeId} (h : Holds w g cs t) (j : Nat) (u : Value) (hj : j < cs.length) : Holds (w.setCell ⟨g, j, none⟩ u) g (cs.set j u) t := by
  unfold Holds at h ⊢
  simp only [World.setCell, Array.getElem?_modify, if_true, h, Option.map_some]
  simp

/-- Where a slice lies behind an append: in its old row, or in a new one. -/
def Near (w : World) (v v' : Value) : Prop := ∀ g, v'.ownBlock = some g → v.ownBlock = some g ∨ w.heap.size ≤ g

/-- The slice v has a row of its own, of elements of the type e; their cells are xs, 'size' each. -/
def Owns (w : World) (e : TypeId) (size : Nat) (v : Value) (n : Nat) (xs : List Value) : Prop := w.ownsRow 0 e size v n xs

theorem Owns.nil (w : World) (e : TypeId) (size : Nat) : Owns w e size (.slice none 0 0) 0 [] := World.ownsRow_nil _ _ _ _
theorem Owns.lt {w : World} {e : TypeId} {size : Nat} {v : Value} {n : Nat} {xs : List Value} (h : Owns w e size v n xs) {g : Nat} (hg : v.ownBlock = some g) : g < w.heap.size := (World.ownsRow.lt h g hg).2
theorem Owns.keep {S : Nat → Prop} {a b : World} {e : TypeId} {size : Nat} {v : Value} {n : Nat} {xs : List Value} (ho : Owns a e size v n xs) (h : Keep S a b) (hn : ∀ g, v.ownBlock = some g → ¬ S g) : Owns b e size v n xs := h.ownsRow ho hn

/-- What the blocks of a slice's own are. -/
def At (v : Value) : Nat → Prop := fun k => v.ownBlock = some k

/-- 's = append(s, ..)', the new elements lying anywhere. -/
theorem wp_append_any {ops : Array Oper} {rest : List Oper} {o : Oper} {a : Act} {w : World} {Q : Exit → Act → World → Prop} (hgd : o.guard = none) (s x : Operand) {t e : TypeId}
    (ho : o.op = .call { callee := .builtin .append, args := #[s, x], argTypes := #[t, t] }) (ht : Try.prog.underlying t = some (.slice e)) {z : Value} {size bytes : Nat}
    (hinf : (Try.prog.info? e).map (fun i => (i.zero, i.size, i.bytes)) = some (some z, size, bytes)) (hzs : z.cells.size = size) (hsz : 0 < size) (hby : bytes ≤ 1000)
    (v : Value) (n : Nat) (xs : List Value) (hs : a.eval s = v) (hown : Owns w e size v n xs)
    (ad : Addr) (m c : Nat) (news : List Value) (hx : a.eval x = .slice (some ad) m c) (hl : news.length = m * size) (hnews : ∀ j u, news[j]? = some u → w.cell? (ad.add j) = some u) (h1 : ∀ u ∈ news, u.oneCell' = true)
    (hlen : n + m ≤ 1000000000)
    (h : ∀ v' w', Owns w' e size v' (n + m) (xs ++ news) → Keep (At v) w w' → Near w v v' → wpList Try.prog ops Q rest (a.put o.dst v') w') :
    wpList Try.prog ops Q (o :: rest) a w := by
  obtain ⟨i0, hi, hz0, hz1, hz2⟩ := info_parts hinf
  refine wpList_append_own_at (P := Try.prog) _ hgd s x t ho 0 e i0 z size bytes ht hi hz0 hz1 hz2 hzs hsz v n xs hs hown ad m c news hx hl hnews h1 (by unfold maxLen; omega) ?_ (Nat.zero_le _) ?_
  · have : (n + m) * bytes ≤ 1000000000 * 1000 := Nat.mul_le_mul hlen hby
    omega
  · intro v' w' k1 k2 _ k4
    refine h v' w' k1 ((Keep.of_grown k2).more (fun i _ hi => hi.symm)) (fun g hg => ?_)
    rcases k4 with k4 | k4
    · exact .inl (by rw [← k4]; exact hg)
    · rw [k4] at hg
      injection hg with hg
      exact .inr (by omega)

/-- 's = append(s, ..)', the new elements lying in a row just made for that. -/
theorem wp_append_lit {ops : Array Oper} {rest : List Oper} {o : Oper} {a : Act} {w : World} {Q : Exit → Act → World → Prop} (hgd : o.guard = none) (s x : Operand) {t e : TypeId}
    (ho : o.op = .call { callee := .builtin .append, args := #[s, x], argTypes := #[t, t] }) (ht : Try.prog.underlying t = some (.slice e)) {z : Value} {size bytes : Nat}
    (hinf : (Try.prog.info? e).map (fun i => (i.zero, i.size, i.bytes)) = some (some z, size, bytes)) (hzs : z.cells.size = size) (hsz : 0 < size) (hby : bytes ≤ 1000)
    (v : Value) (n : Nat) (xs : List Value) (hs : a.eval s = v) (hown : Owns w e size v n xs)
    (m : Nat) (news : List Value) (cs : Array Value) (hcs : cs = news.toArray) (hx : a.eval x = .slice (some ⟨w.heap.size, 0, none⟩) m m) (hl : news.length = m * size) (h1 : ∀ u ∈ news, u.oneCell' = true)
    (hlen : n + m ≤ 1000000000)
    (h : ∀ v' w', Owns w' e size v' (n + m) (xs ++ news) → Keep (At v) w w' → Near w v v' → wpList Try.prog ops Q rest (a.put o.dst v') w') :
    wpList Try.prog ops Q (o :: rest) a (w.alloc (.cells cs e)) := by
  subst hcs
  refine wp_append_any hgd s x ho ht hinf hzs hsz hby v n xs hs (World.ownsRow.alloc hown _) ⟨w.heap.size, 0, none⟩ m m news hx hl ?_ h1 hlen ?_
  · intro j u hu
    rw [show (⟨w.heap.size, 0, none⟩ : Addr).add j = ⟨w.heap.size, j, none⟩ from by unfold Addr.add; split <;> simp_all, cell_of_row _ _ _ _ _ _ (heap_alloc_new _ _)]
    simpa using hu
  · intro v' w' k1 k2 k3
    refine h v' w' k1 ((Keep.alloc _ w _).trans k2 (fun i _ hi => hi)) (fun g hg => ?_)
    rcases k3 g hg with k | k
    · exact .inl k
    · exact .inr (by simp at k; omega)

/-- Bytes. -/
def OwnB (w : World) (v : Value) (l : List UInt8) : Prop := Owns w 5 1 v l.length (byteCells l)
theorem OwnB.of {w : World} {base : Nat} {v : Value} {l : List UInt8} (h : OwnsB w base v l) : OwnB w v l := by
  obtain ⟨h1, h2⟩ := h
  refine ⟨h1, ?_⟩
  rcases h2 with h2 | ⟨g, cap, cur, hv, _, r⟩
  · exact .inl h2
  · exact .inr ⟨g, cap, cur, hv, Nat.zero_le _, r⟩
theorem OwnB.to {w : World} {v : Value} {l : List UInt8} (h : OwnB w v l) : OwnsB w 0 v l := h
theorem OwnB.nil (w : World) : OwnB w (.slice none 0 0) [] := Owns.nil _ _ _

end Go.Proofs.Ytakjoodlediemaa