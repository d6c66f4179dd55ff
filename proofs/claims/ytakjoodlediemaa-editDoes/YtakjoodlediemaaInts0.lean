/- Slices of ints: what they hold; appended to. -/
import Derived.Test.YtakjoodlediemaaKeep
import Derived.BigQuiet
import Derived.Deep.QuietTactic
import Derived.Laws.MakeOwn
import Derived.OpenShut
namespace Go.Proofs.Ytakjoodlediemaa
open Go.RowKit
set_option linter.unusedVariables false

/-- A slice of integers that came in: nil; or a row of 'cap' cells that hold the numbers zs, the first 'len' of them its elements. -/
def IsRow (k : IntKind) (w : World) (a : Option Addr) (len cap : Nat) (zs : List Int) : Prop :=
  (a = none ∧ len = 0 ∧ cap = 0 ∧ zs = []) ∨
  ∃ x, a = some x ∧ len ≤ cap ∧ cap ≤ maxLen ∧ zs.length = cap ∧ (∀ i, i < zs.length → w.cell? (x.add i) = some (.int k (zs.getD i 0))) ∧ ∀ n ∈ zs, (Lit.int k n).wf = true

/-- The slice v holds the ints zs. -/
def SliceI (w : World) (v : Value) (zs : List Int) : Prop :=
  ∃ a cap, v = .slice a zs.length cap ∧ zs.length ≤ cap ∧ (zs = [] ∨ ∃ b off, a = some ⟨b, off, none⟩ ∧ b < w.heap.size ∧ ∀ i (h : i < zs.length), w.cell? ⟨b, off + i, none⟩ = some (.int .i64 zs[i]))

theorem SliceI.below {w w' : World} {v : Value} {zs : List Int} (h : SliceI w v zs) (hb : Below w.heap.size w w') : SliceI w' v zs := by
  obtain ⟨a, cap, hv, hc, h⟩ := h
  refine ⟨a, cap, hv, hc, ?_⟩
  rcases h with h | ⟨b, off, ha, hlt, hcell⟩
  · exact .inl h
  · exact .inr ⟨b, off, ha, Nat.lt_of_lt_of_le hlt hb.size, fun i hi => by rw [hb.cell (p := ⟨b, off + i, none⟩) hlt]; exact hcell i hi⟩

theorem IsRow.slice {w : World} {a : Option Addr} {len cap : Nat} {zs : List Int} (h : IsRow .i64 w a len cap zs) :
    ∃ ys : List Int, SliceI w (.slice a len cap) ys ∧ ys.length = len ∧ len ≤ maxLen ∧ ∀ n ∈ ys, -9223372036854775808 ≤ n ∧ n ≤ 9223372036854775807 := by
  rcases h with ⟨rfl, rfl, rfl, rfl⟩ | ⟨x, rfl, hl, hm, hz, hcell, hwf⟩
  · exact ⟨[], ⟨none, 0, rfl, by simp, .inl rfl⟩, rfl, by simp, by simp⟩
  · have hlen : (zs.take len).length = len := by rw [List.length_take]; omega
    refine ⟨zs.take len, ⟨some x, cap, by rw [hlen], by omega, ?_⟩, hlen, by omega, fun n hn => bounds_i64 (hwf n (List.mem_of_mem_take hn))⟩
    by_cases h0 : len = 0
    · subst h0; exact .inl (by simp)
    · obtain ⟨b, off, spot⟩ := x
      have hc := hcell 0 (by omega)
      have hspot : spot = none := by simpa [Addr.add] using World.cell?_spot hc
      subst hspot
      have hplain : ∀ i, (⟨b, off, none⟩ : Addr).add i = ⟨b, off + i, none⟩ := fun i => by unfold Addr.add; split <;> simp_all
      refine .inr ⟨b, off, rfl, ?_, fun i hi => ?_⟩
      · rw [hplain] at hc
        exact block_lt_of_cell hc
      · have hi' : i < zs.length := by omega
        have := hcell i hi'
        rw [hplain] at this
        rw [this]
        simp [List.getElem?_eq_getElem hi']

theorem take_ext {xs ys : List Int} {k : Nat} (ha : k < xs.length) (hb : k < ys.length) (h : xs.take k = ys.take k) : (xs.take (k + 1) = ys.take (k + 1)) ↔ xs[k] = ys[k] := by
  rw [List.take_succ_eq_append_getElem ha, List.take_succ_eq_append_getElem hb, h]
  exact ⟨fun h => by have := List.append_cancel_left h; injection this, fun h => by rw [h]⟩

def intCells (l : List Int) : List Value := l.map (Value.int .i64)

/-- The slice v owns the ints l, in a block from base on. -/
def OwnsI (w : World) (base : Nat) (v : Value) (l : List Int) : Prop := w.ownsRow base 3 1 v l.length (intCells l)

theorem info_i64 : (Try.prog.info? 3).map (fun i => (i.zero, i.size, i.bytes)) = some (some (.int .i64 0), 1, 8) := by kernel_rfl

theorem OwnsI.nil (w : World) (base : Nat) : OwnsI w base (.slice none 0 0) [] := World.ownsRow_nil _ _ _ _

theorem OwnsI.slice {w : World} {base : Nat} {v : Value} {l : List Int} (h : OwnsI w base v l) : SliceI w v l := by
  rcases h.2 with ⟨rfl, h0⟩ | ⟨g, cap, cur, rfl, hb, hg, hn, hm, hc, ht⟩
  · have : l = [] := List.eq_nil_of_length_eq_zero h0
    subst this
    exact ⟨none, 0, rfl, by simp, .inl rfl⟩
  · refine ⟨_, cap, rfl, hn, .inr ⟨g, 0, rfl, (Array.getElem?_eq_some_iff.1 hg).1, fun i hi => ?_⟩⟩
    have := World.ownsRow.cells h (g := g) rfl i (.int .i64 l[i]) (by simp [intCells, List.getElem?_eq_getElem hi])
    rw [show (⟨g, 0, none⟩ : Addr).add i = ⟨g, 0 + i, none⟩ from by unfold Addr.add; split <;> simp_all] at this
    exact this

/-- The slice v has a row of its own, that holds the ints l. -/
def OwnI (w : World) (v : Value) (l : List Int) : Prop := Owns w 3 1 v l.length (intCells l)
theorem OwnI.nil (w : World) : OwnI w (.slice none 0 0) [] := Owns.nil _ _ _
theorem OwnI.slice {w : World} {v : Value} {l : List Int} (h : OwnI w v l) : SliceI w v l := OwnsI.slice (base := 0) h
theorem OwnI.keep {S : Nat → Prop} {a b : World} {v : Value} {l : List Int} (ho : OwnI a v l) (h : Keep S a b) (hn : ∀ g, v.ownBlock = some g → ¬ S g) : OwnI b v l := Owns.keep ho h hn
theorem OwnI.below {w w' : World} {v : Value} {l : List Int} (h : OwnI w v l) (hb : Below w.heap.size w w') : OwnI w' v l := Owns.keep h (Keep.of_grew hb Non) (fun _ _ h => h)

/-- 'l = append(l, d)'. -/
theorem wp_append_num {ops : Array Oper} {rest : List Oper} {o : Oper} {a : Act} {w : World} {Q : Exit → Act → World → Prop} (hgd : o.guard = none) (s x : Operand)
    (ho : o.op = .call { callee := .builtin .append, args := #[s, x], argTypes := #[22, 22] })
    (v : Value) (l : List Int) (d : Int) (hs : a.eval s = v) (hx : a.eval x = .slice (some ⟨w.heap.size, 0, none⟩) 1 1)
    (hown : OwnI w v l) (hlen : l.length + 1 ≤ 1000000000)
    (h : ∀ v' w', OwnI w' v' (l ++ [d]) → Keep (At v) w w' → Near w v v' → wpList Try.prog ops Q rest (a.put o.dst v') w') :
    wpList Try.prog ops Q (o :: rest) a (w.alloc (.cells #[.int .i64 d] 3)) := by
  refine wp_append_lit hgd s x ho Try.underlying22 info_i64 rfl (by decide) (by decide) v l.length (intCells l) hs hown 1 [.int .i64 d] _ rfl hx rfl ?_ hlen ?_
  · intro u hu
    rw [List.mem_singleton.1 hu]
    rfl
  · intro v' w' k1 k2 k3
    refine h v' w' ?_ k2 k3
    unfold OwnI
    have e : intCells (l ++ [d]) = intCells l ++ [.int .i64 d] := by simp [intCells]
    rw [List.length_append, e]
    exact k1

theorem SliceI.keep {S : Nat → Prop} {w w' : World} {v : Value} {zs : List Int} (h : SliceI w v zs) (hk : Keep S w w') (hn : ∀ g, v.ownBlock = some g → ¬ S g) : SliceI w' v zs := by
  obtain ⟨a, cap, rfl, hc, h⟩ := h
  refine ⟨a, cap, rfl, hc, ?_⟩
  rcases h with h | ⟨b, off, rfl, hlt, hcell⟩
  · exact .inl h
  · exact .inr ⟨b, off, rfl, Nat.lt_of_lt_of_le hlt hk.size, fun i hi => by rw [hk.cell hlt (hn b rfl)]; exact hcell i hi⟩

theorem two_ints (w : World) (x y : Int) : SliceI (w.alloc (.cells #[.int .i64 x, .int .i64 y] 3)) (.slice (some ⟨w.heap.size, 0, none⟩) 2 2) [x, y] :=
  ⟨_, 2, rfl, by simp, .inr ⟨w.heap.size, 0, rfl, by simp, fun i hi => by
    rw [cell_of_row _ _ _ _ _ _ (heap_alloc_new _ _)]
    have hi2 : i < 2 := by simpa using hi
    rcases (by omega : i = 0 ∨ i = 1) with rfl | rfl <;> rfl⟩⟩

/-- A slice of numbers is a slice. -/
theorem SliceI.shape {w : World} {v : Value} {zs : List Int} (h : SliceI w v zs) : ∃ a cap, v = .slice a zs.length cap := by
  obtain ⟨a, cap, rfl, _⟩ := h
  exact ⟨a, cap, rfl⟩
end Go.Proofs.Ytakjoodlediemaa
