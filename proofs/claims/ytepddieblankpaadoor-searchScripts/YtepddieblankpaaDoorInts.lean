/- Slices of ints: what they hold; appended to; two of them held against one another. -/
import Derived.Test.YtepddieblankpaaDoorOwn
import Derived.Test.YtepddieblankpaaDoorInts0
import Derived.BigQuiet
import Derived.Deep.QuietTactic
import Derived.Laws.MakeOwn
import Derived.OpenShut
namespace Go.Proofs.YtepddieblankpaaDoor
open Go.RowKit
set_option linter.unusedVariables false

/-- 'l = append(l, d)'. -/
theorem wp_append_int {ops : Array Oper} {rest : List Oper} {o : Oper} {a : Act} {w : World} {Q : Exit → Act → World → Prop} (hgd : o.guard = none) (s x : Operand)
    (ho : o.op = .call { callee := .builtin .append, args := #[s, x], argTypes := #[36, 36] })
    (base : Nat) (v : Value) (l : List Int) (d : Int) (hs : a.eval s = v) (hx : a.eval x = .slice (some ⟨w.heap.size, 0, none⟩) 1 1)
    (hown : OwnsI w base v l) (hbase : base ≤ w.heap.size) (hlen : l.length < 1000000000)
    (h : ∀ v' w', OwnsI w' base v' (l ++ [d]) → Below base w w' → wpList Tryd.prog ops Q rest (a.put o.dst v') w') :
    wpList Tryd.prog ops Q (o :: rest) a (w.alloc (.cells #[.int .i64 d] 3)) := by
  obtain ⟨i0, hi, hz0, hz1, hz2⟩ := info_parts info_i64
  refine wpList_append_own (P := Tryd.prog) _ hgd s x 36 ho base 3 i0 (.int .i64 0) 1 8 Tryd.underlying36 hi hz0 hz1 hz2 rfl (by decide) v l.length (intCells l) hs (World.ownsRow.alloc hown _) ⟨w.heap.size, 0, none⟩ 1 1 [.int .i64 d] hx rfl ?_ ?_ ?_ ?_ ?_ ?_
  · exact cell_one_new _ _ _
  · intro u hu
    simp at hu
    subst hu
    rfl
  · unfold maxLen; omega
  · omega
  · simp; omega
  · intro v' w' h1 h2 _
    refine h v' w' ?_ ?_
    · unfold OwnsI
      have e : intCells (l ++ [d]) = intCells l ++ [.int .i64 d] := by simp [intCells]
      rw [e, List.length_append]
      exact h1
    · refine (((Below.refl base w).alloc hbase _).grown h2 (by simp; omega) ?_)
      intro k hk
      exact (hown.lt k hk).1

/-- 'make([]int, 0, n)': a slice that owns nothing. -/
theorem ints_made (n : Nat) (w : World) (hn : n ≤ 1000000000) : ∃ v W, (Instr.makeSlice 36 (.int .i64 0) (.int .i64 (n : Int))).run Tryd.prog w = .ok v W
    ∧ OwnsI W w.heap.size v [] ∧ Below w.heap.size w W := by
  obtain ⟨i0, hi, hz0, hz1, hz2⟩ := info_parts info_i64
  have h := run_make (P := Tryd.prog) w 36 3 i0 (.int .i64 0) Tryd.underlying36 hi hz0 .i64 .i64 0 (n : Int) (by omega) (by omega) (by rw [hz2]; omega) (by omega)
  refine ⟨_, _, h, ?_, grew_alloc _ _⟩
  refine World.ownsRow_made w _ _ (Nat.le_refl _) (by unfold maxLen; omega) ?_
  rw [size_madeCells, hz1]
end Go.Proofs.YtepddieblankpaaDoor
