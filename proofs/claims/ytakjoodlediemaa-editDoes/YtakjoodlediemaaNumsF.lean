/- The front of a slice of numbers; 'append(v, u...)' at numbers; a literal of numbers. -/
import Derived.Test.YtakjoodlediemaaInts0
namespace Go.Proofs.Ytakjoodlediemaa
open Go.RowKit
set_option linter.unusedVariables false

theorem nums_front {w : World} {va : Option Addr} {vc : Nat} {l : List Int} (h : SliceI w (.slice va l.length vc) l) {n : Nat} (hn : n ≤ l.length) : SliceI w (.slice va n vc) (l.take n) := by
  obtain ⟨a', cap', e, hc, h⟩ := h
  injection e with e1 _ e3
  subst e1 e3
  refine ⟨va, vc, by rw [List.length_take]; congr 1; omega, by rw [List.length_take]; omega, ?_⟩
  rcases h with rfl | ⟨b, off, rfl, hlt, hcell⟩
  · exact .inl (by simp)
  · refine .inr ⟨b, off, rfl, hlt, fun i hi => ?_⟩
    rw [List.length_take] at hi
    rw [List.getElem_take]
    exact hcell i (by omega)

/-- A literal of numbers. -/
theorem lit_nums (w : World) (l : List Int) (t : TypeId) : SliceI (w.alloc (.cells (intCells l).toArray t)) (.slice (some ⟨w.heap.size, 0, none⟩) l.length l.length) l :=
  ⟨_, l.length, rfl, Nat.le_refl _, .inr ⟨w.heap.size, 0, rfl, by simp, fun i hi => by
    rw [cell_of_row _ _ _ _ _ _ (heap_alloc_new _ _)]
    simp [intCells, List.getElem?_eq_getElem hi]⟩⟩

theorem nums_len (l : List Int) : (intCells l).length = l.length := by simp [intCells]
theorem nums_one (l : List Int) : ∀ u ∈ intCells l, u.oneCell' = true := by
  intro u hu
  obtain ⟨x, _, rfl⟩ := List.mem_map.1 hu
  rfl

/-- 'append(v, u...)' at numbers, whatever u is. -/
theorem wp_append_nums {ops : Array Oper} {rest : List Oper} {o : Oper} {a : Go.Act} {w : World} {Q : Exit → Go.Act → World → Prop} (hgd : o.guard = none) (s x : Operand)
    (ho : o.op = .call { callee := .builtin .append, args := #[s, x], argTypes := #[22, 22] })
    (v : Value) (xs : List Int) (hs : a.eval s = v) (hown : OwnI w v xs) (u : Value) (ys : List Int) (hx : a.eval x = u) (hu : SliceI w u ys) (hlen : xs.length + ys.length ≤ 1000000000)
    (h : ∀ v' w', OwnI w' v' (xs ++ ys) → Keep (At v) w w' → Near w v v' → wpList Try.prog ops Q rest (a.put o.dst v') w') :
    wpList Try.prog ops Q (o :: rest) a w := by
  obtain ⟨ad, cap, rfl, hcap, hrow⟩ := hu
  cases ad with
  | none =>
    obtain rfl : ys = [] := by
      rcases hrow with h | ⟨b, off, h, _⟩
      · exact h
      · cases h
    obtain ⟨i0, hi, hz0, hz1, hz2⟩ := info_parts info_i64
    refine wpList_plain hgd fun K hK => ?_
    have hr : (Builtin.append_ #[22, 22] o.type #[v, .slice none 0 cap]).run Try.prog w = .ok v w := by
      rcases hown.2 with ⟨rfl, _⟩ | ⟨g, cp, cur, rfl, _, _, hn, _⟩
      · simp [Builtin.append_, run_underlying Try.underlying22, sizeOf, typeInfo, hi, Builtin.lenOf, Builtin.firstCells]
      · simp [Builtin.append_, run_underlying Try.underlying22, sizeOf, typeInfo, hi, Builtin.lenOf, Builtin.firstCells, hn, storeCells]
    unfold Oper.wp execOp
    simp only [ho, resolve, invoke, builtin, Sem.run_bind, Sem.run_pure, Result.andThen_ok, List.map_toArray, List.map_cons, List.map_nil, hs, hx, List.length_nil, hr]
    exact hK _ _ (h _ w (by simpa using hown) (Keep.refl _ _) (fun g hg => .inl hg))
  | some ad =>
    refine wp_append_any hgd s x ho Try.underlying22 info_i64 rfl (by decide) (by decide) v xs.length (intCells xs) hs hown ad ys.length cap (intCells ys) hx (by rw [nums_len, Nat.mul_one]) ?_ (nums_one ys) hlen ?_
    · rcases hrow with rfl | ⟨b, off, e, hb, hcells⟩
      · intro j u hu; simp [intCells] at hu
      · injection e with e
        subst e
        intro j u hu
        have hj : j < ys.length := by
          have := (List.getElem?_eq_some_iff.1 hu).1
          rwa [nums_len] at this
        have := hcells j hj
        rw [show (⟨b, off, none⟩ : Addr).add j = ⟨b, off + j, none⟩ from by unfold Addr.add; split <;> simp_all, this]
        simp [intCells, List.getElem?_eq_getElem hj] at hu
        rw [hu]
    · intro v' w' k1 k2 k3
      refine h v' w' ?_ k2 k3
      unfold OwnI
      rw [List.length_append]
      have e : intCells (xs ++ ys) = intCells xs ++ intCells ys := by simp [intCells]
      rw [e]
      exact k1
end Go.Proofs.Ytakjoodlediemaa
