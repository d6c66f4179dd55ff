/- Ids of elements put to a list of the call's own; what two rows say. -/
import Derived.Test.YtmelaidbicaagaaViMore
namespace Go.Proofs.Ytmelaidbicaagaa
open Go.RowKit
set_option linter.unusedVariables false

theorem elCells_one : ∀ (xs : List (Nat × El)), ∀ u ∈ elCells xs, u.oneCell' = true
  | [], u, h => by simp [elCells] at h
  | x :: xs, u, h => by
    simp only [elCells, List.mem_cons] at h
    rcases h with rfl | rfl | h
    · rfl
    · rfl
    · exact elCells_one xs u h
/-- 'append(v, u...)' at Ids of elements. -/
theorem wp_append_ide {ops : Array Oper} {rest : List Oper} {o : Oper} {a : Act} {w : World} {Q : Exit → Act → World → Prop} (hgd : o.guard = none) (s x : Operand)
    (ho : o.op = .call { callee := .builtin .append, args := #[s, x], argTypes := #[34, 34] })
    (base : Nat) (v : Value) (xs : List (Nat × El)) (hs : a.eval s = v) (hown : OwnE w base v xs) (hbase : base ≤ w.heap.size) (u : Value) (ys : List (Nat × El)) (hx : a.eval x = u) (hu : SliceG 2 idvL w u (View.ids ys)) (hlen : xs.length + ys.length ≤ 1000000)
    (h : ∀ v' w', OwnE w' base v' (xs ++ ys) → Below base w w' → wpList Try.prog ops Q rest (a.put o.dst v') w') :
    wpList Try.prog ops Q (o :: rest) a w := by
  obtain ⟨i0, hi, hz0, hz1, hz2⟩ := info_parts info_idv
  obtain ⟨ad, cap, rfl, hcap, hrow⟩ := hu
  have hyl : (View.ids ys).length = ys.length := by simp [View.ids]
  cases ad with
  | none =>
    obtain rfl : ys = [] := by
      rcases hrow with h | ⟨b, off, h, _⟩
      · exact List.eq_nil_of_length_eq_zero (by rw [← hyl, h]; rfl)
      · cases h
    refine wpList_plain hgd fun K hK => ?_
    have hr : (Builtin.append_ #[34, 34] o.type #[v, .slice none 0 cap]).run Try.prog w = .ok v w := by
      rcases hown.2 with ⟨rfl, _⟩ | ⟨g, cp, cur, rfl, _, _, hn, _⟩
      · simp [Builtin.append_, run_underlying Try.underlying34, sizeOf, typeInfo, hi, Builtin.lenOf, Builtin.firstCells]
      · simp [Builtin.append_, run_underlying Try.underlying34, sizeOf, typeInfo, hi, Builtin.lenOf, Builtin.firstCells, hn, storeCells]
    unfold Oper.wp execOp
    rw [hyl] at hx
    simp only [ho, resolve, invoke, builtin, Sem.run_bind, Sem.run_pure, Result.andThen_ok, List.map_toArray, List.map_cons, List.map_nil, hs, hx, List.length_nil, hr]
    exact hK _ _ (h _ w (by simpa using hown) (Below.refl _ _))
  | some ad =>
    rw [hyl] at hx
    refine wpList_append_own (P := Try.prog) _ hgd s x 34 ho base 24 i0 (.agg #[.int .i64 0, .int .i64 0]) 2 16 Try.underlying34 hi hz0 hz1 hz2 rfl (by decide) v xs.length (elCells xs) hs hown ad ys.length cap (elCells ys) hx (elCells_len ys) ?_ (elCells_one ys) ?_ ?_ hbase ?_
    · intro j u hu
      rcases hrow with hn | ⟨b, off, e, hb, hc⟩
      · have : ys = [] := List.eq_nil_of_length_eq_zero (by rw [← hyl, hn]; rfl)
        subst this
        simp [elCells] at hu
      · injection e with e
        subst e
        have hj : j < ys.length * 2 := by have := (List.getElem?_eq_some_iff.1 hu).1; rwa [elCells_len] at this
        have e2 : (⟨b, off, none⟩ : Addr).add j = ⟨b, off + j, none⟩ := by simp [Addr.add]
        rw [e2]
        have hi2 : j / 2 < ys.length := by omega
        obtain ⟨k0, k1⟩ := elCells_at ys (j / 2) hi2
        have hget : (View.ids ys)[j / 2]'(by rw [hyl]; exact hi2) = (ys[j / 2].2.t, ys[j / 2].2.s) := by simp [View.ids]
        have q0 := hc (j / 2) (by rw [hyl]; exact hi2) 0 _ rfl
        have q1 := hc (j / 2) (by rw [hyl]; exact hi2) 1 _ rfl
        rw [hget] at q0 q1
        rcases Nat.mod_two_eq_zero_or_one j with e | e
        · rw [show j / 2 * 2 = j from by omega, hu] at k0
          rw [show off + j / 2 * 2 + 0 = off + j from by omega] at q0
          rw [Option.some.inj k0]
          exact q0
        · rw [show j / 2 * 2 + 1 = j from by omega, hu] at k1
          rw [show off + j / 2 * 2 + 1 = off + j from by omega] at q1
          rw [Option.some.inj k1]
          exact q1
    · unfold maxLen; omega
    · omega
    · intro v' w' h1 h2 _
      refine h v' w' ?_ ?_
      · unfold OwnE
        rw [elCells_app, List.length_append]
        exact h1
      · refine ((Below.refl base w).grown h2 hbase ?_)
        intro k hk
        exact (World.ownsRow.lt hown k hk).1

theorem View.half_text (es : List El) (k : Nat) : View.text es = View.text (es.take k) ++ View.text (es.drop k) := by
  rw [View.text_els, View.text_els, View.text_els, ← runes_app, ← List.map_append, ← List.filter_append, List.take_append_drop]
theorem View.half_len (es : List El) (k : Nat) : (View.seen es).length = (View.seen (es.take k)).length + (View.seen (es.drop k)).length := by
  rw [View.seen_flen, View.seen_flen, View.seen_flen, ← List.length_append, ← List.filter_append, List.take_append_drop]
theorem View.text_size (es : List El) : (View.text es).size ≤ 4 * es.length := by
  have h1 := runesBytes_size_le ((View.seen es).map (fun x => View.rn x.2.rune))
  rw [List.length_map] at h1
  have h2 := View.seen_len es
  unfold View.text
  omega
theorem View.cut_three {l : List (Nat × El)} {f t : Nat} (h1 : f ≤ t) (h2 : t ≤ l.length) : View.cut l 0 f ++ View.cut l f t ++ View.cut l t l.length = View.cut l 0 l.length := by
  unfold View.cut
  simp only [List.drop_zero, List.take_length]
  have e1 : l.take f ++ (l.take t).drop f = l.take t := by
    have := List.take_append_drop f (l.take t)
    rwa [List.take_take, Nat.min_eq_left h1] at this
  rw [e1, List.take_append_drop]
theorem View.cut_len2 {l : List (Nat × El)} {f t : Nat} (h1 : f ≤ t) (h2 : t ≤ l.length) : (View.cut l f t).length = t - f := by
  unfold View.cut
  rw [List.length_drop, List.length_take]
  omega
end Go.Proofs.Ytmelaidbicaagaa
