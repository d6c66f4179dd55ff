/- Elements in a row of the call's own; what is said of rows one behind the other. -/
import Derived.Test.YtmelaidbicaagaaViOpen
namespace Go.Proofs.Ytmelaidbicaagaa
open Go.RowKit
set_option linter.unusedVariables false

theorem View.seen_els (es : List El) : (View.seen es).map (fun x => x.2) = es.filter (fun e => e.un == 0) := by
  unfold View.seen
  rw [List.map_map]
  have : ∀ (l : List El) (n : Nat), ((l.zipIdx n).filter (fun p => p.1.un == 0)).map ((fun x => x.2) ∘ fun p => (p.2, p.1)) = l.filter (fun e => e.un == 0) := fun l => by
    induction l with
    | nil => intro n; rfl
    | cons e l ih =>
      intro n
      rw [List.zipIdx_cons, List.filter_cons, List.filter_cons]
      cases h : (e.un == 0)
      · rw [if_neg (by decide), if_neg (by decide)]
        exact ih (n + 1)
      · rw [if_pos rfl, if_pos rfl, List.map_cons, ih (n + 1)]
        rfl
  exact this es 0
theorem View.seen_flen (es : List El) : (View.seen es).length = (es.filter (fun e => e.un == 0)).length := by rw [← View.seen_els, List.length_map]
theorem View.text_els (es : List El) : View.text es = runesBytes ((es.filter (fun e => e.un == 0)).map (fun e => View.rn e.rune)) := by
  unfold View.text
  rw [← View.seen_els, List.map_map]
  rfl
theorem runes_from (l : List Int) : ∀ s : ByteArray, l.foldl (fun r n => r ++ Utf8.encode n) s = s ++ runesBytes l := by
  unfold runesBytes
  induction l with
  | nil => intro s; simp
  | cons n l ih =>
    intro s
    rw [List.foldl_cons, List.foldl_cons, ih (s ++ Utf8.encode n), ih (ByteArray.empty ++ Utf8.encode n), ByteArray.append_assoc]
    simp
theorem runes_app (a b : List Int) : runesBytes (a ++ b) = runesBytes a ++ runesBytes b := by
  show List.foldl _ _ _ = _
  rw [List.foldl_append]
  exact runes_from b _

def OwnL (w : World) (base : Nat) (v : Value) (es : List El) : Prop := w.ownsRow base 44 6 v es.length (elsCells es)
theorem OwnL.nil (w : World) (base : Nat) : OwnL w base (.slice none 0 0) [] := World.ownsRow_nil _ _ _ _
theorem elsCells_len : ∀ (es : List El), (elsCells es).length = es.length * 6
  | [] => rfl
  | x :: xs => by unfold elsCells; rw [List.length_append, elsCells_len xs]; simp [El.cells]; omega
theorem elsCells_app : ∀ (xs ys : List El), elsCells (xs ++ ys) = elsCells xs ++ elsCells ys
  | [], _ => rfl
  | x :: xs, ys => by simp [elsCells, elsCells_app xs ys]
theorem elsCells_one : ∀ (es : List El), ∀ u ∈ elsCells es, u.oneCell' = true
  | [], u, h => by simp [elsCells] at h
  | x :: xs, u, h => by
    unfold elsCells at h
    rcases List.mem_append.1 h with h | h
    · simp [El.cells] at h
      rcases h with rfl | rfl | rfl | rfl | rfl | rfl <;> rfl
    · exact elsCells_one xs u h
theorem OwnL.slice {w : World} {base : Nat} {v : Value} {es : List El} (h : OwnL w base v es) : SliceG 6 El.cells w v es := by
  rcases h.2 with ⟨rfl, h0⟩ | ⟨g, cap, cur, rfl, hb, hg, hn, hm, hc, ht⟩
  · have : es = [] := List.eq_nil_of_length_eq_zero h0
    subst this
    exact ⟨none, 0, rfl, by simp, .inl rfl⟩
  · refine ⟨_, cap, rfl, hn, .inr ⟨g, 0, rfl, (Array.getElem?_eq_some_iff.1 hg).1, fun i hi j u hu => ?_⟩⟩
    have := World.ownsRow.cells h (g := g) rfl (i * 6 + j) u (elsCells_at es i hi j u hu)
    rwa [show (⟨g, 0, none⟩ : Addr).add (i * 6 + j) = ⟨g, 0 + i * 6 + j, none⟩ from by unfold Addr.add; split <;> simp_all] at this
theorem info_el : (Try.prog.info? 44).map (fun i => (i.zero, i.size, i.bytes)) = some (some (.agg #[.int .i64 0, .int .i64 0, .int .i64 0, .int .i64 0, .int .i64 0, .slice none 0 0]), 6, 64) := by kernel_rfl
/-- 'append(v, u...)' at elements. -/
theorem wp_append_els {ops : Array Oper} {rest : List Oper} {o : Oper} {a : Act} {w : World} {Q : Exit → Act → World → Prop} (hgd : o.guard = none) (s x : Operand)
    (ho : o.op = .call { callee := .builtin .append, args := #[s, x], argTypes := #[22, 22] })
    (base : Nat) (v : Value) (xs : List El) (hs : a.eval s = v) (hown : OwnL w base v xs) (hbase : base ≤ w.heap.size) (u : Value) (ys : List El) (hx : a.eval x = u) (hu : SliceG 6 El.cells w u ys) (hlen : xs.length + ys.length ≤ 1000000)
    (h : ∀ v' w', OwnL w' base v' (xs ++ ys) → Below base w w' → wpList Try.prog ops Q rest (a.put o.dst v') w') :
    wpList Try.prog ops Q (o :: rest) a w := by
  obtain ⟨i0, hi, hz0, hz1, hz2⟩ := info_parts info_el
  obtain ⟨ad, cap, rfl, hcap, hrow⟩ := hu
  cases ad with
  | none =>
    obtain rfl : ys = [] := by
      rcases hrow with h | ⟨b, off, h, _⟩
      · exact h
      · cases h
    refine wpList_plain hgd fun K hK => ?_
    have hr : (Builtin.append_ #[22, 22] o.type #[v, .slice none 0 cap]).run Try.prog w = .ok v w := by
      rcases hown.2 with ⟨rfl, _⟩ | ⟨g, cp, cur, rfl, _, _, hn, _⟩
      · simp [Builtin.append_, run_underlying Try.underlying22, sizeOf, typeInfo, hi, Builtin.lenOf, Builtin.firstCells]
      · simp [Builtin.append_, run_underlying Try.underlying22, sizeOf, typeInfo, hi, Builtin.lenOf, Builtin.firstCells, hn, storeCells]
    unfold Oper.wp execOp
    simp only [ho, resolve, invoke, builtin, Sem.run_bind, Sem.run_pure, Result.andThen_ok, List.map_toArray, List.map_cons, List.map_nil, hs, hx, List.length_nil, hr]
    exact hK _ _ (h _ w (by simpa using hown) (Below.refl _ _))
  | some ad =>
    refine wpList_append_own (P := Try.prog) _ hgd s x 22 ho base 44 i0 (.agg #[.int .i64 0, .int .i64 0, .int .i64 0, .int .i64 0, .int .i64 0, .slice none 0 0]) 6 64 Try.underlying22 hi hz0 hz1 hz2 rfl (by decide) v xs.length (elsCells xs) hs hown ad ys.length cap (elsCells ys) hx (elsCells_len ys) ?_ (elsCells_one ys) ?_ ?_ hbase ?_
    · intro j u hu
      rcases hrow with rfl | ⟨b, off, e, hb, hc⟩
      · simp [elsCells] at hu
      · injection e with e
        subst e
        have hj : j < ys.length * 6 := by have := (List.getElem?_eq_some_iff.1 hu).1; rwa [elsCells_len] at this
        have e2 : (⟨b, off, none⟩ : Addr).add j = ⟨b, off + j, none⟩ := by simp [Addr.add]
        rw [e2]
        have hi6 : j / 6 < ys.length := by omega
        have hj6 : j % 6 < (El.cells ys[j / 6]).length := by show j % 6 < 6; omega
        have h1 := hc (j / 6) hi6 (j % 6) _ (List.getElem?_eq_getElem hj6)
        have h2 := elsCells_at ys (j / 6) hi6 (j % 6) _ (List.getElem?_eq_getElem hj6)
        rw [show j / 6 * 6 + j % 6 = j by omega, hu] at h2
        rw [show off + j / 6 * 6 + j % 6 = off + j by omega] at h1
        rw [h1, Option.some.inj h2]
    · unfold maxLen; omega
    · omega
    · intro v' w' h1 h2 _
      refine h v' w' ?_ ?_
      · unfold OwnL
        rw [elsCells_app, List.length_append]
        exact h1
      · refine ((Below.refl base w).grown h2 hbase ?_)
        intro k hk
        exact (World.ownsRow.lt hown k hk).1
theorem SliceG.rest {w : World} {b off cap : Nat} {es : List El} {k : Nat} (h : SliceG 6 El.cells w (.slice (some ⟨b, off, none⟩) es.length cap) es) (hk : k < es.length) : SliceG 6 El.cells w (.slice (some ⟨b, off + k * 6, none⟩) (es.length - k) (cap - k)) (es.drop k) := by
  obtain ⟨a', cap', e, hc, h⟩ := h
  injection e with e1 e2 e3
  subst e1
  subst e3
  refine ⟨_, cap - k, by rw [List.length_drop], by rw [List.length_drop]; omega, ?_⟩
  rcases h with h | ⟨b', off', e, hlt, hcell⟩
  · rw [h] at hk; simp at hk
  · injection e with e
    injection e with e1 e2
    subst e1
    subst e2
    refine .inr ⟨b, off + k * 6, rfl, hlt, fun i hi j u hu => ?_⟩
    rw [List.length_drop] at hi
    rw [List.getElem_drop] at hu
    have := hcell (k + i) (by omega) j u hu
    rwa [show off + (k + i) * 6 + j = off + k * 6 + i * 6 + j by omega] at this
theorem SliceG.none_left {w : World} {es : List El} {k : Nat} (hk : k = es.length) (AD : Option Addr) (c : Nat) : SliceG 6 El.cells w (.slice AD (es.length - k) c) (es.drop k) := by
  have e : es.drop k = [] := List.drop_eq_nil_of_le (by omega)
  rw [e, hk, Nat.sub_self]
  exact ⟨AD, c, rfl, Nat.zero_le _, .inl rfl⟩
end Go.Proofs.Ytmelaidbicaagaa
