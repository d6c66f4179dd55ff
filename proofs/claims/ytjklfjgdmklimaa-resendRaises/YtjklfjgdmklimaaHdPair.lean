/- A store and a hold side by side; messages put behind messages. -/
import Derived.Test.YtjklfjgdmklimaaHdLive2
import Derived.Test.YtjklfjgdmklimaaHdRaise2
import Derived.Test.YtjklfjgdmklimaaHdTwo
import Derived.Test.YtjklfjgdmklimaaRsLive
import Derived.Test.YtjklfjgdmklimaaRsAsks
namespace Go.Proofs.Ytjklfjgdmklimaa
open Go.RowKit Go.Maps
set_option linter.unusedVariables false

/-- A store and a hold that the call made since w0; O: blocks of neither. -/
def SH (w0 : World) (p q : Nat) (st : Resend.St) (sh : Hold.St) (O : Nat → Prop) (w : World) : Prop := ∃ Fa Fb, IsStore w Fa p st ∧ IsHold w Fb q sh ∧ sh.l.length ≤ sh.room ∧ (∀ b, Fa b → w0.heap.size ≤ b) ∧ (∀ b, Fb b → w0.heap.size ≤ b) ∧ Below w0.heap.size w0 w ∧ (∀ b, Fa b → ¬ Fb b) ∧ ∀ b, O b → ¬ Fa b ∧ ¬ Fb b ∧ b < w.heap.size
theorem IsStore.lt {w : World} {F : Nat → Prop} {p : Nat} {s : Resend.St} (h : IsStore w F p s) : ∀ b, F b → b < w.heap.size := by
  obtain ⟨mp, S, es, h⟩ := h
  exact h.lt
theorem SH.bel {w0 w : World} {p q : Nat} {st : Resend.St} {sh : Hold.St} {O : Nat → Prop} (h : SH w0 p q st sh O w) : Below w0.heap.size w0 w := by
  obtain ⟨_, _, _, _, _, _, _, h, _⟩ := h
  exact h
theorem SH.grew {w0 w w' : World} {p q : Nat} {st : Resend.St} {sh : Hold.St} {O O' : Nat → Prop} (h : SH w0 p q st sh O w) (hb : Below w.heap.size w w') (hO : ∀ b, O' b → O b ∨ w.heap.size ≤ b ∧ b < w'.heap.size) : SH w0 p q st sh O' w' := by
  obtain ⟨Fa, Fb, h1, h2, h3, h4, h5, h6, h7, h8⟩ := h
  refine ⟨Fa, Fb, h1.below hb, h2.below hb, h3, h4, h5, Go.Proofs.Ytjklfjgdmklimaa.grew h6 hb, h7, fun b hb' => ?_⟩
  rcases hO b hb' with k | k
  · exact ⟨(h8 b k).1, (h8 b k).2.1, Nat.lt_of_lt_of_le (h8 b k).2.2 hb.size⟩
  · exact ⟨fun e => by have := h1.lt b e; omega, fun e => by have := h2.lt b e; omega, k.2⟩
/-- What turns blocks of O alone. -/
theorem SH.aside {w0 w w' : World} {p q : Nat} {st : Resend.St} {sh : Hold.St} {O S : Nat → Prop} (h : SH w0 p q st sh O w) (hk : Keep S w w') (hS : ∀ b, S b → O b ∧ w0.heap.size ≤ b) : SH w0 p q st sh O w' := by
  obtain ⟨Fa, Fb, h1, h2, h3, h4, h5, h6, h7, h8⟩ := h
  exact ⟨Fa, Fb, h1.keep hk (fun b hb e => (h8 b (hS b e).1).1 hb), h2.keep hk (fun b hb e => (h8 b (hS b e).1).2.1 hb), h3, h4, h5, h6.trans (hk.below h6.size (fun i e => (hS i e).2)), h7, fun b hb => ⟨(h8 b hb).1, (h8 b hb).2.1, Nat.lt_of_lt_of_le (h8 b hb).2.2 hk.size⟩⟩
theorem sh_New (n r : Nat) (w0 w : World) (h0 : Below w0.heap.size w0 w) (hn : 1 ≤ n ∧ n ≤ 16) (hr : r ≤ 1000) {p : Nat} {s : Resend.St} {F : Nat → Prop} (h : IsStore w F p s) (hF : ∀ b, F b → w0.heap.size ≤ b) :
    Calls Try.prog 10 #[.int .i64 (n : Int), .int .i64 (r : Int)] w fun e w' => ∃ q, e = .returned (.tuple #[.pointer (some ⟨q, 0, none⟩), .int .i64 0]) ∧ SH w0 p q s (Hold.new n r) (fun _ => False) w' :=
  (hold_New_yes n r w hn hr).mono fun e w' ⟨q, G, h1, h2, h3, h4⟩ => ⟨q, h1, F, G, h.below h4, h2, Nat.zero_le _, hF, fun b hb => Nat.le_trans h0.size (h3 b hb), Go.Proofs.Ytjklfjgdmklimaa.grew h0 h4, fun b hb hg => by have := h.lt b hb; have := h3 b hg; omega, fun b hb => hb.elim⟩
theorem sh_Keep {w0 w : World} {p q : Nat} {st : Resend.St} {sh : Hold.St} {O : Nat → Prop} (h : SH w0 p q st sh O w) (m : Mesg.Msg) (v : Value) (hv : SliceI w v m.know) (hm : m.know.length ≤ 1000000000) :
    Calls Try.prog 26 #[.pointer (some ⟨p, 0, none⟩), msgV m v] w fun e w' => e = .returned (.int .i64 (Resend.keep st m).1) ∧ SH w0 p q (Resend.keep st m).2 sh O w' ∧ Keep (fun b => ¬ O b) w w' := by
  obtain ⟨Fa, Fb, h1, h2, h3, h4, h5, h6, h7, h8⟩ := h
  refine (resend_Keep h1 m v hv hm).mono ?_
  rintro e w' ⟨rfl, F', k1, k2, k3⟩
  refine ⟨rfl, ⟨F', Fb, k1, h2.keep k2 (fun b hb ha => h7 b ha hb), h3, fun b hb => ?_, h5, h6.trans (k2.below h6.size h4), fun b hb hg => ?_, fun b hb => ⟨fun e => ?_, (h8 b hb).2.1, Nat.lt_of_lt_of_le (h8 b hb).2.2 k2.size⟩⟩, k2.more (fun b _ e hO => (h8 b hO).1 e)⟩
  · rcases k3 b hb with k | k
    · exact h4 b k
    · exact Nat.le_trans h6.size k
  · rcases k3 b hb with k | k
    · exact h7 b k hg
    · have := h2.lt b hg
      omega
  · rcases k3 b e with k | k
    · exact (h8 b hb).1 k
    · have := (h8 b hb).2.2
      omega
theorem sh_Put {w0 w : World} {p q : Nat} {st : Resend.St} {sh : Hold.St} {O : Nat → Prop} (h : SH w0 p q st sh O w) (m : Mesg.Msg) (v : Value) (hv : SliceI w v m.know) (hm : m.know.length ≤ 1000000000) :
    Calls Try.prog 12 #[.pointer (some ⟨q, 0, none⟩), msgV m v] w fun e w' => ∃ T xs, e = .returned (.tuple #[T, .int .i64 (Hold.put sh m).2.1]) ∧ OwnM w' T xs ∧ xs.map Prod.fst = (Hold.put sh m).1 ∧ (∀ y ∈ xs, SliceI w' y.2 y.1.know) ∧ SH w0 p q st (Hold.put sh m).2.2 O w' ∧ Keep (fun b => ¬ O b) w w' := by
  obtain ⟨Fa, Fb, h1, h2, h3, h4, h5, h6, h7, h8⟩ := h
  refine (hold_Put h2 h3 m v hv hm).mono ?_
  rintro e w' ⟨r, rfl, T, xs, F', rfl, k1, k2, k3, k4, k5, k6, k7, k8⟩
  refine ⟨T, xs, rfl, k1, k2, fun y hy => (k3 y hy).1, ⟨Fa, F', h1.keep k6 (fun b hb ha => h7 b hb ha), k5, k8, h4, fun b hb => ?_, h6.trans (k6.below h6.size h5), fun b hb hg => ?_, fun b hb => ⟨(h8 b hb).1, fun e => ?_, Nat.lt_of_lt_of_le (h8 b hb).2.2 k6.size⟩⟩, k6.more (fun b _ e hO => (h8 b hO).2.1 e)⟩
  · rcases k7 b hb with k | k
    · exact h5 b k
    · exact Nat.le_trans h6.size k
  · rcases k7 b hg with k | k
    · exact h7 b hb k
    · have := h1.lt b hb
      omega
  · rcases k7 b e with k | k
    · exact (h8 b hb).2.1 k
    · have := (h8 b hb).2.2
      omega
theorem sh_Get {w0 w : World} {p q : Nat} {st : Resend.St} {sh : Hold.St} {O : Nat → Prop} (h : SH w0 p q st sh O w) (a b : Int) (ha : I64 a) (hb : I64 b) :
    Calls Try.prog 28 #[.pointer (some ⟨p, 0, none⟩), .agg #[.int .i64 a, .int .i64 b]] w fun e w' => ∃ u, e = .returned (.tuple #[msgV (Resend.get st (a, b)).1 u, .bool (Resend.get st (a, b)).2]) ∧ SliceI w' u (Resend.get st (a, b)).1.know ∧ Below w.heap.size w w' := by
  obtain ⟨Fa, Fb, h1, _⟩ := h
  exact (resend_Get h1 a b ha hb).mono fun e w' ⟨r, k1, ⟨u, k2, k3, k4⟩, k5⟩ => ⟨u, by rw [k1, k2], k3, k5⟩
theorem sh_Clock {w0 w : World} {p q : Nat} {st : Resend.St} {sh : Hold.St} {O : Nat → Prop} (h : SH w0 p q st sh O w) :
    Calls Try.prog 17 #[.pointer (some ⟨q, 0, none⟩)] w fun e w' => ∃ a c, e = .returned (.slice a sh.clock.length c) ∧ SliceI w' (.slice a sh.clock.length c) sh.clock ∧ Below w.heap.size w w' := by
  obtain ⟨Fa, Fb, h1, h2, _⟩ := h
  refine (hold_Clock h2).mono ?_
  rintro e w' ⟨v, g, cap, rfl, k2⟩
  obtain ⟨a, c, e⟩ := k2.own.slice.shape
  subst e
  exact ⟨a, c, rfl, k2.own.slice, k2.bel⟩
theorem sh_Waits {w0 w : World} {p q : Nat} {st : Resend.St} {sh : Hold.St} {O : Nat → Prop} (h : SH w0 p q st sh O w) :
    Calls Try.prog 15 #[.pointer (some ⟨q, 0, none⟩)] w fun e w' => e = .returned (.int .i64 (sh.l.length : Int)) ∧ w = w' := by
  obtain ⟨Fa, Fb, h1, h2, _⟩ := h
  exact hold_Waits h2

/-- 'append(v, u...)' at messages. -/
theorem wp_append_msgs {ops : Array Oper} {rest : List Oper} {o : Oper} {a : Act} {w : World} {Q : Exit → Act → World → Prop} (hgd : o.guard = none) (s x : Operand)
    (ho : o.op = .call { callee := .builtin .append, args := #[s, x], argTypes := #[22, 22] })
    (v : Value) (xs : List (Mesg.Msg × Value)) (hs : a.eval s = v) (hown : OwnM w v xs) (u : Value) (ys : List (Mesg.Msg × Value)) (hx : a.eval x = u) (hu : OwnM w u ys) (hy : ∀ y ∈ ys, y.2.oneCell' = true) (hlen : xs.length + ys.length ≤ 1000000000)
    (h : ∀ v' w', OwnM w' v' (xs ++ ys) → Keep (At v) w w' → Near w v v' → wpList Try.prog ops Q rest (a.put o.dst v') w') :
    wpList Try.prog ops Q (o :: rest) a w := by
  obtain ⟨i0, hi, hz0, hz1, hz2⟩ := info_parts info_msg
  rcases hu.2 with ⟨e, h0⟩ | ⟨g, cap, cur, e, _⟩
  · subst e
    obtain rfl : ys = [] := List.eq_nil_of_length_eq_zero h0
    refine wpList_plain hgd fun K hK => ?_
    have hr : (Builtin.append_ #[22, 22] o.type #[v, .slice none 0 0]).run Try.prog w = .ok v w := by
      rcases hown.2 with ⟨rfl, _⟩ | ⟨g, cp, cur, rfl, _, _, hn, _⟩
      · simp [Builtin.append_, run_underlying Try.underlying22, sizeOf, typeInfo, hi, Builtin.lenOf, Builtin.firstCells]
      · simp [Builtin.append_, run_underlying Try.underlying22, sizeOf, typeInfo, hi, Builtin.lenOf, Builtin.firstCells, hn, storeCells]
    unfold Oper.wp execOp
    simp only [ho, resolve, invoke, builtin, Sem.run_bind, Sem.run_pure, Result.andThen_ok, List.map_toArray, List.map_cons, List.map_nil, hs, hx, hr]
    exact hK _ _ (h _ w (by simpa using hown) (Keep.refl _ _) (fun g hg => .inl hg))
  · subst e
    refine wp_append_any hgd s x ho Try.underlying22 info_msg rfl (by decide) (by decide) v xs.length (msgCells xs) hs hown ⟨g, 0, none⟩ ys.length cap (msgCells ys) hx (msgCells_len ys) ?_ ?_ hlen ?_
    · intro j c hc
      exact World.ownsRow.cells hu (g := g) rfl j c hc
    · intro c hc
      obtain ⟨y, hy1, hy2⟩ := List.mem_flatMap.1 hc
      exact msgL_one y.1 (hy y hy1) c hy2
    · intro v' w' k1 k2 k3
      refine h v' w' ?_ k2 k3
      unfold OwnM
      rw [msgCells_append, List.length_append]
      exact k1
end Go.Proofs.Ytjklfjgdmklimaa
