/- What is told is told behind all that its site knew: plain mathematics. -/
import Derived.Test.YtjklfjgdmklimaaHdKnown0
import Derived.Test.YtjklfjgdmklimaaHdTell0
import Derived.Test.YtjklfjgdmklimaaHdPut0
set_option linter.unusedVariables false
namespace Hold

/-- From one clock to another one by what is told. -/
def Told (N : Nat) : List Int → List Mesg.Msg → List Int → Prop
  | c, [], c' => c = c'
  | c, m :: l, c' => Mesg.may m = true ∧ m.know.length = N ∧ Vecs.below m.know c = true ∧ m.seq = c.getD m.site.toNat 0 + 1 ∧ Told N (c.set m.site.toNat m.seq) l c'
theorem nextFrom_some {s : St} {m : Mesg.Msg} : ∀ (k i : Nat), nextFrom s i k = some m → ∃ j, dueAt s j = some m
  | 0, i, h => by cases h
  | k + 1, i, h => by
    unfold nextFrom at h
    cases hd : dueAt s i with
    | some x => rw [hd] at h; exact ⟨i, by rw [hd]; exact h⟩
    | none => rw [hd] at h; exact nextFrom_some k (i + 1) h
theorem next_due {s : St} {m : Mesg.Msg} (h : next s = some m) : m ∈ s.l ∧ due s.clock m = true := by
  obtain ⟨j, hj⟩ := nextFrom_some _ _ h
  obtain ⟨h1, h2⟩ := dueAt_some hj
  exact ⟨(find_mem h1).1, h2⟩
theorem tell_told : ∀ (n : Nat) (s : St), (∀ m ∈ s.l, Mesg.may m = true ∧ m.know.length = s.clock.length) → Told s.clock.length s.clock (tell n s).1 (tell n s).2.clock
  | 0, s, h => rfl
  | n + 1, s, h => by
    unfold tell
    cases hn : next s with
    | none => exact rfl
    | some m =>
      obtain ⟨h1, h2⟩ := next_due hn
      have hlen : (deliver s m).clock.length = s.clock.length := by simp [deliver]
      have ih := tell_told n (deliver s m) (fun x hx => by
        have := h x (List.mem_filter.1 hx).1
        exact ⟨this.1, by rw [hlen]; exact this.2⟩)
      rw [hlen] at ih
      unfold due at h2
      rw [Bool.and_eq_true, decide_eq_true_eq] at h2
      exact ⟨(h m h1).1, (h m h1).2, h2.2, h2.1, ih⟩
theorem put_told {s : St} (h : Ok s) (m : Mesg.Msg) : Told s.clock.length s.clock (put s m).1 (put s m).2.2.clock := by
  unfold put
  split
  · rename_i hc
    split
    · exact rfl
    · split
      · exact rfl
      · exact tell_told _ { s with l := but s.l (key m) ++ [m] } (fun x hx => by
          rcases List.mem_append.1 hx with hx | hx
          · exact h.may x (List.mem_filter.1 hx).1
          · rw [List.mem_singleton.1 hx]; exact hc)
  · exact rfl
theorem told_len {N : Nat} : ∀ {c c' : List Int} {l : List Mesg.Msg}, Told N c l c' → c'.length = c.length
  | c, c', [], h => by rw [show c = c' from h]
  | c, c', m :: l, h => by rw [told_len h.2.2.2.2, List.length_set]
theorem join_up {a b : List Int} (h : a.length = b.length) : Vecs.below a (Vecs.join a b) = true := Vecs.below_iff.2 fun k h1 h2 => by
  have e : (Vecs.join a b)[k] = max a[k] (b[k]'(by omega)) := by simp [Vecs.join]
  rw [e]
  omega
theorem join_length {a b : List Int} (h : a.length = b.length) : (Vecs.join a b).length = a.length := by
  unfold Vecs.join
  rw [List.length_zipWith]
  omega
theorem below_through {a b c : List Int} (h1 : Vecs.below a b = true) (h2 : Vecs.below b c = true) (hl : a.length = b.length) : Vecs.below a c = true := Vecs.below_iff.2 fun k h h' => by
  have e1 := Vecs.below_iff.1 h1 k h (by omega)
  have e2 := Vecs.below_iff.1 h2 k (by omega) h'
  omega
theorem below_self (a : List Int) : Vecs.below a a = true := Vecs.below_iff.2 fun k h h' => Int.le_refl _
theorem known_up {n : Nat} : ∀ (l : List Mesg.Msg) (c : List Int), c.length = n → (∀ m ∈ l, m.know.length = n) → Vecs.below c (l.foldl knowF c) = true ∧ (l.foldl knowF c).length = n
  | [], c, hc, _ => ⟨below_self c, hc⟩
  | m :: l, c, hc, h => by
    have hb : (bump m).length = n := by unfold bump Vecs.tick; rw [List.length_set]; exact h m (by simp)
    have hl : c.length = (bump m).length := by rw [hc, hb]
    have hj : (knowF c m).length = n := by unfold knowF; rw [join_length hl, hc]
    obtain ⟨k1, k2⟩ := known_up l (knowF c m) hj (fun x hx => h x (by simp [hx]))
    exact ⟨below_through (join_up hl) k1 (by rw [hc]; exact hj.symm), k2⟩
theorem known_ok {s : St} (h : Ok s) : Vecs.below s.clock (known s) = true ∧ (known s).length = s.clock.length := known_up s.l s.clock rfl (fun m hm => (h.may m hm).2)
end Hold
