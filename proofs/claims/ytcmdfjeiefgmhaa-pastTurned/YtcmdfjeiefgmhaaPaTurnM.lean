/- Carets that are heard in another order: plain facts. -/
import Derived.Test.YtcmdfjeiefgmhaaPwMath
namespace Carets
set_option linter.unusedVariables false

/-- Does a message move a caret of n sites? -/
def ok (n : Nat) (m : Mesg.Msg) : Bool := decide (Mesg.may m = true ∧ m.know.length = n ∧ m.op.kind = 5)
def carOf (m : Mesg.Msg) : Car := ⟨m.seq, m.op.epoch, (m.op.ref.time, m.op.ref.site)⟩
def next (n i : Nat) (c : Car) (m : Mesg.Msg) : Car := if ok n m = true ∧ m.site = (i : Int) ∧ c.seq < m.seq then carOf m else c
theorem move_at (L : List Car) (m : Mesg.Msg) (i : Nat) (hi : i < L.length) : carAt (move L m).2 i = next L.length i (carAt L i) m := by
  unfold move next ok
  by_cases h : Mesg.may m = true ∧ m.know.length = L.length ∧ m.op.kind = 5
  · rw [if_pos h]
    obtain ⟨h1, h2, h3, h4⟩ := may_site h.1
    have hs : m.site.toNat < L.length := by omega
    by_cases hsi : m.site = (i : Int)
    · have e : m.site.toNat = i := by omega
      rw [e]
      by_cases hq : m.seq ≤ (carAt L i).seq
      · rw [if_pos hq, if_neg (fun k => by omega)]
      · rw [if_neg hq, if_pos ⟨decide_eq_true h, hsi, by omega⟩]
        show carAt (L.set i _) i = _
        rw [carAt_lt (by simpa using hi)]
        simp [carOf]
    · rw [if_neg (c := decide (Mesg.may m = true ∧ m.know.length = L.length ∧ m.op.kind = 5) = true ∧ m.site = (i : Int) ∧ (carAt L i).seq < m.seq) (fun k => hsi k.2.1)]
      have hne : m.site.toNat ≠ i := by omega
      by_cases hq : m.seq ≤ (carAt L m.site.toNat).seq
      · rw [if_pos hq]
      · rw [if_neg hq]
        show carAt (L.set m.site.toNat _) i = _
        rw [carAt_lt (by simpa using hi), carAt_lt hi, List.getElem_set_ne hne]
  · rw [if_neg h, if_neg (fun k => h (of_decide_eq_true k.1))]
def moves (L : List Car) (ms : List Mesg.Msg) : List Car := ms.foldl (fun L m => (move L m).2) L
theorem moves_len : ∀ (ms : List Mesg.Msg) (L : List Car), (moves L ms).length = L.length
  | [], L => rfl
  | m :: ms, L => (moves_len ms _).trans (move_len L m)
theorem moves_snoc (L : List Car) (ms : List Mesg.Msg) (m : Mesg.Msg) : moves L (ms ++ [m]) = (move (moves L ms) m).2 := by simp [moves]
theorem moves_at : ∀ (ms : List Mesg.Msg) (L : List Car) (i : Nat) (hi : i < L.length), carAt (moves L ms) i = ms.foldl (next L.length i) (carAt L i)
  | [], L, i, hi => rfl
  | m :: ms, L, i, hi => by
    have := moves_at ms (move L m).2 i (by rw [move_len]; exact hi)
    rw [move_len, move_at L m i hi] at this
    exact this
theorem fold_next (n i : Nat) : ∀ (ms : List Mesg.Msg) (c : Car), (ms.foldl (next n i) c = c ∨ ∃ m ∈ ms, ok n m = true ∧ m.site = (i : Int) ∧ ms.foldl (next n i) c = carOf m) ∧ c.seq ≤ (ms.foldl (next n i) c).seq ∧ ∀ m ∈ ms, ok n m = true → m.site = (i : Int) → m.seq ≤ (ms.foldl (next n i) c).seq
  | [], c => ⟨.inl rfl, Int.le_refl _, by simp⟩
  | a :: ms, c => by
    obtain ⟨h1, h2, h3⟩ := fold_next n i ms (next n i c a)
    have hn : c.seq ≤ (next n i c a).seq ∧ (ok n a = true → a.site = (i : Int) → a.seq ≤ (next n i c a).seq) ∧ (next n i c a = c ∨ (ok n a = true ∧ a.site = (i : Int) ∧ next n i c a = carOf a)) := by
      unfold next
      by_cases h : ok n a = true ∧ a.site = (i : Int) ∧ c.seq < a.seq
      · rw [if_pos h]
        exact ⟨Int.le_of_lt h.2.2, fun _ _ => Int.le_refl _, .inr ⟨h.1, h.2.1, rfl⟩⟩
      · rw [if_neg h]
        exact ⟨Int.le_refl _, fun k1 k2 => by
          by_cases hq : c.seq < a.seq
          · exact absurd ⟨k1, k2, hq⟩ h
          · omega, .inl rfl⟩
    rw [List.foldl_cons]
    refine ⟨?_, Int.le_trans hn.1 h2, fun m hm k1 k2 => ?_⟩
    · rcases h1 with h1 | ⟨m, hm, k⟩
      · rcases hn.2.2 with e | ⟨k1, k2, e⟩
        · exact .inl (h1.trans e)
        · exact .inr ⟨a, by simp, k1, k2, h1.trans e⟩
      · exact .inr ⟨m, by simp [hm], k⟩
    · rcases List.mem_cons.1 hm with rfl | hm
      · exact Int.le_trans (hn.2.1 k1 k2) h2
      · exact h3 m hm k1 k2
theorem ok_seq {n : Nat} {m : Mesg.Msg} (h : ok n m = true) : 1 ≤ m.seq := (may_site (of_decide_eq_true h).1).2.2.2
/-- No two of one site and Seq among those below k. -/
def Apart (ms : List Mesg.Msg) (k : Nat) : Prop := ∀ a b (ha : a < ms.length) (hb : b < ms.length), a < b → b < k → ¬ (ms[a].site = ms[b].site ∧ ms[a].seq = ms[b].seq)
theorem apart_eq {ms : List Mesg.Msg} (h : Apart ms ms.length) {x y : Mesg.Msg} (hx : x ∈ ms) (hy : y ∈ ms) (h1 : x.site = y.site) (h2 : x.seq = y.seq) : x = y := by
  obtain ⟨a, ha, rfl⟩ := List.getElem_of_mem hx
  obtain ⟨b, hb, rfl⟩ := List.getElem_of_mem hy
  rcases Nat.lt_trichotomy a b with k | k | k
  · exact absurd ⟨h1, h2⟩ (h a b ha hb k hb)
  · subst k; rfl
  · exact absurd ⟨h1.symm, h2.symm⟩ (h b a hb ha k ha)
theorem turned {ms : List Mesg.Msg} (h : Apart ms ms.length) (n i : Nat) (c : Car) (hc : c.seq = 0) : ms.foldl (next n i) c = ms.reverse.foldl (next n i) c := by
  obtain ⟨a1, a2, a3⟩ := fold_next n i ms c
  obtain ⟨b1, b2, b3⟩ := fold_next n i ms.reverse c
  generalize ms.foldl (next n i) c = R at *
  generalize ms.reverse.foldl (next n i) c = S at *
  rcases a1 with rfl | ⟨m, hm, k1, k2, rfl⟩
  · rcases b1 with rfl | ⟨m', hm', k1', k2', rfl⟩
    · rfl
    · have := a3 m' (List.mem_reverse.1 hm') k1' k2'
      have := ok_seq k1'
      omega
  · rcases b1 with rfl | ⟨m', hm', k1', k2', rfl⟩
    · have := b3 m (List.mem_reverse.2 hm) k1 k2
      have := ok_seq k1
      omega
    · have h1 := a3 m' (List.mem_reverse.1 hm') k1' k2'
      have h2 := b3 m (List.mem_reverse.2 hm) k1 k2
      have h1 : m'.seq ≤ m.seq := h1
      have h2 : m.seq ≤ m'.seq := h2
      rw [apart_eq h hm (List.mem_reverse.1 hm') (by rw [k2, k2']) (by omega)]
theorem moves_turned {ms : List Mesg.Msg} (h : Apart ms ms.length) (n : Nat) : moves (List.replicate n noCar) ms = moves (List.replicate n noCar) ms.reverse := by
  refine List.ext_getElem (by rw [moves_len, moves_len]) fun i h1 h2 => ?_
  rw [← carAt_lt h1, ← carAt_lt h2]
  rw [moves_len] at h1
  rw [moves_at ms _ i h1, moves_at ms.reverse _ i h1]
  refine turned h _ i _ ?_
  rw [carAt_lt h1]
  simp [noCar]
end Carets
