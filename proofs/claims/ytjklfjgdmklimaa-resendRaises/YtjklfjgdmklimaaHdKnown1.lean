/- Known of hold asks only which messages wait, not in which order. -/
import Derived.Test.YtjklfjgdmklimaaHdKnown0
namespace Hold

theorem getD_get (l : List Int) (k : Nat) (h : k < l.length) : l.getD k 0 = l[k] := by simp [h]

theorem knowF_getD {c : List Int} {m : Mesg.Msg} (hl : m.know.length = c.length) {k : Nat} (hk : k < c.length) : (knowF c m).getD k 0 = max (c.getD k 0) ((bump m).getD k 0) := by
  have h2 : k < (bump m).length := by rw [bump_len, hl]; exact hk
  have h3 : k < (knowF c m).length := by rw [knowF_len hl]; exact hk
  rw [getD_get _ _ h3, getD_get _ _ hk, getD_get _ _ h2]
  simp [knowF, Vecs.join]
theorem known_len : ∀ (l : List Mesg.Msg) (c : List Int), (∀ m ∈ l, m.know.length = c.length) → (l.foldl knowF c).length = c.length
  | [], _, _ => rfl
  | a :: l, c, h => by
    have h1 := knowF_len (h a (by simp))
    rw [List.foldl_cons, known_len l (knowF c a) (fun m hm => by rw [h1]; exact h m (by simp [hm])), h1]
theorem known_le {k : Nat} {z : Int} : ∀ (l : List Mesg.Msg) (c : List Int), (∀ m ∈ l, m.know.length = c.length) → k < c.length → ((l.foldl knowF c).getD k 0 ≤ z ↔ c.getD k 0 ≤ z ∧ ∀ m ∈ l, (bump m).getD k 0 ≤ z)
  | [], _, _, _ => by simp
  | a :: l, c, h, hk => by
    have h1 := knowF_len (h a (by simp))
    rw [List.foldl_cons, known_le l (knowF c a) (fun m hm => by rw [h1]; exact h m (by simp [hm])) (by rw [h1]; exact hk), knowF_getD (h a (by simp)) hk]
    simp only [List.mem_cons, forall_eq_or_imp]
    constructor
    · rintro ⟨h2, h3⟩
      exact ⟨by omega, by omega, h3⟩
    · rintro ⟨h2, h3, h4⟩
      exact ⟨by omega, h4⟩
theorem known_mem {c : List Int} {l l' : List Mesg.Msg} (hl : ∀ m ∈ l, m.know.length = c.length) (h : ∀ m, m ∈ l ↔ m ∈ l') : l.foldl knowF c = l'.foldl knowF c := by
  have hl' : ∀ m ∈ l', m.know.length = c.length := fun m hm => hl m ((h m).2 hm)
  apply List.ext_getElem
  · rw [known_len l c hl, known_len l' c hl']
  · intro k h1 h2
    have hk : k < c.length := by rw [known_len l c hl] at h1; exact h1
    rw [← getD_get _ _ h1, ← getD_get _ _ h2]
    refine Int.le_antisymm ?_ ?_
    · rw [known_le l c hl hk]
      have h3 := (known_le (k := k) (z := (l'.foldl knowF c).getD k 0) l' c hl' hk).1 (Int.le_refl _)
      exact ⟨h3.1, fun m hm => h3.2 m ((h m).1 hm)⟩
    · rw [known_le l' c hl' hk]
      have h3 := (known_le (k := k) (z := (l.foldl knowF c).getD k 0) l c hl hk).1 (Int.le_refl _)
      exact ⟨h3.1, fun m hm => h3.2 m ((h m).2 hm)⟩
theorem known_may : ∀ (l : List Mesg.Msg) (c : List Int), Vecs.may c = true → (∀ m ∈ l, Mesg.may m = true ∧ m.know.length = c.length) → Vecs.may (l.foldl knowF c) = true
  | [], _, hc, _ => hc
  | a :: l, c, hc, h => by
    have ha := h a (by simp)
    exact known_may l (knowF c a) (knowF_may hc ha.1 ha.2) (fun m hm => ⟨(h m (by simp [hm])).1, by rw [knowF_len ha.2]; exact (h m (by simp [hm])).2⟩)
end Hold
