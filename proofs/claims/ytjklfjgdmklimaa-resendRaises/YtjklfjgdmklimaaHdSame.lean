/- What a hold comes to does not hang on the order in which messages come: plain mathematics. -/
import Derived.Test.YtjklfjgdmklimaaHdOrd
set_option linter.unusedVariables false
namespace Hold

/-- A message that may come. -/
def Val (N : Nat) (m : Mesg.Msg) : Prop := Mesg.may m = true ∧ m.know.length = N
/-- A clock that messages of X make, one behind the other. -/
inductive Hist (N : Nat) (X : List Mesg.Msg) : List Int → Prop
  | zero : Hist N X (List.replicate N 0)
  | step {c : List Int} {m : Mesg.Msg} : Hist N X c → m ∈ X → Val N m → due c m = true → Hist N X (c.set m.site.toNat m.seq)
theorem Hist.len {N : Nat} {X : List Mesg.Msg} {c : List Int} (h : Hist N X c) : c.length = N := by
  induction h with
  | zero => simp
  | step _ _ _ _ ih => rw [List.length_set]; exact ih
theorem Hist.more {N : Nat} {X Y : List Mesg.Msg} (hs : ∀ m ∈ X, m ∈ Y) {c : List Int} (h : Hist N X c) : Hist N Y c := by
  induction h with
  | zero => exact .zero
  | step _ hm hv hd ih => exact .step ih (hs _ hm) hv hd
theorem due_parts {c : List Int} {m : Mesg.Msg} (h : due c m = true) : m.seq = c.getD m.site.toNat 0 + 1 ∧ Vecs.below m.know c = true := by
  unfold due at h
  rw [Bool.and_eq_true, decide_eq_true_eq] at h
  exact h
theorem getD_set {c : List Int} {i j : Nat} {v : Int} (hi : i < c.length) : (c.set i v).getD j 0 = if j = i then v else c.getD j 0 := by
  rw [List.getD_eq_getElem?_getD, List.getD_eq_getElem?_getD, List.getElem?_set]
  by_cases h : i = j
  · subst h
    simp [hi]
  · rw [if_neg h, if_neg (fun e => h e.symm)]
/-- What a clock covers, a message of X told. -/
theorem Hist.cover {N : Nat} {X : List Mesg.Msg} {c : List Int} (h : Hist N X c) (hs : ∀ m, Val N m → 0 ≤ m.site ∧ m.site < N) : (∀ j, 0 ≤ c.getD j 0) ∧ ∀ (i : Nat) (q : Int), 1 ≤ q → q ≤ c.getD i 0 → ∃ m ∈ X, key m = ((i : Int), q) := by
  induction h with
  | zero =>
    have hz : ∀ j, (List.replicate N (0 : Int)).getD j 0 = 0 := fun j => by
      rw [List.getD_eq_getElem?_getD]
      by_cases hj : j < N
      · simp [hj]
      · simp [Nat.le_of_not_lt hj]
    refine ⟨fun j => by rw [hz]; omega, fun i q h1 h2 => ?_⟩
    rw [hz] at h2
    omega
  | step hc hm hv hd ih =>
    rename_i c m
    obtain ⟨h1, h2⟩ := due_parts hd
    have hsite := hs m hv
    have hl : m.site.toNat < c.length := by rw [hc.len]; omega
    refine ⟨fun j => ?_, fun i q hq1 hq2 => ?_⟩
    · rw [getD_set hl]
      split
      · have := ih.1 m.site.toNat; omega
      · exact ih.1 j
    · rw [getD_set hl] at hq2
      split at hq2
      · rename_i e
        by_cases hq : q = m.seq
        · exact ⟨m, hm, by unfold key; rw [hq, e]; congr 1; omega⟩
        · exact ih.2 i q hq1 (by rw [e]; omega)
      · exact ih.2 i q hq1 hq2

/-- How a hold stands behind the messages X. -/
structure Inv (N : Nat) (X : List Mesg.Msg) (s : St) : Prop where
  hist : Hist N X s.clock
  all : ∀ m ∈ X, m ∈ s.l ∨ m.seq ≤ s.clock.getD m.site.toNat 0
  here : ∀ m ∈ s.l, m ∈ X ∧ s.clock.getD m.site.toNat 0 < m.seq
  val : ∀ m ∈ X, Val N m
  apart : s.l.Pairwise fun a b => key a ≠ key b
/-- Nothing is due. -/
def Quiet (s : St) : Prop := ∀ m ∈ s.l, due s.clock m = false

theorem val_site {N : Nat} {m : Mesg.Msg} (h : Val N m) : 0 ≤ m.site ∧ m.site < N := by
  obtain ⟨h1, h2⟩ := h
  unfold Mesg.may Mesg.headMay at h1
  simp only [Bool.and_eq_true, decide_eq_true_eq] at h1
  omega
/-- One clock is not above the other one. -/
theorem Inv.le {N : Nat} {X : List Mesg.Msg} {s : St} (hs : Inv N X s) (hq : Quiet s) {c : List Int} (hc : Hist N X c) : ∀ j, c.getD j 0 ≤ s.clock.getD j 0 := by
  induction hc with
  | zero =>
    intro j
    have h1 := (hs.hist.cover (fun m hm => val_site hm)).1 j
    have hz : (List.replicate N (0 : Int)).getD j 0 = 0 := by
      rw [List.getD_eq_getElem?_getD]
      by_cases hj : j < N
      · simp [hj]
      · simp [Nat.le_of_not_lt hj]
    rw [hz]
    exact h1
  | step hc hm hv hd ih =>
    rename_i c m
    intro j
    obtain ⟨h1, h2⟩ := due_parts hd
    have hsite := val_site hv
    have hl : m.site.toNat < c.length := by rw [hc.len]; omega
    rw [getD_set hl]
    split
    · rename_i e
      subst e
      rcases hs.all m hm with hin | hle
      · exfalso
        have h3 := (hs.here m hin).2
        have h4 := ih m.site.toNat
        have h5 := hq m hin
        have h6 : due s.clock m = true := by
          unfold due
          rw [Bool.and_eq_true, decide_eq_true_eq]
          refine ⟨by omega, Vecs.below_iff.2 fun k hk hk' => ?_⟩
          have hkc : k < c.length := by rw [hc.len, ← hv.2]; exact hk
          have h7 := Vecs.below_iff.1 h2 k hk hkc
          have h8 := ih k
          rw [List.getD_eq_getElem?_getD, List.getD_eq_getElem?_getD, List.getElem?_eq_getElem hkc, List.getElem?_eq_getElem hk'] at h8
          simp only [Option.getD_some] at h8
          omega
        rw [h6] at h5
        cases h5
      · exact hle
    · exact ih j
theorem Inv.clock_eq {N : Nat} {X : List Mesg.Msg} {s t : St} (hs : Inv N X s) (qs : Quiet s) (ht : Inv N X t) (qt : Quiet t) : s.clock = t.clock := by
  apply List.ext_getElem
  · rw [hs.hist.len, ht.hist.len]
  · intro j h1 h2
    have a := hs.le qs ht.hist j
    have b := ht.le qt hs.hist j
    rw [List.getD_eq_getElem?_getD, List.getD_eq_getElem?_getD, List.getElem?_eq_getElem h1, List.getElem?_eq_getElem h2] at a b
    simp only [Option.getD_some] at a b
    omega
theorem perm_of_same {α : Type} : ∀ {a b : List α}, a.Nodup → b.Nodup → (∀ x, x ∈ a ↔ x ∈ b) → a.Perm b
  | [], b, _, _, h => by
    cases b with
    | nil => exact .nil
    | cons y b => exact absurd ((h y).2 (by simp)) (by simp)
  | x :: a, b, ha, hb, h => by
    obtain ⟨l1, l2, rfl⟩ := List.append_of_mem ((h x).1 (by simp))
    have hb2 : (l1 ++ l2).Nodup := (List.nodup_append.2 (by
      have := List.nodup_append.1 hb
      exact ⟨this.1, (List.nodup_cons.1 this.2.1).2, fun p hp q hq => this.2.2 p hp q (by simp [hq])⟩))
    have hxn : x ∉ l1 ++ l2 := fun hx => by
      have := List.nodup_append.1 hb
      rcases List.mem_append.1 hx with hx | hx
      · exact this.2.2 x hx x (by simp) rfl
      · exact (List.nodup_cons.1 this.2.1).1 hx
    have ih := perm_of_same (List.nodup_cons.1 ha).2 hb2 (fun y => by
      constructor
      · intro hy
        have hne : y ≠ x := fun e => (List.nodup_cons.1 ha).1 (e ▸ hy)
        have := (h y).1 (by simp [hy])
        simp at this ⊢
        rcases this with h1 | h1 | h1
        · exact .inl h1
        · exact absurd h1 hne
        · exact .inr h1
      · intro hy
        have hne : y ≠ x := fun e => hxn (e ▸ hy)
        have := (h y).2 (by simp at hy ⊢; rcases hy with h1 | h1 <;> simp [h1])
        simp at this
        rcases this with h1 | h1
        · exact absurd h1 hne
        · exact h1)
    exact (ih.cons x).trans List.perm_middle.symm
theorem Inv.perm {N : Nat} {X : List Mesg.Msg} {s t : St} (hs : Inv N X s) (qs : Quiet s) (ht : Inv N X t) (qt : Quiet t) : s.l.Perm t.l := by
  have hc := hs.clock_eq qs ht qt
  have nd : ∀ {l : List Mesg.Msg}, (l.Pairwise fun a b => key a ≠ key b) → l.Nodup := fun h => h.imp (fun h e => h (by rw [e]))
  refine perm_of_same (nd hs.apart) (nd ht.apart) (fun m => ⟨fun h => ?_, fun h => ?_⟩)
  · obtain ⟨h1, h2⟩ := hs.here m h
    rcases ht.all m h1 with k | k
    · exact k
    · rw [← hc] at k; omega
  · obtain ⟨h1, h2⟩ := ht.here m h
    rcases hs.all m h1 with k | k
    · exact k
    · rw [hc] at k; omega
end Hold
