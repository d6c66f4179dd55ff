/- What was there stays in its order: plain facts. -/
import Derived.Test.YtohmhbjiapflpaaWvTree2
import Derived.Test.YtohmhbjiapflpaaWvInsert
import Derived.Test.YtohmhbjiapflpaaWvDrop
namespace Go.Proofs.Ytohmhbjiapflpaa
set_option linter.unusedVariables false
namespace Weave

/-- How far one has come in what was there, ahead of the j-th of what is there now. -/
structure Walked (drop : Bool) (x : Int × Int) (was now : List Wel) (κ : Nat → Nat) : Prop where
  zero : κ 0 = 0
  step : ∀ j (hj : j < now.length),
    (∃ i, ∃ hi : i < was.length, κ j ≤ i ∧ was[i].id = now[j].id ∧ κ (j + 1) = i + 1 ∧ (∀ t (ht : t < was.length), κ j ≤ t → t < i → was[t].id ≠ now[j].id) ∧ (drop = false → i = κ j))
    ∨ (drop = false ∧ now[j].id = x ∧ κ (j + 1) = κ j ∧ ∀ ht : κ j < was.length, was[κ j].id ≠ now[j].id)
theorem walked_same (drop : Bool) (x : Int × Int) (l : List Wel) : Walked drop x l l (fun j => j) := ⟨rfl, fun j hj => .inl ⟨j, hj, Nat.le_refl _, rfl, rfl, fun t _ h1 h2 => by omega, fun _ => rfl⟩⟩
theorem pair_ne {l : List Wel} (h : l.Pairwise fun a b => a.id ≠ b.id) {i j : Nat} (hi : i < l.length) (hj : j < l.length) (hij : i ≠ j) : l[i].id ≠ l[j].id := by
  rcases Nat.lt_or_gt_of_ne hij with k | k
  · exact List.pairwise_iff_getElem.1 h i j hi hj k
  · exact (List.pairwise_iff_getElem.1 h j i hj hi k).symm
theorem walked_new {A B : List Wel} {e : Wel} (h : (A ++ e :: B).Pairwise fun a b => a.id ≠ b.id) : Walked false e.id (A ++ B) (A ++ e :: B) (fun j => if j ≤ A.length then j else j - 1) := by
  refine ⟨by simp, fun j hj => ?_⟩
  have hlen : (A ++ e :: B).length = A.length + B.length + 1 := by simp; omega
  have hlen2 : (A ++ B).length = A.length + B.length := by simp
  rcases Nat.lt_trichotomy j A.length with q | q | q
  · refine .inl ⟨j, by omega, by rw [if_pos (by omega)]; exact Nat.le_refl _, ?_, by rw [if_pos (by omega)], fun t _ h1 h2 => by rw [if_pos (by omega)] at h1; omega, fun _ => by rw [if_pos (by omega)]⟩
    rw [List.getElem_append_left q, List.getElem_append_left q]
  · refine .inr ⟨rfl, ?_, ?_, fun ht => ?_⟩
    · rw [List.getElem_append_right (by omega)]
      simp [q]
    · rw [if_neg (by omega), if_pos (by omega)]; omega
    · have e1 : (if j ≤ A.length then j else j - 1) = A.length := by rw [if_pos (by omega)]; omega
      have ht2 : A.length < (A ++ B).length := by rw [e1] at ht; exact ht
      have e2 : ((A ++ B)[if j ≤ A.length then j else j - 1]).id = ((A ++ e :: B)[A.length + 1]'(by omega)).id := by
        congr 1
        have : (A ++ B)[if j ≤ A.length then j else j - 1] = (A ++ B)[A.length]'ht2 := by congr 1
        rw [this, List.getElem_append_right (Nat.le_refl _), List.getElem_append_right (by omega)]
        simp
      rw [e2]
      exact pair_ne h _ _ (by omega)
  · refine .inl ⟨j - 1, by omega, by rw [if_neg (by omega)]; exact Nat.le_refl _, ?_, by rw [if_neg (by omega)]; omega, fun t _ h1 h2 => by rw [if_neg (by omega)] at h1; omega, fun _ => by rw [if_neg (by omega)]⟩
    rw [List.getElem_append_right (by omega), List.getElem_append_right (by omega)]
    congr 1
    obtain ⟨t, rfl⟩ : ∃ t, j = A.length + 1 + t := ⟨j - A.length - 1, by omega⟩
    simp [show A.length + 1 + t - A.length = t + 1 from by omega]
theorem walked_less {A B : List Wel} {e : Wel} (x : Int × Int) (h : (A ++ e :: B).Pairwise fun a b => a.id ≠ b.id) : Walked true x (A ++ e :: B) (A ++ B) (fun j => if j ≤ A.length then j else j + 1) := by
  refine ⟨by simp, fun j hj => ?_⟩
  have hlen : (A ++ e :: B).length = A.length + B.length + 1 := by simp; omega
  have hlen2 : (A ++ B).length = A.length + B.length := by simp
  rcases Nat.lt_trichotomy j A.length with q | q | q
  · refine .inl ⟨j, by omega, by rw [if_pos (by omega)]; exact Nat.le_refl _, ?_, by rw [if_pos (by omega)], fun t _ h1 h2 => by rw [if_pos (by omega)] at h1; omega, fun h => by cases h⟩
    rw [List.getElem_append_left q, List.getElem_append_left q]
  · have hjb : (A ++ e :: B)[j + 1]'(by omega) = (A ++ B)[j] := by
      rw [List.getElem_append_right (by omega), List.getElem_append_right (by omega)]
      simp [show j + 1 - A.length = 0 + 1 from by omega, show j - A.length = 0 from by omega]
    refine .inl ⟨j + 1, by omega, by rw [if_pos (by omega)]; omega, by rw [hjb], by rw [if_neg (by omega)], fun t ht h1 h2 => ?_, fun h => by cases h⟩
    rw [if_pos (by omega)] at h1
    have : t = j := by omega
    subst this
    rw [← hjb]
    exact pair_ne h _ _ (by omega)
  · refine .inl ⟨j + 1, by omega, by rw [if_neg (by omega)]; exact Nat.le_refl _, ?_, by rw [if_neg (by omega)], fun t _ h1 h2 => by rw [if_neg (by omega)] at h1; omega, fun h => by cases h⟩
    rw [List.getElem_append_right (by omega), List.getElem_append_right (by omega)]
    obtain ⟨t, rfl⟩ : ∃ t, j = A.length + t := ⟨j - A.length, by omega⟩
    simp [show A.length + t + 1 - A.length = t + 1 from by omega]
/-- What Insert leaves of the order. -/
theorem insert_walked {L : List Wel} (h : Ok L) (x ref : Int × Int) (r : Int) (h' : Ok (insert L x ref r).2) : ∃ κ, Walked false x (elements L) (elements (insert L x ref r).2) κ := by
  have hc : (insert L x ref r).2 = L ∨ (insert L x ref r).2 = L ++ [⟨x, ref, r⟩] := by
    unfold insert
    split
    · exact .inl rfl
    · split
      · exact .inl rfl
      · split
        · exact .inl rfl
        · split
          · exact .inl rfl
          · exact .inr rfl
  rcases hc with e | e
  · rw [e]; exact ⟨_, walked_same false x _⟩
  · rw [e] at h' ⊢
    obtain ⟨A, B, h1, h2⟩ := elements_snoc h h'
    rw [h1, h2]
    have := elements_apart h'
    rw [h2] at this
    exact ⟨_, walked_new this⟩
theorem drop_walked {L : List Wel} (h : Ok L) (x : Int × Int) : ∃ κ, Walked true x (elements L) (elements (drop L x).2) κ := by
  unfold drop
  by_cases h1 : has L x = false
  · rw [if_pos h1]; exact ⟨_, walked_same true x _⟩
  · rw [if_neg h1]
    by_cases h2 : kids L x ≠ []
    · rw [if_pos h2]; exact ⟨_, walked_same true x _⟩
    · rw [if_neg h2]
      obtain ⟨d, hd, rfl⟩ := has_iff.1 (by simpa using h1)
      obtain ⟨A, B, k1, k2⟩ := elements_less h hd (by simpa using h2)
      show ∃ κ, Walked true d.id (elements L) (elements (less L d.id)) κ
      rw [k1, k2]
      have := elements_apart h
      rw [k2] at this
      exact ⟨_, walked_less d.id this⟩
/-- What came stands behind its ref. -/
theorem insert_behind {L : List Wel} {x ref : Int × Int} {r : Int} (h' : Ok (insert L x ref r).2) (h0 : (insert L x ref r).1 = 0) : has (insert L x ref r).2 x = true ∧ (ref = (0, 0) ∨ (has (insert L x ref r).2 ref = true ∧ place (insert L x ref r).2 ref < place (insert L x ref r).2 x)) := by
  have hc : (insert L x ref r).2 = L ++ [⟨x, ref, r⟩] := by
    revert h0
    unfold insert
    split
    · intro h; simp at h
    · split
      · intro h; simp at h
      · split
        · intro h; simp at h
        · split
          · intro h; simp at h
          · intro _; rfl
  rw [hc] at h' ⊢
  have hm : (⟨x, ref, r⟩ : Wel) ∈ L ++ [⟨x, ref, r⟩] := by simp
  refine ⟨has_iff.2 ⟨_, hm, rfl⟩, ?_⟩
  rcases h'.ref _ hm with q | ⟨_, _, d, hd, q⟩
  · exact .inl q
  · refine .inr ⟨has_iff.2 ⟨d, hd, q⟩, ?_⟩
    have := place_kid h' hd hm q.symm
    rw [q] at this
    exact this
end Weave
end Go.Proofs.Ytohmhbjiapflpaa
