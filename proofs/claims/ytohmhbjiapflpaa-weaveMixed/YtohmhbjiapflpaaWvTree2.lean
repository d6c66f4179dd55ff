/- A line's order: each element once; each right ahead of what is its own; where it is. -/
import Derived.Test.YtohmhbjiapflpaaWvTree
import Derived.Test.YtohmhbjiapflpaaWvDropMath
import Derived.Test.YtohmhbjiapflpaaWvPlace
namespace Go.Proofs.Ytohmhbjiapflpaa
set_option linter.unusedVariables false
namespace Weave

theorem less_put {L : List Wel} (h : Ok L) {e : Wel} (he : e ∈ L) (hk : kids L e.id = []) : Ok (less L e.id ++ [e]) := by
  have hl := less_ok h hk
  refine ⟨?_, fun d hd => ?_, fun d hd => ?_, ?_⟩
  · rw [List.pairwise_append]
    refine ⟨hl.apart, by simp, fun a ha b hb => ?_⟩
    rw [List.mem_singleton.1 hb]
    exact (mem_less.1 ha).2
  · rcases List.mem_append.1 hd with hd | hd
    · exact hl.may d hd
    · rw [List.mem_singleton.1 hd]; exact h.may e he
  · rcases List.mem_append.1 hd with hd | hd
    · rcases hl.ref d hd with q | ⟨q1, q2, c, hc, q3⟩
      · exact .inl q
      · exact .inr ⟨q1, q2, c, List.mem_append_left _ hc, q3⟩
    · rw [List.mem_singleton.1 hd]
      rcases h.ref e he with q | ⟨q1, q2, c, hc, q3⟩
      · exact .inl q
      · refine .inr ⟨q1, q2, c, List.mem_append_left _ (mem_less.2 ⟨hc, fun q => ?_⟩), q3⟩
        rw [← q3, q] at q2
        omega
  · have hlen : (less L e.id).length < L.length := by
      have h1 := List.length_filter_le (fun d : Wel => decide (d.id ≠ e.id)) L
      have h2 : (less L e.id).length ≠ L.length := fun q => by
        have := List.length_filter_eq_length_iff.1 q e he
        simp at this
      unfold less at h2 ⊢
      omega
    rw [List.length_append, List.length_singleton]
    have := h.few
    omega
theorem less_put_mem {L : List Wel} (h : Ok L) {e : Wel} (he : e ∈ L) (d : Wel) : d ∈ L ↔ d ∈ less L e.id ++ [e] := by
  rw [List.mem_append, mem_less, List.mem_singleton]
  constructor
  · intro hd
    by_cases q : d.id = e.id
    · exact .inr (ids_eq h.apart hd he q)
    · exact .inl ⟨hd, q⟩
  · rintro (q | rfl)
    · exact q.1
    · exact he
theorem less_short {L : List Wel} {e : Wel} (he : e ∈ L) : (less L e.id).length < L.length := by
  have h1 := List.length_filter_le (fun d : Wel => decide (d.id ≠ e.id)) L
  have h2 : (less L e.id).length ≠ L.length := fun q => by
    have := List.length_filter_eq_length_iff.1 q e he
    simp at this
  unfold less at h2 ⊢
  omega
theorem latest : ∀ (L : List Wel), L ≠ [] → ∃ e ∈ L, ∀ d ∈ L, d.id.1 ≤ e.id.1
  | [], h => absurd rfl h
  | [a], _ => ⟨a, by simp, by simp⟩
  | a :: b :: L, _ => by
    obtain ⟨e, he, hm⟩ := latest (b :: L) (by simp)
    by_cases q : e.id.1 ≤ a.id.1
    · exact ⟨a, by simp, fun d hd => by
        rcases List.mem_cons.1 hd with rfl | hd
        · omega
        · have := hm d hd; omega⟩
    · exact ⟨e, by simp [he], fun d hd => by
        rcases List.mem_cons.1 hd with rfl | hd
        · omega
        · exact hm d hd⟩
theorem kids_late {L : List Wel} (h : Ok L) {e : Wel} (hm : ∀ d ∈ L, d.id.1 ≤ e.id.1) : kids L e.id = [] := by
  cases hk : kids L e.id with
  | nil => rfl
  | cons k ks =>
    have h1 : k ∈ kids L e.id := by rw [hk]; simp
    have h2 := h.later h1
    obtain ⟨d, hd, _, rfl⟩ := ((kids_spec h.apart e.id).2 k).1 h1
    have := hm d hd
    omega
/-- What a drop leaves, and what a new one finds. -/
theorem elements_less {L : List Wel} (h : Ok L) {e : Wel} (he : e ∈ L) (hk : kids L e.id = []) : ∃ A B, elements (less L e.id) = A ++ B ∧ elements L = A ++ e :: B := by
  rw [elements_same h (less_put h he hk) (less_put_mem h he)]
  exact elements_snoc (less_ok h hk) (less_put h he hk)
theorem elements_all (n : Nat) : ∀ (L : List Wel), L.length ≤ n → Ok L → (∀ x, x ∈ elements L ↔ x ∈ L) ∧ (elements L).Pairwise (fun a b => a.id ≠ b.id) := by
  induction n with
  | zero =>
    intro L hn h
    obtain rfl : L = [] := List.eq_nil_of_length_eq_zero (by omega)
    exact ⟨fun x => Iff.rfl, .nil⟩
  | succ n ih =>
    intro L hn h
    by_cases h0 : L = []
    · subst h0; exact ⟨fun x => Iff.rfl, .nil⟩
    · obtain ⟨e, he, hm⟩ := latest L h0
      have hk := kids_late h hm
      obtain ⟨A, B, h1, h2⟩ := elements_less h he hk
      have hs := less_short he
      obtain ⟨i1, i2⟩ := ih (less L e.id) (by omega) (less_ok h hk)
      rw [h1] at i1 i2
      rw [h2]
      refine ⟨fun x => ?_, ?_⟩
      · have q1 := i1 x
        simp only [List.mem_append] at q1
        rw [less_put_mem h he x]
        simp only [List.mem_append, List.mem_cons, List.not_mem_nil, or_false, ← q1]
        constructor
        · rintro (q | q | q)
          · exact .inl (.inl q)
          · exact .inr q
          · exact .inl (.inr q)
        · rintro ((q | q) | q)
          · exact .inl q
          · exact .inr (.inr q)
          · exact .inr (.inl q)
      · have hne : ∀ x, x ∈ A ++ B → x.id ≠ e.id := fun x hx => (mem_less.1 ((i1 x).1 hx)).2
        rw [List.pairwise_append] at i2 ⊢
        refine ⟨i2.1, List.pairwise_cons.2 ⟨fun b hb q => hne b (by simp [hb]) q.symm, i2.2.1⟩, fun a ha b hb => ?_⟩
        rcases List.mem_cons.1 hb with rfl | hb
        · exact hne a (by simp [ha])
        · exact i2.2.2 a ha b hb
theorem elements_mem {L : List Wel} (h : Ok L) (x : Wel) : x ∈ elements L ↔ x ∈ L := (elements_all _ L (Nat.le_refl _) h).1 x
theorem elements_apart {L : List Wel} (h : Ok L) : (elements L).Pairwise (fun a b => a.id ≠ b.id) := (elements_all _ L (Nat.le_refl _) h).2
theorem elements_few {L : List Wel} (h : Ok L) : (elements L).length ≤ 4096 := by
  have h1 : ∀ {xs ys : List (Int × Int)}, xs.Nodup → (∀ x ∈ xs, x ∈ ys) → xs.length ≤ ys.length := by
    intro xs
    induction xs with
    | nil => intros; simp
    | cons x xs ih =>
      intro ys hn hs
      obtain ⟨h1, h2⟩ := List.nodup_cons.1 hn
      obtain ⟨P, S, rfl⟩ := List.append_of_mem (hs x (by simp))
      have := ih (ys := P ++ S) h2 (fun z hz => by
        have := hs z (by simp [hz])
        simp only [List.mem_append, List.mem_cons] at this ⊢
        rcases this with q | q | q
        · exact .inl q
        · subst q; exact absurd hz h1
        · exact .inr q)
      simp only [List.length_append, List.length_cons] at this ⊢
      omega
  have h2 := h1 (xs := (elements L).map Wel.id) (ys := L.map Wel.id) (by unfold List.Nodup; rw [List.pairwise_map]; exact elements_apart h) (fun x hx => by
    obtain ⟨d, hd, rfl⟩ := List.mem_map.1 hx
    exact List.mem_map.2 ⟨d, (elements_mem h d).1 hd, rfl⟩)
  rw [List.length_map, List.length_map] at h2
  have := h.few
  omega
/-- Each element stands right ahead of what is its own. -/
theorem own_at {L : List Wel} (h : Ok L) {d : Wel} (hd : d ∈ L) (y : Int × Int) (hu : Up L d.ref y) : ∃ P S, Own L y = P ++ d :: (Own L d.id ++ S) := by
  induction hn : cnt L y using Nat.strongRecOn generalizing y with
  | _ n ih =>
    by_cases hey : d.ref = y
    · have hk : d.id ∈ kids L y := ((kids_spec h.apart y).2 d.id).2 ⟨d, hd, hey, rfl⟩
      obtain ⟨P, S, hps⟩ := List.append_of_mem (List.mem_reverse.2 hk)
      refine ⟨P.flatMap (fun k => at' L k :: Own L k), S.flatMap (fun k => at' L k :: Own L k), ?_⟩
      rw [Own_eq h, hps, List.flatMap_append, List.flatMap_cons, Ok.at_eq h.apart hd]
      simp
    · obtain ⟨c, hc, hr, huc⟩ := hu.last hey
      have hck : c.id ∈ kids L y := ((kids_spec h.apart y).2 c.id).2 ⟨c, hc, hr, rfl⟩
      obtain ⟨P1, S1, h1⟩ := ih (cnt L c.id) (by rw [← hn]; exact h.cnt_lt hck) c.id huc rfl
      obtain ⟨P, S, hps⟩ := List.append_of_mem (List.mem_reverse.2 hck)
      refine ⟨P.flatMap (fun k => at' L k :: Own L k) ++ (c :: P1), S1 ++ S.flatMap (fun k => at' L k :: Own L k), ?_⟩
      rw [Own_eq h, hps, List.flatMap_append, List.flatMap_cons, Ok.at_eq h.apart hc, h1]
      simp
theorem elements_at {L : List Wel} (h : Ok L) {d : Wel} (hd : d ∈ L) : ∃ P S, elements L = P ++ d :: (Own L d.id ++ S) := by
  rw [elements_own h]
  refine own_at h hd (0, 0) (Up.root h ?_)
  rcases h.ref d hd with q | ⟨_, _, c, hc, q⟩
  · exact .inl q
  · exact .inr ⟨c, hc, q⟩
theorem has_iff {L : List Wel} {x : Int × Int} : has L x = true ↔ ∃ d ∈ L, d.id = x := by
  unfold has
  rw [List.any_eq_true]
  constructor
  · rintro ⟨d, hd, q⟩; exact ⟨d, hd, of_decide_eq_true q⟩
  · rintro ⟨d, hd, q⟩; exact ⟨d, hd, decide_eq_true q⟩
/-- Where an element is. -/
theorem place_at {L : List Wel} (h : Ok L) {d : Wel} {P R : List Wel} (he : elements L = P ++ d :: R) : place L d.id = P.length := by
  have hd : d ∈ L := (elements_mem h d).1 (by rw [he]; simp)
  unfold place
  rw [if_pos (has_iff.2 ⟨d, hd, rfl⟩)]
  have ha := elements_apart h
  rw [he, List.pairwise_append] at ha
  refine findIdx_pre (e := d) (pre := P) ⟨R, by rw [he]; simp⟩ (fun c hc => decide_eq_false (ha.2.2 c hc d (by simp))) (decide_eq_true rfl)
/-- A kid stands behind the one whose it is. -/
theorem place_kid {L : List Wel} (h : Ok L) {d e : Wel} (hd : d ∈ L) (he : e ∈ L) (hr : e.ref = d.id) : place L d.id < place L e.id := by
  obtain ⟨P, S, h1⟩ := elements_at h hd
  obtain ⟨P2, S2, h2⟩ := own_at h he d.id (by rw [hr]; exact .refl _)
  rw [place_at h h1, place_at h (d := e) (P := P ++ d :: P2) (R := Own L e.id ++ S2 ++ S) (by rw [h1, h2]; simp)]
  simp
end Weave
end Go.Proofs.Ytohmhbjiapflpaa
