/- What is stable never goes back: plain facts. -/
import Derived.Test.YtgbikhpmicddkaaFrAll
namespace Go.Proofs.Ytgbikhpmicddkaa
set_option linter.unusedVariables false

theorem Front.b_trans {a b c : List Int} (h1 : Vecs.below a b = true) (h2 : Vecs.below b c = true) (hl : a.length = b.length) : Vecs.below a c = true := Vecs.below_iff.2 fun k h h' => by
  have := Vecs.below_iff.1 h1 k h (by omega)
  have := Vecs.below_iff.1 h2 k (by omega) h'
  omega
theorem Front.b_refl (a : List Int) : Vecs.below a a = true := Vecs.below_iff.2 fun k h h' => Int.le_refl _
theorem Front.b_anti {a b : List Int} (h1 : Vecs.below a b = true) (h2 : Vecs.below b a = true) (hl : a.length = b.length) : a = b := Vecs.ext_at hl fun k h h' => by
  have := Vecs.below_iff.1 h1 k h h'
  have := Vecs.below_iff.1 h2 k h' h
  omega
theorem Front.meet_l {a b : List Int} (hl : a.length = b.length) : Vecs.below (Vecs.meet a b) a = true := Vecs.below_iff.2 fun k h h' => by rw [Vecs.meet_at k h]; omega
theorem Front.meet_r {a b : List Int} (hl : a.length = b.length) : Vecs.below (Vecs.meet a b) b = true := Vecs.below_iff.2 fun k h h' => by rw [Vecs.meet_at k h]; omega
theorem Front.meet_g {a b z : List Int} (hl : a.length = b.length) (hz : z.length = a.length) (h1 : Vecs.below z a = true) (h2 : Vecs.below z b = true) : Vecs.below z (Vecs.meet a b) = true := Vecs.below_iff.2 fun k h h' => by
  rw [Vecs.meet_at k h']
  have := Vecs.below_iff.1 h1 k h (by omega)
  have := Vecs.below_iff.1 h2 k h (by omega)
  omega
theorem Front.join_l {a b : List Int} (hl : a.length = b.length) : Vecs.below a (Vecs.join a b) = true := Vecs.below_iff.2 fun k h h' => by rw [Vecs.join_at k h']; omega
theorem Front.join_r {a b : List Int} (hl : a.length = b.length) : Vecs.below b (Vecs.join a b) = true := Vecs.below_iff.2 fun k h h' => by rw [Vecs.join_at k h']; omega

/-- Rows of a front. -/
def Front.Ok (rows : List (List Int)) : Prop := (∀ r ∈ rows, Vecs.may r = true ∧ r.length = rows.length) ∧ 1 ≤ rows.length
theorem Front.um {rows : List (List Int)} (h : Front.Ok rows) {k : Nat} (h1 : 1 ≤ k) (hk : k ≤ rows.length) : (Front.upto Vecs.meet rows k).length = rows.length := (Front.upto_may (fun a b ha hb hab => Front.meet_ok ha hb hab) h.1 h1 hk).2
theorem Front.uj {rows : List (List Int)} (h : Front.Ok rows) {k : Nat} (h1 : 1 ≤ k) (hk : k ≤ rows.length) : (Front.upto Vecs.join rows k).length = rows.length := (Front.upto_may (fun a b ha hb hab => Front.join_ok ha hb hab) h.1 h1 hk).2
theorem Front.rl {rows : List (List Int)} (h : Front.Ok rows) {i : Nat} (hi : i < rows.length) : rows[i].length = rows.length := (h.1 _ (List.getElem_mem hi)).2
theorem Front.um_low {rows : List (List Int)} (h : Front.Ok rows) : ∀ {k : Nat}, 1 ≤ k → (hk : k ≤ rows.length) → ∀ i (hi : i < k), Vecs.below (Front.upto Vecs.meet rows k) (rows[i]'(by omega)) = true
  | 0, h1, _, _, _ => by omega
  | 1, _, hk, i, hi => by
    obtain rfl : i = 0 := by omega
    rw [Front.upto_one (by omega)]; exact Front.b_refl _
  | k + 2, _, hk, i, hi => by
    have hl : (Front.upto Vecs.meet rows (k + 1)).length = (rows[k + 1]'(by omega)).length := by rw [Front.um h (by omega) (by omega), Front.rl h (by omega)]
    rw [Front.upto_succ (by omega) (by omega)]
    by_cases e : i = k + 1
    · subst e; exact Front.meet_r hl
    · exact Front.b_trans (Front.meet_l hl) (Front.um_low h (k := k + 1) (by omega) (by omega) i (by omega)) (Vecs.meet_len hl)
theorem Front.um_great {rows : List (List Int)} (h : Front.Ok rows) {z : List Int} (hz : z.length = rows.length) (hb : ∀ i (hi : i < rows.length), Vecs.below z rows[i] = true) : ∀ {k : Nat}, 1 ≤ k → k ≤ rows.length → Vecs.below z (Front.upto Vecs.meet rows k) = true
  | 0, h1, _ => by omega
  | 1, _, hk => by rw [Front.upto_one (by omega)]; exact hb 0 (by omega)
  | k + 2, _, hk => by
    rw [Front.upto_succ (by omega) (by omega)]
    exact Front.meet_g (by rw [Front.um h (by omega) (by omega), Front.rl h (by omega)]) (by rw [Front.um h (by omega) (by omega), hz]) (Front.um_great h hz hb (k := k + 1) (by omega) (by omega)) (hb _ (by omega))
theorem Front.uj_up {rows : List (List Int)} (h : Front.Ok rows) : ∀ {k : Nat}, 1 ≤ k → (hk : k ≤ rows.length) → ∀ i (hi : i < k), Vecs.below (rows[i]'(by omega)) (Front.upto Vecs.join rows k) = true
  | 0, h1, _, _, _ => by omega
  | 1, _, hk, i, hi => by
    obtain rfl : i = 0 := by omega
    rw [Front.upto_one (by omega)]; exact Front.b_refl _
  | k + 2, _, hk, i, hi => by
    have hl : (Front.upto Vecs.join rows (k + 1)).length = (rows[k + 1]'(by omega)).length := by rw [Front.uj h (by omega) (by omega), Front.rl h (by omega)]
    rw [Front.upto_succ (by omega) (by omega)]
    by_cases e : i = k + 1
    · subst e; exact Front.join_r hl
    · exact Front.b_trans (Front.uj_up h (k := k + 1) (by omega) (by omega) i (by omega)) (Front.join_l hl) (by rw [Front.rl h (by omega), Front.uj h (by omega) (by omega)])
/-- What is stable, and the most. -/
theorem Front.st_low {rows : List (List Int)} (h : Front.Ok rows) {i : Nat} (hi : i < rows.length) : Vecs.below (Front.all Vecs.meet rows) rows[i] = true := by rw [← Front.upto_all]; exact Front.um_low h h.2 (Nat.le_refl _) i hi
theorem Front.mo_up {rows : List (List Int)} (h : Front.Ok rows) {i : Nat} (hi : i < rows.length) : Vecs.below rows[i] (Front.all Vecs.join rows) = true := by rw [← Front.upto_all]; exact Front.uj_up h h.2 (Nat.le_refl _) i hi
theorem Front.st_len {rows : List (List Int)} (h : Front.Ok rows) : (Front.all Vecs.meet rows).length = rows.length := by rw [← Front.upto_all]; exact Front.um h h.2 (Nat.le_refl _)
theorem Front.mo_len {rows : List (List Int)} (h : Front.Ok rows) : (Front.all Vecs.join rows).length = rows.length := by rw [← Front.upto_all]; exact Front.uj h h.2 (Nat.le_refl _)
theorem Front.st_great {rows : List (List Int)} (h : Front.Ok rows) {z : List Int} (hz : z.length = rows.length) (hb : ∀ i (hi : i < rows.length), Vecs.below z rows[i] = true) : Vecs.below z (Front.all Vecs.meet rows) = true := by rw [← Front.upto_all]; exact Front.um_great h hz hb h.2 (Nat.le_refl _)

theorem Front.hear_up {rows : List (List Int)} (h : Front.Ok rows) (s : Int) (v : List Int) : Front.Ok (Front.hear rows s v).2 ∧ (Front.hear rows s v).2.length = rows.length ∧ Vecs.below (Front.all Vecs.meet rows) (Front.all Vecs.meet (Front.hear rows s v).2) = true := by
  have same : Front.Ok rows ∧ rows.length = rows.length ∧ Vecs.below (Front.all Vecs.meet rows) (Front.all Vecs.meet rows) = true := ⟨h, rfl, Front.b_refl _⟩
  unfold Front.hear
  split
  · rename_i hc
    split
    · exact same
    · obtain ⟨i, rfl⟩ : ∃ i : Nat, s = i := ⟨s.toNat, by omega⟩
      have hi : i < rows.length := by omega
      rw [Int.toNat_natCast, List.getD_eq_getElem?_getD, List.getElem?_eq_getElem hi]
      have hr := h.1 _ (List.getElem_mem hi)
      have hj := Front.join_ok hr.1 hc.2.2.1 (by rw [hr.2, hc.2.2.2])
      have hl : (rows.set i (Vecs.join rows[i] v)).length = rows.length := List.length_set
      have hok : Front.Ok (rows.set i (Vecs.join rows[i] v)) := by
        refine ⟨fun r hr2 => ?_, by rw [hl]; exact h.2⟩
        rw [hl]
        rcases List.mem_or_eq_of_mem_set hr2 with h3 | rfl
        · exact h.1 r h3
        · exact ⟨hj.1, by rw [hj.2, hr.2]⟩
      refine ⟨hok, hl, Front.st_great hok (by rw [Front.st_len h]; exact hl.symm) (fun k hk => ?_)⟩
      have hk' : k < rows.length := by rw [← hl]; exact hk
      show Vecs.below (Front.all Vecs.meet rows) ((rows.set i (Vecs.join rows[i] v))[k]'hk) = true
      rw [List.getElem_set]
      split
      · rename_i e
        subst e
        exact Front.b_trans (Front.st_low h hi) (Front.join_l (by rw [hr.2, hc.2.2.2])) (by rw [Front.st_len h, hr.2])
      · exact Front.st_low h hk'
  · exact same
theorem Front.late_same_iff {rows : List (List Int)} (h : Front.Ok rows) : (Front.late rows).length = 0 ↔ Front.all Vecs.meet rows = Front.all Vecs.join rows := by
  have hc : ∀ i (hi : i < rows.length), Vecs.cmp rows[i] (Front.all Vecs.join rows) = 0 ↔ rows[i] = Front.all Vecs.join rows := fun i hi => by
    constructor
    · intro e
      unfold Vecs.cmp at e
      rw [if_pos (Front.mo_up h hi)] at e
      have h2 : Vecs.below (Front.all Vecs.join rows) rows[i] = true := by
        cases hb : Vecs.below (Front.all Vecs.join rows) rows[i] with
        | true => rfl
        | false => rw [hb] at e; simp at e
      exact Front.b_anti (Front.mo_up h hi) h2 (by rw [Front.rl h hi, Front.mo_len h])
    · intro e
      rw [e]
      exact Front.cmp_self _
  have hl : (Front.late rows).length = 0 ↔ ∀ i (hi : i < rows.length), rows[i] = Front.all Vecs.join rows := by
    unfold Front.late Front.lateK
    rw [List.length_map, List.length_eq_zero_iff, List.filter_eq_nil_iff]
    constructor
    · intro hf i hi
      have := hf i (List.mem_range.2 hi)
      rw [List.getD_eq_getElem?_getD, List.getElem?_eq_getElem hi] at this
      exact (hc i hi).1 (by simpa using this)
    · intro hf i hi
      have hi := List.mem_range.1 hi
      rw [List.getD_eq_getElem?_getD, List.getElem?_eq_getElem hi]
      simpa using (hc i hi).2 (hf i hi)
  rw [hl]
  constructor
  · intro hf
    have e : rows = List.replicate rows.length (Front.all Vecs.join rows) := List.ext_getElem (by simp) fun i h1 h2 => by rw [List.getElem_replicate]; exact hf i h1
    have := Front.all_same (Front.meet_self (Front.all Vecs.join rows)) rows.length h.2
    rw [← e] at this
    exact this
  · intro e i hi
    exact Front.b_anti (Front.mo_up h hi) (by rw [← e]; exact Front.st_low h hi) (by rw [Front.rl h hi, Front.mo_len h])
end Go.Proofs.Ytgbikhpmicddkaa
