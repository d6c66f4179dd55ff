/- A chain typed behind all that is there stands at the head, in its order. -/
import Derived.Test.YtohmhbjiapflpaaWvTree2
import Derived.Test.YtohmhbjiapflpaaWvInsert
namespace Go.Proofs.Ytohmhbjiapflpaa
open Go.RowKit
set_option linter.unusedVariables false
namespace Weave

theorem place_only {L : List Wel} (h : Ok L) {c e : Wel} (hc : c ∈ L) (he : e ∈ L) (hr : e.ref = c.id) (ho : ∀ d ∈ L, d.ref = c.id → d = e) : place L e.id = place L c.id + 1 := by
  have hk : kids L c.id = [e.id] := Idn.same (kids_spec h.apart c.id).1 (by simp) (fun z => by
    rw [(kids_spec h.apart c.id).2 z]
    constructor
    · rintro ⟨d, hd, h1, h2⟩
      rw [ho d hd h1] at h2
      simp [h2]
    · intro hz
      rw [List.mem_singleton.1 hz]
      exact ⟨e, he, hr, rfl⟩)
  obtain ⟨P, S, h1⟩ := elements_at h hc
  rw [Own_eq h c.id, hk] at h1
  simp only [List.reverse_singleton, List.flatMap_cons, List.flatMap_nil, List.append_nil, Ok.at_eq h.apart he] at h1
  rw [place_at h h1, place_at h (d := e) (P := P ++ [c]) (R := Own L e.id ++ S) (by rw [h1]; simp)]
  simp

theorem place_first {L : List Wel} (h : Ok L) {c : Wel} (hc : c ∈ L) (hr : c.ref = (0, 0)) (hm : ∀ d ∈ L, d.ref = (0, 0) → d = c ∨ d.id.1 < c.id.1) : place L c.id = 0 := by
  have hs := kids_spec h.apart (0, 0)
  have hck : c.id ∈ kids L (0, 0) := (hs.2 _).2 ⟨c, hc, hr, rfl⟩
  cases hk : (kids L (0, 0)).reverse with
  | nil => rw [List.reverse_eq_nil_iff] at hk; rw [hk] at hck; simp at hck
  | cons k ks =>
    have hkm : k ∈ kids L (0, 0) := List.mem_reverse.1 (by rw [hk]; simp)
    have hkc : k = c.id := by
      have hcr : c.id ∈ k :: ks := by rw [← hk]; exact List.mem_reverse.2 hck
      rcases List.mem_cons.1 hcr with q | q
      · exact q.symm
      · have hp : (k :: ks).Pairwise (fun a b => Idn.lt b a = true) := by rw [← hk]; exact List.pairwise_reverse.2 hs.1
        have h1 := (List.pairwise_cons.1 hp).1 _ q
        obtain ⟨d, hd, h2, h3⟩ := (hs.2 k).1 hkm
        rcases hm d hd h2 with h4 | h4
        · rw [← h3, h4]
        · rw [← h3, Idn.lt_iff] at h1
          omega
    have he : elements L = [] ++ c :: (Own L c.id ++ ks.flatMap fun k => at' L k :: Own L k) := by
      rw [elements_own h, Own_eq h (0, 0), hk, List.flatMap_cons, hkc, Ok.at_eq h.apart hc]
      simp
    rw [place_at h he]
    rfl

/-- What the j-th of the chain is typed behind; the j-th. -/
def cref (t s : Int) (j : Nat) : Int × Int := if j = 1 then (0, 0) else (t + (j : Int) - 1, s)
def cel (t s : Int) (j : Nat) : Wel := ⟨(t + (j : Int), s), cref t s j, 97⟩
structure Typed (L : List Wel) (t s : Int) (m : Nat) : Prop where
  ok : Ok L
  few : L.length ≤ 30 + m
  all : ∀ j, 1 ≤ j → j ≤ m → cel t s j ∈ L
  old : ∀ d ∈ L, d.id.1 ≤ t ∨ ∃ j, 1 ≤ j ∧ j ≤ m ∧ d = cel t s j

theorem Typed.begin {L : List Wel} {t s : Int} (h : Ok L) (hl : L.length ≤ 30) (ht : ∀ d ∈ L, d.id.1 ≤ t) : Typed L t s 0 := ⟨h, hl, fun j h1 h2 => by omega, fun d hd => .inl (ht d hd)⟩
theorem Typed.next {L : List Wel} {t s : Int} {m : Nat} (h : Typed L t s m) (ht : 0 ≤ t ∧ t ≤ 4000000000) (hs : 0 ≤ s ∧ s ≤ 15) (hm : m < 30) :
    insert L (t + ((m + 1 : Nat) : Int), s) (cref t s (m + 1)) 97 = (0, L ++ [cel t s (m + 1)]) ∧ Typed (L ++ [cel t s (m + 1)]) t s (m + 1) := by
  have hno : has L (t + ((m + 1 : Nat) : Int), s) = false := by
    cases hh : has L (t + ((m + 1 : Nat) : Int), s) with
    | false => rfl
    | true =>
      obtain ⟨d, hd, q⟩ := has_iff.1 hh
      rcases h.old d hd with h1 | ⟨j, h1, h2, rfl⟩
      · rw [q] at h1
        simp only at h1
        omega
      · have := congrArg Prod.fst q
        simp only [cel] at this
        omega
  have hmx : Idn.may (t + ((m + 1 : Nat) : Int), s) = true := decide_eq_true (by simp only; omega)
  have hmb : mayBe (t + ((m + 1 : Nat) : Int), s) (cref t s (m + 1)) = true := by
    unfold mayBe
    rw [hmx, Bool.true_and]
    unfold cref
    by_cases h0 : m = 0
    · rw [if_pos (by omega)]; rfl
    · rw [if_neg (by omega)]
      have h1 : Idn.may (t + ((m + 1 : Nat) : Int) - 1, s) = true := decide_eq_true (by simp only; omega)
      rw [h1, decide_eq_true (show (t + ((m + 1 : Nat) : Int) - 1, s).1 < (t + ((m + 1 : Nat) : Int), s).1 by simp only; omega)]
      simp
  have href : cref t s (m + 1) = (0, 0) ∨ has L (cref t s (m + 1)) = true := by
    by_cases h0 : m = 0
    · exact .inl (if_pos (by omega))
    · refine .inr (has_iff.2 ⟨_, h.all m (by omega) (Nat.le_refl _), ?_⟩)
      unfold cel cref
      rw [if_neg (show ¬ m + 1 = 1 by omega)]
      simp only [Prod.mk.injEq, and_true]
      omega
  have hf := h.few
  have hr : Mesg.rune 97 = true := by decide
  refine ⟨?_, ⟨insert_ok h.ok hmb hno href (by omega), by simp; omega, fun j h1 h2 => ?_, fun d hd => ?_⟩⟩
  · unfold insert
    rw [if_neg (by rw [hmb, hr]; simp), if_neg (by rw [hno]; decide), if_neg ?_, if_neg (by omega)]
    · rfl
    · rintro ⟨h1, h2⟩
      rcases href with q | q
      · exact h1 q
      · rw [q] at h2; cases h2
  · by_cases h3 : j = m + 1
    · rw [h3]; simp
    · exact List.mem_append_left _ (h.all j h1 (by omega))
  · rcases List.mem_append.1 hd with hd | hd
    · rcases h.old d hd with q | ⟨j, q1, q2, q3⟩
      · exact .inl q
      · exact .inr ⟨j, q1, by omega, q3⟩
    · exact .inr ⟨m + 1, by omega, Nat.le_refl _, List.mem_singleton.1 hd⟩
theorem Typed.at' {L : List Wel} {t s : Int} {n : Nat} (h : Typed L t s n) (ht : 0 ≤ t) : ∀ (i : Nat), i + 1 ≤ n → has L (t + ((i + 1 : Nat) : Int), s) = true ∧ place L (t + ((i + 1 : Nat) : Int), s) = i
  | 0, hi => by
    have hm := h.all 1 (by omega) hi
    refine ⟨has_iff.2 ⟨_, hm, rfl⟩, ?_⟩
    refine place_first h.ok hm rfl (fun d hd hr => ?_)
    rcases h.old d hd with q | ⟨j, q1, q2, rfl⟩
    · right; show d.id.1 < t + ((1 : Nat) : Int); omega
    · left
      unfold cel cref at hr
      simp only at hr
      by_cases h1 : j = 1
      · rw [h1]
      · rw [if_neg h1] at hr
        have := congrArg Prod.fst hr
        simp only at this
        omega
  | i + 1, hi => by
    obtain ⟨_, h1⟩ := Typed.at' h ht i (by omega)
    have hc := h.all (i + 1) (by omega) (by omega)
    have he := h.all (i + 2) (by omega) hi
    refine ⟨has_iff.2 ⟨_, he, rfl⟩, ?_⟩
    have hr : (cel t s (i + 2)).ref = (cel t s (i + 1)).id := by
      unfold cel cref
      rw [if_neg (by omega)]
      simp only [Prod.mk.injEq, and_true]
      omega
    have := place_only h.ok hc he hr (fun d hd q => by
      rcases h.old d hd with q1 | ⟨j, q1, q2, rfl⟩
      · have := h.ok.ref_lt hd
        rw [q] at this
        simp only [cel] at this
        omega
      · have q3 := congrArg Prod.fst q
        unfold cel cref at q3
        by_cases h1 : j = 1
        · rw [if_pos h1] at q3
          simp only at q3
          omega
        · rw [if_neg h1] at q3
          simp only at q3
          have : j = i + 2 := by omega
          rw [this])
    have e1 : place L (cel t s (i + 2)).id = place L (cel t s (i + 1)).id + 1 := this
    have e2 : place L (cel t s (i + 1)).id = i := h1
    show place L (cel t s (i + 2)).id = i + 1
    rw [e1, e2]

/-- What a script's piece does to the greatest time. -/
theorem insert_top {L : List Wel} {t : Int} (h : ∀ d ∈ L, d.id.1 ≤ t) (x ref : Int × Int) (r : Int) : ∀ d ∈ (insert L x ref r).2, d.id.1 ≤ max t x.1 := by
  have h' : ∀ d ∈ L, d.id.1 ≤ max t x.1 := fun d hd => Int.le_trans (h d hd) (Int.le_max_left _ _)
  unfold insert
  split
  · exact h'
  · split
    · exact h'
    · split
      · exact h'
      · split
        · exact h'
        · intro d hd
          rcases List.mem_append.1 hd with hd | hd
          · exact h' d hd
          · rw [List.mem_singleton.1 hd]
            exact Int.le_max_right _ _
theorem insert_not {L : List Wel} {x : Int × Int} (hx : Idn.may x = false) (ref : Int × Int) (r : Int) : (insert L x ref r).2 = L := by
  unfold insert
  rw [if_pos (.inl (by unfold mayBe; rw [hx]; rfl))]
theorem insert_len {L : List Wel} (x ref : Int × Int) (r : Int) : (insert L x ref r).2.length ≤ L.length + 1 := by
  unfold insert
  split
  · simp
  · split
    · simp
    · split
      · simp
      · split <;> simp
end Weave
end Go.Proofs.Ytohmhbjiapflpaa
