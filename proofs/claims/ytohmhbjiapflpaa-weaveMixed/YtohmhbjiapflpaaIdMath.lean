/- Names of elements in their order: plain facts. -/
import Derived.Test.YtohmhbjiapflpaaIdCmp
import Derived.Shelf.SlSortCmp.WholeK
import Derived.Lib.SlicesCompact
namespace Go.Proofs.Ytohmhbjiapflpaa
open Go.Lib (keeps compactUpTo CompInv keeps_lt_one keeps_pos keeps_neg compactUpTo_all range_map_get)
set_option linter.unusedVariables false

theorem Idn.lt_iff {x y : Int × Int} : Idn.lt x y = true ↔ x.1 < y.1 ∨ x.1 = y.1 ∧ x.2 < y.2 := decide_eq_true_iff
theorem Idn.lt_no {x y : Int × Int} : Idn.lt x y = false ↔ ¬ (x.1 < y.1 ∨ x.1 = y.1 ∧ x.2 < y.2) := decide_eq_false_iff_not
theorem Idn.lt_irrefl (x : Int × Int) : Idn.lt x x = false := Idn.lt_no.2 (by omega)
theorem Idn.lt_trans {x y z : Int × Int} (h : Idn.lt x y = true) (k : Idn.lt y z = true) : Idn.lt x z = true := by
  rw [Idn.lt_iff] at *; omega
theorem Idn.lt_asymm {x y : Int × Int} (h : Idn.lt x y = true) : Idn.lt y x = false := by
  rw [Idn.lt_iff] at h; rw [Idn.lt_no]; omega
theorem Idn.lt_total {x y : Int × Int} (h : x ≠ y) : Idn.lt x y = true ∨ Idn.lt y x = true := by
  rw [Idn.lt_iff, Idn.lt_iff]
  have : ¬ (x.1 = y.1 ∧ x.2 = y.2) := fun e => h (Prod.ext e.1 e.2)
  omega

/-- ys are the Ids of xs, each once, rising. -/
def Idn.IsOrder (xs ys : List (Int × Int)) : Prop := ys.Pairwise (fun x y => Idn.lt x y = true) ∧ ∀ x, x ∈ ys ↔ x ∈ xs

theorem Idn.same : ∀ {ys zs : List (Int × Int)}, ys.Pairwise (fun x y => Idn.lt x y = true) → zs.Pairwise (fun x y => Idn.lt x y = true) → (∀ x, x ∈ ys ↔ x ∈ zs) → ys = zs
  | [], [], _, _, _ => rfl
  | [], z :: zs, _, _, h => by have := (h z).2 (by simp); simp at this
  | y :: ys, [], _, _, h => by have := (h y).1 (by simp); simp at this
  | y :: ys, z :: zs, h1, h2, h => by
    rw [List.pairwise_cons] at h1 h2
    have e : y = z := by
      have hy := (h y).1 (by simp)
      have hz := (h z).2 (by simp)
      rcases List.mem_cons.1 hy with e | hy
      · exact e
      · rcases List.mem_cons.1 hz with e | hz
        · exact e.symm
        · have a := h2.1 y hy
          have b := h1.1 z hz
          rw [Idn.lt_asymm a] at b; cases b
    subst e
    rw [Idn.same h1.2 h2.2 (fun x => ?_)]
    have hx := h x
    simp only [List.mem_cons] at hx
    constructor
    · intro hm
      rcases hx.1 (.inr hm) with e | e
      · rw [e] at hm; have := h1.1 y hm; rw [Idn.lt_irrefl] at this; cases this
      · exact e
    · intro hm
      rcases hx.2 (.inr hm) with e | e
      · rw [e] at hm; have := h2.1 y hm; rw [Idn.lt_irrefl] at this; cases this
      · exact e
theorem Idn.IsOrder.unique {xs ys zs : List (Int × Int)} (h : Idn.IsOrder xs ys) (k : Idn.IsOrder xs zs) : ys = zs := Idn.same h.1 k.1 (fun x => (h.2 x).trans (k.2 x).symm)

/-- Of a row that does not fall what stays. -/
theorem Idn.compact_order {xs : List (Int × Int)} {d : Array (Int × Int)} (hs : ∀ i j, i < j → j < d.size → Idn.lt d[j]! d[i]! = false) (hm : ∀ x, x ∈ d.toList ↔ x ∈ xs) : Idn.IsOrder xs (compactUpTo d d.size) := by
  have step : ∀ i j, i < j → j < d.size → keeps d j = true → Idn.lt d[i]! d[j]! = true := fun i j hij hj hk => by
    have hne : d[j]! ≠ d[j - 1]! := by
      have := of_decide_eq_true hk
      rcases this with h | h
      · omega
      · exact h
    have h1 : Idn.lt d[j - 1]! d[j]! = true := by
      rcases Idn.lt_total hne with h | h
      · rw [hs (j - 1) j (by omega) hj] at h; cases h
      · exact h
    by_cases e : i = j - 1
    · rw [e]; exact h1
    · have h2 := hs i (j - 1) (by omega) (by omega)
      rw [Idn.lt_iff] at h1 ⊢
      rw [Idn.lt_no] at h2
      omega
  refine ⟨?_, fun x => ?_⟩
  · unfold compactUpTo
    rw [List.pairwise_map]
    refine List.Pairwise.imp_of_mem (R := fun a b => a < b) (fun {a b} ha hb hab => ?_) (List.pairwise_lt_range.filter _)
    rw [List.mem_filter, List.mem_range] at hb
    exact step a b hab hb.1 hb.2
  · rw [← hm]
    unfold compactUpTo
    simp only [List.mem_map, List.mem_filter, List.mem_range]
    constructor
    · rintro ⟨i, ⟨hi, _⟩, rfl⟩
      rw [getElem!_pos d i hi]
      exact Array.getElem_mem_toList hi
    · intro hx
      obtain ⟨i, hi, rfl⟩ := List.getElem_of_mem hx
      have hi' : i < d.size := by simpa using hi
      have key : ∀ i, i < d.size → ∃ j, j < d.size ∧ keeps d j = true ∧ d[j]! = d[i]! := by
        intro i
        induction i with
        | zero => exact fun hi => ⟨0, hi, keeps_lt_one d 0 (by omega), rfl⟩
        | succ n ih =>
          intro hi
          cases hk : keeps d (n + 1) with
          | true => exact ⟨n + 1, hi, hk, rfl⟩
          | false =>
            obtain ⟨j, h1, h2, h3⟩ := ih (by omega)
            refine ⟨j, h1, h2, h3.trans ?_⟩
            have h4 := of_decide_eq_false hk
            have h5 : ¬ d[n + 1]! ≠ d[n + 1 - 1]! := fun h => h4 (.inr h)
            have h6 : d[n + 1]! = d[n]! := Classical.not_not.1 h5
            exact h6.symm
      obtain ⟨j, h1, h2, h3⟩ := key i hi'
      refine ⟨j, ⟨h1, h2⟩, h3.trans ?_⟩
      rw [getElem!_pos d i hi']
      simp

/-- How many of ys are less than x. -/
def Idn.rank (ys : List (Int × Int)) (x : Int × Int) : Nat := ys.countP (fun y => Idn.lt y x)
theorem Idn.rank_le (ys : List (Int × Int)) (x : Int × Int) : Idn.rank ys x ≤ ys.length := List.countP_le_length
theorem Idn.rank_cons {y : Int × Int} {ys : List (Int × Int)} (x : Int × Int) : Idn.rank (y :: ys) x = Idn.rank ys x + (if Idn.lt y x then 1 else 0) := by
  unfold Idn.rank; rw [List.countP_cons]
/-- Those less than x stand ahead of its rank, the others from there on. -/
theorem Idn.rank_at : ∀ {ys : List (Int × Int)}, ys.Pairwise (fun x y => Idn.lt x y = true) → ∀ (x : Int × Int) (i : Nat) (hi : i < ys.length), Idn.lt ys[i] x = decide (i < Idn.rank ys x)
  | [], _, _, i, hi => by simp at hi
  | y :: ys, h, x, i, hi => by
    rw [List.pairwise_cons] at h
    rw [Idn.rank_cons]
    cases hy : Idn.lt y x with
    | true =>
      cases i with
      | zero => simp [hy]
      | succ i =>
        have := Idn.rank_at h.2 x i (by simpa using hi)
        simp only [List.getElem_cons_succ, this, if_true]
        rw [decide_eq_decide]; omega
    | false =>
      have h0 : Idn.rank ys x = 0 := by
        unfold Idn.rank
        rw [List.countP_eq_zero]
        intro z hz
        cases hzx : Idn.lt z x with
        | false => simp
        | true => rw [Idn.lt_trans (h.1 z hz) hzx] at hy; cases hy
      rw [h0]
      cases i with
      | zero => simp [hy]
      | succ i =>
        have := Idn.rank_at h.2 x i (by simpa using hi)
        rw [h0] at this
        simpa using this
/-- x is one of ys just if it stands at its rank. -/
theorem Idn.rank_mem {ys : List (Int × Int)} (h : ys.Pairwise (fun x y => Idn.lt x y = true)) (x : Int × Int) : x ∈ ys ↔ ∃ hi : Idn.rank ys x < ys.length, ys[Idn.rank ys x] = x := by
  constructor
  · intro hx
    obtain ⟨i, hi, rfl⟩ := List.getElem_of_mem hx
    have h1 := Idn.rank_at h ys[i] i hi
    rw [Idn.lt_irrefl] at h1
    have h1' : ¬ i < Idn.rank ys ys[i] := of_decide_eq_false h1.symm
    have hlt : ¬ Idn.rank ys ys[i] < i := fun hlt => by
      have h2 := Idn.rank_at h ys[i] (Idn.rank ys ys[i]) (by omega)
      have h3 := List.pairwise_iff_getElem.1 h (Idn.rank ys ys[i]) i (by omega) hi hlt
      rw [h3] at h2
      simp at h2
    have e : Idn.rank ys ys[i] = i := by omega
    refine ⟨by omega, ?_⟩
    congr 1
  · rintro ⟨hi, e⟩
    rw [← e]
    exact List.getElem_mem hi
end Go.Proofs.Ytohmhbjiapflpaa
