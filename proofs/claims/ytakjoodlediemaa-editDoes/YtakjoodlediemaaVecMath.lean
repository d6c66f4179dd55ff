/- Plain mathematics of Vecs: which may be, joined, met, compared. -/
import Derived.Test.YtakjoodlediemaaHead
namespace Vecs
open Go

/-- One number may stand in a Vec. -/
def Ok (z : Int) : Prop := 0 ≤ z ∧ z ≤ 4294967295
instance (z : Int) : Decidable (Ok z) := by unfold Ok; exact inferInstance

/-- A Vec may be. -/
def may (zs : List Int) : Bool := decide (1 ≤ zs.length ∧ zs.length ≤ 16 ∧ ∀ z ∈ zs, Ok z)

def together (xs ys : List Int) : Bool := may xs && may ys && decide (xs.length = ys.length)
def join (xs ys : List Int) : List Int := List.zipWith max xs ys
def meet (xs ys : List Int) : List Int := List.zipWith min xs ys
def below (xs ys : List Int) : Bool := (List.zip xs ys).all fun p => decide (p.1 ≤ p.2)
def cmp (xs ys : List Int) : Int := if below xs ys then (if below ys xs then 0 else 1) else (if below ys xs then 2 else 3)
def tick (xs : List Int) (k : Nat) : List Int := xs.set k (xs.getD k 0 + 1)
def covers (xs : List Int) (site seq : Int) : Bool := may xs && decide (0 ≤ site) && decide (site < xs.length) && decide (1 ≤ seq) && decide (seq ≤ xs.getD site.toNat 0)

theorem may_iff {zs : List Int} : may zs = true ↔ 1 ≤ zs.length ∧ zs.length ≤ 16 ∧ ∀ z ∈ zs, Ok z := by simp [may]
theorem may_len {zs : List Int} (h : may zs = true) : 1 ≤ zs.length ∧ zs.length ≤ 16 := ⟨(may_iff.1 h).1, (may_iff.1 h).2.1⟩
theorem may_ok {zs : List Int} (h : may zs = true) (k : Nat) (hk : k < zs.length) : 0 ≤ zs[k] ∧ zs[k] ≤ 4294967295 := (may_iff.1 h).2.2 _ (List.getElem_mem hk)
theorem may_of {zs : List Int} (h1 : 1 ≤ zs.length) (h2 : zs.length ≤ 16) (h : ∀ k (hk : k < zs.length), 0 ≤ zs[k] ∧ zs[k] ≤ 4294967295) : may zs = true := by
  refine may_iff.2 ⟨h1, h2, fun z hz => ?_⟩
  obtain ⟨k, hk, rfl⟩ := List.getElem_of_mem hz
  exact h k hk
theorem may_bad {zs : List Int} {k : Nat} (hk : k < zs.length) (h : ¬ Ok zs[k]) : may zs = false := by
  cases hm : may zs
  · rfl
  · exact absurd ((may_iff.1 hm).2.2 _ (List.getElem_mem hk)) h
theorem may_short {zs : List Int} (h : zs.length < 1) : may zs = false := by
  cases hm : may zs
  · rfl
  · have := may_len hm; omega
theorem may_long {zs : List Int} (h : 16 < zs.length) : may zs = false := by
  cases hm : may zs
  · rfl
  · have := may_len hm; omega

theorem ok_snoc {zs : List Int} {k : Nat} (hk : k < zs.length) (h : ∀ z ∈ zs.take k, Ok z) (h' : Ok zs[k]) : ∀ z ∈ zs.take (k + 1), Ok z := by
  intro z hz
  rw [List.take_succ_eq_append_getElem hk] at hz
  rcases List.mem_append.1 hz with g | g
  · exact h z g
  · rw [List.mem_singleton.1 g]; exact h'

theorem together_iff {xs ys : List Int} : together xs ys = true ↔ may xs = true ∧ may ys = true ∧ xs.length = ys.length := by simp [together, and_assoc]

theorem below_iff : ∀ {xs ys : List Int}, below xs ys = true ↔ ∀ k (h : k < xs.length) (h' : k < ys.length), xs[k] ≤ ys[k]
  | [], ys => by simp [below]
  | x :: xs, [] => by simp [below]
  | x :: xs, y :: ys => by
    have ih := below_iff (xs := xs) (ys := ys)
    simp only [below, List.zip_cons_cons, List.all_cons, Bool.and_eq_true, decide_eq_true_eq] at ih ⊢
    rw [ih]
    constructor
    · rintro ⟨h0, h⟩ k hk hk'
      cases k with
      | zero => exact h0
      | succ k => exact h k (by simpa using hk) (by simpa using hk')
    · intro h
      exact ⟨h 0 (by simp) (by simp), fun k hk hk' => h (k + 1) (by simpa using hk) (by simpa using hk')⟩

theorem below_snoc {xs ys : List Int} {k : Nat} (h : k < xs.length) (h' : k < ys.length) : below (xs.take (k + 1)) (ys.take (k + 1)) = (below (xs.take k) (ys.take k) && decide (xs[k] ≤ ys[k])) := by
  rw [List.take_succ_eq_append_getElem h, List.take_succ_eq_append_getElem h']
  unfold below
  rw [List.zip_append (by simp; omega)]
  simp

theorem join_len {xs ys : List Int} (h : xs.length = ys.length) : (join xs ys).length = xs.length := by simp [join, h]
theorem meet_len {xs ys : List Int} (h : xs.length = ys.length) : (meet xs ys).length = xs.length := by simp [meet, h]
theorem join_at {xs ys : List Int} (k : Nat) (h : k < (join xs ys).length) : (join xs ys)[k] = max (xs[k]'(by simp [join] at h; omega)) (ys[k]'(by simp [join] at h; omega)) := by simp [join]
theorem meet_at {xs ys : List Int} (k : Nat) (h : k < (meet xs ys).length) : (meet xs ys)[k] = min (xs[k]'(by simp [meet] at h; omega)) (ys[k]'(by simp [meet] at h; omega)) := by simp [meet]

theorem join_snoc {xs ys : List Int} {k : Nat} (h : k < xs.length) (h' : k < ys.length) : join (xs.take (k + 1)) (ys.take (k + 1)) = join (xs.take k) (ys.take k) ++ [max xs[k] ys[k]] := by
  rw [List.take_succ_eq_append_getElem h, List.take_succ_eq_append_getElem h']
  unfold join
  rw [List.zipWith_append (by simp; omega)]
  simp
theorem meet_snoc {xs ys : List Int} {k : Nat} (h : k < xs.length) (h' : k < ys.length) : meet (xs.take (k + 1)) (ys.take (k + 1)) = meet (xs.take k) (ys.take k) ++ [min xs[k] ys[k]] := by
  rw [List.take_succ_eq_append_getElem h, List.take_succ_eq_append_getElem h']
  unfold meet
  rw [List.zipWith_append (by simp; omega)]
  simp

theorem may_join {xs ys : List Int} (h : together xs ys = true) : may (join xs ys) = true := by
  obtain ⟨hx, hy, hl⟩ := together_iff.1 h
  have := may_len hx
  refine may_of (by rw [join_len hl]; omega) (by rw [join_len hl]; omega) (fun k hk => ?_)
  rw [join_at k hk]
  rw [join_len hl] at hk
  have := may_ok hx k hk
  have := may_ok hy k (by omega)
  omega
theorem may_meet {xs ys : List Int} (h : together xs ys = true) : may (meet xs ys) = true := by
  obtain ⟨hx, hy, hl⟩ := together_iff.1 h
  have := may_len hx
  refine may_of (by rw [meet_len hl]; omega) (by rw [meet_len hl]; omega) (fun k hk => ?_)
  rw [meet_at k hk]
  rw [meet_len hl] at hk
  have := may_ok hx k hk
  have := may_ok hy k (by omega)
  omega

theorem tick_len (xs : List Int) (k : Nat) : (tick xs k).length = xs.length := by simp [tick]
theorem tick_at {xs : List Int} {k : Nat} (hk : k < xs.length) (j : Nat) (hj : j < (tick xs k).length) : (tick xs k)[j] = if j = k then xs[k] + 1 else xs[j]'(by rw [tick_len] at hj; exact hj) := by
  have e : (tick xs k)[j] = (xs.set k (xs.getD k 0 + 1))[j]'(by simpa [tick] using hj) := rfl
  rw [e, List.getElem_set]
  by_cases h : k = j
  · subst h; simp [hk]
  · rw [if_neg h, if_neg (fun e => h e.symm)]
end Vecs
