/- Plain mathematics of widths: the table, how many cells a rune takes, what fits. -/
import Derived.Test.YtepddieblankpaaDoorHead
namespace Cel
open Go

/-- The table: from, to, how many cells. -/
def rows : List (Int × Int × Int) := [(127, 159, 0), (768, 879, 0), (4352, 4447, 2), (8203, 8207, 0), (8400, 8447, 0), (11904, 12350, 2), (12353, 42191, 2), (44032, 55203, 2), (55296, 57343, 0), (63744, 64255, 2), (65024, 65039, 0), (65056, 65071, 0), (65072, 65135, 2), (65281, 65376, 2), (65504, 65510, 2), (127744, 128591, 2), (128640, 128767, 2), (129280, 129535, 2), (131072, 262141, 2)]
def look : List (Int × Int × Int) → Int → Int
  | [], _ => 1
  | r :: rs, n => if r.1 ≤ n ∧ n ≤ r.2.1 then r.2.2 else look rs n
/-- How many cells a rune takes. -/
def wid (n : Int) : Int := if n < 32 ∨ 1114111 < n then 0 else look rows n
def inb (n a b : Int) : Bool := decide (a ≤ n) && decide (n ≤ b)
theorem inb_yes {n a b : Int} (h : inb n a b = true) : a ≤ n ∧ n ≤ b := by simpa [inb] using h
theorem inb_no {n a b : Int} (h : inb n a b = false) : ¬ (a ≤ n ∧ n ≤ b) := by
  intro g; simp [inb] at h; omega
/-- The runes that take none, and those that take two, in the document's words. -/
def none' (n : Int) : Bool := decide (n < 32) || inb n 127 159 || inb n 768 879 || inb n 8203 8207 || inb n 8400 8447 || inb n 55296 57343 || inb n 65024 65039 || inb n 65056 65071 || decide (1114111 < n)
def two' (n : Int) : Bool := inb n 4352 4447 || inb n 11904 12350 || inb n 12353 42191 || inb n 44032 55203 || inb n 63744 64255 || inb n 65072 65135 || inb n 65281 65376 || inb n 65504 65510 || inb n 127744 128591 || inb n 128640 128767 || inb n 129280 129535 || inb n 131072 262141
def ref (n : Int) : Int := if none' n then 0 else if two' n then 2 else 1

theorem look_range (n : Int) : ∀ l : List (Int × Int × Int), (∀ r ∈ l, 0 ≤ r.2.2 ∧ r.2.2 ≤ 2) → 0 ≤ look l n ∧ look l n ≤ 2
  | [], _ => by simp [look]
  | r :: rs, h => by
    unfold look
    split
    · exact h r (by simp)
    · exact look_range n rs (fun x hx => h x (by simp [hx]))
theorem wid_range (n : Int) : 0 ≤ wid n ∧ wid n ≤ 2 := by
  unfold wid
  split
  · omega
  · exact look_range n rows (by decide)
theorem wid_out {n : Int} (h : n < 32 ∨ 1114111 < n) : wid n = 0 := if_pos h
theorem wid_one {n : Int} (h : 32 ≤ n) (g : n ≤ 126) : wid n = 1 := by
  unfold wid
  rw [if_neg (by omega)]
  simp only [rows, look]
  repeat rw [if_neg (by omega)]

theorem wid_ref (n : Int) : wid n = ref n := by
  unfold wid ref none' two' inb
  by_cases h0 : n < 32 ∨ 1114111 < n
  · rw [if_pos h0, if_pos (by simp only [Bool.or_eq_true, decide_eq_true_eq]; rcases h0 with h | h <;> simp [h])]
  rw [if_neg h0]
  simp only [rows, look]
  by_cases h1 : (127 : Int) ≤ n ∧ n ≤ 159
  · rw [if_pos h1]
    simp only [Bool.or_eq_true, Bool.and_eq_true, decide_eq_true_eq]
    rw [if_pos (by omega)]
  rw [if_neg h1]
  by_cases h2 : (768 : Int) ≤ n ∧ n ≤ 879
  · rw [if_pos h2]
    simp only [Bool.or_eq_true, Bool.and_eq_true, decide_eq_true_eq]
    rw [if_pos (by omega)]
  rw [if_neg h2]
  by_cases h3 : (4352 : Int) ≤ n ∧ n ≤ 4447
  · rw [if_pos h3]
    simp only [Bool.or_eq_true, Bool.and_eq_true, decide_eq_true_eq]
    rw [if_neg (by omega), if_pos (by omega)]
  rw [if_neg h3]
  by_cases h4 : (8203 : Int) ≤ n ∧ n ≤ 8207
  · rw [if_pos h4]
    simp only [Bool.or_eq_true, Bool.and_eq_true, decide_eq_true_eq]
    rw [if_pos (by omega)]
  rw [if_neg h4]
  by_cases h5 : (8400 : Int) ≤ n ∧ n ≤ 8447
  · rw [if_pos h5]
    simp only [Bool.or_eq_true, Bool.and_eq_true, decide_eq_true_eq]
    rw [if_pos (by omega)]
  rw [if_neg h5]
  by_cases h6 : (11904 : Int) ≤ n ∧ n ≤ 12350
  · rw [if_pos h6]
    simp only [Bool.or_eq_true, Bool.and_eq_true, decide_eq_true_eq]
    rw [if_neg (by omega), if_pos (by omega)]
  rw [if_neg h6]
  by_cases h7 : (12353 : Int) ≤ n ∧ n ≤ 42191
  · rw [if_pos h7]
    simp only [Bool.or_eq_true, Bool.and_eq_true, decide_eq_true_eq]
    rw [if_neg (by omega), if_pos (by omega)]
  rw [if_neg h7]
  by_cases h8 : (44032 : Int) ≤ n ∧ n ≤ 55203
  · rw [if_pos h8]
    simp only [Bool.or_eq_true, Bool.and_eq_true, decide_eq_true_eq]
    rw [if_neg (by omega), if_pos (by omega)]
  rw [if_neg h8]
  by_cases h9 : (55296 : Int) ≤ n ∧ n ≤ 57343
  · rw [if_pos h9]
    simp only [Bool.or_eq_true, Bool.and_eq_true, decide_eq_true_eq]
    rw [if_pos (by omega)]
  rw [if_neg h9]
  by_cases h10 : (63744 : Int) ≤ n ∧ n ≤ 64255
  · rw [if_pos h10]
    simp only [Bool.or_eq_true, Bool.and_eq_true, decide_eq_true_eq]
    rw [if_neg (by omega), if_pos (by omega)]
  rw [if_neg h10]
  by_cases h11 : (65024 : Int) ≤ n ∧ n ≤ 65039
  · rw [if_pos h11]
    simp only [Bool.or_eq_true, Bool.and_eq_true, decide_eq_true_eq]
    rw [if_pos (by omega)]
  rw [if_neg h11]
  by_cases h12 : (65056 : Int) ≤ n ∧ n ≤ 65071
  · rw [if_pos h12]
    simp only [Bool.or_eq_true, Bool.and_eq_true, decide_eq_true_eq]
    rw [if_pos (by omega)]
  rw [if_neg h12]
  by_cases h13 : (65072 : Int) ≤ n ∧ n ≤ 65135
  · rw [if_pos h13]
    simp only [Bool.or_eq_true, Bool.and_eq_true, decide_eq_true_eq]
    rw [if_neg (by omega), if_pos (by omega)]
  rw [if_neg h13]
  by_cases h14 : (65281 : Int) ≤ n ∧ n ≤ 65376
  · rw [if_pos h14]
    simp only [Bool.or_eq_true, Bool.and_eq_true, decide_eq_true_eq]
    rw [if_neg (by omega), if_pos (by omega)]
  rw [if_neg h14]
  by_cases h15 : (65504 : Int) ≤ n ∧ n ≤ 65510
  · rw [if_pos h15]
    simp only [Bool.or_eq_true, Bool.and_eq_true, decide_eq_true_eq]
    rw [if_neg (by omega), if_pos (by omega)]
  rw [if_neg h15]
  by_cases h16 : (127744 : Int) ≤ n ∧ n ≤ 128591
  · rw [if_pos h16]
    simp only [Bool.or_eq_true, Bool.and_eq_true, decide_eq_true_eq]
    rw [if_neg (by omega), if_pos (by omega)]
  rw [if_neg h16]
  by_cases h17 : (128640 : Int) ≤ n ∧ n ≤ 128767
  · rw [if_pos h17]
    simp only [Bool.or_eq_true, Bool.and_eq_true, decide_eq_true_eq]
    rw [if_neg (by omega), if_pos (by omega)]
  rw [if_neg h17]
  by_cases h18 : (129280 : Int) ≤ n ∧ n ≤ 129535
  · rw [if_pos h18]
    simp only [Bool.or_eq_true, Bool.and_eq_true, decide_eq_true_eq]
    rw [if_neg (by omega), if_pos (by omega)]
  rw [if_neg h18]
  by_cases h19 : (131072 : Int) ≤ n ∧ n ≤ 262141
  · rw [if_pos h19]
    simp only [Bool.or_eq_true, Bool.and_eq_true, decide_eq_true_eq]
    rw [if_neg (by omega), if_pos (by omega)]
  rw [if_neg h19]
  simp only [Bool.or_eq_true, Bool.and_eq_true, decide_eq_true_eq]
  rw [if_neg (by omega), if_neg (by omega)]

/-- How many cells some runes take. -/
def total (l : List Int) : Int := (l.map wid).foldl (· + ·) 0
theorem foldl_add (l : List Int) (a : Int) : l.foldl (· + ·) a = a + l.foldl (· + ·) 0 := by
  induction l generalizing a with
  | nil => simp
  | cons x xs ih => simp only [List.foldl_cons]; rw [ih, ih (0 + x)]; omega
theorem total_cons (x : Int) (l : List Int) : total (x :: l) = wid x + total l := by
  unfold total; simp only [List.map_cons, List.foldl_cons]; rw [foldl_add]; omega
theorem total_nil : total [] = 0 := rfl
theorem total_append (a b : List Int) : total (a ++ b) = total a + total b := by
  induction a with
  | nil => simp [total_nil]
  | cons x xs ih => rw [List.cons_append, total_cons, total_cons, ih]; omega
theorem total_snoc (l : List Int) {k : Nat} (h : k < l.length) : total (l.take (k + 1)) = total (l.take k) + wid l[k] := by
  rw [List.take_succ_eq_append_getElem h, total_append]
  rw [show total [l[k]] = wid l[k] from by rw [total_cons, total_nil]; omega]
theorem total_range (l : List Int) : 0 ≤ total l ∧ total l ≤ 2 * l.length := by
  induction l with
  | nil => simp [total_nil]
  | cons x xs ih => rw [total_cons]; have := wid_range x; simp only [List.length_cons]; omega
theorem total_mono (l : List Int) {i j : Nat} (h : i ≤ j) : total (l.take i) ≤ total (l.take j) := by
  have e : l.take j = l.take i ++ (l.take j).drop i := by
    conv => lhs; rw [← List.take_append_drop i (l.take j)]
    rw [List.take_take, Nat.min_eq_left h]
  rw [e, total_append]
  have := total_range ((l.take j).drop i)
  omega

/-- How many fit: by going on from k, where some number of cells are taken. -/
def fit (l : List Int) (most : Int) (k : Nat) : Nat := if h : k < l.length then (if most < total (l.take (k + 1)) then k else fit l most (k + 1)) else l.length
termination_by l.length - k
theorem fit_stop {l : List Int} {most : Int} {k : Nat} (h : k < l.length) (g : most < total (l.take (k + 1))) : fit l most k = k := by unfold fit; rw [dif_pos h, if_pos g]
theorem fit_on {l : List Int} {most : Int} {k : Nat} (h : k < l.length) (g : ¬ most < total (l.take (k + 1))) : fit l most k = fit l most (k + 1) := by rw [fit, dif_pos h, if_neg g]
theorem fit_end {l : List Int} {most : Int} {k : Nat} (h : ¬ k < l.length) : fit l most k = l.length := by unfold fit; rw [dif_neg h]
theorem fit_le (l : List Int) (most : Int) (k : Nat) (h : k ≤ l.length) : k ≤ fit l most k ∧ fit l most k ≤ l.length := by
  by_cases hk : k < l.length
  · by_cases g : most < total (l.take (k + 1))
    · rw [fit_stop hk g]; omega
    · rw [fit_on hk g]
      have := fit_le l most (k + 1) hk
      omega
  · rw [fit_end hk]; omega
termination_by l.length - k
/-- What fits takes no more than may be. -/
theorem fit_most (l : List Int) (most : Int) (k : Nat) (h : total (l.take k) ≤ most) : total (l.take (fit l most k)) ≤ most := by
  by_cases hk : k < l.length
  · by_cases g : most < total (l.take (k + 1))
    · rw [fit_stop hk g]; exact h
    · rw [fit_on hk g]
      exact fit_most l most (k + 1) (by omega)
  · rw [fit_end hk, List.take_of_length_le (Nat.le_refl _)]
    rw [List.take_of_length_le (by omega)] at h
    exact h
termination_by l.length - k
/-- One more does not fit. -/
theorem fit_more (l : List Int) (most : Int) (k : Nat) (h : fit l most k < l.length) : most < total (l.take (fit l most k + 1)) := by
  by_cases hk : k < l.length
  · by_cases g : most < total (l.take (k + 1))
    · rw [fit_stop hk g]; exact g
    · rw [fit_on hk g] at h ⊢
      exact fit_more l most (k + 1) h
  · rw [fit_end hk] at h; omega
termination_by l.length - k
theorem fit_neg (l : List Int) {most : Int} (h : most < 0) : fit l most 0 = 0 := by
  by_cases hk : 0 < l.length
  · refine fit_stop hk ?_
    have := total_range (l.take (0 + 1))
    omega
  · rw [fit_end hk]; omega
/-- What fits, said of any front. -/
theorem fit_iff (l : List Int) {most : Int} (h0 : 0 ≤ most) {i : Nat} (hi : i ≤ l.length) : total (l.take i) ≤ most ↔ i ≤ fit l most 0 := by
  have hm := fit_most l most 0 (by simpa [total_nil] using h0)
  constructor
  · intro h
    refine Nat.le_of_not_lt fun g => ?_
    have h1 := fit_more l most 0 (by omega)
    have h2 := total_mono l (show fit l most 0 + 1 ≤ i from g)
    omega
  · intro h
    have := total_mono l h
    omega
theorem total_plain (l : List Int) (h : ∀ x ∈ l, 32 ≤ x ∧ x ≤ 126) : total l = l.length := by
  induction l with
  | nil => rfl
  | cons x xs ih =>
    have hx := h x (by simp)
    rw [total_cons, wid_one hx.1 hx.2, ih (fun y hy => h y (by simp [hy]))]
    simp only [List.length_cons]
    omega
theorem fit_plain (l : List Int) (h : ∀ x ∈ l, 32 ≤ x ∧ x ≤ 126) {most : Int} (h0 : 0 ≤ most) : (fit l most 0 : Int) = min most l.length ∧ total (l.take (fit l most 0)) = fit l most 0 := by
  have hl := (fit_le l most 0 (by omega)).2
  have ht : ∀ i, i ≤ l.length → total (l.take i) = i := fun i hi => by
    rw [total_plain _ (fun x hx => h x (List.mem_of_mem_take hx)), List.length_take]
    omega
  refine ⟨?_, ht _ hl⟩
  have hm := fit_most l most 0 (by simpa [total_nil] using h0)
  rw [ht _ hl] at hm
  by_cases g : fit l most 0 < l.length
  · have := fit_more l most 0 g
    rw [ht _ (by omega)] at this
    omega
  · omega
end Cel
