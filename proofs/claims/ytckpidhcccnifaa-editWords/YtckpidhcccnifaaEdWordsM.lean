/- Words, plainly: where they begin and end. -/
import Derived.Test.YtckpidhcccnifaaEdMath
namespace Go.Proofs.Ytckpidhcccnifaa
set_option linter.unusedVariables false
namespace Ed
theorem run_all (p : Int → Bool) : ∀ (l : List Int) (j : Nat) (h : j < l.length), j < run p l → p l[j] = true
  | x :: l, 0, h, hj => by
    unfold run at hj
    split at hj
    · assumption
    · omega
  | x :: l, j + 1, h, hj => by
    unfold run at hj
    split at hj
    · exact run_all p l j (by simpa using h) (by omega)
    · omega
theorem run_end (p : Int → Bool) : ∀ (l : List Int) (h : run p l < l.length), p l[run p l] = false
  | [], h => by simp [run] at h
  | x :: l, h => by
    by_cases hp : p x = true
    · have e : run p (x :: l) = run p l + 1 := by rw [run, if_pos hp]
      simp only [e]
      rw [List.getElem_cons_succ]
      exact run_end p l (by rw [e] at h; simpa using h)
    · have e : run p (x :: l) = 0 := by rw [run, if_neg hp]
      simp only [e]
      rw [List.getElem_cons_zero]
      exact Bool.eq_false_iff.2 hp
theorem on_all {p : Int → Bool} {l : List Int} {i j : Nat} (h : j < l.length) (h1 : i ≤ j) (h2 : j < on p l i) : p l[j] = true := by
  unfold on at h2
  have := run_all p (l.drop i) (j - i) (by rw [List.length_drop]; omega) (by omega)
  rw [List.getElem_drop] at this
  have e : i + (j - i) = j := by omega
  simpa only [e] using this
theorem on_end {p : Int → Bool} {l : List Int} {i : Nat} (h : on p l i < l.length) : p l[on p l i] = false := by
  unfold on at h
  have := run_end p (l.drop i) (by rw [List.length_drop]; omega)
  rw [List.getElem_drop] at this
  exact this
theorem back_all {p : Int → Bool} {l : List Int} {i j : Nat} (hi : i ≤ l.length) (h1 : back p l i ≤ j) (h2 : j < i) : p (l[j]'(by omega)) = true := by
  unfold back at h1
  have := run_all p (l.take i).reverse (i - 1 - j) (by rw [List.length_reverse, List.length_take]; omega) (by omega)
  rw [List.getElem_reverse, List.getElem_take] at this
  have e : (l.take i).length - 1 - (i - 1 - j) = j := by rw [List.length_take]; omega
  simpa only [e] using this
theorem back_end {p : Int → Bool} {l : List Int} {i : Nat} (hi : i ≤ l.length) (h : 0 < back p l i) : p (l[back p l i - 1]'(by have := back_le p l i; omega)) = false := by
  unfold back at h
  have hl : run p (l.take i).reverse < (l.take i).reverse.length := by rw [List.length_reverse, List.length_take]; omega
  have := run_end p (l.take i).reverse hl
  rw [List.getElem_reverse, List.getElem_take] at this
  have e : (l.take i).length - 1 - run p (l.take i).reverse = back p l i - 1 := by unfold back; rw [List.length_take]; omega
  simpa only [e] using this

theorem wordOn_edge {l : List Int} {i : Nat} (hi : i ≤ l.length) (h : wordOn l i < l.length) : 0 < wordOn l i ∧ wordOn l (wordOn l i - 1) = wordOn l i := by
  have h0 : on (fun r => !letter r) l i ≤ wordOn l i := on_ge _ _ _
  have h1 : on (fun r => !letter r) l i < l.length := by omega
  have h2 := on_end h1
  have h2 : letter l[on (fun r => !letter r) l i] = true := by simpa using h2
  have h3 : on letter l (on (fun r => !letter r) l i) = on letter l (on (fun r => !letter r) l i + 1) := on_yes h1 h2
  have h4 : on (fun r => !letter r) l i + 1 ≤ wordOn l i := by
    unfold wordOn
    rw [h3]
    exact on_ge _ _ _
  obtain ⟨m, hm⟩ : ∃ m, wordOn l i = m + 1 := ⟨wordOn l i - 1, by omega⟩
  have hml : m < l.length := by omega
  have h5 : letter l[m] = true := on_all (i := on (fun r => !letter r) l i) hml (by omega) (by show m < wordOn l i; omega)
  have h6 : letter (l[m + 1]'(by omega)) = false := by
    have := on_end (p := letter) (l := l) (i := on (fun r => !letter r) l i) h
    have e : on letter l (on (fun r => !letter r) l i) = m + 1 := hm
    simpa only [e] using this
  refine ⟨by omega, ?_⟩
  rw [hm, Nat.add_sub_cancel]
  show on letter l (on (fun r => !letter r) l m) = m + 1
  rw [on_no (p := fun r => !letter r) hml (by simp [h5]), on_yes hml h5, on_no (by omega) h6]
theorem wordBack_edge {l : List Int} {i : Nat} (hi : i ≤ l.length) (h : 0 < wordBack l i) : wordBack l i + 1 ≤ l.length ∧ wordBack l (wordBack l i + 1) = wordBack l i := by
  obtain ⟨j, hj⟩ : ∃ j, back (fun r => !letter r) l i = j := ⟨_, rfl⟩
  have hjl : j ≤ i := by rw [← hj]; exact back_le _ _ _
  have hw : wordBack l i = back letter l j := by unfold wordBack; rw [hj]
  rw [hw] at h ⊢
  have hbj : back letter l j ≤ j := back_le _ _ _
  have hj0 : 0 < j := by omega
  have h2 : letter (l[j - 1]'(by omega)) = true := by
    have := back_end (p := fun r => !letter r) hi (by rw [hj]; exact hj0)
    simp only [hj] at this
    simpa using this
  have h3 : back letter l j < j := by
    obtain ⟨m, rfl⟩ : ∃ m, j = m + 1 := ⟨j - 1, by omega⟩
    rw [back_yes (by omega) (by simpa using h2)]
    have := back_le letter l m
    omega
  obtain ⟨b, hb⟩ : ∃ b, back letter l j = b := ⟨_, rfl⟩
  have h4 : letter (l[b]'(by omega)) = true := back_all (i := j) (by omega) (by omega) (by omega)
  have h5 := back_end (p := letter) (l := l) (i := j) (by omega) h
  simp only [hb] at h5
  rw [hb] at h h3 ⊢
  refine ⟨by omega, ?_⟩
  show back letter l (back (fun r => !letter r) l (b + 1)) = b
  rw [back_no (p := fun r => !letter r) (by omega) (by simp [h4]), back_yes (by omega) h4]
  obtain ⟨c, rfl⟩ : ∃ c, b = c + 1 := ⟨b - 1, by omega⟩
  exact back_no (by omega) (by simpa using h5)
theorem caret_at {l : List Int} {i : Nat} (h : i ≤ l.length) : caret l i = i := by unfold caret; omega
end Ed
end Go.Proofs.Ytckpidhcccnifaa
