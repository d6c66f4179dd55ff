/- A region that draws its order, by what holds of each state of it. -/
import Derived.Test.YtakjoodlediemaaHead
import Derived.RegionTactic
namespace Go.Proofs.Ytakjoodlediemaa
open Go.RowKit
set_option linter.unusedVariables false

theorem count_set {l : List Bool} {i : Nat} (h : l[i]? = some false) : (l.set i true).countP (· == false) + 1 = l.countP (· == false) := by
  induction l generalizing i with
  | nil => simp at h
  | cons x l ih =>
    cases i with
    | zero =>
      simp at h
      subst h
      simp
    | succ i =>
      simp at h
      have := ih h
      simp only [List.set_cons_succ, List.countP_cons]
      omega
theorem ready_free {md : Region.Mode} {ops : Array Oper} {l : Array Bool} {i : Nat} (h : i ∈ Region.ready md ops l) : i < ops.size ∧ l[i]? = some false ∧ ∀ o : Oper, ops[i]? = some o → ∀ e ∈ o.after, Region.binds md e = true → l[e.on]? = some true := by
  unfold Region.ready at h
  obtain ⟨h1, h2⟩ := List.mem_filter.1 h
  have h1 := List.mem_range.1 h1
  simp only [Bool.and_eq_true, Bool.not_eq_true'] at h2
  obtain ⟨h3, h4⟩ := h2
  refine ⟨h1, ?_, fun o ho e he hb => ?_⟩
  · simp only [Array.getD_eq_getD_getElem?] at h3
    cases hx : l[i]? with
    | none => rw [hx] at h3; simp at h3
    | some b => rw [hx] at h3; simp at h3; rw [h3]
  · rw [ho] at h4
    simp only [Option.map_some, Option.getD_some, Array.all_eq_true'] at h4
    have := h4 e he
    rw [hb] at this
    simp only [Bool.not_true, Bool.false_or, Array.getD_eq_getD_getElem?] at this
    cases hx : l[e.on]? with
    | none => rw [hx] at this; simp at this
    | some b => rw [hx] at this; simp at this; rw [this]
theorem not_ready {md : Region.Mode} {ops : Array Oper} {l : Array Bool} (hsz : l.size = ops.size) (hback : ∀ (i : Nat) (o : Oper), ops[i]? = some o → ∀ e ∈ o.after, e.on < i) (h : Region.ready md ops l = []) : ∀ i, i < ops.size → l[i]? = some true := by
  intro i
  induction i using Nat.strongRecOn with
  | _ i ih =>
    intro hi
    have hx : i < l.size := by omega
    cases hb : l[i] with
    | true => rw [Array.getElem?_eq_getElem hx, hb]
    | false =>
      exfalso
      have : i ∈ Region.ready md ops l := by
        unfold Region.ready
        refine List.mem_filter.2 ⟨List.mem_range.2 hi, ?_⟩
        have ho : ops[i]? = some ops[i] := Array.getElem?_eq_getElem hi
        simp only [Array.getD_eq_getD_getElem?, Array.getElem?_eq_getElem hx, hb, Option.getD_some, Bool.not_false, Bool.true_and, ho, Option.map_some, Array.all_eq_true']
        intro e he
        have := ih e.on (hback i _ ho e he) (by have := hback i _ ho e he; omega)
        rw [this]
        simp
      rw [h] at this
      cases this

/-- What holds at the start, is kept by each operation that may come up, and is enough at the end. -/
theorem wpAny_inv {P : Program} {md : Region.Mode} {ops : Array Oper} {Q : Exit → Go.Act → World → Prop} (I : Array Bool → Go.Act → World → Prop)
    (hsz : ∀ l a w, I l a w → l.size = ops.size) (hback : ∀ (i : Nat) (o : Oper), ops[i]? = some o → ∀ e ∈ o.after, e.on < i)
    (hstep : ∀ l a w i, I l a w → i < ops.size → l[i]? = some false → (∀ o : Oper, ops[i]? = some o → ∀ e ∈ o.after, Region.binds md e = true → l[e.on]? = some true) → wpOp P ops Q i (I (l.setIfInBounds i true)) a w)
    (hend : ∀ l a w, I l a w → (∀ i, i < ops.size → l[i]? = some true) → Q .normal a w) :
    ∀ (fuel : Nat) l a w, l.toList.countP (· == false) ≤ fuel → I l a w → wpAny P md ops Q fuel l a w
  | 0, l, a, w, hc, hI => by
    have hr : Region.ready md ops l = [] := by
      cases hr : Region.ready md ops l with
      | nil => rfl
      | cons i r =>
        exfalso
        obtain ⟨_, h2, _⟩ := ready_free (i := i) (md := md) (ops := ops) (l := l) (by rw [hr]; simp)
        have : l.toList[i]? = some false := by simpa using h2
        have := count_set this
        omega
    exact ⟨hr, hend l a w hI (not_ready (hsz l a w hI) hback hr)⟩
  | fuel + 1, l, a, w, hc, hI => by
    refine ⟨fun hr => hend l a w hI (not_ready (hsz l a w hI) hback hr), fun i hi => ?_⟩
    obtain ⟨h1, h2, h3⟩ := ready_free hi
    refine wpOp_mono (fun a' w' h' => wpAny_inv I hsz hback hstep hend fuel _ a' w' ?_ h') (hstep l a w i hI h1 h2 h3)
    have : l.toList[i]? = some false := by simpa using h2
    have := count_set this
    simp only [Array.toList_setIfInBounds]
    omega
end Go.Proofs.Ytakjoodlediemaa
