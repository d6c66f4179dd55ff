/- The map of what keys do: laid in whatever order it is the same. -/
import Derived.Test.YtakjoodlediemaaEdDoings
namespace Go.Proofs.Ytakjoodlediemaa
open Go.RowKit Go.Maps
set_option linter.unusedVariables false

theorem set_at {l : Array Bool} {i : Nat} (k : Nat) (h : i < l.size) : (l.setIfInBounds i true)[k]? = if i = k then some true else l[k]? := by
  rw [Array.getElem?_setIfInBounds]
  split
  · rename_i e
    subst e
    first | rfl | rw [if_pos h]
  · rfl
theorem put_at {a : Go.Act} {d : Nat} (v : Value) (k : Nat) (h : d < a.tmps.size) : (a.put (some d) v).tmps[k]? = if d = k then some v else a.tmps[k]? := by
  unfold Go.Act.put
  simp only
  rw [Array.getElem?_setIfInBounds]
  split
  · rename_i e
    subst e
    first | rfl | rw [if_pos h]
  · rfl
theorem put_size {a : Go.Act} {d : Nat} (v : Value) : (a.put (some d) v).tmps.size = a.tmps.size := by
  unfold Go.Act.put
  simp
theorem eval_at {a : Go.Act} {t : Nat} {v : Value} (h : a.tmps[t]? = some v) : a.eval (.tmp t) = v := by
  simp [Go.Act.eval, Array.getD_eq_getD_getElem?, h]

theorem doings_map : Try.prog.underlying 57 = some (.map 33 55) := Try.underlying57
theorem fn_zero : ∀ w, (zeroValue 55).run Try.prog w = .ok (FnC.enc none) w := by intro w; rfl
theorem entries_len : Ed.entries.length = 21 := by decide
theorem entries_ok : ∀ x ∈ Ed.entries, OkP x := by
  have : (Ed.entries.all fun x => decide (-1000 ≤ x.1.1) && decide (x.1.1 ≤ 1000) && decide (-1000 ≤ x.1.2) && decide (x.1.2 ≤ 1000)) = true := by decide
  intro x hx
  have := List.all_eq_true.1 this x hx
  simp only [Bool.and_eq_true, decide_eq_true_eq] at this
  exact ⟨⟨by omega, by omega⟩, ⟨by omega, by omega⟩⟩
theorem entries_apart : ∀ i j (hi : i < 21) (hj : j < 21), (Ed.entries[i]'hi).1 = (Ed.entries[j]'hj).1 → i = j := by
  have : Ed.entries.Pairwise fun x y => x.1 ≠ y.1 := by decide
  intro i j hi hj e
  rcases Nat.lt_trichotomy i j with h | h | h
  · exact absurd e (List.pairwise_iff_getElem.1 this i j hi hj h)
  · exact h
  · exact absurd e.symm (List.pairwise_iff_getElem.1 this j i hj hi h)

/-- What holds of the slots and the map, whichever operations have come up. -/
structure DInv (W0 : World) (l : Array Bool) (a : Go.Act) (w : World) : Prop where
  sz : l.size = 45
  ts : a.tmps.size = 24
  df : a.defers = []
  keys : ∀ j (h : j < 21), l[2 * j + 1]? = some true → a.tmps[j + 2]? = some (keyV (Ed.entries[j]'h).1)
  no : l[0]? = some false → w = W0 ∧ ∀ j, j < 21 → l[2 * j + 2]? = some false
  yes : l[0]? = some true → a.tmps[1]? = some (.map (some W0.heap.size)) ∧ Below W0.heap.size W0 w ∧ ∃ es, PMap FnC w 33 W0.heap.size es ∧ es.length + l.toList.countP (· == false) ≤ 44 ∧ (∀ x ∈ es, x ∈ Ed.entries) ∧ ∀ j (h : j < 21), l[2 * j + 2]? = some true → Ed.entries[j]'h ∈ es
  mv : l[43]? = some true → a.tmps[23]? = some (.map (some W0.heap.size))
  asg : l[44]? = some true → a.tmps[0]? = some (.map (some W0.heap.size))

theorem DInv.zero (W0 : World) (a : Go.Act) (hs : a.tmps.size = 24) (hd : a.defers = []) : DInv W0 (Array.replicate 45 false) a W0 := by
  have hf : ∀ k, (Array.replicate 45 false)[k]? ≠ some true := fun k h => by
    rw [Array.getElem?_replicate] at h
    split at h <;> simp at h
  refine ⟨by simp, hs, hd, fun j _ h => absurd h (hf _), fun _ => ⟨rfl, fun j hj => ?_⟩, fun h => absurd h (hf _), fun h => absurd h (hf _), fun h => absurd h (hf _)⟩
  rw [Array.getElem?_replicate, if_pos (by omega)]

theorem count_down {l : Array Bool} {i : Nat} (h : l[i]? = some false) : (l.setIfInBounds i true).toList.countP (· == false) + 1 = l.toList.countP (· == false) := by
  rw [Array.toList_setIfInBounds]
  exact count_set (by simpa using h)
theorem count_le {l : Array Bool} (h : l.size = 45) : l.toList.countP (· == false) ≤ 45 := by
  have h1 := List.countP_le_length (p := (· == false)) (l := l.toList)
  have h2 : l.toList.length = 45 := by simpa using h
  omega

set_option maxRecDepth 100000 in
theorem DInv.step {Q : Exit → Go.Act → World → Prop} {W0 : World} {l : Array Bool} {a : Go.Act} {w : World} {i : Nat} (H : DInv W0 l a w) (hi : i < doingOps.size) (hf : l[i]? = some false)
    (ha : ∀ o : Oper, doingOps[i]? = some o → ∀ e ∈ o.after, Region.binds .any e = true → l[e.on]? = some true) : wpOp Try.prog doingOps Q i (DInv W0 (l.setIfInBounds i true)) a w := by
  rw [doingOps_size] at hi
  have hli : i < l.size := by rw [H.sz]; exact hi
  have hcd := count_down hf
  have h45 := count_le H.sz
  have hcase : i = 0 ∨ (∃ j, j < 21 ∧ i = 2 * j + 1) ∨ (∃ j, j < 21 ∧ i = 2 * j + 2) ∨ i = 43 ∨ i = 44 := by
    by_cases h0 : i = 0
    · exact .inl h0
    · by_cases h1 : i = 43
      · exact .inr (.inr (.inr (.inl h1)))
      · by_cases h2 : i = 44
        · exact .inr (.inr (.inr (.inr h2)))
        · by_cases h3 : i % 2 = 1
          · exact .inr (.inl ⟨i / 2, by omega, by omega⟩)
          · exact .inr (.inr (.inl ⟨(i - 1) / 2, by omega, by omega⟩))
  rcases hcase with rfl | ⟨j, hj, rfl⟩ | ⟨j, hj, rfl⟩ | rfl | rfl
  · obtain ⟨o, ho, hg, hd, hop⟩ := op_make
    obtain ⟨rfl, hno⟩ := H.no hf
    refine wpOp_value (v := .map (some w.heap.size)) (w' := w.alloc (.map #[] 0)) ho hg (by unfold execOp; rw [hop]; rfl) ?_
    rw [hd]
    refine ⟨by simp [H.sz], by rw [put_size]; exact H.ts, H.df, fun k hk h => ?_, fun h => ?_, fun _ => ⟨by rw [put_at _ _ (by rw [H.ts]; omega)]; rfl, grew_alloc _ _, [], PMap.nil _ _ _, by rw [List.length_nil]; omega, by simp, fun k hk h => ?_⟩, fun h => ?_, fun h => ?_⟩
    · rw [set_at _ hli, if_neg (by omega)] at h
      rw [put_at _ _ (by rw [H.ts]; omega), if_neg (by omega)]
      exact H.keys k hk h
    · rw [set_at _ hli, if_pos rfl] at h; cases h
    · rw [set_at _ hli, if_neg (by omega), hno k hk] at h; cases h
    · rw [set_at _ hli, if_neg (by omega)] at h
      rw [put_at _ _ (by rw [H.ts]; omega), if_neg (by omega)]
      exact H.mv h
    · rw [set_at _ hli, if_neg (by omega)] at h
      rw [put_at _ _ (by rw [H.ts]; omega), if_neg (by omega)]
      exact H.asg h
  · obtain ⟨o, ho, hg, hd, hop⟩ := op_build j hj
    refine wpOp_value (v := keyV (Ed.entries[j]'hj).1) (w' := w) ho hg (by
      have hb : (Instr.build 33 (Array.map (fun x => (x.fst, a.eval x.snd)) (keyParts (Ed.entries[j]'hj).fst))).run Try.prog w = .ok (keyV (Ed.entries[j]'hj).1) w := run_key (Ed.entries[j]'hj).1 a.eval (fun _ => rfl) w
      unfold execOp
      rw [hop]
      simp only [Sem.run_bind, Sem.run_pure, hb, Result.andThen_ok]) ?_
    rw [hd]
    refine ⟨by simp [H.sz], by rw [put_size]; exact H.ts, H.df, fun k hk h => ?_, fun h => ?_, fun h => ?_, fun h => ?_, fun h => ?_⟩
    · rw [put_at _ _ (by rw [H.ts]; omega)]
      by_cases e : k = j
      · subst e
        rw [if_pos rfl]
      · rw [if_neg (by omega)]
        rw [set_at _ hli, if_neg (by omega)] at h
        exact H.keys k hk h
    · rw [set_at _ hli, if_neg (by omega)] at h
      obtain ⟨e, h2⟩ := H.no h
      exact ⟨e, fun k hk => by rw [set_at _ hli, if_neg (by omega)]; exact h2 k hk⟩
    · rw [set_at _ hli, if_neg (by omega)] at h
      obtain ⟨h1, h2, es, h3, h4, h5, h6⟩ := H.yes h
      exact ⟨by rw [put_at _ _ (by rw [H.ts]; omega), if_neg (by omega)]; exact h1, h2, es, h3, by omega, h5, fun k hk h => h6 k hk (by rw [set_at _ hli, if_neg (by omega)] at h; exact h)⟩
    · rw [set_at _ hli, if_neg (by omega)] at h
      rw [put_at _ _ (by rw [H.ts]; omega), if_neg (by omega)]
      exact H.mv h
    · rw [set_at _ hli, if_neg (by omega)] at h
      rw [put_at _ _ (by rw [H.ts]; omega), if_neg (by omega)]
      exact H.asg h
  · obtain ⟨o, d, ho, hg, hd, hen, hop⟩ := op_insert j hj
    have ha0 : l[0]? = some true := ops_after (2 * j + 2) 0 (by
      rcases (by omega : j = 0 ∨ j = 1 ∨ j = 2 ∨ j = 3 ∨ j = 4 ∨ j = 5 ∨ j = 6 ∨ j = 7 ∨ j = 8 ∨ j = 9 ∨ j = 10 ∨ j = 11 ∨ j = 12 ∨ j = 13 ∨ j = 14 ∨ j = 15 ∨ j = 16 ∨ j = 17 ∨ j = 18 ∨ j = 19 ∨ j = 20) with rfl | rfl | rfl | rfl | rfl | rfl | rfl | rfl | rfl | rfl | rfl | rfl | rfl | rfl | rfl | rfl | rfl | rfl | rfl | rfl | rfl <;> kernel_rfl) ha
    have ha1 : l[2 * j + 1]? = some true := ops_after (2 * j + 2) (2 * j + 1) (by
      rcases (by omega : j = 0 ∨ j = 1 ∨ j = 2 ∨ j = 3 ∨ j = 4 ∨ j = 5 ∨ j = 6 ∨ j = 7 ∨ j = 8 ∨ j = 9 ∨ j = 10 ∨ j = 11 ∨ j = 12 ∨ j = 13 ∨ j = 14 ∨ j = 15 ∨ j = 16 ∨ j = 17 ∨ j = 18 ∨ j = 19 ∨ j = 20) with rfl | rfl | rfl | rfl | rfl | rfl | rfl | rfl | rfl | rfl | rfl | rfl | rfl | rfl | rfl | rfl | rfl | rfl | rfl | rfl | rfl <;> kernel_rfl) ha
    obtain ⟨h1, h2, es, h3, h4, h5, h6⟩ := H.yes ha0
    have hk := H.keys j hj ha1
    have hmem : Ed.entries[j]'hj ∈ Ed.entries := List.getElem_mem _
    have hok := entries_ok _ hmem
    obtain ⟨w', hrun, hP, hK⟩ := PMap.store key_key h3 doings_map (by omega) hok.1 hok.2 (some d)
    refine wpOp_done (w' := w') ho hg hd (by
      unfold execOp
      rw [hop]
      simp only [eval_at h1, eval_at hk]
      have hr : (Instr.mapUpdate 57 (.map (some W0.heap.size)) (keyV (Ed.entries[j]'hj).1) (.func (.func d.fn) #[] #[])).run Try.prog w = .ok () w' := hrun
      simp only [Go.Act.eval, Sem.run_bind, Sem.run_pure, hr, Result.andThen_ok]) ?_
    refine ⟨by simp [H.sz], H.ts, H.df, fun k hk h => ?_, fun h => ?_, fun _ => ⟨h1, h2.trans (hK.below h2.size (fun i e => by have e : i = W0.heap.size := e; omega)), _, hP, ?_, fun x hx => ?_, fun k hk h => ?_⟩, fun h => ?_, fun h => ?_⟩
    · rw [set_at _ hli, if_neg (by omega)] at h
      exact H.keys k hk h
    · rw [set_at _ hli, if_neg (by omega), ha0] at h; cases h
    · have : (butP es ((Ed.entries[j]'hj).1.1, (Ed.entries[j]'hj).1.2)).length ≤ es.length := by unfold butP; exact List.length_filter_le _ _
      simp only [List.length_append, List.length_cons, List.length_nil]
      omega
    · rcases List.mem_append.1 hx with hx | hx
      · exact h5 x (mem_butP.1 hx).1
      · rw [List.mem_singleton.1 hx, ← hen]
        exact hmem
    · by_cases e : k = j
      · subst e
        refine List.mem_append_right _ (List.mem_singleton.2 ?_)
        exact Prod.ext rfl hen
      · rw [set_at _ hli, if_neg (by omega)] at h
        refine List.mem_append_left _ (mem_butP.2 ⟨h6 k hk h, fun e' => e ?_⟩)
        exact entries_apart k j hk hj e'
    · rw [set_at _ hli, if_neg (by omega)] at h
      exact H.mv h
    · rw [set_at _ hli, if_neg (by omega)] at h
      exact H.asg h
  · obtain ⟨o, ho, hg, hd, hop⟩ := op_move
    have ha0 : l[0]? = some true := ops_after 43 0 (by kernel_rfl) ha
    obtain ⟨h1, h2, es, h3, h4, h5, h6⟩ := H.yes ha0
    refine wpOp_value (v := .map (some W0.heap.size)) (w' := w) ho hg (by unfold execOp; rw [hop]; simp only [eval_at h1]; rfl) ?_
    rw [hd]
    refine ⟨by simp [H.sz], by rw [put_size]; exact H.ts, H.df, fun k hk h => ?_, fun h => ?_, fun h => ?_, fun h => ?_, fun h => ?_⟩
    · rw [put_at _ _ (by rw [H.ts]; omega), if_neg (by omega)]
      rw [set_at _ hli, if_neg (by omega)] at h
      exact H.keys k hk h
    · rw [set_at _ hli, if_neg (by omega), ha0] at h; cases h
    · exact ⟨by rw [put_at _ _ (by rw [H.ts]; omega), if_neg (by omega)]; exact h1, h2, es, h3, by omega, h5, fun k hk h => h6 k hk (by rw [set_at _ hli, if_neg (by omega)] at h; exact h)⟩
    · rw [put_at _ _ (by rw [H.ts]; omega), if_pos rfl]
    · rw [set_at _ hli, if_neg (by omega)] at h
      rw [put_at _ _ (by rw [H.ts]; omega), if_neg (by omega)]
      exact H.asg h
  · obtain ⟨o, ho, hg, hd, hop⟩ := op_assign
    have ha3 : l[43]? = some true := ops_after 44 43 (by kernel_rfl) ha
    have h1 := H.mv ha3
    refine wpOp_value (v := .map (some W0.heap.size)) (w' := w) ho hg (by unfold execOp; rw [hop]; simp only [eval_at h1]; rfl) ?_
    rw [hd]
    refine ⟨by simp [H.sz], by rw [put_size]; exact H.ts, H.df, fun k hk h => ?_, fun h => ?_, fun h => ?_, fun h => ?_, fun h => ?_⟩
    · rw [put_at _ _ (by rw [H.ts]; omega), if_neg (by omega)]
      rw [set_at _ hli, if_neg (by omega)] at h
      exact H.keys k hk h
    · rw [set_at _ hli, if_neg (by omega)] at h
      obtain ⟨e, h2⟩ := H.no h
      exact ⟨e, fun k hk => by rw [set_at _ hli, if_neg (by omega)]; exact h2 k hk⟩
    · rw [set_at _ hli, if_neg (by omega)] at h
      obtain ⟨h1, h2, es, h3, h4, h5, h6⟩ := H.yes h
      exact ⟨by rw [put_at _ _ (by rw [H.ts]; omega), if_neg (by omega)]; exact h1, h2, es, h3, by omega, h5, fun k hk h => h6 k hk (by rw [set_at _ hli, if_neg (by omega)] at h; exact h)⟩
    · rw [set_at _ hli, if_neg (by omega)] at h
      rw [put_at _ _ (by rw [H.ts]; omega), if_neg (by omega)]
      exact H.mv h
    · rw [put_at _ _ (by rw [H.ts]; omega), if_pos rfl]

/-- The map holds just what keys do. -/
def IsDoings (w : World) (m : Nat) : Prop := ∃ es, PMap FnC w 33 m es ∧ ∀ k, atP es k = atP Ed.entries k
theorem DInv.all {W0 : World} {l : Array Bool} {a : Go.Act} {w : World} (H : DInv W0 l a w) (ha : ∀ i, i < doingOps.size → l[i]? = some true) : a.tmps[0]? = some (.map (some W0.heap.size)) ∧ IsDoings w W0.heap.size ∧ Below W0.heap.size W0 w := by
  rw [doingOps_size] at ha
  obtain ⟨h1, h2, es, h3, h4, h5, h6⟩ := H.yes (ha 0 (by omega))
  refine ⟨H.asg (ha 44 (by omega)), ⟨es, h3, fun k => ?_⟩, h2⟩
  have hsub : ∀ x ∈ Ed.entries, x ∈ es := fun x hx => by
    obtain ⟨j, hj, e⟩ := List.getElem_of_mem hx
    rw [entries_len] at hj
    rw [← e]
    exact h6 j hj (ha _ (by omega))
  cases hat : atP Ed.entries k with
  | some d => exact atP_mem h3.apart (hsub _ (atP_some hat))
  | none =>
    cases hes : atP es k with
    | none => rfl
    | some d => exact absurd rfl (atP_none hat _ (h5 _ (atP_some hes)))
theorem atP_deed (k r : Int) : (atP Ed.entries (Ed.name k r)).isSome = (Ed.deed k r).isSome ∧ (atP Ed.entries (Ed.name k r)).getD none = Ed.deed k r := by
  unfold Ed.deed atP Ed.entries
  rw [List.find?_map]
  have : ((fun x : (Int × Int) × Option Ed.Deed => decide (x.1 = Ed.name k r)) ∘ fun x : (Int × Int) × Ed.Deed => (x.1, some x.2)) = fun x => decide (x.1 = Ed.name k r) := rfl
  rw [this]
  cases Ed.doings.find? fun x => decide (x.1 = Ed.name k r) <;> simp
theorem act_24 {a : Go.Act} (hs : a.tmps.size = 24) (hd : a.defers = []) {v : Value} (h : a.tmps[0]? = some v) : ∃ rest : List Value, rest.length = 23 ∧ a = { tmps := (v :: rest).toArray, defers := [] } := by
  obtain ⟨t, d⟩ := a
  simp only at hs hd h
  subst hd
  obtain ⟨l⟩ := t
  cases l with
  | nil => simp at hs
  | cons x rest =>
    simp at h hs
    subst h
    exact ⟨rest, by omega, rfl⟩

set_option maxRecDepth 100000 in
theorem edit_doings (w : World) : Calls Try.prog 21 #[] w fun e w' => ∃ m, e = .returned (.map (some m)) ∧ IsDoings w' m ∧ Below w.heap.size w w' := by
  go_enter Try.func21, Try.ntmps21
  go_wp2_with fail
  rename_i K hK
  refine wp_region_any (by kernel_rfl) ?_
  change wpAny Try.prog .any doingOps _ 45 _ _ (World.drew w)
  refine wpAny_inv (DInv w.drew) (fun l a w h => by rw [h.sz]; rfl) ops_back (fun l a w i h h1 h2 h3 => h.step h1 h2 h3) (fun l a w' h hall => ?_) 45 _ _ _ (by decide) (DInv.zero _ _ rfl rfl)
  obtain ⟨h0, hD, hB⟩ := h.all hall
  obtain ⟨rest, hr, rfl⟩ := act_24 h.ts h.df h0
  have HD := Lib.hid hD
  have HB := Lib.hid hB
  clear hall h hD hB
  refine hK _ _ ?_
  go_wp2
  go_ret
  exact ⟨_, rfl, HD.out, grew (grew_drew w) HB.out⟩
end Go.Proofs.Ytakjoodlediemaa
