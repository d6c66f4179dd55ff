/- What is asked for and put is told: plain mathematics of the hold. -/
import Derived.Test.YtjklfjgdmklimaaHdSame2
set_option linter.unusedVariables false
namespace Hold

theorem tell_count {N : Nat} {X : List Mesg.Msg} : ∀ (n : Nat) (s : St), Inv N X s → (tell n s).1.length + (tell n s).2.l.length = s.l.length
  | 0, s, h => by show 0 + s.l.length = _; omega
  | n + 1, s, h => by
    cases hn : next s with
    | none => rw [tell_none hn]; show 0 + s.l.length = _; omega
    | some m =>
      obtain ⟨h1, h2⟩ := next_due hn
      have hb := but_length h.apart h1
      have ih := tell_count n (Hold.deliver s m) (h.deliver h1 h2)
      rw [tell_some hn]
      have hdl : (Hold.deliver s m).l.length + 1 = s.l.length := hb
      simp only [List.length_cons]
      omega
/-- A message that is new to a hold with room: what becomes of it. -/
theorem Inv.put2 {N : Nat} {X : List Mesg.Msg} {s : St} (h : Inv N X s) (m : Mesg.Msg) (hv : Val N m) (hk : ∀ x ∈ X, key x ≠ key m) (hr : s.l.length < s.room) :
    Inv N (X ++ [m]) (Hold.put s m).2.2 ∧ Quiet (Hold.put s m).2.2 ∧ (Hold.put s m).2.2.l.length ≤ s.l.length + 1 ∧ (Hold.put s m).2.2.room = s.room ∧ (Hold.put s m).1.length + (Hold.put s m).2.2.l.length = s.l.length + 1 := by
  obtain ⟨p1, p2, p3, p4⟩ := h.put m hv hk hr
  refine ⟨p1, p2, p3, p4, ?_⟩
  have hs := val_site hv
  have hold : s.clock.getD m.site.toNat 0 < m.seq := by
    apply Classical.byContradiction
    intro hn
    obtain ⟨x, hx, e⟩ := (h.hist.cover (fun m hm => val_site hm)).2 m.site.toNat m.seq (val_seq hv) (by omega)
    refine hk x hx ?_
    rw [e]
    unfold key
    congr 1
    omega
  have hkl : ∀ y ∈ s.l, key y ≠ key m := fun y hy => hk y (h.here y hy).1
  have hb := but_same hkl
  have hnf : ¬ (m.seq ≤ s.clock.getD m.site.toNat 0 ∨ find s.l (key m) = some m) := fun e => by
    rcases e with e | e
    · omega
    · exact hkl m (find_mem e).1 rfl
  have hfull : ¬ (due s.clock m = false ∧ s.room ≤ (but s.l (key m)).length) := fun e => by
    rw [hb] at e
    omega
  have hc : Mesg.may m = true ∧ m.know.length = s.clock.length := ⟨hv.1, by rw [h.hist.len]; exact hv.2⟩
  have e : (Hold.put s m) = ((Hold.tell (s.l.length + 1) { s with l := s.l ++ [m] }).1, 0, (Hold.tell (s.l.length + 1) { s with l := s.l ++ [m] }).2) := by
    unfold Hold.put
    rw [if_pos hc, if_neg hnf, if_neg hfull, hb]
  have hI : Inv N (X ++ [m]) { s with l := s.l ++ [m] } := by
    refine ⟨h.hist.more (fun x hx => by simp [hx]), fun x hx => ?_, fun x hx => ?_, fun x hx => ?_, ?_⟩
    · rcases List.mem_append.1 hx with hx | hx
      · rcases h.all x hx with k | k
        · exact .inl (by simp [k])
        · exact .inr k
      · rw [List.mem_singleton.1 hx]
        exact .inl (by simp)
    · have hx : x ∈ s.l ++ [m] := hx
      rcases List.mem_append.1 hx with hx | hx
      · exact ⟨by simp [(h.here x hx).1], (h.here x hx).2⟩
      · rw [List.mem_singleton.1 hx]
        exact ⟨by simp, hold⟩
    · rcases List.mem_append.1 hx with hx | hx
      · exact h.val x hx
      · rw [List.mem_singleton.1 hx]; exact hv
    · show (s.l ++ [m]).Pairwise _
      refine List.pairwise_append.2 ⟨h.apart, List.pairwise_singleton _ _, fun a ha b hb => ?_⟩
      rw [List.mem_singleton.1 hb]
      exact hkl a ha
  have ht := tell_count (s.l.length + 1) _ hI
  rw [e]
  simpa using ht
/-- X holds the messages of each site up to its count, and no other. -/
def Full (N : Nat) (d : List Int) (X : List Mesg.Msg) : Prop := (∀ m ∈ X, ∃ i j : Nat, i < N ∧ (j : Int) < d.getD i 0 ∧ m = ms N i j) ∧ ∀ i j : Nat, i < N → (j : Int) < d.getD i 0 → ms N i j ∈ X
theorem Full.done {N : Nat} {d : List Int} {X : List Mesg.Msg} {s : St} (hN : 1 ≤ N ∧ N ≤ 16) (hd : d.length = N) (h0 : ∀ i, 0 ≤ d.getD i 0) (hX : Full N d X) (h : Inv N X s) (q : Quiet s) : s.clock = d ∧ s.l = [] := by
  have hcov := h.hist.cover (fun m hm => val_site hm)
  have up : ∀ (i : Nat), i < N → ∀ (j : Nat), (j : Int) ≤ d.getD i 0 → (j : Int) ≤ s.clock.getD i 0 := by
    intro i hi j
    induction j with
    | zero => intro _; exact hcov.1 i
    | succ j ih =>
      intro hj
      have ih := ih (by omega)
      have hm := hX.2 i j hi (by omega)
      rcases h.all _ hm with k | k
      · exfalso
        have k2 := (h.here _ k).2
        have hq := q _ k
        have e1 : (ms N i j).site.toNat = i := by show ((i : Int)).toNat = i; omega
        have e2 : (ms N i j).seq = (j : Int) + 1 := rfl
        rw [e1, e2] at k2
        have hdue : due s.clock (ms N i j) = true := by
          unfold due
          rw [Bool.and_eq_true, decide_eq_true_eq, e1, e2]
          refine ⟨by omega, Vecs.below_iff.2 fun k hk hk' => ?_⟩
          have hkn : (ms N i j).know = zc N i j := rfl
          have h1 := zc_at hi (j : Int) k
          rw [List.getD_eq_getElem?_getD, List.getElem?_eq_getElem (by rw [← hkn]; exact hk)] at h1
          have h2 : s.clock.getD k 0 = s.clock[k] := by rw [List.getD_eq_getElem?_getD, List.getElem?_eq_getElem hk']; rfl
          have h3 : (ms N i j).know[k] = if k = i then (j : Int) else 0 := h1
          rw [h3]
          split
          · rename_i e
            subst e
            omega
          · have := hcov.1 k
            omega
        rw [hdue] at hq
        cases hq
      · have e1 : (ms N i j).site.toNat = i := by show ((i : Int)).toNat = i; omega
        rw [e1] at k
        have e2 : (ms N i j).seq = (j : Int) + 1 := rfl
        omega
  have eqi : ∀ i, i < N → s.clock.getD i 0 = d.getD i 0 := by
    intro i hi
    have h1 := up i hi (d.getD i 0).toNat (by have := h0 i; omega)
    have h2 := h0 i
    apply Classical.byContradiction
    intro hne
    obtain ⟨m, hm, e⟩ := hcov.2 i (s.clock.getD i 0) (by omega) (by omega)
    obtain ⟨i', j, hi', hj, rfl⟩ := hX.1 m hm
    rw [ms_key] at e
    injection e with e1 e2
    have : i' = i := by omega
    subst this
    omega
  have hc : s.clock = d := by
    apply List.ext_getElem
    · rw [h.hist.len, hd]
    · intro j h1 h2
      have := eqi j (by rw [h.hist.len] at h1; exact h1)
      rw [List.getD_eq_getElem?_getD, List.getD_eq_getElem?_getD, List.getElem?_eq_getElem h1, List.getElem?_eq_getElem h2] at this
      exact this
  refine ⟨hc, ?_⟩
  cases hl : s.l with
  | nil => rfl
  | cons m l =>
    exfalso
    have hm : m ∈ s.l := by rw [hl]; simp
    obtain ⟨h1, h2⟩ := h.here m hm
    obtain ⟨i, j, hi, hj, rfl⟩ := hX.1 m h1
    have e1 : (ms N i j).site.toNat = i := by show ((i : Int)).toNat = i; omega
    have e2 : (ms N i j).seq = (j : Int) + 1 := rfl
    rw [e1, e2, hc] at h2
    omega
theorem ms_val {N c j : Nat} (hN : 1 ≤ N ∧ N ≤ 16) (hc : c < N) (hj : j ≤ 1000) : Val N (ms N c j) := ⟨ms_may hN hc hj, by show (zc N c _).length = N; rw [zc_len]⟩
end Hold
