/- Two holds, to which the same messages come in two orders: plain mathematics. -/
import Derived.Test.YtjklfjgdmklimaaHdSame
import Derived.Test.YtjklfjgdmklimaaHdMix
set_option linter.unusedVariables false
namespace Hold

theorem nextFrom_nil {s : St} : ∀ (k i : Nat), nextFrom s i k = none → ∀ j, i ≤ j → j < i + k → dueAt s j = none
  | 0, i, h, j, h1, h2 => by omega
  | k + 1, i, h, j, h1, h2 => by
    unfold nextFrom at h
    cases hd : dueAt s i with
    | some x => rw [hd] at h; cases h
    | none =>
      rw [hd] at h
      by_cases e : j = i
      · rw [e]; exact hd
      · exact nextFrom_nil k (i + 1) h j (by omega) (by omega)
theorem find_apart : ∀ {l : List Mesg.Msg}, (l.Pairwise fun a b => key a ≠ key b) → ∀ {m : Mesg.Msg}, m ∈ l → find l (key m) = some m
  | [], _, m, h => by simp at h
  | x :: l, hp, m, h => by
    obtain ⟨h1, h2⟩ := List.pairwise_cons.1 hp
    unfold find
    rw [List.find?_cons]
    rcases List.mem_cons.1 h with rfl | h
    · simp
    · have := h1 m h
      rw [decide_eq_false this]
      exact find_apart h2 h
theorem val_seq {N : Nat} {m : Mesg.Msg} (h : Val N m) : 1 ≤ m.seq := by
  have h1 := h.1
  unfold Mesg.may Mesg.headMay at h1
  simp only [Bool.and_eq_true, decide_eq_true_eq] at h1
  omega
theorem Inv.quiet {N : Nat} {X : List Mesg.Msg} {s : St} (h : Inv N X s) (hn : next s = none) : Quiet s := fun m hm => by
  cases hd : due s.clock m with
  | false => rfl
  | true =>
    exfalso
    have hv := h.val m (h.here m hm).1
    have hs := val_site hv
    obtain ⟨h1, h2⟩ := due_parts hd
    have hk : key m = (((m.site.toNat : Nat) : Int), s.clock.getD m.site.toNat 0 + 1) := by
      unfold key
      rw [← h1]
      congr 1
      omega
    have hf := find_apart h.apart hm
    rw [hk] at hf
    have hda : dueAt s m.site.toNat = some m := by
      unfold dueAt
      rw [hf]
      simp only
      rw [if_pos hd]
    have hno := nextFrom_nil _ _ hn m.site.toNat (Nat.zero_le _) (by rw [h.hist.len]; omega)
    rw [hda] at hno
    cases hno
theorem Inv.deliver {N : Nat} {X : List Mesg.Msg} {s : St} (h : Inv N X s) {m : Mesg.Msg} (hm : m ∈ s.l) (hd : due s.clock m = true) : Inv N X (deliver s m) := by
  have hx := (h.here m hm).1
  have hv := h.val m hx
  have hs := val_site hv
  obtain ⟨h1, h2⟩ := due_parts hd
  have hl : m.site.toNat < s.clock.length := by rw [h.hist.len]; omega
  refine ⟨.step h.hist hx hv hd, fun x hxX => ?_, fun x hxl => ?_, h.val, h.apart.filter _⟩
  · show x ∈ but s.l (key m) ∨ x.seq ≤ (s.clock.set m.site.toNat m.seq).getD x.site.toNat 0
    rw [getD_set hl]
    rcases h.all x hxX with k | k
    · by_cases e : key x = key m
      · right
        unfold key at e
        injection e with e1 e2
        rw [if_pos (by rw [e1])]
        omega
      · exact .inl (List.mem_filter.2 ⟨k, by simpa using e⟩)
    · right
      split
      · rename_i e
        rw [e] at k
        omega
      · exact k
  · obtain ⟨k1, k2⟩ := List.mem_filter.1 hxl
    obtain ⟨k3, k4⟩ := h.here x k1
    refine ⟨k3, ?_⟩
    show (s.clock.set m.site.toNat m.seq).getD x.site.toNat 0 < x.seq
    rw [getD_set hl]
    split
    · rename_i e
      rw [e] at k4
      have hxs := val_site (h.val x k3)
      have hne : x.seq ≠ m.seq := fun e2 => by
        have : key x ≠ key m := by simpa using k2
        exact this (by unfold key; rw [e2]; congr 1; omega)
      omega
    · exact k4
theorem Inv.tell {N : Nat} {X : List Mesg.Msg} : ∀ (n : Nat) (s : St), Inv N X s → Inv N X (tell n s).2 ∧ (tell n s).2.l.length ≤ s.l.length ∧ (tell n s).2.room = s.room ∧ (s.l.length ≤ n → Quiet (tell n s).2)
  | 0, s, h => ⟨h, Nat.le_refl _, rfl, fun h0 m hm => by
    have : s.l = [] := List.eq_nil_of_length_eq_zero (by omega)
    have hm : m ∈ s.l := hm
    rw [this] at hm
    simp at hm⟩
  | n + 1, s, h => by
    cases hn : next s with
    | none => rw [tell_none hn]; exact ⟨h, Nat.le_refl _, rfl, fun _ => h.quiet hn⟩
    | some m =>
      obtain ⟨h1, h2⟩ := next_due hn
      have hb := but_length h.apart h1
      obtain ⟨k1, k2, k3, k4⟩ := Inv.tell n (Hold.deliver s m) (h.deliver h1 h2)
      rw [tell_some hn]
      have hdl : (Hold.deliver s m).l.length + 1 = s.l.length := hb
      exact ⟨k1, by simp only; omega, k3, fun hl => k4 (by omega)⟩
theorem Inv.put {N : Nat} {X : List Mesg.Msg} {s : St} (h : Inv N X s) (m : Mesg.Msg) (hv : Val N m) (hk : ∀ x ∈ X, key x ≠ key m) (hr : s.l.length < s.room) :
    Inv N (X ++ [m]) (put s m).2.2 ∧ Quiet (Hold.put s m).2.2 ∧ (Hold.put s m).2.2.l.length ≤ s.l.length + 1 ∧ (Hold.put s m).2.2.room = s.room := by
  have hs := val_site hv
  have hold : s.clock.getD m.site.toNat 0 < m.seq := by
    apply Classical.byContradiction
    intro hn
    obtain ⟨x, hx, e⟩ := (h.hist.cover (fun m hm => val_site hm)).2 m.site.toNat m.seq (val_seq hv) (by omega)
    refine hk x hx ?_
    rw [e]
    unfold key
    congr 1
    omega
  have hkl : ∀ y ∈ s.l, key y ≠ key m := fun y hy => hk y (h.here y hy).1
  have hb := but_same hkl
  have hnf : ¬ (m.seq ≤ s.clock.getD m.site.toNat 0 ∨ find s.l (key m) = some m) := fun e => by
    rcases e with e | e
    · omega
    · exact hkl m (find_mem e).1 rfl
  have hfull : ¬ (due s.clock m = false ∧ s.room ≤ (but s.l (key m)).length) := fun e => by
    rw [hb] at e
    omega
  have hc : Mesg.may m = true ∧ m.know.length = s.clock.length := ⟨hv.1, by rw [h.hist.len]; exact hv.2⟩
  have e : (Hold.put s m).2.2 = (Hold.tell (s.l.length + 1) { s with l := s.l ++ [m] }).2 := by
    unfold Hold.put
    rw [if_pos hc, if_neg hnf, if_neg hfull, hb]
  have hI : Inv N (X ++ [m]) { s with l := s.l ++ [m] } := by
    refine ⟨h.hist.more (fun x hx => by simp [hx]), fun x hx => ?_, fun x hx => ?_, fun x hx => ?_, ?_⟩
    · rcases List.mem_append.1 hx with hx | hx
      · rcases h.all x hx with k | k
        · exact .inl (by simp [k])
        · exact .inr k
      · rw [List.mem_singleton.1 hx]
        exact .inl (by simp)
    · have hx : x ∈ s.l ++ [m] := hx
      rcases List.mem_append.1 hx with hx | hx
      · exact ⟨by simp [(h.here x hx).1], (h.here x hx).2⟩
      · rw [List.mem_singleton.1 hx]
        exact ⟨by simp, hold⟩
    · rcases List.mem_append.1 hx with hx | hx
      · exact h.val x hx
      · rw [List.mem_singleton.1 hx]; exact hv
    · show (s.l ++ [m]).Pairwise _
      refine List.pairwise_append.2 ⟨h.apart, List.pairwise_singleton _ _, fun a ha b hb => ?_⟩
      rw [List.mem_singleton.1 hb]
      exact hkl a ha
  obtain ⟨k1, k2, k3, k4⟩ := Inv.tell (s.l.length + 1) _ hI
  rw [e]
  refine ⟨k1, k4 (by simp), ?_, k3⟩
  simp only [List.length_append, List.length_singleton] at k2
  exact k2
theorem put_not {N : Nat} {s : St} {m : Mesg.Msg} (hl : s.clock.length = N) (hv : ¬ Val N m) : (put s m).2.2 = s := by
  unfold put
  rw [if_neg (fun h => hv ⟨h.1, by rw [h.2, hl]⟩)]
def valB (N : Nat) (m : Mesg.Msg) : Bool := Mesg.may m && decide (m.know.length = N)
theorem valB_iff {N : Nat} {m : Mesg.Msg} : valB N m = true ↔ Val N m := by
  unfold valB Val
  rw [Bool.and_eq_true, decide_eq_true_eq]
def goOn (s : St) (m : Mesg.Msg) : St := (put s m).2.2
theorem fold_inv {N : Nat} : ∀ (l : List Mesg.Msg) (X : List Mesg.Msg) (s : St), Inv N X s → Quiet s → s.l.length + l.length ≤ s.room → (∀ x ∈ X, ∀ m ∈ l, key x ≠ key m) → (l.Pairwise fun a b => key a ≠ key b) →
    Inv N (X ++ l.filter (valB N)) (l.foldl goOn s) ∧ Quiet (l.foldl goOn s)
  | [], X, s, h, q, _, _, _ => ⟨by simpa using h, q⟩
  | m :: l, X, s, h, q, hr, hX, hp => by
    obtain ⟨p1, p2⟩ := List.pairwise_cons.1 hp
    rw [List.length_cons] at hr
    rw [List.foldl_cons]
    by_cases hv : valB N m = true
    · obtain ⟨k1, k2, k3, k4⟩ := h.put m (valB_iff.1 hv) (fun x hx => hX x hx m (by simp)) (by omega)
      have := fold_inv l (X ++ [m]) (goOn s m) k1 k2 (by unfold goOn; omega) (fun x hx y hy => by
        rcases List.mem_append.1 hx with hx | hx
        · exact hX x hx y (by simp [hy])
        · rw [List.mem_singleton.1 hx]; exact p1 y hy) p2
      rw [List.filter_cons, if_pos hv]
      simpa using this
    · have e : goOn s m = s := put_not h.hist.len (fun h => hv (valB_iff.2 h))
      rw [e, List.filter_cons, if_neg hv]
      exact fold_inv l X s h q (by omega) (fun x hx y hy => hX x hx y (by simp [hy])) p2
theorem Inv.congr {N : Nat} {X Y : List Mesg.Msg} {s : St} (h : Inv N X s) (e : ∀ m, m ∈ X ↔ m ∈ Y) : Inv N Y s :=
  ⟨h.hist.more (fun m hm => (e m).1 hm), fun m hm => h.all m ((e m).2 hm), fun m hm => ⟨(e m).1 (h.here m hm).1, (h.here m hm).2⟩, fun m hm => h.val m ((e m).2 hm), h.apart⟩
def run (N : Nat) (l : List Mesg.Msg) : St := l.foldl goOn (new N 100)
theorem run_snoc (N : Nat) (l : List Mesg.Msg) (m : Mesg.Msg) : run N (l ++ [m]) = (put (run N l) m).2.2 := by
  unfold run
  rw [List.foldl_append]
  rfl
theorem run_inv {N : Nat} {l : List Mesg.Msg} (hp : l.Pairwise fun a b => key a ≠ key b) (hl : l.length ≤ 100) : Inv N (l.filter (valB N)) (run N l) ∧ Quiet (run N l) := by
  have h0 : Inv N [] (new N 100) := ⟨.zero, fun m hm => by simp at hm, fun m hm => by simp [new] at hm, fun m hm => by simp at hm, by simp [new]⟩
  have := fold_inv l [] (new N 100) h0 (fun m hm => by simp [new] at hm) (by simpa [new] using hl) (fun x hx => by simp at hx) hp
  rw [List.nil_append] at this
  exact this
/-- The same messages, turned round: the same hold, but for the order. -/
theorem run_same {N : Nat} {l : List Mesg.Msg} (hp : l.Pairwise fun a b => key a ≠ key b) (hl : l.length ≤ 100) : (run N l.reverse).clock = (run N l).clock ∧ (run N l.reverse).l.length = (run N l).l.length ∧ known (run N l.reverse) = known (run N l) := by
  obtain ⟨h1, h2⟩ := run_inv (N := N) hp hl
  obtain ⟨h3, h4⟩ := run_inv (N := N) (l := l.reverse) (List.pairwise_reverse.2 (hp.imp (fun h e => h e.symm))) (by simpa using hl)
  have h3 := h3.congr (Y := l.filter (valB N)) (fun m => by simp)
  have hc := h3.clock_eq h4 h1 h2
  have hpm := h3.perm h4 h1 h2
  refine ⟨hc, hpm.length_eq, ?_⟩
  unfold known
  rw [hc]
  exact known_perm hpm
end Hold
