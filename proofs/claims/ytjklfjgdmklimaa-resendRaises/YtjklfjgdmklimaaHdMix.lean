/- One site's messages, as they come and turned round: plain mathematics. -/
import Derived.Test.YtjklfjgdmklimaaHdLive2
set_option linter.unusedVariables false
namespace Hold

def zc (N c : Nat) (v : Int) : List Int := (List.replicate N 0).set c v
theorem zc_len (N c : Nat) (v : Int) : (zc N c v).length = N := by simp [zc]
theorem zc_at {N c : Nat} (hc : c < N) (v : Int) (j : Nat) : (zc N c v).getD j 0 = if j = c then v else 0 := by
  unfold zc
  rw [List.getD_eq_getElem?_getD, List.getElem?_set]
  by_cases h : c = j
  · subst h
    simp [hc]
  · rw [if_neg h, if_neg (fun e => h e.symm)]
    by_cases hj : j < N
    · simp [hj]
    · simp [Nat.le_of_not_lt hj]
theorem zc_zero {N c : Nat} (hc : c < N) : zc N c 0 = List.replicate N 0 := by
  unfold zc
  apply List.ext_getElem
  · simp
  · intro j h1 h2
    rw [List.getElem_set]
    split <;> simp
theorem zc_set {N c : Nat} (v u : Int) : (zc N c v).set c u = zc N c u := by simp [zc]
theorem zc_mem {N c : Nat} {v : Int} {z : Int} (h : z ∈ zc N c v) : z = v ∨ z = 0 := by
  unfold zc at h
  rcases List.mem_or_eq_of_mem_set h with h | h
  · right; simpa using (List.mem_replicate.1 h).2
  · exact .inl h

/-- The j-th message of the site c. -/
def ms (N c j : Nat) : Mesg.Msg := ⟨(c : Int), (j : Int) + 1, zc N c j, ⟨5, 0, ⟨0, 0⟩, ⟨0, 0⟩, 0⟩⟩
theorem ms_may {N c j : Nat} (hN : 1 ≤ N ∧ N ≤ 16) (hc : c < N) (hj : j ≤ 1000) : Mesg.may (ms N c j) = true := by
  have h1 : Mesg.headMay (ms N c j) = true := by
    unfold Mesg.headMay Mesg.knows ms
    simp only [zc_len, Int.toNat_natCast, zc_at hc, if_true, Bool.and_eq_true, decide_eq_true_eq, List.all_eq_true]
    refine ⟨⟨⟨⟨⟨⟨⟨by omega, by omega⟩, fun z hz => ?_⟩, by omega⟩, by omega⟩, by omega⟩, ?_⟩, by omega⟩
    · rcases zc_mem hz with rfl | rfl
      · unfold Mesg.clock; simp; omega
      · rfl
    · unfold Mesg.clock; simp; omega
  have h2 : Mesg.opMay (ms N c j) = true := by
    unfold Mesg.opMay ms
    rfl
  unfold Mesg.may
  rw [h1, h2]
  rfl
theorem ms_key {N c j : Nat} : key (ms N c j) = ((c : Int), (j : Int) + 1) := rfl

/-- What waits: the messages m - 1 down. -/
def ls (N c n : Nat) : Nat → List Mesg.Msg
  | 0 => []
  | m + 1 => ls N c n m ++ [ms N c (n - 1 - m)]
theorem ls_len (N c n : Nat) : ∀ m, (ls N c n m).length = m
  | 0 => rfl
  | m + 1 => by simp [ls, ls_len N c n m]
theorem ls_mem {N c n : Nat} : ∀ {m : Nat} {x : Mesg.Msg}, x ∈ ls N c n m → ∃ j, j < m ∧ x = ms N c (n - 1 - j)
  | 0, x, h => by simp [ls] at h
  | m + 1, x, h => by
    unfold ls at h
    rcases List.mem_append.1 h with h | h
    · obtain ⟨j, hj, e⟩ := ls_mem h
      exact ⟨j, by omega, e⟩
    · exact ⟨m, by omega, List.mem_singleton.1 h⟩
theorem find_none {l : List Mesg.Msg} {k : Int × Int} (h : ∀ x ∈ l, key x ≠ k) : find l k = none := by
  unfold find
  rw [List.find?_eq_none]
  intro x hx
  simp [h x hx]
theorem find_last {l : List Mesg.Msg} {x : Mesg.Msg} (h : ∀ y ∈ l, key y ≠ key x) : find (l ++ [x]) (key x) = some x := by
  unfold find
  rw [List.find?_append]
  have : l.find? (fun m => decide (key m = key x)) = none := find_none h
  rw [this]
  simp
theorem but_last {l : List Mesg.Msg} {x : Mesg.Msg} (h : ∀ y ∈ l, key y ≠ key x) : but (l ++ [x]) (key x) = l := by
  unfold but
  rw [List.filter_append]
  simp
  exact h
theorem but_same {l : List Mesg.Msg} {k : Int × Int} (h : ∀ y ∈ l, key y ≠ k) : but l k = l := by
  unfold but
  rw [List.filter_eq_self]
  intro x hx
  simp [h x hx]
theorem ls_key {N c n m j : Nat} (hj : j + m < n) : ∀ y ∈ ls N c n m, key y ≠ ((c : Int), (j : Int) + 1) := fun y hy => by
  obtain ⟨i, hi, rfl⟩ := ls_mem hy
  rw [ms_key]
  intro e
  injection e with _ e
  omega
theorem ls_site {N c n m j : Nat} (hj : j ≠ c) (q : Int) : ∀ y ∈ ls N c n m, key y ≠ ((j : Int), q) := fun y hy => by
  obtain ⟨i, hi, rfl⟩ := ls_mem hy
  rw [ms_key]
  intro e
  injection e with e _
  omega

theorem nextFrom_only {s : St} {c : Nat} (h : ∀ j, j ≠ c → dueAt s j = none) : ∀ (k i : Nat), nextFrom s i k = if i ≤ c ∧ c < i + k then dueAt s c else none
  | 0, i => by rw [if_neg (by omega)]; rfl
  | k + 1, i => by
    unfold nextFrom
    by_cases e : i = c
    · subst e
      rw [if_pos (by omega)]
      cases hd : dueAt s i with
      | some m => rfl
      | none => simp only; rw [nextFrom_only h k (i + 1), if_neg (by omega)]
    · rw [h i e]
      simp only
      rw [nextFrom_only h k (i + 1)]
      by_cases h2 : i ≤ c ∧ c < i + (k + 1)
      · rw [if_pos h2, if_pos (by omega)]
      · rw [if_neg h2, if_neg (by omega)]
theorem next_only {s : St} {c : Nat} (hc : c < s.clock.length) (h : ∀ j, j ≠ c → dueAt s j = none) : next s = dueAt s c := by
  unfold next
  rw [nextFrom_only h, if_pos (by omega)]

/-- The hold with the messages m - 1 down waiting, the clock at v. -/
def sb (N c n m : Nat) (v : Int) : St := ⟨50, zc N c v, ls N c n m⟩
theorem sb_else {N c n m : Nat} {v : Int} (j : Nat) (hj : j ≠ c) : dueAt (sb N c n m v) j = none := by
  unfold dueAt
  have : find (sb N c n m v).l ((j : Int), (sb N c n m v).clock.getD j 0 + 1) = none := find_none (ls_site hj _)
  rw [this]
theorem due_ms {N c j : Nat} (hc : c < N) : due (zc N c j) (ms N c j) = true := by
  unfold due ms
  simp only [Int.toNat_natCast, zc_at hc, if_true, Bool.and_eq_true, decide_eq_true_eq]
  exact ⟨trivial, Vecs.below_iff.2 fun k h h' => Int.le_refl _⟩
theorem next_hit {N c n m : Nat} (hc : c < N) (hm : m < n) : next (sb N c n (m + 1) ((n - 1 - m : Nat) : Int)) = some (ms N c (n - 1 - m)) := by
  rw [next_only (c := c) (by rw [show (sb N c n (m + 1) ((n - 1 - m : Nat) : Int)).clock = zc N c ((n - 1 - m : Nat) : Int) from rfl, zc_len]; exact hc) sb_else]
  unfold dueAt
  have : find (sb N c n (m + 1) ((n - 1 - m : Nat) : Int)).l ((c : Int), (sb N c n (m + 1) ((n - 1 - m : Nat) : Int)).clock.getD c 0 + 1) = some (ms N c (n - 1 - m)) := by
    show find (ls N c n m ++ [ms N c (n - 1 - m)]) ((c : Int), (zc N c ((n - 1 - m : Nat) : Int)).getD c 0 + 1) = _
    rw [zc_at hc, if_pos rfl]
    exact find_last (x := ms N c (n - 1 - m)) (fun y hy => by rw [ms_key]; exact ls_key (by omega) y hy)
  rw [this]
  simp only
  rw [show (sb N c n (m + 1) ((n - 1 - m : Nat) : Int)).clock = zc N c ((n - 1 - m : Nat) : Int) from rfl, due_ms hc, if_pos rfl]
theorem deliver_hit {N c n m : Nat} (hc : c < N) (hm : m < n) : deliver (sb N c n (m + 1) ((n - 1 - m : Nat) : Int)) (ms N c (n - 1 - m)) = sb N c n m ((n - m : Nat) : Int) := by
  unfold deliver sb
  have e1 : but (ls N c n (m + 1)) (key (ms N c (n - 1 - m))) = ls N c n m := by
    show but (ls N c n m ++ [ms N c (n - 1 - m)]) _ = _
    exact but_last (fun y hy => by rw [ms_key]; exact ls_key (by omega) y hy)
  have e2 : (zc N c ((n - 1 - m : Nat) : Int)).set (ms N c (n - 1 - m)).site.toNat (ms N c (n - 1 - m)).seq = zc N c ((n - m : Nat) : Int) := by
    show (zc N c ((n - 1 - m : Nat) : Int)).set ((c : Int).toNat) (((n - 1 - m : Nat) : Int) + 1) = _
    rw [Int.toNat_natCast, zc_set]
    congr 1
    omega
  simp only [e1, e2]
/-- Once the first one is there, all are told. -/
theorem tell_all {N c n : Nat} (hc : c < N) : ∀ m, m ≤ n → ∃ l, tell m (sb N c n m ((n - m : Nat) : Int)) = (l, sb N c n 0 (n : Int)) ∧ l.length = m
  | 0, _ => ⟨[], by unfold tell; rw [Nat.sub_zero], rfl⟩
  | m + 1, hm => by
    obtain ⟨l, h1, h2⟩ := tell_all (n := n) hc m (by omega)
    refine ⟨ms N c (n - 1 - m) :: l, ?_, by simp [h2]⟩
    unfold tell
    rw [show n - (m + 1) = n - 1 - m by omega, next_hit (n := n) (m := m) hc (by omega)]
    simp only
    rw [deliver_hit (n := n) (m := m) hc (by omega), h1]
theorem tell_wait {N c n m : Nat} (hc : c < N) (hm : m < n) (k : Nat) : tell k (sb N c n m 0) = ([], sb N c n m 0) := by
  cases k with
  | zero => rfl
  | succ k =>
    unfold tell
    have : next (sb N c n m 0) = none := by
      rw [next_only (c := c) (by rw [show (sb N c n m 0).clock = zc N c 0 from rfl, zc_len]; exact hc) sb_else]
      unfold dueAt
      have : find (sb N c n m 0).l ((c : Int), (sb N c n m 0).clock.getD c 0 + 1) = none := by
        show find (ls N c n m) ((c : Int), (zc N c 0).getD c 0 + 1) = none
        rw [zc_at hc, if_pos rfl]
        exact find_none (ls_key (j := 0) (m := m) (n := n) (by omega))
      rw [this]
    rw [this]
/-- A message that comes turned round waits. -/
theorem put_wait {N c n m : Nat} (hN : 1 ≤ N ∧ N ≤ 16) (hc : c < N) (hn : n ≤ 50) (hm : m + 1 < n) : put (sb N c n m 0) (ms N c (n - 1 - m)) = ([], 0, sb N c n (m + 1) 0) := by
  have hk : ∀ y ∈ ls N c n m, key y ≠ key (ms N c (n - 1 - m)) := fun y hy => by rw [ms_key]; exact ls_key (by omega) y hy
  have hbut : but (sb N c n m 0).l (key (ms N c (n - 1 - m))) = ls N c n m := but_same hk
  have hfind : find (sb N c n m 0).l (key (ms N c (n - 1 - m))) = none := find_none hk
  unfold put
  rw [if_pos ⟨ms_may hN hc (by omega), by show (zc N c _).length = (zc N c _).length; rw [zc_len, zc_len]⟩, if_neg, if_neg, hbut]
  · show (let t := tell ((ls N c n m).length + 1) (sb N c n (m + 1) 0); (t.1, (0 : Int), t.2)) = _
    rw [tell_wait hc (by omega)]
  · rw [hbut, ls_len]
    rintro ⟨_, h⟩
    have : 50 ≤ m := h
    omega
  · rw [hfind]
    rintro (h | h)
    · have h : ((n - 1 - m : Nat) : Int) + 1 ≤ (zc N c 0).getD (c : Int).toNat 0 := h
      rw [Int.toNat_natCast, zc_at hc, if_pos rfl] at h
      omega
    · cases h
/-- The last one that comes lets all go. -/
theorem put_last {N c n : Nat} (hN : 1 ≤ N ∧ N ≤ 16) (hc : c < N) (hn : 1 ≤ n ∧ n ≤ 50) : ∃ l, put (sb N c n (n - 1) 0) (ms N c 0) = (l, 0, sb N c n 0 (n : Int)) ∧ l.length = n := by
  have hk : ∀ y ∈ ls N c n (n - 1), key y ≠ key (ms N c 0) := fun y hy => by rw [ms_key]; exact ls_key (by omega) y hy
  have hbut : but (sb N c n (n - 1) 0).l (key (ms N c 0)) = ls N c n (n - 1) := but_same hk
  have hfind : find (sb N c n (n - 1) 0).l (key (ms N c 0)) = none := find_none hk
  obtain ⟨l, h1, h2⟩ := tell_all (n := n) hc n (Nat.le_refl _)
  refine ⟨l, ?_, h2⟩
  have hd : due (sb N c n (n - 1) 0).clock (ms N c 0) = true := due_ms (j := 0) hc
  unfold put
  rw [if_pos ⟨ms_may hN hc (by omega), by show (zc N c _).length = (zc N c _).length; rw [zc_len, zc_len]⟩, if_neg, if_neg, hbut]
  · have e : ({ sb N c n (n - 1) 0 with l := ls N c n (n - 1) ++ [ms N c 0] } : St) = sb N c n n ((n - n : Nat) : Int) := by
      unfold sb
      obtain ⟨q, rfl⟩ : ∃ q, n = q + 1 := ⟨n - 1, by omega⟩
      simp only [Nat.add_sub_cancel, Nat.sub_self]
      show St.mk 50 (zc N c 0) (ls N c (q + 1) q ++ [ms N c 0]) = St.mk 50 (zc N c ((0 : Nat) : Int)) (ls N c (q + 1) q ++ [ms N c (q + 1 - 1 - q)])
      rw [show q + 1 - 1 - q = 0 by omega]
      rfl
    rw [ls_len, e, show n - 1 + 1 = n by omega, h1]
  · rw [hd]
    rintro ⟨h, _⟩
    cases h
  · rw [hfind]
    rintro (h | h)
    · have h : ((0 : Nat) : Int) + 1 ≤ (zc N c 0).getD (c : Int).toNat 0 := h
      rw [Int.toNat_natCast, zc_at hc, if_pos rfl] at h
      omega
    · cases h
/-- In its order each one is told at once. -/
theorem put_next {N c i : Nat} (hN : 1 ≤ N ∧ N ≤ 16) (hc : c < N) (hi : i < 50) : put ⟨50, zc N c i, []⟩ (ms N c i) = ([ms N c i], 0, ⟨50, zc N c ((i : Int) + 1), []⟩) := by
  have hd : due (zc N c i) (ms N c i) = true := due_ms hc
  unfold put
  rw [if_pos ⟨ms_may hN hc (by omega), rfl⟩, if_neg, if_neg]
  · have hnx : next ⟨50, zc N c i, [ms N c i]⟩ = some (ms N c i) := by
      have := next_hit (N := N) (c := c) (n := i + 1) (m := 0) hc (by omega)
      rwa [show i + 1 - 1 - 0 = i by omega] at this
    have hdl : deliver ⟨50, zc N c i, [ms N c i]⟩ (ms N c i) = ⟨50, zc N c ((i : Int) + 1), []⟩ := by
      have := deliver_hit (N := N) (c := c) (n := i + 1) (m := 0) hc (by omega)
      rw [show i + 1 - 1 - 0 = i by omega] at this
      rw [show ((i : Int) + 1) = ((i + 1 - 0 : Nat) : Int) by omega]
      exact this
    show (let t := tell 1 ⟨50, zc N c i, [ms N c i]⟩; (t.1, (0 : Int), t.2)) = _
    unfold tell
    rw [hnx]
    simp only [tell, hdl]
  · show ¬ (due (zc N c i) (ms N c i) = false ∧ _)
    rw [hd]
    rintro ⟨h, _⟩
    cases h
  · rintro (h | h)
    · have h : (i : Int) + 1 ≤ (zc N c i).getD (c : Int).toNat 0 := h
      rw [Int.toNat_natCast, zc_at hc, if_pos rfl] at h
      omega
    · cases h
end Hold
