/- What is asked for, and kept somewhere, put into a hold, is told: plain mathematics, store and hold. -/
import Derived.Test.YtjklfjgdmklimaaHdRaise
set_option linter.unusedVariables false
namespace Hold

/-- Is the message q of site j among the first ones, up to k of site i? -/
def Past (i k j q : Nat) : Prop := j < i ∨ j = i ∧ q < k
/-- A store and a hold, behind the messages up to k of site i. -/
structure Made (N : Nat) (cs ss : List Int) (i k : Nat) (st : Resend.St) (sh : St) (X : List Mesg.Msg) : Prop where
  sites : st.sites = N
  room : st.room = 100
  few : st.l.length ≤ 20 * i + k
  kept : ∀ j q : Nat, j < N → (q : Int) < cs.getD j 0 → Past i k j q → Resend.find st.l ((j : Int), (q : Int) + 1) = some (ms N j q)
  only : ∀ m ∈ st.l, ∃ j q : Nat, m = ms N j q ∧ Past i k j q
  inv : Inv N X sh
  quiet : Quiet sh
  roomH : sh.room = 100
  fewH : sh.l.length ≤ 20 * i + k
  put : ∀ m ∈ X, ∃ j q : Nat, j < N ∧ (q : Int) < ss.getD j 0 ∧ m = ms N j q ∧ Past i k j q
  all : ∀ j q : Nat, j < N → (q : Int) < ss.getD j 0 → Past i k j q → ms N j q ∈ X

theorem Made.zero (N : Nat) (cs ss : List Int) : Made N cs ss 0 0 (Resend.new N 100) (new N 100) [] := by
  refine ⟨rfl, rfl, by simp [Resend.new], fun j q _ _ h => ?_, fun m hm => ?_, ?_, fun m hm => ?_, rfl, by simp [new], fun m hm => ?_, fun j q _ _ h => ?_⟩
  · unfold Past at h; omega
  · simp [Resend.new] at hm
  · exact ⟨.zero, fun m hm => by simp at hm, fun m hm => by simp [new] at hm, fun m hm => by simp at hm, by simp [new]⟩
  · simp [new] at hm
  · simp at hm
  · unfold Past at h; omega
theorem key_ms {N j q j' q' : Nat} (h : key (ms N j q) = key (ms N j' q')) : j = j' ∧ q = q' := by
  rw [ms_key, ms_key] at h
  injection h with h1 h2
  omega
theorem keep_new {N : Nat} {cs ss : List Int} {i k : Nat} {st : Resend.St} {sh : St} {X : List Mesg.Msg} (h : Made N cs ss i k st sh X) (hN : 1 ≤ N ∧ N ≤ 4) (hi : i < N) (hk : k < 20) : Resend.keep st (ms N i k) = (0, { st with l := st.l ++ [ms N i k] }) := by
  have hv := ms_val (N := N) (c := i) (j := k) (by omega) hi (by omega)
  have hno : Resend.find st.l (Resend.key (ms N i k)) = none := by
    unfold Resend.find
    rw [List.find?_eq_none]
    intro x hx
    obtain ⟨j, q, rfl, hp⟩ := h.only x hx
    intro e
    have e := key_ms (of_decide_eq_true e)
    unfold Past at hp
    omega
  unfold Resend.keep
  rw [if_pos ⟨hv.1, by rw [hv.2, h.sites]⟩, hno, if_neg (by simp), if_pos (by rw [h.room]; have := h.few; omega)]
theorem find_more {l : List Mesg.Msg} {x : Mesg.Msg} {k : Int × Int} {m : Mesg.Msg} (h : Resend.find l k = some m) : Resend.find (l ++ [x]) k = some m := by
  unfold Resend.find at *
  rw [List.find?_append, h]
  rfl
theorem find_end {l : List Mesg.Msg} {x : Mesg.Msg} (h : ∀ y ∈ l, key y ≠ key x) : Resend.find (l ++ [x]) (key x) = some x := find_last h
theorem Made.step {N : Nat} {cs ss : List Int} {i k : Nat} {st : Resend.St} {sh : St} {X : List Mesg.Msg} (h : Made N cs ss i k st sh X) (hN : 1 ≤ N ∧ N ≤ 4) (hi : i < N) (hk : k < 20) :
    ((k : Int) < ss.getD i 0 → ∃ X', Made N cs ss i (k + 1) { st with l := st.l ++ [ms N i k] } (Hold.put sh (ms N i k)).2.2 X') ∧ (¬ (k : Int) < ss.getD i 0 → Made N cs ss i (k + 1) { st with l := st.l ++ [ms N i k] } sh X) := by
  have hmore : ∀ j q : Nat, Past i (k + 1) j q → Past i k j q ∨ j = i ∧ q = k := fun j q hp => by unfold Past at *; omega
  have hless : ∀ j q : Nat, Past i k j q → Past i (k + 1) j q := fun j q hp => by unfold Past at *; omega
  have hold : ∀ y ∈ st.l, key y ≠ key (ms N i k) := fun y hy e => by
    obtain ⟨j, q, rfl, hp⟩ := h.only y hy
    have := key_ms e
    unfold Past at hp
    omega
  have hfew : (st.l ++ [ms N i k]).length ≤ 20 * i + (k + 1) := by have := h.few; simp; omega
  have hkept : ∀ j q : Nat, j < N → (q : Int) < cs.getD j 0 → Past i (k + 1) j q → Resend.find (st.l ++ [ms N i k]) ((j : Int), (q : Int) + 1) = some (ms N j q) := fun j q hj hq hp => by
    rcases hmore j q hp with hp | ⟨rfl, rfl⟩
    · exact find_more (h.kept j q hj hq hp)
    · exact find_end hold
  have honly : ∀ m ∈ st.l ++ [ms N i k], ∃ j q : Nat, m = ms N j q ∧ Past i (k + 1) j q := fun m hm => by
    rcases List.mem_append.1 hm with hm | hm
    · obtain ⟨j, q, e, hp⟩ := h.only m hm
      exact ⟨j, q, e, hless j q hp⟩
    · exact ⟨i, k, List.mem_singleton.1 hm, .inr ⟨rfl, by omega⟩⟩
  constructor
  · intro hs
    have hv := ms_val (N := N) (c := i) (j := k) (by omega) hi (by omega)
    obtain ⟨p1, p2, p3, p4, p5⟩ := h.inv.put2 (ms N i k) hv (fun x hx e => by
      obtain ⟨j, q, _, _, rfl, hp⟩ := h.put x hx
      have := key_ms e
      unfold Past at hp
      omega) (by rw [h.roomH]; have := h.fewH; omega)
    refine ⟨X ++ [ms N i k], h.sites, h.room, hfew, hkept, honly, p1, p2, by rw [p4]; exact h.roomH, by have := h.fewH; omega, fun m hm => ?_, fun j q hj hq hp => ?_⟩
    · rcases List.mem_append.1 hm with hm | hm
      · obtain ⟨j, q, h1, h2, e, hp⟩ := h.put m hm
        exact ⟨j, q, h1, h2, e, hless j q hp⟩
      · exact ⟨i, k, hi, hs, List.mem_singleton.1 hm, .inr ⟨rfl, by omega⟩⟩
    · rcases hmore j q hp with hp | ⟨rfl, rfl⟩
      · exact List.mem_append.2 (.inl (h.all j q hj hq hp))
      · simp
  · intro hs
    refine ⟨h.sites, h.room, hfew, hkept, honly, h.inv, h.quiet, h.roomH, by have := h.fewH; omega, fun m hm => ?_, fun j q hj hq hp => ?_⟩
    · obtain ⟨j, q, h1, h2, e, hp⟩ := h.put m hm
      exact ⟨j, q, h1, h2, e, hless j q hp⟩
    · rcases hmore j q hp with hp | ⟨rfl, rfl⟩
      · exact h.all j q hj hq hp
      · exact absurd hq hs
theorem Made.turn {N : Nat} {cs ss : List Int} {i k : Nat} {st : Resend.St} {sh : St} {X : List Mesg.Msg} (h : Made N cs ss i k st sh X) (hk : k ≤ 20) (hc : cs.getD i 0 = (k : Int)) (hs : ss.getD i 0 ≤ (k : Int)) : Made N cs ss (i + 1) 0 st sh X := by
  have hless : ∀ j q : Nat, Past i k j q → Past (i + 1) 0 j q := fun j q hp => by unfold Past at *; omega
  refine ⟨h.sites, h.room, by have := h.few; omega, fun j q hj hq hp => h.kept j q hj hq ?_, fun m hm => ?_, h.inv, h.quiet, h.roomH, by have := h.fewH; omega, fun m hm => ?_, fun j q hj hq hp => h.all j q hj hq ?_⟩
  · unfold Past at *
    by_cases e : j = i
    · subst e; omega
    · omega
  · obtain ⟨j, q, e, hp⟩ := h.only m hm
    exact ⟨j, q, e, hless j q hp⟩
  · obtain ⟨j, q, h1, h2, e, hp⟩ := h.put m hm
    exact ⟨j, q, h1, h2, e, hless j q hp⟩
  · unfold Past at *
    by_cases e : j = i
    · subst e; omega
    · omega
theorem Made.full {N : Nat} {cs ss : List Int} {st : Resend.St} {sh : St} {X : List Mesg.Msg} (h : Made N cs ss N 0 st sh X) : Full N ss X := ⟨fun m hm => by
  obtain ⟨j, q, h1, h2, e, _⟩ := h.put m hm
  exact ⟨j, q, h1, h2, e⟩, fun j q hj hq => h.all j q hj hq (.inl hj)⟩

/-- What is asked for. -/
theorem asks_mem {cs ss : List Int} (h0 : ∀ i, 0 ≤ ss.getD i 0) : ∀ {K : Nat} {a : Int × Int}, a ∈ Resend.asksUp ss cs K ↔ ∃ i q : Nat, i < K ∧ a = ((i : Int), (q : Int) + 1) ∧ ss.getD i 0 ≤ (q : Int) ∧ (q : Int) < cs.getD i 0
  | 0, a => by
    constructor
    · intro h; simp [Resend.asksUp] at h
    · rintro ⟨i, q, h, _⟩; omega
  | K + 1, a => by
    unfold Resend.asksUp
    rw [List.mem_append, asks_mem h0]
    constructor
    · rintro (⟨i, q, h1, h2, h3, h4⟩ | h)
      · exact ⟨i, q, by omega, h2, h3, h4⟩
      · unfold Resend.asksOf at h
        obtain ⟨t, ht, rfl⟩ := List.mem_map.1 h
        have ht := List.mem_range.1 ht
        have := h0 K
        refine ⟨K, (ss.getD K 0).toNat + t, by omega, ?_, by omega, by omega⟩
        congr 1
        omega
    · rintro ⟨i, q, h1, h2, h3, h4⟩
      by_cases e : i = K
      · subst e
        right
        unfold Resend.asksOf
        refine List.mem_map.2 ⟨(q - ss.getD i 0).toNat, List.mem_range.2 (by omega), ?_⟩
        rw [h2]
        congr 1
        omega
      · exact .inl ⟨i, q, by omega, h2, h3, h4⟩
theorem asks_nodup {cs ss : List Int} (h0 : ∀ i, 0 ≤ ss.getD i 0) : ∀ (K : Nat), (Resend.asksUp ss cs K).Pairwise fun a b => a ≠ b
  | 0 => .nil
  | K + 1 => by
    unfold Resend.asksUp
    refine List.pairwise_append.2 ⟨asks_nodup h0 K, ?_, fun a ha b hb e => ?_⟩
    · unfold Resend.asksOf
      rw [List.pairwise_map]
      refine List.pairwise_lt_range.imp (fun {a b} hab e => ?_)
      injection e with _ e
      omega
    · subst e
      obtain ⟨i, q, h1, rfl, _⟩ := (asks_mem h0).1 ha
      unfold Resend.asksOf at hb
      obtain ⟨t, _, e⟩ := List.mem_map.1 hb
      injection e with e _
      omega
theorem asks_len {cs ss : List Int} (h : ∀ i, 0 ≤ ss.getD i 0 ∧ cs.getD i 0 ≤ 20) : ∀ (K : Nat), (Resend.asksUp ss cs K).length ≤ 20 * K
  | 0 => by simp [Resend.asksUp]
  | K + 1 => by
    unfold Resend.asksUp
    rw [List.length_append, Resend.asksOf_len]
    have := asks_len h K
    have := h K
    omega
def toMs (N : Nat) (a : Int × Int) : Mesg.Msg := ms N a.1.toNat (a.2 - 1).toNat
theorem toMs_at (N i q : Nat) : toMs N ((i : Int), (q : Int) + 1) = ms N i q := by
  unfold toMs
  congr 1
  show ((q : Int) + 1 - 1).toNat = q
  omega
/-- The hold behind t of what is asked for, from its end on; u is what it has told. -/
structure Raised (N : Nat) (X : List Mesg.Msg) (L : List (Int × Int)) (t u : Nat) (sh : St) : Prop where
  inv : Inv N (X ++ (L.reverse.take t).map (toMs N)) sh
  quiet : Quiet sh
  room : sh.room = 100
  few : sh.l.length ≤ t
  told : u + sh.l.length = t
theorem Raised.step {N : Nat} {X : List Mesg.Msg} {ss cs : List Int} {t u : Nat} {sh : St} (hN : 1 ≤ N ∧ N ≤ 4) (hX : Full N ss X) (h0 : ∀ i, 0 ≤ ss.getD i 0 ∧ cs.getD i 0 ≤ 20) (h : Raised N X (Resend.asksUp ss cs N) t u sh) {r : Nat} (hr : r < (Resend.asksUp ss cs N).length) (e : r = (Resend.asksUp ss cs N).length - 1 - t) (ht : t < (Resend.asksUp ss cs N).length) :
    Raised N X (Resend.asksUp ss cs N) (t + 1) (u + (Hold.put sh (toMs N (Resend.asksUp ss cs N)[r])).1.length) (Hold.put sh (toMs N (Resend.asksUp ss cs N)[r])).2.2 := by
  have hlen := asks_len h0 N
  have hnd := asks_nodup (cs := cs) (fun i => (h0 i).1) N
  have hmem := fun a => asks_mem (cs := cs) (fun i => (h0 i).1) (K := N) (a := a)
  generalize Resend.asksUp ss cs N = L at *
  have htk : L.reverse.take (t + 1) = L.reverse.take t ++ [L[r]] := by
    rw [List.take_succ_eq_append_getElem (by simpa using ht)]
    congr 2
    rw [List.getElem_reverse]
    congr 1
    omega
  obtain ⟨i, q, hi, hq, hq1, hq2⟩ := (hmem L[r]).1 (List.getElem_mem hr)
  have hb := h0 i
  have hv := ms_val (N := N) (c := i) (j := q) (by omega) hi (by omega)
  have hnew : ∀ x ∈ X ++ (L.reverse.take t).map (toMs N), key x ≠ key (ms N i q) := fun x hx ek => by
    rcases List.mem_append.1 hx with hx | hx
    · obtain ⟨j, q', _, h2, rfl⟩ := hX.1 x hx
      obtain ⟨rfl, rfl⟩ := key_ms ek
      omega
    · obtain ⟨a, ha, rfl⟩ := List.mem_map.1 hx
      have haL : a ∈ L := by simpa using List.mem_of_mem_take ha
      obtain ⟨j, q', _, e', _⟩ := (hmem a).1 haL
      rw [e', toMs_at] at ek
      obtain ⟨rfl, rfl⟩ := key_ms ek
      rw [← hq] at e'
      have hrev : (L.reverse.take (t + 1)).Pairwise fun a b => a ≠ b := (List.pairwise_reverse.2 (hnd.imp (fun h e => h e.symm))).sublist (List.take_sublist _ _)
      rw [htk] at hrev
      exact (List.pairwise_append.1 hrev).2.2 a ha L[r] (by simp) e'
  have hto : toMs N L[r] = ms N i q := by rw [hq, toMs_at]
  rw [hto]
  obtain ⟨p1, p2, p3, p4, p5⟩ := h.inv.put2 (ms N i q) hv hnew (by rw [h.room]; have := h.few; omega)
  refine ⟨?_, p2, by rw [p4]; exact h.room, by have := h.few; omega, by have := h.told; omega⟩
  rw [htk, List.map_append, List.map_singleton, hto, ← List.append_assoc]
  exact p1
/-- At the end all has been told. -/
theorem Raised.done {N : Nat} {X : List Mesg.Msg} {ss cs : List Int} {u : Nat} {sh : St} (hN : 1 ≤ N ∧ N ≤ 4) (hcl : cs.length = N) (hX : Full N ss X) (h0 : ∀ i, 0 ≤ ss.getD i 0 ∧ cs.getD i 0 ≤ 20 ∧ ss.getD i 0 ≤ cs.getD i 0) (h : Raised N X (Resend.asksUp ss cs N) (Resend.asksUp ss cs N).length u sh) : sh.clock = cs ∧ sh.l = [] ∧ u = (Resend.asksUp ss cs N).length := by
  have hmem := fun a => asks_mem (cs := cs) (fun i => (h0 i).1) (K := N) (a := a)
  have hinv := h.inv
  rw [List.take_of_length_le (by simp)] at hinv
  have hF : Full N cs (X ++ (Resend.asksUp ss cs N).reverse.map (toMs N)) := by
    refine ⟨fun m hm => ?_, fun i j hi hj => ?_⟩
    · rcases List.mem_append.1 hm with hm | hm
      · obtain ⟨j, q, h1, h2, e⟩ := hX.1 m hm
        exact ⟨j, q, h1, by have := h0 j; omega, e⟩
      · obtain ⟨a, ha, rfl⟩ := List.mem_map.1 hm
        obtain ⟨i, q, h1, rfl, h3, h4⟩ := (hmem a).1 (by simpa using ha)
        exact ⟨i, q, h1, h4, toMs_at N i q⟩
    · by_cases e : (j : Int) < ss.getD i 0
      · exact List.mem_append.2 (.inl (hX.2 i j hi e))
      · exact List.mem_append.2 (.inr (List.mem_map.2 ⟨((i : Int), (j : Int) + 1), by simpa using (hmem _).2 ⟨i, j, hi, rfl, by omega, hj⟩, toMs_at N i j⟩))
  obtain ⟨h1, h2⟩ := hF.done (by omega) hcl (fun i => by have := h0 i; omega) hinv h.quiet
  refine ⟨h1, h2, ?_⟩
  have := h.told
  rw [h2] at this
  simpa using this
/-- What is asked for is kept. -/
theorem Made.get {N : Nat} {cs ss : List Int} {st : Resend.St} {sh : St} {X : List Mesg.Msg} (h : Made N cs ss N 0 st sh X) (h0 : ∀ i, 0 ≤ ss.getD i 0) {a : Int × Int} (ha : a ∈ Resend.asksUp ss cs N) : Resend.get st a = (toMs N a, true) := by
  obtain ⟨i, q, h1, rfl, h3, h4⟩ := (asks_mem h0).1 ha
  unfold Resend.get
  rw [h.kept i q h1 h4 (.inl h1), toMs_at]
end Hold
