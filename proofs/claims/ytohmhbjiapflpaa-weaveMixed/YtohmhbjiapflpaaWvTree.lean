/- A line's elements as a tree: plain facts on their order. -/
import Derived.Test.YtohmhbjiapflpaaWvPut
namespace Go.Proofs.Ytohmhbjiapflpaa
set_option linter.unusedVariables false
namespace Weave

theorem flat_congr {α β : Type} {f g : α → List β} : ∀ {l : List α}, (∀ x ∈ l, f x = g x) → l.flatMap f = l.flatMap g
  | [], _ => rfl
  | x :: l, h => by
    rw [List.flatMap_cons, List.flatMap_cons, h x (by simp), flat_congr (l := l) (fun y hy => h y (by simp [hy]))]
theorem nodup_rev {α : Type} {ks : List α} (h : ks.Nodup) : ks.reverse.Nodup := List.pairwise_reverse.2 (h.imp fun h e => h e.symm)
/-- How deep is not asked any more, once it is deep enough. -/
theorem own_deep {L : List Wel} (h : Ok L) : ∀ (n m : Nat) (x : Int × Int), cnt L x ≤ n → cnt L x ≤ m → own L n x = own L m x
  | 0, m, x, hn, hm => by
    have hk := h.none (x := x) (by omega)
    cases m with
    | zero => rfl
    | succ m => simp [own, hk]
  | n + 1, 0, x, hn, hm => by
    have hk := h.none (x := x) (by omega)
    simp [own, hk]
  | n + 1, m + 1, x, hn, hm => by
    simp only [own]
    have e : ∀ k ∈ (kids L x).reverse, (at' L k :: own L n k) = (at' L k :: own L m k) := fun k hk => by
      have := h.cnt_lt (List.mem_reverse.1 hk)
      rw [own_deep h n m k (by omega) (by omega)]
    exact flat_congr e
/-- All that is an element's own, in the order. -/
def Own (L : List Wel) (x : Int × Int) : List Wel := own L (cnt L x) x
theorem Own_eq {L : List Wel} (h : Ok L) (x : Int × Int) : Own L x = (kids L x).reverse.flatMap fun k => at' L k :: Own L k := by
  unfold Own
  rw [own_deep h (cnt L x) (cnt L x + 1) x (Nat.le_refl _) (Nat.le_succ _)]
  simp only [own]
  refine flat_congr fun k hk => ?_
  have := h.cnt_lt (List.mem_reverse.1 hk)
  rw [own_deep h (cnt L x) (cnt L k) k (by omega) (Nat.le_refl _)]
theorem elements_own {L : List Wel} (h : Ok L) : elements L = Own L (0, 0) := own_deep h _ _ _ (cnt_le L _) (Nat.le_refl _)
/-- The order hangs on which elements there are alone. -/
theorem Own_same {L M : List Wel} (h : Ok L) (k : Ok M) (hs : ∀ e, e ∈ L ↔ e ∈ M) : ∀ (n : Nat) (x : Int × Int), cnt L x ≤ n → Own L x = Own M x := by
  intro n
  have hk : ∀ x, kids L x = kids M x := fun x => by
    refine Idn.same (kids_spec h.apart x).1 (kids_spec k.apart x).1 fun y => ?_
    rw [(kids_spec h.apart x).2 y, (kids_spec k.apart x).2 y]
    constructor
    · rintro ⟨e, he, p⟩; exact ⟨e, (hs e).1 he, p⟩
    · rintro ⟨e, he, p⟩; exact ⟨e, (hs e).2 he, p⟩
  have ha : ∀ x c, c ∈ kids L x → at' L c = at' M c := fun x c hc => by
    obtain ⟨e, he, _, rfl⟩ := ((kids_spec h.apart x).2 c).1 hc
    rw [Ok.at_eq h.apart he, Ok.at_eq k.apart ((hs e).1 he)]
  induction n with
  | zero =>
    intro x hx
    rw [Own_eq h, Own_eq k, ← hk x, h.none (x := x) (by omega)]
    rfl
  | succ n ih =>
    intro x hx
    rw [Own_eq h, Own_eq k, ← hk x]
    refine flat_congr fun c hc => ?_
    have hc := List.mem_reverse.1 hc
    have := h.cnt_lt hc
    rw [ha x c hc, ih c (by omega)]
theorem elements_same {L M : List Wel} (h : Ok L) (k : Ok M) (hs : ∀ e, e ∈ L ↔ e ∈ M) : elements L = elements M := by
  rw [elements_own h, elements_own k]
  exact Own_same h k hs _ _ (Nat.le_refl _)

/-- b is a, or what a is behind, and so on. -/
inductive Up (L : List Wel) : (Int × Int) → (Int × Int) → Prop
  | refl (a : Int × Int) : Up L a a
  | step {d : Wel} {b : Int × Int} (hd : d ∈ L) (h : Up L d.ref b) : Up L d.id b
theorem Ok.ref_lt {L : List Wel} (h : Ok L) {d : Wel} (hd : d ∈ L) : d.ref.1 < d.id.1 := by
  have hm := of_decide_eq_true (h.may d hd)
  rcases h.ref d hd with h0 | ⟨_, h1, _⟩
  · rw [h0]; show (0 : Int) < _; omega
  · exact h1
theorem Up.time {L : List Wel} (h : Ok L) {a b : Int × Int} (u : Up L a b) : a = b ∨ b.1 < a.1 := by
  induction u with
  | refl a => exact .inl rfl
  | step hd _ ih =>
    have := h.ref_lt hd
    rcases ih with e | e
    · exact .inr (by rw [← e]; exact this)
    · exact .inr (by omega)
theorem ids_eq {L : List Wel} (h : L.Pairwise (fun a b => a.id ≠ b.id)) {d e : Wel} (hd : d ∈ L) (he : e ∈ L) (hi : d.id = e.id) : d = e := by
  rw [← Ok.at_eq h hd, ← Ok.at_eq h he, hi]
theorem Up.lin {L : List Wel} (h : Ok L) {a b c : Int × Int} (u : Up L a b) (v : Up L a c) : Up L b c ∨ Up L c b := by
  induction u with
  | refl a => exact .inl v
  | @step d b hd hu ih =>
    generalize hx : d.id = x at v
    cases v with
    | refl => exact .inr (by rw [← hx]; exact .step hd hu)
    | @step d' _ hd' hv =>
      have := ids_eq h.apart hd hd' hx
      subst this
      exact ih hv
theorem Up.kid {L : List Wel} {a : Int × Int} {d : Wel} (hd : d ∈ L) (u : Up L a d.id) : Up L a d.ref := by
  generalize hx : d.id = x at u
  induction u with
  | refl a => rw [← hx]; exact .step hd (.refl _)
  | step hd' _ ih => exact .step hd' (ih hx)
/-- Some other kid's own has nothing to do with it. -/
theorem Up.one {L : List Wel} (h : Ok L) {a : Int × Int} {d e : Wel} (hd : d ∈ L) (he : e ∈ L) (hr : d.ref = e.ref) (u : Up L a d.id) (v : Up L a e.id) : d = e := by
  have key : ∀ {d e : Wel}, d ∈ L → e ∈ L → d.ref = e.ref → Up L d.id e.id → d = e := fun {d e} hd he hr w => by
    generalize hx : d.id = x at w
    generalize hy : e.id = y at w
    cases w with
    | refl => exact ids_eq h.apart hd he (by rw [hx, hy])
    | @step d' _ hd' hw =>
      have := ids_eq h.apart hd hd' hx
      subst this
      have h1 := hw.time h
      have h2 := h.ref_lt he
      rw [← hy, hr] at h1
      rcases h1 with h1 | h1
      · rw [← h1] at h2; omega
      · omega
  rcases u.lin h v with w | w
  · exact key hd he hr w
  · exact (key he hd hr.symm w).symm

section
variable {L : List Wel} {e : Wel} (h : Ok L) (h' : Ok (L ++ [e]))
include h h'
omit h in
theorem new_id : ∀ d ∈ L, d.id ≠ e.id := fun d hd => (List.pairwise_append.1 h'.apart).2.2 d hd e (by simp)
theorem at_snoc {k : Int × Int} (hk : ∃ d ∈ L, d.id = k) : at' (L ++ [e]) k = at' L k := by
  obtain ⟨d, hd, rfl⟩ := hk
  rw [Ok.at_eq h.apart hd, Ok.at_eq h'.apart (List.mem_append_left _ hd)]
omit h' in
theorem kid_mem {x k : Int × Int} (hk : k ∈ kids L x) : ∃ d ∈ L, d.ref = x ∧ d.id = k := ((kids_spec h.apart x).2 k).1 hk
/-- Nothing turns where the new one is not. -/
theorem own_far : ∀ (n : Nat) (y : Int × Int), cnt L y ≤ n → ¬ Up L e.ref y → Own (L ++ [e]) y = Own L y := by
  intro n
  induction n with
  | zero =>
    intro y hy hu
    have hne : e.ref ≠ y := fun q => hu (by rw [q]; exact .refl y)
    rw [Own_eq h', Own_eq h, kids_snoc, if_neg hne, h.none (x := y) (by omega)]
    rfl
  | succ n ih =>
    intro y hy hu
    have hne : e.ref ≠ y := fun q => hu (by rw [q]; exact .refl y)
    rw [Own_eq h', Own_eq h, kids_snoc, if_neg hne]
    refine flat_congr fun c hc => ?_
    have hc := List.mem_reverse.1 hc
    have hlt := h.cnt_lt hc
    obtain ⟨d, hd, hr, rfl⟩ := kid_mem h hc
    rw [at_snoc h h' ⟨d, hd, rfl⟩, ih d.id (by omega) (fun u => hu (by rw [← hr]; exact u.kid hd))]
theorem own_new : Own (L ++ [e]) e.id = [] := by
  have hk : kids (L ++ [e]) e.id = [] := by
    cases hkk : kids (L ++ [e]) e.id with
    | nil => rfl
    | cons k ks =>
      exfalso
      obtain ⟨d, hd, hr, _⟩ := ((kids_spec h'.apart e.id).2 k).1 (by rw [hkk]; simp)
      rcases List.mem_append.1 hd with hd | hd
      · rcases h.ref d hd with q | ⟨_, _, c, hc, q⟩
        · have := of_decide_eq_true (h'.may e (by simp))
          rw [← hr, q] at this
          exact absurd this.1 (by decide)
        · exact new_id h' c hc (by rw [q, hr])
      · rw [List.mem_singleton.1 hd] at hr
        have := h'.ref_lt (d := e) (by simp)
        rw [hr] at this
        omega
  rw [Own_eq h', hk]
  rfl
omit h h' in
theorem Up.last {a y : Int × Int} (u : Up L a y) : a ≠ y → ∃ c ∈ L, c.ref = y ∧ Up L a c.id := by
  induction u with
  | refl => exact fun q => absurd rfl q
  | @step d b hd hu ih =>
    intro _
    by_cases q : d.ref = b
    · exact ⟨d, hd, q, .refl _⟩
    · obtain ⟨c, hc, hr, hu'⟩ := ih q
      exact ⟨c, hc, hr, .step hd hu'⟩
omit h h' in
theorem nodup_lt {ks : List (Int × Int)} (hs : ks.Pairwise fun a b => Idn.lt a b = true) : ks.Nodup := by
  refine hs.imp fun {a b} hab e => ?_
  rw [e, Idn.lt_irrefl] at hab
  cases hab
/-- The new one stands among what was there; this stays in its order. -/
theorem own_near (y : Int × Int) (hu : Up L e.ref y) : ∃ A B, Own L y = A ++ B ∧ Own (L ++ [e]) y = A ++ e :: B := by
  induction hn : cnt L y using Nat.strongRecOn generalizing y with
  | _ n ih =>
    by_cases hey : e.ref = y
    · have hf : ∀ k ∈ kids L y, (at' (L ++ [e]) k :: Own (L ++ [e]) k) = (at' L k :: Own L k) := fun k hk => by
        obtain ⟨d, hd, hr, rfl⟩ := kid_mem h hk
        rw [at_snoc h h' ⟨d, hd, rfl⟩, own_far h h' _ _ (Nat.le_refl _) (fun u => ?_)]
        have h1 := u.time h
        have h2 := h.ref_lt hd
        rw [hey, ← hr] at h1
        rcases h1 with h1 | h1
        · rw [h1] at h2; omega
        · omega
      generalize hr : Idn.rank (kids L y) e.id = r
      have hks : kids L y = (kids L y).take r ++ (kids L y).drop r := (List.take_append_drop _ _).symm
      refine ⟨((kids L y).drop r).reverse.flatMap (fun k => at' L k :: Own L k), ((kids L y).take r).reverse.flatMap (fun k => at' L k :: Own L k), ?_, ?_⟩
      · rw [Own_eq h]
        conv => lhs; rw [hks]
        rw [List.reverse_append, List.flatMap_append]
      · rw [Own_eq h', kids_snoc, if_pos hey]
        unfold ins
        rw [hr, List.reverse_append, List.reverse_cons, List.append_assoc, List.flatMap_append, List.flatMap_append]
        have e1 : [e.id].flatMap (fun k => at' (L ++ [e]) k :: Own (L ++ [e]) k) = [e] := by
          simp only [List.flatMap_cons, List.flatMap_nil, List.append_nil]
          rw [own_new h h', Ok.at_eq h'.apart (by simp : e ∈ L ++ [e])]
        rw [e1]
        have e2 : ∀ zs : List (Int × Int), (∀ z ∈ zs, z ∈ kids L y) → zs.reverse.flatMap (fun k => at' (L ++ [e]) k :: Own (L ++ [e]) k) = zs.reverse.flatMap (fun k => at' L k :: Own L k) := fun zs hz => flat_congr fun z hzz => hf z (hz z (List.mem_reverse.1 hzz))
        rw [e2 _ (fun z hz => List.mem_of_mem_drop hz), e2 _ (fun z hz => List.mem_of_mem_take hz)]
        rfl
    · obtain ⟨c, hc, hr, huc⟩ := hu.last hey
      have hck : c.id ∈ kids L y := ((kids_spec h.apart y).2 c.id).2 ⟨c, hc, hr, rfl⟩
      obtain ⟨A, B, h1, h2⟩ := ih (cnt L c.id) (by rw [← hn]; exact h.cnt_lt hck) c.id huc rfl
      obtain ⟨P, S, hps⟩ := List.append_of_mem (List.mem_reverse.2 hck)
      have hnd : (P ++ c.id :: S).Nodup := by
        rw [← hps]
        exact nodup_rev (nodup_lt (kids_spec h.apart y).1)
      have hmem : ∀ z, z ∈ P ∨ z ∈ S → z ∈ kids L y ∧ z ≠ c.id := fun z hz => by
        refine ⟨List.mem_reverse.1 (by rw [hps]; rcases hz with q | q <;> simp [q]), fun q => ?_⟩
        subst q
        rw [List.nodup_append] at hnd
        rcases hz with q | q
        · exact hnd.2.2 _ q _ (by simp) rfl
        · exact (List.nodup_cons.1 hnd.2.1).1 q
      have hf : ∀ z, z ∈ P ∨ z ∈ S → (at' (L ++ [e]) z :: Own (L ++ [e]) z) = (at' L z :: Own L z) := fun z hz => by
        obtain ⟨hzk, hzc⟩ := hmem z hz
        obtain ⟨d, hd, hdr, rfl⟩ := kid_mem h hzk
        rw [at_snoc h h' ⟨d, hd, rfl⟩, own_far h h' _ _ (Nat.le_refl _) (fun u => hzc (by rw [Up.one h hd hc (hdr.trans hr.symm) u huc]))]
      refine ⟨P.flatMap (fun k => at' L k :: Own L k) ++ (c :: A), B ++ S.flatMap (fun k => at' L k :: Own L k), ?_, ?_⟩
      · rw [Own_eq h, hps, List.flatMap_append, List.flatMap_cons, h1, Ok.at_eq h.apart hc]
        simp
      · rw [Own_eq h', kids_snoc, if_neg hey, hps, List.flatMap_append, List.flatMap_cons, h2, Ok.at_eq h'.apart (List.mem_append_left _ hc), flat_congr (fun z hz => hf z (.inl hz)), flat_congr (fun z hz => hf z (.inr hz))]
        simp
omit h' in
theorem Up.root {a : Int × Int} (ha : a = (0, 0) ∨ ∃ d ∈ L, d.id = a) : Up L a (0, 0) := by
  have key : ∀ (n : Nat) (a : Int × Int), a.1.toNat ≤ n → (a = (0, 0) ∨ ∃ d ∈ L, d.id = a) → Up L a (0, 0) := by
    intro n
    induction n with
    | zero =>
      intro a hn ha
      rcases ha with rfl | ⟨d, hd, rfl⟩
      · exact .refl _
      · have := of_decide_eq_true (h.may d hd)
        have h1 := this.1
        omega
    | succ n ih =>
      intro a hn ha
      rcases ha with rfl | ⟨d, hd, rfl⟩
      · exact .refl _
      · refine .step hd (ih d.ref ?_ ?_)
        · have := h.ref_lt hd
          have h1 := (of_decide_eq_true (h.may d hd)).1
          omega
        · rcases h.ref d hd with q | ⟨_, _, c, hc, q⟩
          · exact .inl q
          · exact .inr ⟨c, hc, q⟩
  exact key _ a (Nat.le_refl _) ha
omit h in
theorem ref_there : e.ref = (0, 0) ∨ ∃ d ∈ L, d.id = e.ref := by
  rcases h'.ref e (by simp) with q | ⟨_, hlt, c, hc, q⟩
  · exact .inl q
  · rcases List.mem_append.1 hc with hc | hc
    · exact .inr ⟨c, hc, q⟩
    · rw [List.mem_singleton.1 hc] at q
      rw [q] at hlt
      omega
theorem elements_snoc : ∃ A B, elements L = A ++ B ∧ elements (L ++ [e]) = A ++ e :: B := by
  rw [elements_own h, elements_own h']
  exact own_near h h' (0, 0) (Up.root h (ref_there h'))
end
end Weave
end Go.Proofs.Ytohmhbjiapflpaa
