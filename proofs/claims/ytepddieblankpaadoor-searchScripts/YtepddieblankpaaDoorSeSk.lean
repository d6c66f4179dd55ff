/- A search that a call holds: its query as runes, its place; each of its calls. -/
import Derived.Test.YtepddieblankpaaDoorSeHas
namespace Srch
open Go
/-- From where one looks. -/
def upTo (ts : List ByteArray) (o : Option Nat) : Nat := match o with | some x => x + 1 | none => ts.length
def typeTo (ts : List ByteArray) (q : List Int) (o : Option Nat) (r : Int) : Bool × List Int × Option Nat :=
  if Mesg.rune r && decide (q.length < 200) then ((lastFit ts (Ut.text (q ++ [r])) (upTo ts o)).isSome, q ++ [r], lastFit ts (Ut.text (q ++ [r])) (upTo ts o)) else (false, q, o)
/-- Where one stands, having rubbed out. -/
def rubPl (ts : List ByteArray) (q : List Int) : Option Nat := if q = [] then none else lastFit ts (Ut.text q) ts.length
def rubTo (ts : List ByteArray) (q : List Int) (o : Option Nat) : Bool × List Int × Option Nat :=
  if q = [] then (false, q, o) else ((rubPl ts q.dropLast).isSome, q.dropLast, rubPl ts q.dropLast)
def stays (o n : Option Nat) : Option Nat := match n with | some y => some y | none => o
def backTo (ts : List ByteArray) (q : List Int) (o : Option Nat) : Bool × List Int × Option Nat :=
  match o with | none => (false, q, none) | some x => ((lastFit ts (Ut.text q) x).isSome, q, stays o (lastFit ts (Ut.text q) x))
def onTo (ts : List ByteArray) (q : List Int) (o : Option Nat) : Bool × List Int × Option Nat :=
  match o with | none => (false, q, none) | some x => ((nextFit ts (Ut.text q) (x + 1)).isSome, q, stays o (nextFit ts (Ut.text q) (x + 1)))
/-- One step of a script. -/
def step (ts : List ByteArray) (d r : Int) (q : List Int) (o : Option Nat) : Bool × List Int × Option Nat :=
  if d = 0 then typeTo ts q o r else if d = 1 then rubTo ts q o else if d = 2 then backTo ts q o else onTo ts q o

theorem lastFit_succ (ts : List ByteArray) (q : ByteArray) (k : Nat) : lastFit ts q (k + 1) = if fits q (ts.getD k ByteArray.empty) then some k else lastFit ts q k := by
  unfold lastFit places
  rw [List.range_succ, List.reverse_append, List.reverse_singleton, List.singleton_append, List.filter_cons]
  split <;> rfl
theorem lastFit_zero (ts : List ByteArray) (q : ByteArray) : lastFit ts q 0 = none := rfl
theorem lastFit_some {ts : List ByteArray} {q : ByteArray} : ∀ {k x : Nat}, lastFit ts q k = some x → x < k ∧ fits q (ts.getD x ByteArray.empty) = true ∧ ∀ j, x < j → j < k → fits q (ts.getD j ByteArray.empty) = false
  | 0, x, h => by cases h
  | k + 1, x, h => by
    rw [lastFit_succ] at h
    by_cases hf : fits q (ts.getD k ByteArray.empty) = true
    · rw [if_pos hf] at h
      cases h
      exact ⟨by omega, hf, fun j h1 h2 => by omega⟩
    · rw [if_neg hf] at h
      obtain ⟨h1, h2, h3⟩ := lastFit_some h
      refine ⟨by omega, h2, fun j g1 g2 => ?_⟩
      by_cases e : j = k
      · subst e; simpa using hf
      · exact h3 j g1 (by omega)
theorem lastFit_none {ts : List ByteArray} {q : ByteArray} : ∀ {k : Nat}, lastFit ts q k = none → ∀ j, j < k → fits q (ts.getD j ByteArray.empty) = false
  | 0, h, j, hj => by omega
  | k + 1, h, j, hj => by
    rw [lastFit_succ] at h
    by_cases hf : fits q (ts.getD k ByteArray.empty) = true
    · rw [if_pos hf] at h; cases h
    · rw [if_neg hf] at h
      by_cases e : j = k
      · subst e; simpa using hf
      · exact lastFit_none h j (by omega)
theorem lastFit_of {ts : List ByteArray} {q : ByteArray} {k x : Nat} (h1 : x < k) (h2 : fits q (ts.getD x ByteArray.empty) = true) (h3 : ∀ j, x < j → j < k → fits q (ts.getD j ByteArray.empty) = false) : lastFit ts q k = some x := by
  cases e : lastFit ts q k with
  | none => rw [lastFit_none e x h1] at h2; cases h2
  | some y =>
    obtain ⟨g1, g2, g3⟩ := lastFit_some e
    rcases Nat.lt_trichotomy x y with h | h | h
    · rw [h3 y h g1] at g2; cases g2
    · rw [h]
    · rw [g3 x h h1] at h2; cases h2
theorem nextFit_here {ts : List ByteArray} {q : ByteArray} {k : Nat} (h : k < ts.length) : nextFit ts q k = if fits q (ts.getD k ByteArray.empty) then some k else nextFit ts q (k + 1) := by
  unfold nextFit places
  obtain ⟨m, hm⟩ : ∃ m, ts.length - k = m + 1 := ⟨ts.length - k - 1, by omega⟩
  rw [hm, show ts.length - (k + 1) = m from by omega, List.range'_succ, List.filter_cons]
  split <;> rfl
theorem nextFit_past {ts : List ByteArray} {q : ByteArray} {k : Nat} (h : ts.length ≤ k) : nextFit ts q k = none := by
  unfold nextFit places
  rw [show ts.length - k = 0 from by omega]
  rfl
theorem nextFit_of {ts : List ByteArray} {q : ByteArray} {x : Nat} (hx : x < ts.length) (h2 : fits q (ts.getD x ByteArray.empty) = true) : ∀ {m k : Nat}, x = k + m → (∀ j, k ≤ j → j < x → fits q (ts.getD j ByteArray.empty) = false) → nextFit ts q k = some x
  | 0, k, e, h3 => by
    rw [Nat.add_zero] at e
    subst e
    first | rw [nextFit_here hx, if_pos h2] | rw [Nat.add_zero, nextFit_here hx, if_pos h2]
  | m + 1, k, e, h3 => by
    rw [nextFit_here (by omega), if_neg (by rw [h3 k (Nat.le_refl _) (by omega)]; simp)]
    exact nextFit_of hx h2 (m := m) (by omega) (fun j h1 h2 => h3 j (by omega) h2)
/-- Back, then on again: where it was. -/
theorem back_on {ts : List ByteArray} {q : ByteArray} {x y : Nat} (hx : x < ts.length) (h2 : fits q (ts.getD x ByteArray.empty) = true) (h : lastFit ts q x = some y) : nextFit ts q (y + 1) = some x := by
  obtain ⟨h1, _, h3⟩ := lastFit_some h
  exact nextFit_of hx h2 (m := x - (y + 1)) (by omega) (fun j g1 g2 => h3 j (by omega) g2)
end Srch
namespace Go.Proofs.YtepddieblankpaaDoor
open Go.RowKit Go.Shelf
attribute [local go_sem] Oper.semAt_some
set_option linter.unusedVariables false

/-- A search, made since w, at p. -/
structure Sk (w wr : World) (p : Nat) (v : Value) (ts : List ByteArray) (q : List Int) (o : Option Nat) : Prop where
  sea : Sea wr p v ts (Ut.text q) (Srch.placeOf 0 o) o.isSome
  ok : ∀ r ∈ q, ∃ n : Nat, r = n ∧ Ut.Ok n
  len : q.length ≤ 200
  at' : ∀ x, o = some x → x < ts.length ∧ Srch.fits (Ut.text q) (ts.getD x ByteArray.empty) = true
  low : w.heap.size ≤ p
  far : ∀ g, v.ownBlock = some g → w.heap.size ≤ g
  bel : Below w.heap.size w wr
  kit : Kit w
  vlt : ∀ g, v.ownBlock = some g → g < wr.heap.size
/-- A step's end. -/
def SkStep (w : World) (p : Nat) (v : Value) (ts : List ByteArray) (wr : World) (x : Bool × List Int × Option Nat) (e : Ending) (w' : World) : Prop :=
  e = .returned (.bool x.1) ∧ Sk w w' p v ts x.2.1 x.2.2 ∧ Keep (Just p) wr w'
section
variable {w wr w' : World} {p : Nat} {v : Value} {ts : List ByteArray} {q : List Int} {o : Option Nat}
theorem Sk.below (h : Sk w wr p v ts q o) (hb : Below wr.heap.size wr w') : Sk w w' p v ts q o :=
  ⟨h.sea.below hb, h.ok, h.len, h.at', h.low, h.far, grew h.bel hb, h.kit, fun g hg => Nat.lt_of_lt_of_le (h.vlt g hg) hb.size⟩
theorem Sk.keep {S : Nat → Prop} (h : Sk w wr p v ts q o) (hk : Keep S wr w') (h1 : ¬ S p) (h2 : ∀ g, v.ownBlock = some g → ¬ S g) (h3 : ∀ i, S i → w.heap.size ≤ i) : Sk w w' p v ts q o :=
  ⟨h.sea.keep hk h1 h2 (fun e => by have := h3 _ e; have := h.kit.lt.1; omega), h.ok, h.len, h.at', h.low, h.far, h.bel.trans (hk.below h.bel.size h3), h.kit, fun g hg => Nat.lt_of_lt_of_le (h.vlt g hg) hk.size⟩
theorem Sk.move (h : Sk w wr p v ts q o) (hk : Keep (Just p) wr w') : Below w.heap.size w w' := h.bel.trans (hk.below h.bel.size (fun i e => by have e' : i = p := e; rw [e']; exact h.low))
theorem sk_New (v : Value) (ts : List ByteArray) (w : World) (hv : SliceS w v ts) (hn : ts.length ≤ 40) (hs : ∀ t ∈ ts, t.size ≤ 300) (hk : Kit w) :
    Calls Tryd.prog 16 #[v] w fun e w' => ∃ (p : Nat) (v' : Value), e = .returned (.pointer (some ⟨p, 0, none⟩)) ∧ Sk w w' p v' ts [] none :=
  (search_New v ts w hv (by omega) (fun t ht => by have := hs t ht; omega) hk.1).mono fun e w' ⟨p, v', h1, h2, h3, h4, h5⟩ =>
    ⟨p, v', h1, h4, by simp, by simp, fun x hx => (by cases hx), h2, fun g hg => (h3 g hg).1, h5, hk, fun g hg => (h3 g hg).2⟩
theorem sk_Query (h : Sk w wr p v ts q o) : Calls Tryd.prog 27 #[.pointer (some ⟨p, 0, none⟩)] wr fun e w' => e = .returned (.string (Ut.text q)) ∧ wr = w' := search_Query h.sea.box
/-- Where it stands, as Found tells. -/
def foundV (ts : List ByteArray) (o : Option Nat) : Value := .tuple #[.int .i64 (Srch.placeOf 0 o), .string (match o with | some x => ts.getD x ByteArray.empty | none => ⟨#[]⟩), .bool o.isSome]
theorem sk_Found (h : Sk w wr p v ts q o) : Calls Tryd.prog 26 #[.pointer (some ⟨p, 0, none⟩)] wr fun e w' => e = .returned (foundV ts o) ∧ Below wr.heap.size wr w' := by
  cases o with
  | none => exact (search_Found_no h.sea.box).mono fun e w' ⟨h1, h2⟩ => ⟨h1, by subst h2; exact Below.refl _ _⟩
  | some x =>
    have hx := (h.at' x rfl).1
    refine (search_Found_yes (pl := x) h.sea hx).mono fun e w' ⟨h1, h2⟩ => ⟨h1.trans ?_, h2⟩
    unfold foundV
    simp [Srch.placeOf, List.getD, List.getElem?_eq_getElem hx]
theorem lastFit_at {ts : List ByteArray} {q : ByteArray} {k : Nat} (hk : k ≤ ts.length) : ∀ x, Srch.lastFit ts q k = some x → x < ts.length ∧ Srch.fits q (ts.getD x ByteArray.empty) = true := fun x hx => by
  have := Srch.lastFit_lt hx
  exact ⟨by omega, this.2⟩
theorem found_some (o : Option Nat) : Srch.foundOf false o = o.isSome := by cases o <;> rfl
theorem sk_Type (h : Sk w wr p v ts q o) (r : Int) : Calls Tryd.prog 18 #[.pointer (some ⟨p, 0, none⟩), .int .i64 r] wr (SkStep w p v ts wr (Srch.typeTo ts q o r)) := by
  have hsz := Ut.text_size q h.ok
  have hct := Ut.count_text q h.ok
  have hlen := h.len
  unfold Srch.typeTo
  cases hr : Mesg.rune r with
  | false =>
    rw [if_neg (by simp)]
    exact (search_Type_bad hr).mono fun e w' ⟨h1, h2⟩ => ⟨h1, by subst h2; exact h, by subst h2; exact Keep.refl _ _⟩
  | true =>
    by_cases hl : q.length < 200
    · rw [if_pos (by simp [hl])]
      obtain ⟨r1, r2, r3⟩ := rune_range hr
      have hk : Srch.upTo ts o ≤ ts.length := by
        cases o with
        | none => exact Nat.le_refl _
        | some x => exact (h.at' x rfl).1
      refine (search_Type h.sea hr (by omega) (by rw [hct]; exact hl) (k := Srch.upTo ts o) hk ?_).mono fun e w' hs => ?_
      · cases o with
        | none => rfl
        | some x => show (x : Int) = ((x + 1 : Nat) : Int) - 1; omega
      · obtain ⟨h1, h2, h3⟩ := hs
        rw [← Ut.text_snoc] at h1 h2
        rw [found_some] at h2
        refine ⟨h1, ⟨h2, fun a ha => ?_, by simp; omega, lastFit_at hk, h.low, h.far, h.move h3, h.kit, fun g hg => Nat.lt_of_lt_of_le (h.vlt g hg) h3.size⟩, h3⟩
        rcases List.mem_append.1 ha with ha | ha
        · exact h.ok a ha
        · rw [List.mem_singleton] at ha
          subst ha
          exact ⟨a.toNat, by omega, by unfold Ut.Ok; omega⟩
    · rw [if_neg (by simp [hl])]
      exact (search_Type_full h.sea.box hr (by omega) (by rw [hct]; omega)).mono fun e w' ⟨h1, h2⟩ => ⟨h1, h.below h2, Keep.of_grew h2 _⟩
theorem sk_Rub (h : Sk w wr p v ts q o) : Calls Tryd.prog 20 #[.pointer (some ⟨p, 0, none⟩)] wr (SkStep w p v ts wr (Srch.rubTo ts q o)) := by
  have hsz := Ut.text_size q h.ok
  have hlen := h.len
  have hk := (h.kit.below (w' := wr) h.bel)
  have hlt := h.kit.lt
  have hlow := h.low
  unfold Srch.rubTo
  by_cases hq : q = []
  · subst hq
    rw [if_pos rfl]
    exact (search_Rub_empty h.sea.box).mono fun e w' ⟨h1, h2⟩ => ⟨h1, by subst h2; exact h, by subst h2; exact Keep.refl _ _⟩
  · rw [if_neg hq]
    have hqe : q = q.dropLast ++ [q.getLast hq] := (List.dropLast_concat_getLast hq).symm
    obtain ⟨n, hn, hok⟩ := h.ok _ (List.getLast_mem hq)
    have hte : Ut.text q = Ut.text q.dropLast ++ Utf8.encode (n : Int) := by
      conv => lhs; rw [hqe, Ut.text_snoc, hn]
    have hsub : ∀ r ∈ q.dropLast, ∃ n : Nat, r = n ∧ Ut.Ok n := fun r hr => h.ok r (List.dropLast_subset _ hr)
    have hs2 := Ut.text_size q.dropLast hsub
    have hl2 : q.dropLast.length ≤ 200 := by rw [List.length_dropLast]; omega
    by_cases hz : q.dropLast = []
    · have hz0 : (Ut.text q.dropLast).size = 0 := by rw [hz]; rfl
      refine (search_Rub_last h.sea hk.2 (by omega) (by omega) hok hte (by omega) hz0).mono fun e w' hs => ?_
      obtain ⟨h1, h2, h3⟩ := hs
      have e0 : Srch.rubPl ts q.dropLast = none := if_pos hz
      rw [e0]
      exact ⟨h1, ⟨h2, hsub, hl2, fun x hx => (by cases hx), h.low, h.far, h.move h3, h.kit, fun g hg => Nat.lt_of_lt_of_le (h.vlt g hg) h3.size⟩, h3⟩
    · have hz0 : (Ut.text q.dropLast).size ≠ 0 := by
        have : q.dropLast.length ≠ 0 := fun e => hz (List.eq_nil_of_length_eq_zero e)
        omega
      refine (search_Rub_more h.sea hk.2 (by omega) (by omega) hok hte (by omega) hz0).mono fun e w' hs => ?_
      obtain ⟨h1, h2, h3⟩ := hs
      have e0 : Srch.rubPl ts q.dropLast = Srch.lastFit ts (Ut.text q.dropLast) ts.length := if_neg hz
      rw [e0]
      rw [found_some] at h2
      exact ⟨h1, ⟨h2, hsub, hl2, lastFit_at (Nat.le_refl _), h.low, h.far, h.move h3, h.kit, fun g hg => Nat.lt_of_lt_of_le (h.vlt g hg) h3.size⟩, h3⟩
theorem stays_pl (x : Nat) (n : Option Nat) : Srch.placeOf (x : Nat) n = Srch.placeOf 0 (Srch.stays (some x) n) ∧ (Srch.stays (some x) n).isSome = true := by cases n <;> exact ⟨rfl, rfl⟩
theorem sk_Back (h : Sk w wr p v ts q o) : Calls Tryd.prog 22 #[.pointer (some ⟨p, 0, none⟩)] wr (SkStep w p v ts wr (Srch.backTo ts q o)) := by
  cases o with
  | none => exact (search_not h.sea).1.mono fun e w' ⟨h1, h2⟩ => ⟨h1, by subst h2; exact h, by subst h2; exact Keep.refl _ _⟩
  | some x =>
    obtain ⟨hx, hf⟩ := h.at' x rfl
    refine (search_Back (pl := x) h.sea hx).mono fun e w' hs => ?_
    obtain ⟨h1, h2, h3⟩ := hs
    rw [(stays_pl x _).1, ← (stays_pl x _).2] at h2
    refine ⟨h1, ⟨h2, h.ok, h.len, fun y hy => ?_, h.low, h.far, h.move h3, h.kit, fun g hg => Nat.lt_of_lt_of_le (h.vlt g hg) h3.size⟩, h3⟩
    cases e0 : Srch.lastFit ts (Ut.text q) x with
    | none => simp only [Srch.backTo, e0, Srch.stays] at hy; cases hy; exact ⟨hx, hf⟩
    | some z => simp only [Srch.backTo, e0, Srch.stays] at hy; cases hy; exact lastFit_at (Nat.le_of_lt hx) _ e0
theorem sk_On (h : Sk w wr p v ts q o) : Calls Tryd.prog 24 #[.pointer (some ⟨p, 0, none⟩)] wr (SkStep w p v ts wr (Srch.onTo ts q o)) := by
  cases o with
  | none => exact (search_not h.sea).2.mono fun e w' ⟨h1, h2⟩ => ⟨h1, by subst h2; exact h, by subst h2; exact Keep.refl _ _⟩
  | some x =>
    obtain ⟨hx, hf⟩ := h.at' x rfl
    refine (search_On (pl := x) h.sea hx).mono fun e w' hs => ?_
    obtain ⟨h1, h2, h3⟩ := hs
    rw [(stays_pl x _).1, ← (stays_pl x _).2] at h2
    refine ⟨h1, ⟨h2, h.ok, h.len, fun y hy => ?_, h.low, h.far, h.move h3, h.kit, fun g hg => Nat.lt_of_lt_of_le (h.vlt g hg) h3.size⟩, h3⟩
    cases e0 : Srch.nextFit ts (Ut.text q) (x + 1) with
    | none => simp only [Srch.onTo, e0, Srch.stays] at hy; cases hy; exact ⟨hx, hf⟩
    | some z => simp only [Srch.onTo, e0, Srch.stays] at hy; cases hy; have := Srch.nextFit_lt e0; exact ⟨this.2.1, this.2.2⟩
end
end Go.Proofs.YtepddieblankpaaDoor
