/- Elements in one order: plain facts. -/
import Derived.Test.YtohmhbjiapflpaaIdMath
namespace Go.Proofs.Ytohmhbjiapflpaa
set_option linter.unusedVariables false

/-- An element, as a line has it. -/
structure Wel where
  id : Int × Int
  ref : Int × Int
  rune : Int

namespace Weave
/-- x put among ys, which rise. -/
def ins (x : Int × Int) (ys : List (Int × Int)) : List (Int × Int) := ys.take (Idn.rank ys x) ++ x :: ys.drop (Idn.rank ys x)
theorem mem_ins {x y : Int × Int} {ys : List (Int × Int)} : y ∈ ins x ys ↔ y = x ∨ y ∈ ys := by
  have h : y ∈ ys ↔ y ∈ ys.take (Idn.rank ys x) ∨ y ∈ ys.drop (Idn.rank ys x) := by
    rw [← List.mem_append, List.take_append_drop]
  unfold ins
  rw [List.mem_append, List.mem_cons, h]
  constructor
  · rintro (h | h | h)
    · exact .inr (.inl h)
    · exact .inl h
    · exact .inr (.inr h)
  · rintro (h | h | h)
    · exact .inr (.inl h)
    · exact .inl h
    · exact .inr (.inr h)
theorem ins_sorted {x : Int × Int} {ys : List (Int × Int)} (h : ys.Pairwise (fun a b => Idn.lt a b = true)) (hx : x ∉ ys) : (ins x ys).Pairwise (fun a b => Idn.lt a b = true) := by
  have h1 : ∀ a ∈ ys.take (Idn.rank ys x), Idn.lt a x = true := fun a ha => by
    obtain ⟨i, hi, rfl⟩ := List.getElem_of_mem ha
    rw [List.length_take] at hi
    rw [List.getElem_take, Idn.rank_at h x i (by omega)]
    exact decide_eq_true (by omega)
  have h2 : ∀ b ∈ ys.drop (Idn.rank ys x), Idn.lt x b = true := fun b hb => by
    have hbm : b ∈ ys := List.mem_of_mem_drop hb
    obtain ⟨i, hi, rfl⟩ := List.getElem_of_mem hb
    rw [List.length_drop] at hi
    rw [List.getElem_drop] at hbm ⊢
    have h3 := Idn.rank_at h x (Idn.rank ys x + i) (by omega)
    rw [decide_eq_false (by omega)] at h3
    rcases Idn.lt_total (show x ≠ ys[Idn.rank ys x + i]'(by omega) from fun e => hx (by rw [e]; exact hbm)) with k | k
    · exact k
    · rw [h3] at k; cases k
  unfold ins
  rw [List.pairwise_append, List.pairwise_cons]
  refine ⟨h.sublist (List.take_sublist _ _), ⟨h2, h.sublist (List.drop_sublist _ _)⟩, fun a ha b hb => ?_⟩
  rcases List.mem_cons.1 hb with rfl | hb
  · exact h1 a ha
  · exact Idn.lt_trans (h1 a ha) (h2 b hb)
theorem ins_len (x : Int × Int) (ys : List (Int × Int)) : (ins x ys).length = ys.length + 1 := by
  unfold ins
  rw [List.length_append, List.length_cons, List.length_take, List.length_drop]
  have := Idn.rank_le ys x
  omega

/-- Those whose they are, rising. -/
def kids (L : List Wel) (x : Int × Int) : List (Int × Int) := ((L.filter fun e => decide (e.ref = x)).map Wel.id).foldl (fun ys y => ins y ys) []
theorem fold_ins : ∀ {zs ys : List (Int × Int)}, ys.Pairwise (fun a b => Idn.lt a b = true) → zs.Pairwise (fun a b => a ≠ b) → (∀ z ∈ zs, z ∉ ys) →
    (zs.foldl (fun ys y => ins y ys) ys).Pairwise (fun a b => Idn.lt a b = true) ∧ ∀ y, y ∈ zs.foldl (fun ys y => ins y ys) ys ↔ y ∈ zs ∨ y ∈ ys
  | [], ys, h, _, _ => ⟨h, fun y => by simp⟩
  | z :: zs, ys, h, hd, hn => by
    rw [List.pairwise_cons] at hd
    have h1 := fold_ins (zs := zs) (ys := ins z ys) (ins_sorted h (hn z (by simp))) hd.2 (fun w hw hm => by
      rcases mem_ins.1 hm with e | e
      · exact hd.1 w hw e.symm
      · exact hn w (by simp [hw]) e)
    refine ⟨h1.1, fun y => ?_⟩
    rw [List.foldl_cons, h1.2 y, mem_ins, List.mem_cons]
    constructor
    · rintro (h | h | h)
      · exact .inl (.inr h)
      · exact .inl (.inl h)
      · exact .inr h
    · rintro ((h | h) | h)
      · exact .inr (.inl h)
      · exact .inl h
      · exact .inr (.inr h)

/-- What a line's elements keep. -/
structure Ok (L : List Wel) : Prop where
  apart : L.Pairwise (fun a b => a.id ≠ b.id)
  may : ∀ e ∈ L, Idn.may e.id = true
  ref : ∀ e ∈ L, e.ref = (0, 0) ∨ (Idn.may e.ref = true ∧ e.ref.1 < e.id.1 ∧ ∃ d ∈ L, d.id = e.ref)
  few : L.length ≤ 4096

theorem kids_spec {L : List Wel} (h : L.Pairwise (fun a b => a.id ≠ b.id)) (x : Int × Int) : (kids L x).Pairwise (fun a b => Idn.lt a b = true) ∧ ∀ y, y ∈ kids L x ↔ ∃ e ∈ L, e.ref = x ∧ e.id = y := by
  have h1 : ((L.filter fun e => decide (e.ref = x)).map Wel.id).Pairwise (fun a b => a ≠ b) := by
    rw [List.pairwise_map]
    exact h.filter _
  have h2 := fold_ins (ys := []) .nil h1 (fun _ _ => by simp)
  refine ⟨h2.1, fun y => ?_⟩
  unfold kids
  rw [h2.2 y]
  simp [and_assoc]
theorem kids_nil (x : Int × Int) : kids [] x = [] := rfl
theorem kids_len {L : List Wel} (x : Int × Int) : (kids L x).length ≤ L.length := by
  unfold kids
  have : ∀ (zs ys : List (Int × Int)), (zs.foldl (fun ys y => ins y ys) ys).length = zs.length + ys.length := by
    intro zs
    induction zs with
    | nil => intro ys; simp
    | cons z zs ih => intro ys; rw [List.foldl_cons, ih, ins_len, List.length_cons]; omega
  rw [this, List.length_map, List.length_nil]
  exact List.length_filter_le _ _
/-- How many are later. -/
def cnt (L : List Wel) (x : Int × Int) : Nat := L.countP fun e => decide (x.1 < e.id.1)
theorem cnt_le (L : List Wel) (x : Int × Int) : cnt L x ≤ L.length := List.countP_le_length
theorem countP_lt {α : Type} {p q : α → Bool} : ∀ {l : List α}, (∀ x ∈ l, p x = true → q x = true) → (∃ x ∈ l, q x = true ∧ p x = false) → l.countP p < l.countP q
  | [], _, ⟨x, hx, _⟩ => by simp at hx
  | a :: l, h, ⟨x, hx, hq, hp⟩ => by
    rw [List.countP_cons, List.countP_cons]
    have hle : l.countP p ≤ l.countP q := List.countP_mono_left (fun y hy => h y (by simp [hy]))
    rcases List.mem_cons.1 hx with rfl | hx
    · simp [hq, hp]; omega
    · have ih := countP_lt (l := l) (fun y hy => h y (by simp [hy])) ⟨x, hx, hq, hp⟩
      have ha := h a (by simp)
      cases hpa : p a with
      | false => cases q a <;> simp <;> omega
      | true => rw [ha hpa]; simp; omega
theorem Ok.later {L : List Wel} (h : Ok L) {x k : Int × Int} (hk : k ∈ kids L x) : x.1 < k.1 := by
  obtain ⟨e, he, rfl, rfl⟩ := ((kids_spec h.apart x).2 k).1 hk
  have hm := of_decide_eq_true (h.may e he)
  rcases h.ref e he with h0 | ⟨_, h1, _⟩
  · rw [h0]; show (0 : Int) < _; omega
  · exact h1
theorem Ok.cnt_lt {L : List Wel} (h : Ok L) {x k : Int × Int} (hk : k ∈ kids L x) : cnt L k < cnt L x := by
  have hl := h.later hk
  obtain ⟨e, he, rfl, rfl⟩ := ((kids_spec h.apart x).2 k).1 hk
  refine countP_lt (fun d _ hd => decide_eq_true (by have := of_decide_eq_true hd; omega)) ⟨e, he, decide_eq_true hl, decide_eq_false (by omega)⟩
theorem Ok.none {L : List Wel} (h : Ok L) {x : Int × Int} (h0 : cnt L x = 0) : kids L x = [] := by
  cases hk : kids L x with
  | nil => rfl
  | cons k ks =>
    have := h.cnt_lt (x := x) (k := k) (by rw [hk]; simp)
    omega
/-- The element of an Id. -/
def at' (L : List Wel) (k : Int × Int) : Wel := (L.find? fun e => decide (e.id = k)).getD ⟨k, (0, 0), 0⟩
theorem at_id {L : List Wel} {k : Int × Int} : (at' L k).id = k := by
  unfold at'
  cases h : L.find? fun e => decide (e.id = k) with
  | none => rfl
  | some e => simpa using List.find?_some h
theorem at_mem {L : List Wel} {k : Int × Int} (h : ∃ e ∈ L, e.id = k) : at' L k ∈ L := by
  unfold at'
  cases hf : L.find? fun e => decide (e.id = k) with
  | none =>
    obtain ⟨e, he, hk⟩ := h
    have := List.find?_eq_none.1 hf e he
    simp [hk] at this
  | some e => exact List.mem_of_find?_eq_some hf
theorem Ok.at_eq {L : List Wel} (h : L.Pairwise (fun a b => a.id ≠ b.id)) {e : Wel} (he : e ∈ L) : at' L e.id = e := by
  have h1 := at_mem (L := L) (k := e.id) ⟨e, he, rfl⟩
  have h2 := at_id (L := L) (k := e.id)
  generalize at' L e.id = d at h1 h2
  obtain ⟨i, hi, rfl⟩ := List.getElem_of_mem h1
  obtain ⟨j, hj, rfl⟩ := List.getElem_of_mem he
  by_cases hij : i = j
  · subst hij; rfl
  · rcases Nat.lt_or_gt_of_ne hij with k | k
    · exact absurd h2 (List.pairwise_iff_getElem.1 h i j hi hj k)
    · exact absurd h2.symm (List.pairwise_iff_getElem.1 h j i hj hi k)
/-- All that is an element's own, in the order; n: how deep at most. -/
def own (L : List Wel) : Nat → (Int × Int) → List Wel
  | 0, _ => []
  | n + 1, x => (kids L x).reverse.flatMap fun k => at' L k :: own L n k
/-- The line's elements in their order. -/
def elements (L : List Wel) : List Wel := own L L.length (0, 0)
/-- The kids from the last one on, each with its place. -/
def back (ks : List (Int × Int)) : List (Nat × (Int × Int)) := (List.range ks.length).reverse.map fun i => (i, ks.getD i (0, 0))
theorem back_flat {β : Type} (f : (Int × Int) → List β) (ks : List (Int × Int)) : (back ks).flatMap (fun p => f p.2) = ks.reverse.flatMap f := by
  unfold back
  rw [List.flatMap_map]
  have : ks.reverse = (List.range ks.length).reverse.map fun i => ks.getD i (0, 0) := by
    rw [List.map_reverse]
    congr 1
    refine List.ext_getElem (by simp) fun i h1 h2 => ?_
    simp [List.getElem?_eq_getElem h1]
  rw [this, List.flatMap_map]
theorem back_mem {ks : List (Int × Int)} {p : Nat × (Int × Int)} (h : p ∈ back ks) : p.2 ∈ ks := by
  unfold back at h
  obtain ⟨i, hi, rfl⟩ := List.mem_map.1 h
  rw [List.mem_reverse, List.mem_range] at hi
  rw [List.getD_eq_getElem?_getD, List.getElem?_eq_getElem hi]
  exact List.getElem_mem hi
end Weave
end Go.Proofs.Ytohmhbjiapflpaa
