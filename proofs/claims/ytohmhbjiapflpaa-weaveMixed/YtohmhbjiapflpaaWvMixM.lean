/- A line to which nothing more can be put, of a set of elements, is one and the same in whatever order it has grown. -/
import Derived.Test.YtohmhbjiapflpaaWvKidM
namespace Go.Proofs.Ytohmhbjiapflpaa
open Go.RowKit
set_option linter.unusedVariables false
namespace Weave
attribute [local instance] Classical.propDecidable

/-- One that can be put to the line, or is there. -/
def CanPut (L : List Wel) (e : Wel) : Prop := mayBe e.id e.ref = true ∧ Mesg.rune e.rune = true ∧ (e.ref = (0, 0) ∨ has L e.ref = true)
/-- A line grown of es. -/
structure Of (es L : List Wel) : Prop where
  ok : Ok L
  runes : Runes L
  sub : ∀ d ∈ L, d ∈ es
/-- Nothing more of es can be put to it. -/
def Full (es L : List Wel) : Prop := ∀ e ∈ es, CanPut L e → e ∈ L

theorem has_more {L M : List Wel} (h : ∀ d ∈ L, d ∈ M) {x : Int × Int} (hx : has L x = true) : has M x = true := by
  obtain ⟨d, hd, q⟩ := has_iff.1 hx
  exact has_iff.2 ⟨d, h d hd, q⟩
theorem full_sub {es L M : List Wel} (h : Of es L) (k : Of es M) (f : Full es M) : ∀ (n : Nat) (d : Wel), d ∈ L → d.id.1.toNat ≤ n → d ∈ M := by
  intro n
  induction n with
  | zero =>
    intro d hd hn
    have := of_decide_eq_true (h.ok.may d hd)
    omega
  | succ n ih =>
    intro d hd hn
    have hm := of_decide_eq_true (h.ok.may d hd)
    refine f d (h.sub d hd) ⟨?_, h.runes d hd, ?_⟩
    · unfold mayBe
      rw [h.ok.may d hd, Bool.true_and]
      rcases h.ok.ref d hd with q | ⟨q1, q2, _⟩
      · rw [q]; rfl
      · rw [q1, decide_eq_true q2]; simp
    · rcases h.ok.ref d hd with q | ⟨q1, q2, c, hc, q3⟩
      · exact .inl q
      · have hcm := of_decide_eq_true (h.ok.may c hc)
        refine .inr (has_iff.2 ⟨c, ih c hc ?_, q3⟩)
        rw [← q3] at q2
        omega
theorem full_same {es L M : List Wel} (h : Of es L) (k : Of es M) (f : Full es L) (g : Full es M) : elements L = elements M :=
  elements_same h.ok k.ok (fun e => ⟨fun he => full_sub h k g _ e he (Nat.le_refl _), fun he => full_sub k h f _ e he (Nat.le_refl _)⟩)

/-- What a put says, and what it leaves: of elements of which no two have one Id. -/
theorem Of.put {es L : List Wel} (h : Of es L) (hes : es.Pairwise fun a b => a.id ≠ b.id) (hlen : es.length ≤ 40) (hL : L.length ≤ es.length) {e : Wel} (he : e ∈ es) :
    ((insert L e.id e.ref e.rune).1 = 0 ∧ (insert L e.id e.ref e.rune).2 = L ++ [e] ∧ Of es (L ++ [e]) ∧ e ∉ L) ∨ ((insert L e.id e.ref e.rune).1 ≠ 0 ∧ (insert L e.id e.ref e.rune).2 = L ∧ (CanPut L e → e ∈ L)) := by
  by_cases h1 : mayBe e.id e.ref = true ∧ Mesg.rune e.rune = true
  · by_cases h2 : has L e.id = true
    · right
      have hin : e ∈ L := by
        obtain ⟨d, hd, q⟩ := has_iff.1 h2
        rw [← ids_eq hes (h.sub d hd) he q]
        exact hd
      have hn : ¬ (mayBe e.id e.ref = false ∨ Mesg.rune e.rune = false) := by rw [h1.1, h1.2]; simp
      unfold insert
      rw [if_neg hn, if_pos h2]
      exact ⟨by simp, rfl, fun _ => hin⟩
    · have h2' : has L e.id = false := by simpa using h2
      have hn : ¬ (mayBe e.id e.ref = false ∨ Mesg.rune e.rune = false) := by rw [h1.1, h1.2]; simp
      by_cases h3 : e.ref ≠ (0, 0) ∧ has L e.ref = false
      · right
        unfold insert
        rw [if_neg hn, if_neg h2, if_pos h3]
        refine ⟨by simp, rfl, fun ⟨_, _, c⟩ => ?_⟩
        rcases c with c | c
        · exact absurd c h3.1
        · rw [h3.2] at c; cases c
      · left
        have href : e.ref = (0, 0) ∨ has L e.ref = true := by
          by_cases q : e.ref = (0, 0)
          · exact .inl q
          · right
            cases hh : has L e.ref with
            | true => rfl
            | false => exact absurd ⟨q, hh⟩ h3
        have hi : insert L e.id e.ref e.rune = (0, L ++ [e]) := by
          unfold insert
          rw [if_neg hn, if_neg h2, if_neg h3, if_neg (by omega)]
        have hr := runes_insert h.runes e.id e.ref e.rune
        rw [hi] at hr
        refine ⟨by rw [hi], by rw [hi], ⟨insert_ok h.ok h1.1 h2' href (by omega), hr, fun d hd => ?_⟩, fun hin => ?_⟩
        · rcases List.mem_append.1 hd with hd | hd
          · exact h.sub d hd
          · rw [List.mem_singleton.1 hd]; exact he
        · rw [has_iff.2 ⟨e, hin, rfl⟩] at h2'
          cases h2'
  · right
    have hp : mayBe e.id e.ref = false ∨ Mesg.rune e.rune = false := by
      cases q : mayBe e.id e.ref with
      | false => exact .inl rfl
      | true =>
        right
        cases q2 : Mesg.rune e.rune with
        | false => rfl
        | true => exact absurd ⟨q, q2⟩ h1
    unfold insert
    rw [if_pos hp]
    exact ⟨by simp, rfl, fun c => absurd ⟨c.1, c.2.1⟩ h1⟩

theorem of_nil (es : List Wel) : Of es [] := ⟨⟨.nil, by simp, by simp, by simp⟩, fun e he => by simp at he, by simp⟩
theorem sub_len : ∀ {xs ys : List Wel}, xs.Nodup → (∀ x ∈ xs, x ∈ ys) → xs.length ≤ ys.length := by
  intro xs
  induction xs with
  | nil => intro ys _ _; simp
  | cons x xs ih =>
    intro ys h1 h2
    have hx := h2 x (by simp)
    have hn := List.nodup_cons.1 h1
    have := ih (ys := ys.erase x) hn.2 (fun z hz => by
      have hz2 := h2 z (by simp [hz])
      exact (List.mem_erase_of_ne (fun q => hn.1 (by rw [← q]; exact hz))).2 hz2)
    rw [List.length_erase_of_mem hx] at this
    have hp : 0 < ys.length := List.length_pos_of_mem hx
    simp only [List.length_cons]
    omega
theorem nodup_all : ∀ {L es : List Wel}, L.Nodup → (∀ d ∈ L, d ∈ es) → es.length ≤ L.length → ∀ e ∈ es, e ∈ L
  | L, [], _, _, _, e, he => by simp at he
  | L, a :: es, h1, h2, h3, e, he => by
    by_cases ha : a ∈ L
    · rcases List.mem_cons.1 he with q | q
      · rw [q]; exact ha
      · by_cases hea : e = a
        · rw [hea]; exact ha
        · have h4 := nodup_all (L := L.erase a) (es := es) (h1.erase a) (fun d hd => by
            have hd2 := List.mem_of_mem_erase hd
            rcases List.mem_cons.1 (h2 d hd2) with q | q
            · rw [q] at hd; exact absurd hd (List.Nodup.not_mem_erase h1)
            · exact q) (by rw [List.length_erase_of_mem ha]; simp at h3; omega) e q
          exact List.mem_of_mem_erase h4
    · have h4 : ∀ {xs ys : List Wel}, xs.Nodup → (∀ x ∈ xs, x ∈ ys) → xs.length ≤ ys.length := by
        intro xs
        induction xs with
        | nil => intro ys _ _; simp
        | cons x xs ih =>
          intro ys h1 h2
          have hx := h2 x (by simp)
          have hn := List.nodup_cons.1 h1
          have := ih (ys := ys.erase x) hn.2 (fun z hz => by
            have hz2 := h2 z (by simp [hz])
            exact (List.mem_erase_of_ne (fun q => hn.1 (by rw [← q]; exact hz))).2 hz2)
          rw [List.length_erase_of_mem hx] at this
          have hp : 0 < ys.length := List.length_pos_of_mem hx
          simp only [List.length_cons]
          omega
      have := h4 (ys := es) h1 (fun d hd => by
        rcases List.mem_cons.1 (h2 d hd) with q | q
        · rw [q] at hd; exact absurd hd ha
        · exact q)
      simp at h3
      omega
theorem Of.nodup {es L : List Wel} (h : Of es L) : L.Nodup := h.ok.apart.imp (fun {a b} q e => q (by rw [e]))
/-- As long as the line has not all, or nothing of a whole round could be put to it. -/
theorem Of.all {es L : List Wel} (h : Of es L) (hl : es.length ≤ L.length) : Full es L := fun e he _ => nodup_all h.nodup h.sub hl e he
theorem Of.len {es L : List Wel} (h : Of es L) : L.length ≤ es.length := sub_len h.nodup h.sub
theorem round_all {n off i : Nat} (hi : i < n) : ∃ j, j < n ∧ (off + j) % n = i := by
  refine ⟨(i + (n - off % n)) % n, Nat.mod_lt _ (by omega), ?_⟩
  have h1 : off % n < n := Nat.mod_lt _ (by omega)
  rw [Nat.add_mod_mod, Nat.add_mod off, ← Nat.add_mod_mod]
  have h2 : (i + (n - off % n)) % n % n = (i + (n - off % n)) % n := Nat.mod_mod _ _
  rw [h2, Nat.add_mod_mod, show off % n + (i + (n - off % n)) = i + n by omega, Nat.add_mod_right, Nat.mod_eq_of_lt hi]
end Weave
end Go.Proofs.Ytohmhbjiapflpaa
