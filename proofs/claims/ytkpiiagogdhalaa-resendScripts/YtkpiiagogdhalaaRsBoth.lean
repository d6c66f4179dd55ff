/- A store and the reference's, side by side. -/
import Derived.Test.YtkpiiagogdhalaaRsRefDrop
import Derived.Test.YtkpiiagogdhalaaRsDrop
import Derived.Test.YtkpiiagogdhalaaRsNil
import Derived.Test.YtkpiiagogdhalaaSliceG
namespace Go.Proofs.Ytkpiiagogdhalaa
open Go.RowKit Go.Maps
set_option linter.unusedVariables false

/-- Two stores that the call made since w0; the blocks of O are none of theirs. -/
def Both (w0 : World) (p q : Nat) (s t : Resend.St) (O : Nat → Prop) (wr : World) : Prop :=
  ∃ F G, IsStore wr F p s ∧ IsRStore wr G q t ∧ (∀ b, F b ∨ G b → w0.heap.size ≤ b) ∧ (∀ b, F b → ¬ G b) ∧ Below w0.heap.size w0 wr ∧ ∀ b, O b → ¬ F b ∧ ¬ G b ∧ b < wr.heap.size

theorem IsStore.lt {w : World} {F : Nat → Prop} {p : Nat} {s : Resend.St} (h : IsStore w F p s) : ∀ b, F b → b < w.heap.size := by
  obtain ⟨_, _, _, h⟩ := h
  exact h.lt
theorem IsRStore.lt {w : World} {F : Nat → Prop} {p : Nat} {s : Resend.St} (h : IsRStore w F p s) : ∀ b, F b → b < w.heap.size := by
  obtain ⟨_, _, h⟩ := h
  exact h.lt
theorem IsRStore.len {w : World} {F : Nat → Prop} {p : Nat} {s : Resend.St} (h : IsRStore w F p s) : ∃ a c, w.cell? ⟨p, 2, none⟩ = some (.slice a s.l.length c) := by
  obtain ⟨V, xs, h⟩ := h
  obtain ⟨a, c, rfl⟩ := h.own.form
  have := h.box.cell 2 (by simp)
  simp only [List.getElem_cons_succ, List.getElem_cons_zero] at this
  refine ⟨a, c, ?_⟩
  rw [this, ← h.is]
  simp

theorem Both.below {w0 wr : World} {p q : Nat} {s t : Resend.St} {O : Nat → Prop} (h : Both w0 p q s t O wr) : Below w0.heap.size w0 wr := by
  obtain ⟨F, G, _, _, _, _, hb, _⟩ := h
  exact hb
theorem Both.full {w0 wr : World} {p q : Nat} {s t : Resend.St} {O : Nat → Prop} (h : Both w0 p q s t O wr) : s.l.length ≤ 100000 := by
  obtain ⟨F, G, ⟨_, _, _, hw⟩, _⟩ := h
  have := hw.ok.full
  have := hw.ok.room
  omega
theorem Both.grew {w0 wr w2 : World} {p q : Nat} {s t : Resend.St} {O O' : Nat → Prop} (h : Both w0 p q s t O wr) (hb : Below wr.heap.size wr w2) (hO : ∀ b, O' b → O b ∨ wr.heap.size ≤ b ∧ b < w2.heap.size) : Both w0 p q s t O' w2 := by
  obtain ⟨F, G, h1, h2, h3, h4, h5, h6⟩ := h
  refine ⟨F, G, h1.below hb, h2.below hb, h3, h4, Go.Proofs.Ytkpiiagogdhalaa.grew h5 hb, fun b hb' => ?_⟩
  rcases hO b hb' with k | k
  · exact ⟨(h6 b k).1, (h6 b k).2.1, Nat.lt_of_lt_of_le (h6 b k).2.2 hb.size⟩
  · exact ⟨fun e => by have := h1.lt b e; omega, fun e => by have := h2.lt b e; omega, k.2⟩
theorem Both.step {w0 wr w2 : World} {p q : Nat} {s2 t : Resend.St} {O F G : Nat → Prop} (h2 : IsRStore wr G q t) (h3 : ∀ b, F b ∨ G b → w0.heap.size ≤ b) (h4 : ∀ b, F b → ¬ G b) (h5 : Below w0.heap.size w0 wr) (h6 : ∀ b, O b → ¬ F b ∧ ¬ G b ∧ b < wr.heap.size) (g : SStep wr F p s2 w2) : Both w0 p q s2 t O w2 ∧ Keep (fun b => ¬ O b) wr w2 := by
  obtain ⟨F2, k1, k2, k3⟩ := g
  refine ⟨⟨F2, G, k1, h2.keep k2 (fun b hb e => h4 b e hb), fun b hb => ?_, fun b hb hg => ?_, h5.trans (k2.below h5.size (fun b hb => h3 b (.inl hb))), fun b hb => ⟨fun e => ?_, (h6 b hb).2.1, Nat.lt_of_lt_of_le (h6 b hb).2.2 k2.size⟩⟩, k2.more (fun b _ e hO => (h6 b hO).1 e)⟩
  · rcases hb with hb | hb
    · rcases k3 b hb with k | k
      · exact h3 b (.inl k)
      · exact Nat.le_trans h5.size k
    · exact h3 b (.inr hb)
  · rcases k3 b hb with k | k
    · exact h4 b k hg
    · have := h2.lt b hg; omega
  · rcases k3 b e with k | k
    · exact (h6 b hb).1 k
    · have := (h6 b hb).2.2; omega
theorem Both.rstep {w0 wr w2 : World} {p q : Nat} {s t2 : Resend.St} {O F G : Nat → Prop} (h1 : IsStore wr F p s) (h3 : ∀ b, F b ∨ G b → w0.heap.size ≤ b) (h4 : ∀ b, F b → ¬ G b) (h5 : Below w0.heap.size w0 wr) (h6 : ∀ b, O b → ¬ F b ∧ ¬ G b ∧ b < wr.heap.size) (g : RSStep wr G q t2 w2) : Both w0 p q s t2 O w2 ∧ Keep (fun b => ¬ O b) wr w2 := by
  obtain ⟨G2, k1, k2, k3⟩ := g
  refine ⟨⟨F, G2, h1.keep k2 (fun b hb e => h4 b hb e), k1, fun b hb => ?_, fun b hb hg => ?_, h5.trans (k2.below h5.size (fun b hb => h3 b (.inr hb))), fun b hb => ⟨(h6 b hb).1, fun e => ?_, Nat.lt_of_lt_of_le (h6 b hb).2.2 k2.size⟩⟩, k2.more (fun b _ e hO => (h6 b hO).2.1 e)⟩
  · rcases hb with hb | hb
    · exact h3 b (.inl hb)
    · rcases k3 b hb with k | k
      · exact h3 b (.inr k)
      · exact Nat.le_trans h5.size k
  · rcases k3 b hg with k | k
    · exact h4 b hb k
    · have := h1.lt b hb; omega
  · rcases k3 b e with k | k
    · exact (h6 b hb).2.1 k
    · have := (h6 b hb).2.2; omega

theorem both_Keep {w0 w : World} {p q : Nat} {s t : Resend.St} {O : Nat → Prop} (h : Both w0 p q s t O w) (m : Mesg.Msg) (v : Value) (hv : SliceI w v m.know) (hm : m.know.length ≤ 1000000000) {k : Int} {s2 : Resend.St} (e : Resend.keep s m = (k, s2)) :
    Calls Try.prog 32 #[.pointer (some ⟨p, 0, none⟩), msgV m v] w fun e w' => e = .returned (.int .i64 k) ∧ Both w0 p q s2 t O w' ∧ Keep (fun b => ¬ O b) w w' := by
  obtain ⟨F, G, h1, h2, h3, h4, h5, h6⟩ := h
  refine (resend_Keep h1 m v hv hm).mono fun e' w' ⟨k1, k2⟩ => ?_
  rw [e] at k1 k2
  exact ⟨k1, Both.step h2 h3 h4 h5 h6 k2⟩
theorem both_RKeep {w0 w : World} {p q : Nat} {s t : Resend.St} {O : Nat → Prop} (h : Both w0 p q s t O w) (m : Mesg.Msg) (v : Value) (hv : SliceI w v m.know) (hm : m.know.length ≤ 1000000000) {k : Int} {t2 : Resend.St} (e : Resend.keep t m = (k, t2)) :
    Calls Try.prog 33 #[.pointer (some ⟨q, 0, none⟩), msgV m v] w fun e w' => e = .returned (.int .i64 k) ∧ Both w0 p q s t2 O w' ∧ Keep (fun b => ¬ O b) w w' := by
  obtain ⟨F, G, h1, h2, h3, h4, h5, h6⟩ := h
  refine (ref08_Keep h2 m v hv hm).mono fun e' w' ⟨k1, k2⟩ => ?_
  rw [e] at k1 k2
  exact ⟨k1, Both.rstep h1 h3 h4 h5 h6 k2⟩
theorem both_Drop {w0 w : World} {p q : Nat} {s t : Resend.St} {O : Nat → Prop} (h : Both w0 p q s t O w) (v : Value) (zs : List Int) (hv : SliceI w v zs) (hm : zs.length ≤ 1000000000) {k l : Int} {s2 : Resend.St} (e : Resend.drop s zs = (k, l, s2)) :
    Calls Try.prog 34 #[.pointer (some ⟨p, 0, none⟩), v] w fun e w' => e = .returned (.tuple #[.int .i64 k, .int .i64 l]) ∧ Both w0 p q s2 t O w' ∧ Keep (fun b => ¬ O b) w w' := by
  obtain ⟨F, G, h1, h2, h3, h4, h5, h6⟩ := h
  refine (resend_Drop h1 v zs hv hm).mono fun e' w' ⟨k1, k2⟩ => ?_
  rw [e] at k1 k2
  exact ⟨k1, Both.step h2 h3 h4 h5 h6 k2⟩
theorem both_RDrop {w0 w : World} {p q : Nat} {s t : Resend.St} {O : Nat → Prop} (h : Both w0 p q s t O w) (v : Value) (zs : List Int) (hv : SliceI w v zs) (hm : zs.length ≤ 1000000000) {k l : Int} {t2 : Resend.St} (e : Resend.drop t zs = (k, l, t2)) :
    Calls Try.prog 35 #[.pointer (some ⟨q, 0, none⟩), v] w fun e w' => e = .returned (.tuple #[.int .i64 k, .int .i64 l]) ∧ Both w0 p q s t2 O w' ∧ Keep (fun b => ¬ O b) w w' := by
  obtain ⟨F, G, h1, h2, h3, h4, h5, h6⟩ := h
  refine (ref08_Drop h2 v zs hv hm).mono fun e' w' ⟨k1, k2⟩ => ?_
  rw [e] at k1 k2
  exact ⟨k1, Both.rstep h1 h3 h4 h5 h6 k2⟩
theorem both_Get {w0 w : World} {p q : Nat} {s t : Resend.St} {O : Nat → Prop} (h : Both w0 p q s t O w) (a b : Int) (ha : I64 a) (hb : I64 b) :
    Calls Try.prog 36 #[.pointer (some ⟨p, 0, none⟩), .agg #[.int .i64 a, .int .i64 b]] w fun e w' => ∃ u, e = .returned (.tuple #[msgV (Resend.get s (a, b)).1 u, .bool (Resend.get s (a, b)).2]) ∧ SliceI w' u (Resend.get s (a, b)).1.know ∧ Below w.heap.size w w' := by
  obtain ⟨F, G, h1, _⟩ := h
  exact (resend_Get h1 a b ha hb).mono fun e w' ⟨r, k1, ⟨u, k2, k3, k4⟩, k5⟩ => ⟨u, by rw [k1, k2], k3, k5⟩
theorem both_RGet {w0 w : World} {p q : Nat} {s t : Resend.St} {O : Nat → Prop} (h : Both w0 p q s t O w) (a b : Int) :
    Calls Try.prog 37 #[.pointer (some ⟨q, 0, none⟩), .agg #[.int .i64 a, .int .i64 b]] w fun e w' => ∃ u, e = .returned (.tuple #[msgV (Resend.get t (a, b)).1 u, .bool (Resend.get t (a, b)).2]) ∧ SliceI w' u (Resend.get t (a, b)).1.know ∧ Below w.heap.size w w' := by
  obtain ⟨F, G, _, h2, _⟩ := h
  exact (ref08_Get h2 a b).mono fun e w' ⟨r, k1, ⟨u, k2, k3, k4⟩, k5⟩ => ⟨u, by rw [k1, k2], k3, k5⟩
theorem both_Len {w0 w : World} {p q : Nat} {s t : Resend.St} {O : Nat → Prop} (h : Both w0 p q s t O w) :
    Calls Try.prog 39 #[.pointer (some ⟨p, 0, none⟩)] w fun e w' => e = .returned (.int .i64 (s.l.length : Int)) ∧ w = w' := by
  obtain ⟨F, G, h1, _⟩ := h
  exact resend_Len h1
theorem both_RLen {w0 w : World} {p q : Nat} {s t : Resend.St} {O : Nat → Prop} (h : Both w0 p q s t O w) : ∃ a c, w.cell? ⟨q, 2, none⟩ = some (.slice a t.l.length c) := by
  obtain ⟨F, G, _, h2, _⟩ := h
  exact h2.len
/-- What is looked up is short. -/
theorem Both.got {w0 w : World} {p q : Nat} {s t : Resend.St} {O : Nat → Prop} (h : Both w0 p q s t O w) (k : Int × Int) : (Resend.get s k).1.know.length ≤ 16 := by
  obtain ⟨F, G, ⟨_, _, _, hw⟩, _⟩ := h
  unfold Resend.get
  cases hf : Resend.find s.l k with
  | none => simp [Mesg.none]
  | some m =>
    have := hw.ok.may m (List.mem_of_find?_eq_some hf)
    exact (Resend.may_bounds this.1).2.1
end Go.Proofs.Ytkpiiagogdhalaa
