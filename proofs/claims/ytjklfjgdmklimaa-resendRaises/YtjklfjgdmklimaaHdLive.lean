/- A hold that a statement's own call has made. -/
import Derived.Test.YtjklfjgdmklimaaHdKnown
namespace Go.Proofs.Ytjklfjgdmklimaa
open Go.RowKit Go.Maps
set_option linter.unusedVariables false

/-- A hold that the call made itself, since w0; the blocks of O are none of its. -/
def HLive (w0 : World) (p : Nat) (s : Hold.St) (O : Nat → Prop) (wr : World) : Prop := ∃ F, IsHold wr F p s ∧ s.l.length ≤ s.room ∧ (∀ b, F b → w0.heap.size ≤ b) ∧ Below w0.heap.size w0 wr ∧ ∀ b, O b → ¬ F b ∧ b < wr.heap.size

theorem HLive.below {w0 wr : World} {p : Nat} {s : Hold.St} {O : Nat → Prop} (h : HLive w0 p s O wr) : Below w0.heap.size w0 wr := by
  obtain ⟨F, _, _, _, hb, _⟩ := h
  exact hb
theorem HLive.grew {w0 wr w2 : World} {p : Nat} {s : Hold.St} {O O' : Nat → Prop} (h : HLive w0 p s O wr) (hb : Below wr.heap.size wr w2) (hO : ∀ b, O' b → O b ∨ wr.heap.size ≤ b ∧ b < w2.heap.size) : HLive w0 p s O' w2 := by
  obtain ⟨F, h1, hr, h2, h3, h4⟩ := h
  obtain ⟨cb, cc, mp, S, es, hw⟩ := h1
  refine ⟨F, ⟨cb, cc, mp, S, es, hw.below hb⟩, hr, h2, Go.Proofs.Ytjklfjgdmklimaa.grew h3 hb, fun b hb' => ?_⟩
  rcases hO b hb' with k | k
  · exact ⟨(h4 b k).1, Nat.lt_of_lt_of_le (h4 b k).2 hb.size⟩
  · exact ⟨fun e => by have := hw.lt b e; omega, k.2⟩

theorem hlive_New (n r : Nat) (w0 w : World) (h0 : Below w0.heap.size w0 w) (hn : 1 ≤ n ∧ n ≤ 16) (hr : r ≤ 1000) (O : Nat → Prop) (hO : ∀ b, O b → b < w.heap.size) :
    Calls Try.prog 10 #[.int .i64 (n : Int), .int .i64 (r : Int)] w fun e w' => ∃ p, e = .returned (.tuple #[.pointer (some ⟨p, 0, none⟩), .int .i64 0]) ∧ HLive w0 p (Hold.new n r) O w' ∧ Below w.heap.size w w' :=
  (hold_New_yes n r w hn hr).mono fun e w' ⟨p, F, h1, h2, h3, h4⟩ => ⟨p, h1, ⟨F, h2, Nat.zero_le _, fun b hb => Nat.le_trans h0.size (h3 b hb), Go.Proofs.Ytjklfjgdmklimaa.grew h0 h4, fun b hb => ⟨fun e => by have := h3 b e; have := hO b hb; omega, Nat.lt_of_lt_of_le (hO b hb) h4.size⟩⟩, h4⟩
theorem hlive_Waits {w0 w : World} {p : Nat} {s : Hold.St} {O : Nat → Prop} (h : HLive w0 p s O w) :
    Calls Try.prog 15 #[.pointer (some ⟨p, 0, none⟩)] w fun e w' => e = .returned (.int .i64 (s.l.length : Int)) ∧ w = w' := by
  obtain ⟨F, h1, _⟩ := h
  exact hold_Waits h1

theorem hlive_Put {w0 w : World} {p : Nat} {s : Hold.St} {O : Nat → Prop} (h : HLive w0 p s O w) (m : Mesg.Msg) (v : Value) (hv : SliceI w v m.know) (hm : m.know.length ≤ 1000000000) :
    Calls Try.prog 12 #[.pointer (some ⟨p, 0, none⟩), msgV m v] w fun e w' => ∃ T xs, e = .returned (.tuple #[T, .int .i64 (Hold.put s m).2.1]) ∧ OwnM w' T xs ∧ xs.map Prod.fst = (Hold.put s m).1 ∧ (∀ y ∈ xs, SliceI w' y.2 y.1.know) ∧ (∀ g, T.ownBlock = some g → w.heap.size ≤ g) ∧
      HLive w0 p (Hold.put s m).2.2 (fun b => O b ∨ T.ownBlock = some b ∧ b < w'.heap.size) w' ∧ Keep (fun b => ¬ O b) w w' := by
  obtain ⟨F, h1, hr, h2, h3, h4⟩ := h
  refine (hold_Put h1 hr m v hv hm).mono ?_
  rintro e w' ⟨r, rfl, T, xs, F', rfl, k1, k2, k3, k4, k5, k6, k7, k8⟩
  refine ⟨T, xs, rfl, k1, k2, fun y hy => (k3 y hy).1, fun g hg => (k4 g hg).1, ⟨F', k5, k8, fun b hb => ?_, h3.trans (k6.below h3.size h2), fun b hb => ?_⟩, k6.more (fun b _ e hO => (h4 b hO).1 e)⟩
  · rcases k7 b hb with k | k
    · exact h2 b k
    · exact Nat.le_trans h3.size k
  · rcases hb with hb | hb
    · refine ⟨fun e => ?_, Nat.lt_of_lt_of_le (h4 b hb).2 k6.size⟩
      rcases k7 b e with k | k
      · exact (h4 b hb).1 k
      · have := (h4 b hb).2
        omega
    · exact ⟨(k4 b hb.1).2, hb.2⟩
/-- Where the numbers of what is told lie: in no block of O. -/
theorem hlive_Put2 {w0 w : World} {p : Nat} {s : Hold.St} {O : Nat → Prop} (h : HLive w0 p s O w) (m : Mesg.Msg) (v : Value) (hv : SliceI w v m.know) (hm : m.know.length ≤ 1000000000) :
    Calls Try.prog 12 #[.pointer (some ⟨p, 0, none⟩), msgV m v] w fun e w' => ∃ T xs, e = .returned (.tuple #[T, .int .i64 (Hold.put s m).2.1]) ∧ OwnM w' T xs ∧ xs.map Prod.fst = (Hold.put s m).1 ∧ (∀ y ∈ xs, SliceI w' y.2 y.1.know ∧ ∀ g, y.2.ownBlock = some g → ¬ O g) ∧ (∀ g, T.ownBlock = some g → w.heap.size ≤ g) ∧
      HLive w0 p (Hold.put s m).2.2 O w' ∧ Keep (fun b => ¬ O b) w w' := by
  obtain ⟨F, h1, hr, h2, h3, h4⟩ := h
  refine (hold_Put h1 hr m v hv hm).mono ?_
  rintro e w' ⟨r, rfl, T, xs, F', rfl, k1, k2, k3, k4, k5, k6, k7, k8⟩
  have hOF : ∀ b, O b → ¬ F' b ∧ b < w'.heap.size := fun b hb => by
    refine ⟨fun e => ?_, Nat.lt_of_lt_of_le (h4 b hb).2 k6.size⟩
    rcases k7 b e with k | k
    · exact (h4 b hb).1 k
    · have := (h4 b hb).2
      omega
  refine ⟨T, xs, rfl, k1, k2, fun y hy => ⟨(k3 y hy).1, fun g hg ho => (hOF g ho).1 ((k3 y hy).2 g hg)⟩, fun g hg => (k4 g hg).1, ⟨F', k5, k8, fun b hb => ?_, h3.trans (k6.below h3.size h2), hOF⟩, k6.more (fun b _ e hO => (h4 b hO).1 e)⟩
  rcases k7 b hb with k | k
  · exact h2 b k
  · exact Nat.le_trans h3.size k
/-- A block of O turned. -/
theorem HLive.turn {w0 w w' : World} {p : Nat} {s : Hold.St} {O : Nat → Prop} (h : HLive w0 p s O w) {g : Nat} (hO : O g) (hg : w0.heap.size ≤ g) (hk : Keep (Just g) w w') : HLive w0 p s O w' := by
  obtain ⟨F, h1, hr, h2, h3, h4⟩ := h
  exact ⟨F, h1.keep hk (fun b hb e => by have e : b = g := e; rw [e] at hb; exact (h4 g hO).1 hb), hr, h2, h3.trans (hk.below h3.size (fun i e => by have e : i = g := e; rw [e]; exact hg)), fun b hb => ⟨(h4 b hb).1, Nat.lt_of_lt_of_le (h4 b hb).2 hk.size⟩⟩
theorem hlive_Known {w0 w : World} {p : Nat} {s : Hold.St} {O : Nat → Prop} (h : HLive w0 p s O w) :
    Calls Try.prog 18 #[.pointer (some ⟨p, 0, none⟩)] w fun e w' => ∃ v, e = .returned v ∧ SliceI w' v (Hold.known s) ∧ HLive w0 p s (fun b => O b ∨ v.ownBlock = some b ∧ b < w'.heap.size) w' ∧ Below w.heap.size w w' := by
  have h' := h
  obtain ⟨F, h1, _⟩ := h
  exact (hold_Known h1).mono fun e w' ⟨v, k1, k2, k3, k4⟩ => ⟨v, k1, k2, h'.grew k3 (fun b hb => hb.imp id fun h => ⟨k4 b h.1, h.2⟩), k3⟩
theorem hlive_Clock {w0 w : World} {p : Nat} {s : Hold.St} {O : Nat → Prop} (h : HLive w0 p s O w) :
    Calls Try.prog 17 #[.pointer (some ⟨p, 0, none⟩)] w fun e w' => ∃ v, e = .returned v ∧ SliceI w' v s.clock ∧ HLive w0 p s O w' ∧ Below w.heap.size w w' := by
  have h' := h
  obtain ⟨F, h1, _⟩ := h
  exact (hold_Clock h1).mono fun e w' ⟨v, g, cap, k1, k2⟩ => ⟨v, k1, k2.own.slice, h'.grew k2.bel (fun b hb => .inl hb), k2.bel⟩
end Go.Proofs.Ytjklfjgdmklimaa
