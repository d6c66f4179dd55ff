/- What the statements of layer 8 ask of some answers that the document gives holds. -/
import Derived.Test.YtjklfjgdmklimaaRsAsks
import Derived.Test.YtjklfjgdmklimaaMesgSame0
namespace Go.Proofs.Ytjklfjgdmklimaa
open Go.RowKit Go.Maps
set_option linter.unusedVariables false

/-- A store that the call made itself, since w0; the blocks of O are none of its. -/
def SLive (w0 : World) (p : Nat) (s : Resend.St) (O : Nat → Prop) (wr : World) : Prop := ∃ F, IsStore wr F p s ∧ (∀ b, F b → w0.heap.size ≤ b) ∧ Below w0.heap.size w0 wr ∧ ∀ b, O b → ¬ F b ∧ b < wr.heap.size

theorem SLive.below {w0 wr : World} {p : Nat} {s : Resend.St} {O : Nat → Prop} (h : SLive w0 p s O wr) : Below w0.heap.size w0 wr := by
  obtain ⟨F, _, _, hb, _⟩ := h
  exact hb
theorem SLive.grew {w0 wr w2 : World} {p : Nat} {s : Resend.St} {O O' : Nat → Prop} (h : SLive w0 p s O wr) (hb : Below wr.heap.size wr w2) (hO : ∀ b, O' b → O b ∨ wr.heap.size ≤ b ∧ b < w2.heap.size) : SLive w0 p s O' w2 := by
  obtain ⟨F, h1, h2, h3, h4⟩ := h
  obtain ⟨mp, S, es, hw⟩ := h1
  refine ⟨F, ⟨mp, S, es, hw.below hb⟩, h2, Go.Proofs.Ytjklfjgdmklimaa.grew h3 hb, fun b hb' => ?_⟩
  rcases hO b hb' with k | k
  · exact ⟨(h4 b k).1, Nat.lt_of_lt_of_le (h4 b k).2 hb.size⟩
  · exact ⟨fun e => by have := hw.lt b e; omega, k.2⟩
theorem SLive.step {w0 wr w2 : World} {p : Nat} {s2 : Resend.St} {O F : Nat → Prop} (h2 : ∀ b, F b → w0.heap.size ≤ b) (h3 : Below w0.heap.size w0 wr) (h4 : ∀ b, O b → ¬ F b ∧ b < wr.heap.size) (g : SStep wr F p s2 w2) : SLive w0 p s2 O w2 ∧ Keep (fun b => ¬ O b) wr w2 := by
  obtain ⟨F2, k1, k2, k3⟩ := g
  refine ⟨⟨F2, k1, fun b hb => ?_, h3.trans (k2.below h3.size h2), fun b hb => ⟨fun e => ?_, Nat.lt_of_lt_of_le (h4 b hb).2 k2.size⟩⟩, k2.more (fun b _ e hO => (h4 b hO).1 e)⟩
  · rcases k3 b hb with k | k
    · exact h2 b k
    · exact Nat.le_trans h3.size k
  · rcases k3 b e with k | k
    · exact (h4 b hb).1 k
    · have := (h4 b hb).2; omega

theorem slive_New (n r : Nat) (w0 w : World) (h0 : Below w0.heap.size w0 w) (hn : 1 ≤ n ∧ n ≤ 16) (hr : 1 ≤ r ∧ r ≤ 100000) (O : Nat → Prop) (hO : ∀ b, O b → b < w.heap.size) :
    Calls Try.prog 25 #[.int .i64 (n : Int), .int .i64 (r : Int)] w fun e w' => ∃ p, e = .returned (.tuple #[.pointer (some ⟨p, 0, none⟩), .int .i64 0]) ∧ SLive w0 p (Resend.new n r) O w' ∧ Below w.heap.size w w' :=
  (resend_New_yes n r w hn hr).mono fun e w' ⟨p, F, h1, h2, h3, h4⟩ => ⟨p, h1, ⟨F, h2, fun b hb => Nat.le_trans h0.size (h3 b hb), grew h0 h4, fun b hb => ⟨fun e => by have := h3 b e; have := hO b hb; omega, Nat.lt_of_lt_of_le (hO b hb) h4.size⟩⟩, h4⟩
theorem slive_Keep {w0 w : World} {p : Nat} {s : Resend.St} {O : Nat → Prop} (h : SLive w0 p s O w) (m : Mesg.Msg) (v : Value) (hv : SliceI w v m.know) (hm : m.know.length ≤ 1000000000) :
    Calls Try.prog 26 #[.pointer (some ⟨p, 0, none⟩), msgV m v] w fun e w' => e = .returned (.int .i64 (Resend.keep s m).1) ∧ SLive w0 p (Resend.keep s m).2 O w' ∧ Keep (fun b => ¬ O b) w w' := by
  obtain ⟨F, h1, h2, h3, h4⟩ := h
  exact (resend_Keep h1 m v hv hm).mono fun e w' ⟨k1, k2⟩ => ⟨k1, SLive.step h2 h3 h4 k2⟩
theorem slive_Drop {w0 w : World} {p : Nat} {s : Resend.St} {O : Nat → Prop} (h : SLive w0 p s O w) (v : Value) (zs : List Int) (hv : SliceI w v zs) (hm : zs.length ≤ 1000000000) :
    Calls Try.prog 45 #[.pointer (some ⟨p, 0, none⟩), v] w fun e w' => e = .returned (.tuple #[.int .i64 (Resend.drop s zs).1, .int .i64 (Resend.drop s zs).2.1]) ∧ SLive w0 p (Resend.drop s zs).2.2 O w' ∧ Keep (fun b => ¬ O b) w w' := by
  obtain ⟨F, h1, h2, h3, h4⟩ := h
  exact (resend_Drop h1 v zs hv hm).mono fun e w' ⟨k1, k2⟩ => ⟨k1, SLive.step h2 h3 h4 k2⟩
theorem slive_Get {w0 w : World} {p : Nat} {s : Resend.St} {O : Nat → Prop} (h : SLive w0 p s O w) (a b : Int) (ha : I64 a) (hb : I64 b) :
    Calls Try.prog 28 #[.pointer (some ⟨p, 0, none⟩), .agg #[.int .i64 a, .int .i64 b]] w fun e w' => ∃ u, e = .returned (.tuple #[msgV (Resend.get s (a, b)).1 u, .bool (Resend.get s (a, b)).2]) ∧ SliceI w' u (Resend.get s (a, b)).1.know ∧ SLive w0 p s (fun b => O b ∨ u.ownBlock = some b) w' ∧ Below w.heap.size w w' := by
  have h' := h
  obtain ⟨F, h1, h2, h3, h4⟩ := h
  exact (resend_Get h1 a b ha hb).mono fun e w' ⟨r, k1, ⟨u, k2, k3, k4⟩, k5⟩ => ⟨u, by rw [k1, k2], k3, h'.grew k5 (fun b hb => hb.imp id (fun e => k4 b e)), k5⟩
theorem slive_Len {w0 w : World} {p : Nat} {s : Resend.St} {O : Nat → Prop} (h : SLive w0 p s O w) :
    Calls Try.prog 46 #[.pointer (some ⟨p, 0, none⟩)] w fun e w' => e = .returned (.int .i64 (s.l.length : Int)) ∧ w = w' := by
  obtain ⟨F, h1, _⟩ := h
  exact resend_Len h1

def liveR : Mesg.Msg := ⟨0, 1, [0, 3], ⟨5, 0, ⟨0, 0⟩, ⟨0, 0⟩, 0⟩⟩
def liveS1 : Resend.St := ⟨2, 2, [liveR]⟩
def liveS2 : Resend.St := ⟨2, 2, []⟩
theorem live_keep : Resend.keep (Resend.new 2 2) liveR = (0, liveS1) := by
  unfold Resend.keep
  rw [if_pos (by decide +kernel), if_neg (by decide +kernel), if_pos (by decide +kernel)]
  rfl
theorem live_keep2 : Resend.keep liveS1 liveR = (7, liveS1) := by
  unfold Resend.keep
  rw [if_pos (by decide +kernel), if_pos (by decide +kernel)]
theorem live_get : Resend.get liveS1 (0, 1) = (liveR, true) := by decide +kernel
theorem live_drop : Resend.drop liveS1 [1, 0] = (1, 0, liveS2) := by
  unfold Resend.drop
  rw [if_pos (by decide +kernel)]
  rw [show Resend.left [1, 0] liveS1.l = [] from by decide +kernel]
  rfl
theorem live_get2 : Resend.get liveS2 (0, 1) = (Mesg.none, false) := by decide +kernel
theorem live_asks : Resend.asks [0, 1] [2, 1] 5 = ([(0, 1), (0, 2)], 0) := by decide +kernel
end Go.Proofs.Ytjklfjgdmklimaa
