/- What the statements of layer 5 ask of some answers that the document gives holds. -/
import Derived.Test.YtlihdnlojbmhjaaLinkNew
namespace Go.Proofs.Ytlihdnlojbmhjaa
open Go.RowKit Go.Maps
open Links (Lk lk)
set_option linter.unusedVariables false

/-- A network that the call made itself, since w. -/
def Lives (w : World) (p : Nat) (N : Links.Net) (wr : World) : Prop := ∃ F, IsNet wr F p N ∧ (∀ b, F b → w.heap.size ≤ b) ∧ Below w.heap.size w wr
theorem Lives.step {w w1 w2 : World} {p : Nat} {N2 : Links.Net} {F : Nat → Prop} (hF : ∀ b, F b → w.heap.size ≤ b) (hb : Below w.heap.size w w1) (g : Stepped w1 F p N2 w2) : Lives w p N2 w2 := by
  obtain ⟨F2, h2, k2, n2⟩ := g
  refine ⟨F2, h2, fun b hb2 => ?_, hb.trans (k2.below hb.size hF)⟩
  rcases n2 b hb2 with k | k
  · exact hF b k
  · exact Nat.le_trans hb.size k
theorem Lives.grew {w w1 w2 : World} {p : Nat} {N : Links.Net} (h : Lives w p N w1) (hb : Below w1.heap.size w1 w2) : Lives w p N w2 := by
  obtain ⟨F, h1, h2, h3⟩ := h
  exact ⟨F, h1.below hb, h2, Go.Proofs.Ytlihdnlojbmhjaa.grew h3 hb⟩
theorem Lives.below {w w1 : World} {p : Nat} {N : Links.Net} (h : Lives w p N w1) : Below w.heap.size w w1 := by
  obtain ⟨F, _, _, h3⟩ := h
  exact h3
theorem lives_New (n r : Nat) (w0 w : World) (h0 : Below w0.heap.size w0 w) (hn : 1 ≤ n ∧ n ≤ 16) (hr : 1 ≤ r ∧ r ≤ 1000) :
    Calls Try.prog 8 #[.int .i64 (n : Int), .int .i64 (r : Int)] w fun e w' => ∃ p, e = .returned (.tuple #[.pointer (some ⟨p, 0, none⟩), .int .i64 0]) ∧ Lives w0 p (Links.new n r) w' :=
  (net_New n r w hn hr).mono fun e w' ⟨h1, h2, h3⟩ => ⟨_, h1, _, h2, fun b hb => Nat.le_trans h0.size hb.1, grew h0 h3⟩
theorem lives_Send {w0 w : World} {p : Nat} {N : Links.Net} (h : Lives w0 p N w) (a b : Int) (s : ByteArray) (ha : I64 a) (hb : I64 b) (hs : s.size ≤ maxLen) :
    Calls Try.prog 11 #[.pointer (some ⟨p, 0, none⟩), .int .i64 a, .int .i64 b, .string s] w fun e w' => e = .returned (.int .i64 (Links.send N a b s.data.toList).1) ∧ Lives w0 p (Links.send N a b s.data.toList).2 w' := by
  obtain ⟨F, h1, h2, h3⟩ := h
  exact (net_Send h1 a b s ha hb hs).mono fun e w' ⟨k1, k2⟩ => ⟨k1, Lives.step h2 h3 k2⟩
theorem lives_Cast {w0 w : World} {p : Nat} {N : Links.Net} (h : Lives w0 p N w) (a : Int) (s : ByteArray) (ha : I64 a) (hs : s.size ≤ maxLen) :
    Calls Try.prog 13 #[.pointer (some ⟨p, 0, none⟩), .int .i64 a, .string s] w fun e w' => e = .returned (.int .i64 (Links.cast N a s.data.toList).1) ∧ Lives w0 p (Links.cast N a s.data.toList).2 w' := by
  obtain ⟨F, h1, h2, h3⟩ := h
  exact (net_Cast h1 a s ha hs).mono fun e w' ⟨k1, k2⟩ => ⟨k1, Lives.step h2 h3 k2⟩
theorem lives_Take {w0 w : World} {p : Nat} {N : Links.Net} (h : Lives w0 p N w) (a b i : Int) (ha : I64 a) (hb : I64 b) :
    Calls Try.prog 15 #[.pointer (some ⟨p, 0, none⟩), .int .i64 a, .int .i64 b, .int .i64 i] w fun e w' => e = .returned (.tuple #[.string ⟨(Links.take N a b i).1.toArray⟩, .bool (Links.take N a b i).2.1]) ∧ Lives w0 p (Links.take N a b i).2.2 w' := by
  obtain ⟨F, h1, h2, h3⟩ := h
  exact (net_Take h1 a b i ha hb).mono fun e w' ⟨k1, k2⟩ => ⟨k1, Lives.step h2 h3 k2⟩
theorem lives_Double {w0 w : World} {p : Nat} {N : Links.Net} (h : Lives w0 p N w) (a b i : Int) (ha : I64 a) (hb : I64 b) :
    Calls Try.prog 17 #[.pointer (some ⟨p, 0, none⟩), .int .i64 a, .int .i64 b, .int .i64 i] w fun e w' => e = .returned (.int .i64 (Links.double N a b i).1) ∧ Lives w0 p (Links.double N a b i).2 w' := by
  obtain ⟨F, h1, h2, h3⟩ := h
  exact (net_Double h1 a b i ha hb).mono fun e w' ⟨k1, k2⟩ => ⟨k1, Lives.step h2 h3 k2⟩
theorem lives_Turn {w0 w : World} {p : Nat} {N : Links.Net} (h : Lives w0 p N w) (a b i at_ : Int) (c : UInt8) (cn : Int) (hc : (c.toNat : Int) = cn) (ha : I64 a) (hb : I64 b) :
    Calls Try.prog 19 #[.pointer (some ⟨p, 0, none⟩), .int .i64 a, .int .i64 b, .int .i64 i, .int .i64 at_, .int .u8 cn] w fun e w' => e = .returned (.bool (Links.turn N a b i at_ c).1) ∧ Lives w0 p (Links.turn N a b i at_ c).2 w' := by
  subst hc
  obtain ⟨F, h1, h2, h3⟩ := h
  exact (net_Turn h1 a b i at_ c ha hb).mono fun e w' ⟨k1, k2⟩ => ⟨k1, Lives.step h2 h3 k2⟩
theorem lives_Len {w0 w : World} {p : Nat} {N : Links.Net} (h : Lives w0 p N w) (a b : Int) (ha : I64 a) (hb : I64 b) :
    Calls Try.prog 21 #[.pointer (some ⟨p, 0, none⟩), .int .i64 a, .int .i64 b] w fun e w' => e = .returned (.int .i64 ((N.on a b).length : Int)) ∧ w = w' := by
  obtain ⟨F, h1, h2, h3⟩ := h
  exact net_Len h1 a b ha hb

theorem str_whole (s : ByteArray) : (⟨s.data.toList.toArray⟩ : ByteArray) = s := by simp

def liveN0 : Links.Net := Links.new 3 2
def liveN1 : Links.Net := (Links.cast liveN0 0 [97, 98]).2
def liveN2 : Links.Net := (Links.send liveN1 0 0 [120]).2
def liveN3 : Links.Net := (Links.send liveN2 0 1 [99]).2
def liveN4 : Links.Net := (Links.send liveN3 0 1 [100]).2
def liveN5 : Links.Net := (Links.turn liveN4 0 1 0 1 1).2
def liveN6 : Links.Net := (Links.take liveN5 0 1 0).2.2
def liveN7 : Links.Net := (Links.double liveN6 0 1 0).2
def liveN8 : Links.Net := (Links.take liveN7 0 2 0).2.2
def liveN9 : Links.Net := (Links.take liveN8 1 0 0).2.2
theorem i64_small {a : Int} (h : -100 ≤ a ∧ a ≤ 100) : I64 a := ⟨by omega, by omega⟩

set_option maxRecDepth 100000 in
set_option maxHeartbeats 4000000 in
theorem law05_live (w : World) :
    Calls Try.prog 10 #[] w fun e w' => e = .returned (.bool true) ∧ Below w.heap.size w w' := by
  go_enter Try.func10, Try.ntmps10
  go_wp2_with fail
  refine (lives_New 3 2 w w (Below.refl _ _) (by decide) (by decide)).mono ?_
  rintro e w1 ⟨p, rfl, hl⟩
  have H : Hid (Lives w p liveN0 w1) := Lib.hid hl
  clear hl
  go_wp2_with fail
  refine (net_New_no 17 2 _ (by decide)).mono ?_
  rintro e _ ⟨rfl, rfl⟩
  go_wp2_with fail
  refine (lives_Cast H.out 0 ⟨#[97, 98]⟩ (i64_small (by decide)) (by decide)).mono ?_
  rintro e w2 ⟨rfl, hl⟩
  rw [show (Links.cast liveN0 0 (⟨#[97, 98]⟩ : ByteArray).data.toList).1 = 2 from by decide +kernel]
  have H : Hid (Lives w p liveN1 w2) := Lib.hid hl
  clear hl
  go_wp2_with fail
  refine (lives_Send H.out 0 0 ⟨#[120]⟩ (i64_small (by decide)) (i64_small (by decide)) (by decide)).mono ?_
  rintro e w3 ⟨rfl, hl⟩
  rw [show (Links.send liveN1 0 0 (⟨#[120]⟩ : ByteArray).data.toList).1 = 1 from by decide +kernel]
  have H : Hid (Lives w p liveN2 w3) := Lib.hid hl
  clear hl
  go_wp2_with fail
  refine (lives_Send H.out 0 1 ⟨#[99]⟩ (i64_small (by decide)) (i64_small (by decide)) (by decide)).mono ?_
  rintro e w4 ⟨rfl, hl⟩
  rw [show (Links.send liveN2 0 1 (⟨#[99]⟩ : ByteArray).data.toList).1 = 0 from by decide +kernel]
  have H : Hid (Lives w p liveN3 w4) := Lib.hid hl
  clear hl
  go_wp2_with fail
  refine (lives_Send H.out 0 1 ⟨#[100]⟩ (i64_small (by decide)) (i64_small (by decide)) (by decide)).mono ?_
  rintro e w5 ⟨rfl, hl⟩
  rw [show (Links.send liveN3 0 1 (⟨#[100]⟩ : ByteArray).data.toList).1 = 5 from by decide +kernel]
  have H : Hid (Lives w p liveN4 w5) := Lib.hid hl
  clear hl
  go_wp2_with fail
  refine (lives_Turn H.out 0 1 0 1 1 1 rfl (i64_small (by decide)) (i64_small (by decide))).mono ?_
  rintro e w6 ⟨rfl, hl⟩
  rw [show (Links.turn liveN4 0 1 0 1 1).1 = true from by decide +kernel]
  have H : Hid (Lives w p liveN5 w6) := Lib.hid hl
  clear hl
  go_wp2_with fail
  refine (lives_Take H.out 0 1 0 (i64_small (by decide)) (i64_small (by decide))).mono ?_
  rintro e w7 ⟨rfl, hl⟩
  rw [show (Links.take liveN5 0 1 0).1 = [97, 99] from by decide +kernel, show (Links.take liveN5 0 1 0).2.1 = true from by decide +kernel]
  have H : Hid (Lives w p liveN6 w7) := Lib.hid hl
  clear hl
  go_wp2_with fail
  refine (lives_Double H.out 0 1 0 (i64_small (by decide)) (i64_small (by decide))).mono ?_
  rintro e w8 ⟨rfl, hl⟩
  rw [show (Links.double liveN6 0 1 0).1 = 0 from by decide +kernel]
  have H : Hid (Lives w p liveN7 w8) := Lib.hid hl
  clear hl
  go_wp2_with fail
  refine (lives_Take H.out 0 2 0 (i64_small (by decide)) (i64_small (by decide))).mono ?_
  rintro e w9 ⟨rfl, hl⟩
  rw [show (Links.take liveN7 0 2 0).1 = [97, 98] from by decide +kernel, show (Links.take liveN7 0 2 0).2.1 = true from by decide +kernel]
  have H : Hid (Lives w p liveN8 w9) := Lib.hid hl
  clear hl
  go_wp2_with fail
  refine (lives_Take H.out 1 0 0 (i64_small (by decide)) (i64_small (by decide))).mono ?_
  rintro e w10 ⟨rfl, hl⟩
  rw [show (Links.take liveN8 1 0 0).1 = [] from by decide +kernel, show (Links.take liveN8 1 0 0).2.1 = false from by decide +kernel]
  have H : Hid (Lives w p liveN9 w10) := Lib.hid hl
  clear hl
  go_wp2_with fail
  refine (lives_Len H.out 0 1 (i64_small (by decide)) (i64_small (by decide))).mono ?_
  rintro e _ ⟨rfl, rfl⟩
  rw [show (((liveN9.on 0 1).length : Nat) : Int) = 2 from by decide +kernel]
  go_wp2
  go_ret
  exact ⟨rfl, H.out.below⟩
end Go.Proofs.Ytlihdnlojbmhjaa
