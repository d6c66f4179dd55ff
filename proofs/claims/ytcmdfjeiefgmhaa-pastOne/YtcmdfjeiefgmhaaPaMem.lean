/- A log in memory; lists of texts that the call was told. -/
import Derived.Test.YtcmdfjeiefgmhaaThings
import Derived.Test.YtcmdfjeiefgmhaaStrs
import Derived.Test.YtcmdfjeiefgmhaaPaMath
namespace Go.Proofs.Ytcmdfjeiefgmhaa
open Go.RowKit
set_option linter.unusedVariables false

/-- A box at p, of the type t, in which the lines L lie. -/
def LogV (t : TypeId) (p : Nat) (L : List ByteArray) : Th := fun w F => ∃ v, Holds w p [v] t ∧ OwnS w v L ∧ (∀ g, v.ownBlock = some g → g ≠ p) ∧ (L = [] → v = .slice none 0 0) ∧ ∀ k, F k ↔ k = p ∨ v.ownBlock = some k
theorem LogV.good (t : TypeId) (p : Nat) (L : List ByteArray) : Good (LogV t p L) := by
  refine ⟨fun ⟨v, h1, h2, h3, h4, h5⟩ hk => ?_, fun ⟨v, h1, h2, h3, h4, h5⟩ hk hn => ⟨v, h1.keep hk (hn p ((h5 p).2 (.inl rfl))), h2.keep hk (fun g hg => hn g ((h5 g).2 (.inr hg))), h3, h4, h5⟩⟩
  rcases (h5 _).1 hk with rfl | q
  · exact h1.lt
  · exact Owns.lt h2 q
/-- The texts L, in v. -/
def TextsV (v : Value) (L : List ByteArray) : Th := fun w F => ∃ a cap, v = .slice a L.length cap ∧ L.length ≤ cap ∧ (L = [] ∨ ∃ b off, a = some ⟨b, off, none⟩ ∧ F b ∧ ∀ i (h : i < L.length), w.cell? ⟨b, off + i, none⟩ = some (.string L[i])) ∧ ∀ k, F k → k < w.heap.size
theorem TextsV.good (v : Value) (L : List ByteArray) : Good (TextsV v L) := by
  refine ⟨fun ⟨a, cap, h1, h2, h3, h4⟩ hk => h4 _ hk, fun ⟨a, cap, h1, h2, h3, h4⟩ hk hn => ⟨a, cap, h1, h2, ?_, fun k hF => Nat.lt_of_lt_of_le (h4 k hF) hk.size⟩⟩
  rcases h3 with h3 | ⟨b, off, e, hF, hc⟩
  · exact .inl h3
  · exact .inr ⟨b, off, e, hF, fun i hi => (hk.cell (h4 b hF) (hn b hF)).trans (hc i hi)⟩
theorem TextsV.slice {v : Value} {L : List ByteArray} {w : World} {F : Nat → Prop} (h : TextsV v L w F) : SliceS w v L := by
  obtain ⟨a, cap, h1, h2, h3, h4⟩ := h
  refine ⟨a, cap, h1, h2, ?_⟩
  rcases h3 with h3 | ⟨b, off, e, hF, hc⟩
  · exact .inl h3
  · exact .inr ⟨b, off, e, h4 b hF, hc⟩
theorem TextsV.of {v : Value} {L : List ByteArray} {w : World} (h : OwnS w v L) : TextsV v L w (At v) := by
  obtain ⟨a, cap, e, h1, h2⟩ := h.slice
  refine ⟨a, cap, e, h1, ?_, fun k hk => Owns.lt h hk⟩
  rcases h2 with h2 | ⟨b, off, e1, hb, hc⟩
  · exact .inl h2
  · subst e e1
    exact .inr ⟨b, off, rfl, rfl, hc⟩
end Go.Proofs.Ytcmdfjeiefgmhaa
