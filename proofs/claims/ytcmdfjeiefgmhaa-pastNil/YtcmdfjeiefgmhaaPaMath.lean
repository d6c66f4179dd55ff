/- What was handed in: plain facts. -/
import Derived.Test.YtcmdfjeiefgmhaaStr
namespace Go.Proofs.Ytcmdfjeiefgmhaa
set_option linter.unusedVariables false

namespace Past
/-- What Add says, and the lines behind it. -/
def add (L : List ByteArray) (e : Int) (t : ByteArray) : Int × List ByteArray :=
  if e < 0 ∨ 20000 < t.size then (1, L)
  else if e < L.length then (if L.getD e.toNat ⟨#[]⟩ = t then 7 else 8, L)
  else if (L.length : Int) < e then (6, L)
  else if 10000 ≤ L.length then (5, L)
  else (0, L ++ [t])
/-- Is there a line of that epoch? -/
def has (L : List ByteArray) (e : Int) : Bool := decide (0 ≤ e ∧ e < L.length)
/-- That line. -/
def line (L : List ByteArray) (e : Int) : ByteArray := if 0 ≤ e ∧ e < L.length then L.getD e.toNat ⟨#[]⟩ else ⟨#[]⟩
theorem add_few {L : List ByteArray} (h : L.length ≤ 10000) (e : Int) (t : ByteArray) : (add L e t).2.length ≤ 10000 := by
  unfold add
  split
  · exact h
  · split
    · exact h
    · split
      · exact h
      · split
        · exact h
        · simp; omega
theorem add_len (L : List ByteArray) (e : Int) (t : ByteArray) : (add L e t).2.length ≤ L.length + 1 := by
  unfold add
  split
  · simp
  · split
    · simp
    · split
      · simp
      · split
        · simp
        · simp
theorem add_onto (L : List ByteArray) (e : Int) (t : ByteArray) : L <+: (add L e t).2 := by
  unfold add
  split
  · exact List.prefix_refl _
  · split
    · exact List.prefix_refl _
    · split
      · exact List.prefix_refl _
      · split
        · exact List.prefix_refl _
        · exact List.prefix_append _ _
/-- Does one list begin another one? -/
def begins (a b : List ByteArray) : Bool := decide (a.length ≤ b.length) && decide (a = b.take a.length)
theorem begins_iff {a b : List ByteArray} : begins a b = true ↔ a <+: b := by
  unfold begins
  rw [Bool.and_eq_true, decide_eq_true_iff, decide_eq_true_iff, List.prefix_iff_eq_take]
  constructor
  · exact fun h => h.2
  · intro h
    refine ⟨?_, h⟩
    rw [h, List.length_take]
    omega
theorem begins_self (a : List ByteArray) : begins a a = true := begins_iff.2 (List.prefix_refl a)
theorem begins_app (a b : List ByteArray) : begins a (a ++ b) = true := begins_iff.2 (List.prefix_append a b)
theorem begins_both (a b : List ByteArray) : (begins a b && begins b a) = decide (a = b) := by
  rw [Bool.eq_iff_iff, Bool.and_eq_true, begins_iff, begins_iff, decide_eq_true_iff]
  constructor
  · rintro ⟨h1, h2⟩
    exact h1.eq_of_length (Nat.le_antisymm h1.length_le h2.length_le)
  · rintro rfl
    exact ⟨List.prefix_refl a, List.prefix_refl a⟩
end Past
end Go.Proofs.Ytcmdfjeiefgmhaa
