/- Plain mathematics of messages: their bytes. -/
import Derived.Test.YtcmdfjeiefgmhaaMesgMath
namespace Mesg

def numsI (l : List Int) : List UInt8 := Pack.nums (l.map Int.toNat)

theorem numsI_append (a b : List Int) : numsI (a ++ b) = numsI a ++ numsI b := by simp [numsI, Pack.nums]

/-- A message's bytes. -/
def bytes (m : Msg) : List UInt8 :=
  numsI [m.site, m.seq] ++ (Pack.num m.know.length ++ numsI m.know) ++ numsI [m.op.kind, m.op.epoch]
    ++ (if m.op.kind = 1 ∨ m.op.kind = 6 then numsI [m.op.id.time, m.op.id.site] else [])
    ++ (if m.op.kind = 6 then [] else numsI [m.op.ref.time, m.op.ref.site])
    ++ (if m.op.kind = 1 then numsI [m.op.rune] else [])

/-- A number of which pack has bytes. -/
def Fit (n : Int) : Prop := 0 ≤ n ∧ n ≤ 4294967295

theorem clock_fit {n : Int} (h : clock n = true) : Fit n := by
  simp [clock] at h
  exact h
theorem idMay_fit {x : Id} {n : Nat} (h : idMay x n = true) (hn : n ≤ 16) : Fit x.time ∧ Fit x.site := by
  simp [idMay] at h
  obtain ⟨⟨⟨_, h2⟩, h3⟩, h4⟩ := h
  exact ⟨clock_fit h2, by constructor <;> omega⟩
theorem isZero_fit {x : Id} (h : isZero x = true) : Fit x.time ∧ Fit x.site := by
  simp [isZero] at h
  obtain ⟨h1, h2⟩ := h
  rw [h1, h2]
  exact ⟨⟨by decide, by decide⟩, ⟨by decide, by decide⟩⟩
theorem isZero_is {x : Id} : isZero x = true ↔ x = zero := by
  obtain ⟨a, b⟩ := x
  simp [isZero, zero]
theorem rune_fit {n : Int} (h : rune n = true) : Fit n := by
  simp [rune] at h
  constructor <;> omega

theorem may_head {m : Msg} (h : may m = true) : 1 ≤ m.know.length ∧ m.know.length ≤ 16 ∧ (∀ z ∈ m.know, Fit z) ∧ Fit m.site ∧ Fit m.seq := by
  simp only [may, Bool.and_eq_true] at h
  have h1 := h.1
  simp [headMay] at h1
  obtain ⟨⟨⟨⟨⟨⟨⟨a, b⟩, c⟩, d⟩, e⟩, f⟩, g⟩, i⟩ := h1
  have g' := clock_fit g
  refine ⟨?_, b, fun z hz => clock_fit (c z hz), ⟨d, by omega⟩, g'⟩
  first | exact a | (have := List.length_pos_iff.2 a; omega) | omega

theorem kinds_of {k : Int} (h : ¬ k = 1) (h2 : ¬ (k = 2 ∨ k = 3 ∨ k = 4 ∨ k = 7 ∨ k = 8)) (h5 : ¬ k = 5) (h6 : ¬ k = 6) : ¬ (1 ≤ k ∧ k ≤ 8) := by omega

theorem may_op {m : Msg} (h : may m = true) : 1 ≤ m.op.kind ∧ m.op.kind ≤ 8 ∧ Fit m.op.epoch ∧ (Fit m.op.id.time ∧ Fit m.op.id.site) ∧ (Fit m.op.ref.time ∧ Fit m.op.ref.site) ∧ Fit m.op.rune := by
  have hn := (may_head h).2.1
  simp only [may, Bool.and_eq_true] at h
  have h1 := h.2
  simp only [opMay, Bool.and_eq_true] at h1
  obtain ⟨he, h2⟩ := h1
  have he' := clock_fit he
  have z0 : Fit 0 := ⟨by decide, by decide⟩
  by_cases k1 : m.op.kind = 1
  · rw [if_pos k1] at h2
    simp only [own, refMay, Bool.and_eq_true, Bool.or_eq_true] at h2
    obtain ⟨⟨⟨a, _⟩, b⟩, c⟩ := h2
    refine ⟨by omega, by omega, he', idMay_fit a hn, ?_, rune_fit c⟩
    rcases b with b | ⟨b, _⟩
    · exact isZero_fit b
    · exact idMay_fit b hn
  · rw [if_neg k1] at h2
    by_cases k2 : m.op.kind = 2 ∨ m.op.kind = 3 ∨ m.op.kind = 4 ∨ m.op.kind = 7 ∨ m.op.kind = 8
    · rw [if_pos k2] at h2
      simp only [refMay, Bool.and_eq_true, decide_eq_true_eq] at h2
      obtain ⟨⟨a, b⟩, c⟩ := h2
      exact ⟨by omega, by omega, he', isZero_fit b, idMay_fit a hn, by rw [c]; exact z0⟩
    · rw [if_neg k2] at h2
      by_cases k5 : m.op.kind = 5
      · rw [if_pos k5] at h2
        simp only [refMay, Bool.and_eq_true, Bool.or_eq_true, decide_eq_true_eq] at h2
        obtain ⟨⟨a, b⟩, c⟩ := h2
        refine ⟨by omega, by omega, he', isZero_fit b, ?_, by rw [c]; exact z0⟩
        rcases a with a | a
        · exact isZero_fit a
        · exact idMay_fit a hn
      · rw [if_neg k5] at h2
        by_cases k6 : m.op.kind = 6
        · rw [if_pos k6] at h2
          simp only [own, Bool.and_eq_true, decide_eq_true_eq] at h2
          obtain ⟨⟨⟨a, _⟩, b⟩, c⟩ := h2
          exact ⟨by omega, by omega, he', idMay_fit a hn, isZero_fit b, by rw [c]; exact z0⟩
        · rw [if_neg k6] at h2
          cases h2

/-- Which parts of an op are zero, by its kind. -/
theorem may_zeros {m : Msg} (h : may m = true) : (m.op.kind = 1 ∨ m.op.kind = 6 ∨ m.op.id = zero) ∧ (m.op.kind = 6 → m.op.ref = zero) ∧ (m.op.kind = 1 ∨ m.op.rune = 0) := by
  simp only [may, Bool.and_eq_true] at h
  have h1 := h.2
  simp only [opMay, Bool.and_eq_true] at h1
  obtain ⟨he, h2⟩ := h1
  by_cases k1 : m.op.kind = 1
  · exact ⟨.inl k1, fun h => by omega, .inl k1⟩
  · rw [if_neg k1] at h2
    by_cases k2 : m.op.kind = 2 ∨ m.op.kind = 3 ∨ m.op.kind = 4 ∨ m.op.kind = 7 ∨ m.op.kind = 8
    · rw [if_pos k2] at h2
      simp only [Bool.and_eq_true, decide_eq_true_eq] at h2
      exact ⟨.inr (.inr (isZero_is.1 h2.1.2)), fun h => by omega, .inr h2.2⟩
    · rw [if_neg k2] at h2
      by_cases k5 : m.op.kind = 5
      · rw [if_pos k5] at h2
        simp only [Bool.and_eq_true, decide_eq_true_eq] at h2
        exact ⟨.inr (.inr (isZero_is.1 h2.1.2)), fun h => by omega, .inr h2.2⟩
      · rw [if_neg k5] at h2
        by_cases k6 : m.op.kind = 6
        · rw [if_pos k6] at h2
          simp only [Bool.and_eq_true, decide_eq_true_eq] at h2
          exact ⟨.inr (.inl k6), fun _ => isZero_is.1 h2.1.2, .inr h2.2⟩
        · rw [if_neg k6] at h2
          cases h2
end Mesg
