/- Slices of structs: what they hold; how they are handed over. -/
import Derived.Test.YtakjoodlediemaaKeep
import Derived.Deep.Slices
import Derived.ChangeSlices
import Derived.OpenShut
namespace Go.Proofs.Ytakjoodlediemaa
open Go.ChangeShapes Go.WideShapes Go.ChangeAt Go.RowKit Go.Deep
set_option linter.unusedVariables false

/-- The slice v holds the things os, each in k cells. -/
def SliceG {α : Type} (k : Nat) (c : α → List Value) (w : World) (v : Value) (os : List α) : Prop :=
  ∃ a cap, v = .slice a os.length cap ∧ os.length ≤ cap ∧ (os = [] ∨ ∃ b off, a = some ⟨b, off, none⟩ ∧ b < w.heap.size ∧ ∀ i (h : i < os.length) j u, (c os[i])[j]? = some u → w.cell? ⟨b, off + i * k + j, none⟩ = some u)

theorem SliceG.below {α : Type} {k : Nat} {c : α → List Value} {w w' : World} {v : Value} {os : List α} (h : SliceG k c w v os) (hb : Below w.heap.size w w') : SliceG k c w' v os := by
  obtain ⟨a, cap, hv, hc, h⟩ := h
  refine ⟨a, cap, hv, hc, ?_⟩
  rcases h with h | ⟨b, off, ha, hlt, hcell⟩
  · exact .inl h
  · exact .inr ⟨b, off, ha, Nat.lt_of_lt_of_le hlt hb.size, fun i hi j u hu => by rw [hb.cell (p := ⟨b, off + i * k + j, none⟩) hlt]; exact hcell i hi j u hu⟩
theorem SliceG.shape {α : Type} {k : Nat} {c : α → List Value} {w : World} {v : Value} {os : List α} (h : SliceG k c w v os) : ∃ a cap, v = .slice a os.length cap := by
  obtain ⟨a, cap, hv, _⟩ := h
  exact ⟨a, cap, hv⟩
theorem SliceG.at {α : Type} {k : Nat} {c : α → List Value} {w : World} {a : Option Addr} {cap : Nat} {os : List α} (h : SliceG k c w (.slice a os.length cap) os) {i : Nat} (hi : i < os.length) : ∃ b off, a = some ⟨b, off, none⟩ ∧ b < w.heap.size ∧ ∀ j u, (c os[i])[j]? = some u → w.cell? ⟨b, off + i * k + j, none⟩ = some u := by
  obtain ⟨a', cap', e, _, h⟩ := h
  injection e with e1 _ _
  subst e1
  rcases h with h | ⟨b, off, rfl, hlt, hc⟩
  · subst h; simp at hi
  · exact ⟨b, off, rfl, hlt, hc i hi⟩

theorem exists_list {α : Type} {n : Nat} {R : Nat → α → Prop} (h : ∀ i, i < n → ∃ o, R i o) : ∃ os : List α, os.length = n ∧ ∀ i (hi : i < os.length), R i os[i] := by
  induction n with
  | zero => exact ⟨[], rfl, fun i hi => by simp at hi⟩
  | succ n ih =>
    obtain ⟨os, hl, hr⟩ := ih (fun i hi => h i (by omega))
    obtain ⟨o, ho⟩ := h n (by omega)
    refine ⟨os ++ [o], by simp [hl], fun i hi => ?_⟩
    by_cases e : i < os.length
    · rw [List.getElem_append_left e]; exact hr i e
    · have : i = os.length := by simp at hi; omega
      subst this
      simp
      rw [hl]; exact ho

section
variable {H : Type} {enc : TypeId × Value → H} {W : World}
theorem open_sliceG {α : Type} {k : Nat} {c : α → List Value} {ok : α → Prop} {t e : TypeId} {len cap : Nat} {a : Option Addr} {x : DataW H × List MemPlace} {fuel : Nat} (ht : Try.prog.underlying t = some (.slice e)) (hk : Try.prog.cellsOf e = k) (hk0 : 0 < k)
    (el : ∀ n cs y, DataW.trod enc Try.prog W 0 (fun _ => true) true n e cs = some y → cs.length = k → ∃ o, cs = c o ∧ ok o)
    (h : DataW.trod enc Try.prog W 0 (fun _ => true) true fuel t [.slice a len cap] = some x) : ∃ os : List α, SliceG k c W (.slice a len cap) os ∧ os.length = len ∧ len ≤ maxLen ∧ ∀ o ∈ os, ok o := by
  rcases open_slice ht h with ⟨h0, _⟩ | ⟨b, l, cp, m, n, D, Pl, hcs, _, hl, hm, hmm, _, hi⟩
  · simp at h0
    obtain ⟨rfl, rfl, rfl⟩ := h0
    exact ⟨[], ⟨none, 0, rfl, by simp, .inl rfl⟩, rfl, by simp, by simp⟩
  · simp at hcs
    obtain ⟨rfl, rfl, rfl⟩ := hcs
    obtain ⟨os, hol, hor⟩ : ∃ os : List α, os.length = len ∧ ∀ i (hi : i < os.length), ok os[i] ∧ ∀ j u, (c os[i])[j]? = some u → W.cell? (b.add (i * k + j)) = some u := exists_list (R := fun i o => ok o ∧ ∀ j u, (c o)[j]? = some u → W.cell? (b.add (i * k + j)) = some u) (fun i hil => by
      obtain ⟨cs', hc, ht'⟩ := hi i (by simp at hmm; omega)
      rw [hk] at hc
      obtain ⟨_, hcl, hat⟩ := World.cells?_some hc
      obtain ⟨o, ho, hok⟩ := el n cs' _ ht' hcl
      refine ⟨o, hok, fun j u hu => ?_⟩
      have hj : j < k := by
        have := (List.getElem?_eq_some_iff.1 hu).1
        rw [← ho] at this; omega
      have := hat j hj
      rw [ho, hu, Go.Deep.add_add] at this
      exact this)
    refine ⟨os, ⟨some b, cap, by rw [hol], by omega, ?_⟩, hol, by omega, fun o ho => ?_⟩
    · by_cases h0 : len = 0
      · exact .inl (List.eq_nil_of_length_eq_zero (by omega))
      · obtain ⟨bb, off, spot⟩ := b
        obtain ⟨cs', hc, ht'⟩ := hi 0 (by simp at hmm; omega)
        rw [hk] at hc
        obtain ⟨_, hcl, hat⟩ := World.cells?_some hc
        have hc0 := hat 0 hk0
        rw [Go.Deep.add_add, List.getElem?_eq_getElem (by omega)] at hc0
        have hspot : spot = none := by simpa [Addr.add] using World.cell?_spot hc0
        subst hspot
        have hplain : ∀ i, (⟨bb, off, none⟩ : Addr).add i = ⟨bb, off + i, none⟩ := fun i => by unfold Addr.add; split <;> simp_all
        refine .inr ⟨bb, off, rfl, ?_, fun i hi j u hu => ?_⟩
        · rw [hplain] at hc0
          exact block_lt_of_cell hc0
        · have := (hor i hi).2 j u hu
          rw [hplain] at this
          rw [Nat.add_assoc]
          exact this
    · obtain ⟨i, hi', rfl⟩ := List.mem_iff_getElem.1 ho
      exact (hor i hi').1
end
end Go.Proofs.Ytakjoodlediemaa
