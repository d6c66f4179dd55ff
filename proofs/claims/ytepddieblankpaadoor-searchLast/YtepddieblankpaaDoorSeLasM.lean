/- A query that is a whole line. -/
import Derived.Test.YtepddieblankpaaDoorSeSk
namespace Srch
open Go
/-- The first j bytes. -/
def pre (s : ByteArray) (j : Nat) : List Int := (s.data.toList.take j).map fun c => (c.toNat : Int)
theorem pre_zero (s : ByteArray) : pre s 0 = [] := rfl
theorem pre_succ (s : ByteArray) {j : Nat} (h : j < s.size) : pre s (j + 1) = pre s j ++ [(((s.get j h).toNat : Nat) : Int)] := by
  unfold pre
  have hl : j < s.data.toList.length := by simpa using h
  rw [List.take_succ_eq_append_getElem hl, List.map_append]
  rfl
theorem pre_len (s : ByteArray) {j : Nat} (h : j ≤ s.size) : (pre s j).length = j := by
  simp [pre]; omega
/-- Bytes that may stand in a line. -/
def plain (s : ByteArray) : Prop := ∀ j (h : j < s.size), 32 ≤ (s.get j h).toNat ∧ (s.get j h).toNat ≤ 126
theorem pre_text {s : ByteArray} (hp : plain s) : ∀ {j : Nat}, j ≤ s.size → (Ut.text (pre s j)).data.toList = s.data.toList.take j
  | 0, _ => by rw [pre_zero, Ut.text_data]; rfl
  | j + 1, h => by
    have hl : j < s.data.toList.length := by simp; omega
    have ih := pre_text hp (j := j) (by omega)
    rw [Ut.text_data] at ih ⊢
    have hc := (hp j h).2
    have ee : Ut.enc (((s.get j h).toNat : Nat) : Int) = [s.data.toList[j]] := by
      rw [Ut.enc1 (by omega), UInt8.ofNat_toNat]
      rfl
    rw [pre_succ s h, List.flatMap_append, ih, List.take_succ_eq_append_getElem hl, List.flatMap_singleton, ee]
theorem pre_all {s : ByteArray} (hp : plain s) : Ut.text (pre s s.size) = s := by
  apply ByteArray.ext
  apply Array.toList_inj.1
  rw [pre_text hp (Nat.le_refl _)]
  exact List.take_of_length_le (by simp)
theorem fits_iff {q t : ByteArray} : fits q t = true ↔ ∃ i, i ≤ t.size ∧ q.data.toList <+: t.data.toList.drop i := by
  constructor
  · intro h
    unfold fits Lib.contains at h
    rcases Lib.index_spec t.data.toList q.data.toList with ⟨h1, h2⟩ | ⟨j, h2, h3, h4, _⟩
    · rw [h1] at h; simp at h
    · exact ⟨j, by simpa using h3, List.isPrefixOf_iff_prefix.1 h4⟩
  · rintro ⟨i, h1, h2⟩
    exact fits_yes h1 (List.isPrefixOf_iff_prefix.2 h2)
theorem fits_less {q t : ByteArray} {s : ByteArray} (h : fits s t = true) (hj : q.data.toList <+: s.data.toList) : fits q t = true := by
  obtain ⟨i, h1, h2⟩ := fits_iff.1 h
  exact fits_iff.2 ⟨i, h1, hj.trans h2⟩
theorem fits_self (s : ByteArray) : fits s s = true := fits_iff.2 ⟨0, by omega, List.prefix_refl _⟩
theorem lastFit_cut {ts : List ByteArray} {q : ByteArray} {k : Nat} : ∀ {m : Nat}, (∀ j, k ≤ j → j < k + m → fits q (ts.getD j ByteArray.empty) = false) → lastFit ts q (k + m) = lastFit ts q k
  | 0, _ => rfl
  | m + 1, h => by
    rw [← Nat.add_assoc, lastFit_succ, if_neg (by rw [h (k + m) (by omega) (by omega)]; simp)]
    exact lastFit_cut (fun j h1 h2 => h j h1 (by omega))
/-- Where a query stands, of which j bytes are typed. -/
def at' (ts : List ByteArray) (s : ByteArray) (j : Nat) : Option Nat := if j = 0 then none else lastFit ts (Ut.text (pre s j)) ts.length
theorem pre_fits {s t : ByteArray} {j : Nat} (hp : plain s) (hj : j < s.size) (h : fits (Ut.text (pre s (j + 1))) t = true) : fits (Ut.text (pre s j)) t = true := by
  refine fits_less h ?_
  rw [pre_text hp (by omega), pre_text hp (by omega), List.take_succ_eq_append_getElem (by simp; omega)]
  exact List.prefix_append _ _
theorem type_pre {ts : List ByteArray} {s : ByteArray} {j : Nat} (hp : plain s) (hj : j < s.size) (hl : j < 200) : typeTo ts (pre s j) (at' ts s j) ((s.get j hj).toNat : Nat) = ((at' ts s (j + 1)).isSome, pre s (j + 1), at' ts s (j + 1)) := by
  have hr : Mesg.rune ((s.get j hj).toNat : Nat) = true := by
    have := hp j hj
    simp [Mesg.rune]
    omega
  unfold typeTo
  rw [hr, pre_len s (by omega), decide_eq_true hl, Bool.and_self, if_pos rfl, ← pre_succ s hj]
  have e : lastFit ts (Ut.text (pre s (j + 1))) (upTo ts (at' ts s j)) = at' ts s (j + 1) := by
    rw [show at' ts s (j + 1) = lastFit ts (Ut.text (pre s (j + 1))) ts.length from if_neg (by omega)]
    cases e0 : at' ts s j with
    | none => rfl
    | some x =>
      by_cases hz : j = 0
      · rw [at', if_pos hz] at e0; cases e0
      · rw [at', if_neg hz] at e0
        obtain ⟨g1, g2, g3⟩ := lastFit_some e0
        show lastFit ts _ (x + 1) = _
        obtain ⟨m, hm⟩ : ∃ m, ts.length = (x + 1) + m := ⟨ts.length - (x + 1), by omega⟩
        rw [hm]
        refine (lastFit_cut (fun i h1 h2 => ?_)).symm
        cases hf : fits (Ut.text (pre s (j + 1))) (ts.getD i ByteArray.empty) with
        | false => rfl
        | true =>
          have := pre_fits hp hj hf
          rw [g3 i (by omega) (by omega)] at this
          cases this
  rw [e]
theorem at_all {ts : List ByteArray} {s : ByteArray} (hp : plain s) (h0 : s.size ≠ 0) : at' ts s s.size = lastFit ts s ts.length := by
  rw [at', if_neg h0, pre_all hp]
theorem lastFit_is {ts : List ByteArray} {s : ByteArray} {x : Nat} (hx : x < ts.length) (h : ts.getD x ByteArray.empty = s) : ∃ y, lastFit ts s ts.length = some y := by
  cases e : lastFit ts s ts.length with
  | some y => exact ⟨y, rfl⟩
  | none =>
    have := lastFit_none e x hx
    rw [h, fits_self] at this
    cases this
end Srch
