/- What a front has: a row for each site. -/
import Derived.Test.YtgbikhpmicddkaaVecRef2
namespace Go.Proofs.Ytgbikhpmicddkaa
open Go.RowKit
set_option linter.unusedVariables false

/-- The front at p: its rows lie in the block rb, in vs. -/
structure IsFrontW (w : World) (p rb rc : Nat) (vs : List Value) (rows : List (List Int)) : Prop where
  box : Holds w p [.slice (some ⟨rb, 0, none⟩) rows.length rc] 47
  row : Holds w rb vs 37
  len : vs.length = rows.length
  vec : ∀ i (h : i < rows.length), SliceI w (vs[i]'(by omega)) rows[i]
  may : ∀ r ∈ rows, Vecs.may r = true ∧ r.length = rows.length
  sites : 1 ≤ rows.length ∧ rows.length ≤ 16

theorem IsFrontW.below {w w' : World} {p rb rc : Nat} {vs : List Value} {rows : List (List Int)} (h : IsFrontW w p rb rc vs rows) (hb : Below w.heap.size w w') : IsFrontW w' p rb rc vs rows :=
  ⟨h.box.keep (Keep.of_grew hb Non) (fun h => h), h.row.keep (Keep.of_grew hb Non) (fun h => h), h.len, fun i hi => (h.vec i hi).below hb, h.may, h.sites⟩

/-- A list of numbers lies in no block of slices. -/
theorem SliceI.no_row {w : World} {v : Value} {zs : List Int} (h : SliceI w v zs) (h1 : 1 ≤ zs.length) {rb : Nat} {vs : List Value} {t : TypeId} (hr : Holds w rb vs t) (hs : ∀ u ∈ vs, ∃ a n c, u = .slice a n c) : v.ownBlock ≠ some rb := by
  intro e
  obtain ⟨a, cap, rfl, _, h⟩ := h
  rcases h with h | ⟨b, off, rfl, hlt, hc⟩
  · rw [h] at h1; simp at h1
  · have : b = rb := Option.some.inj e
    subst this
    have h2 := hc 0 (by omega)
    have hb : w.heap[b]? = some (.cells vs.toArray t (0, 0)) := hr
    simp only [World.cell?, hb] at h2
    have h3 : vs[off + 0]? = some (.int .i64 zs[0]) := by simpa using h2
    obtain ⟨h4, h5⟩ := List.getElem?_eq_some_iff.1 h3
    obtain ⟨a, n, c, h6⟩ := hs _ (List.getElem_mem h4)
    rw [h5] at h6
    cases h6
theorem IsFrontW.slices {w : World} {p rb rc : Nat} {vs : List Value} {rows : List (List Int)} (h : IsFrontW w p rb rc vs rows) : ∀ u ∈ vs, ∃ a n c, u = .slice a n c := fun u hu => by
  obtain ⟨i, hi, rfl⟩ := List.getElem_of_mem hu
  obtain ⟨a, c, e⟩ := (h.vec i (by rw [← h.len]; exact hi)).shape
  exact ⟨a, _, c, e⟩
theorem IsFrontW.cell {w : World} {p rb rc : Nat} {vs : List Value} {rows : List (List Int)} (h : IsFrontW w p rb rc vs rows) {i : Nat} (hi : i < rows.length) : w.cell? ⟨rb, i, none⟩ = some (vs[i]'(by rw [h.len]; exact hi)) := h.row.cell i (by rw [h.len]; exact hi)
/-- One row put in another one's place. -/
theorem IsFrontW.set {w : World} {p rb rc : Nat} {vs : List Value} {rows : List (List Int)} (h : IsFrontW w p rb rc vs rows) {i : Nat} (hi : i < rows.length) {v : Value} {z : List Int} (hv : SliceI w v z) (hz : Vecs.may z = true) (hl : z.length = rows.length) : IsFrontW (w.setCell ⟨rb, i, none⟩ v) p rb rc (vs.set i v) (rows.set i z) := by
  have hk : Keep (Just rb) w (w.setCell ⟨rb, i, none⟩ v) := Keep.setCell w rb i v
  have hpr : p ≠ rb := fun e => by
    have h1 : w.heap[p]? = some _ := h.box
    have h2 : w.heap[rb]? = some _ := h.row
    rw [e, h2] at h1
    have h3 := Option.some.inj h1
    injection h3 with _ h4
    exact absurd h4 (by decide)
  have hs := h.slices
  have h1 := h.sites.1
  refine ⟨by rw [List.length_set]; exact h.box.keep hk (fun e => hpr e), h.row.set i v (by rw [h.len]; exact hi), by rw [List.length_set, List.length_set, h.len], fun j hj => ?_, fun r hr => ?_, by rw [List.length_set]; exact h.sites⟩
  · rw [List.length_set] at hj
    rw [List.getElem_set, List.getElem_set]
    split
    · exact hv.keep hk (fun g hg e => hv.no_row (by omega) h.row hs (hg.trans (congrArg some e)))
    · have hv2 := h.vec j hj
      have hl2 : rows[j].length = rows.length := (h.may _ (List.getElem_mem hj)).2
      exact hv2.keep hk (fun g hg e => hv2.no_row (by omega) h.row hs (hg.trans (congrArg some e)))
  · rw [List.length_set]
    rcases List.mem_or_eq_of_mem_set hr with hr | rfl
    · exact h.may r hr
    · exact ⟨hz, hl⟩

theorem ret_b {a b : Bool} (h : a = b) : Ending.returned (.bool a) = .returned (.bool b) := by rw [h]
theorem front_has {w : World} {p rb rc : Nat} {vs : List Value} {rows : List (List Int)} (h : IsFrontW w p rb rc vs rows) (i : Int) : Calls Try.prog 20 #[.pointer (some ⟨p, 0, none⟩), .int .i64 i] w fun e w' => e = .returned (.bool (decide (0 ≤ i ∧ i < rows.length))) ∧ w' = w := by
  have c0 := h.box.cell 0 (by simp)
  simp only [List.getElem_cons_zero] at c0
  clear h
  go_enter Try.func20, Try.ntmps20
  go_wp2
  all_goals
    go_ret
    exact ⟨ret_b (Bool.eq_iff_iff.2 (by simp <;> omega)), rfl⟩
theorem front_has_nil (i : Int) (w : World) : Calls Try.prog 20 #[.pointer none, .int .i64 i] w fun e w' => e = .returned (.bool false) ∧ w' = w := by
  go_enter Try.func20, Try.ntmps20
  go_wp2
  go_ret
  exact ⟨rfl, rfl⟩

set_option maxHeartbeats 1000000 in
theorem front_Row {w : World} {p rb rc : Nat} {vs : List Value} {rows : List (List Int)} (h : IsFrontW w p rb rc vs rows) (i : Nat) (hi : i < rows.length) : Calls Try.prog 16 #[.pointer (some ⟨p, 0, none⟩), .int .i64 i] w fun e w' => ∃ v, e = .returned v ∧ SliceI w' v rows[i] ∧ Newer w v ∧ Below w.heap.size w w' := by
  have HH := Lib.hid (front_has h i)
  rw [decide_eq_true (show (0 : Int) ≤ i ∧ (i : Int) < rows.length by omega)] at HH
  have hl : rows[i].length = rows.length := (h.may _ (List.getElem_mem hi)).2
  have hs := h.sites
  have HC := Lib.hid (vec_Clone _ rows[i] w (h.vec i hi) (by omega) (by omega))
  have c0 := h.box.cell 0 (by simp)
  simp only [List.getElem_cons_zero] at c0
  have c1 := h.cell hi
  obtain ⟨va, vc, e⟩ := (h.vec i hi).shape
  rw [e] at c1 HC
  have hia : (i : Int) < (rows.length : Int) := by omega
  clear h e hl
  go_enter Try.func16, Try.ntmps16
  go_wp2_with fail
  refine HH.out.mono ?_
  rintro e _ ⟨rfl, rfl⟩
  go_wp2_with fail
  refine HC.out.mono ?_
  rintro e w2 ⟨v2, rfl, g, cap, hf⟩
  have HF := Lib.hid hf
  clear hf
  go_wp2
  go_ret
  exact ⟨_, rfl, HF.out.own.slice, by rw [HF.out.val]; exact Newer.mk HF.out.new, HF.out.bel⟩
theorem front_Row_no {w : World} {p rb rc : Nat} {vs : List Value} {rows : List (List Int)} (h : IsFrontW w p rb rc vs rows) (i : Int) (hi : ¬ (0 ≤ i ∧ i < rows.length)) : Calls Try.prog 16 #[.pointer (some ⟨p, 0, none⟩), .int .i64 i] w fun e w' => e = .returned (.slice none 0 0) ∧ w' = w := by
  have HH := Lib.hid (front_has h i)
  rw [decide_eq_false hi] at HH
  clear h hi
  go_enter Try.func16, Try.ntmps16
  go_wp2_with fail
  refine HH.out.mono ?_
  rintro e _ ⟨rfl, rfl⟩
  go_wp2
  go_ret
  exact ⟨rfl, rfl⟩
theorem front_Row_nil (i : Int) (w : World) : Calls Try.prog 16 #[.pointer none, .int .i64 i] w fun e w' => e = .returned (.slice none 0 0) ∧ w' = w := by
  go_enter Try.func16, Try.ntmps16
  go_wp2_with fail
  refine (front_has_nil i _).mono ?_
  rintro e _ ⟨rfl, rfl⟩
  go_wp2
  go_ret
  exact ⟨rfl, rfl⟩
end Go.Proofs.Ytgbikhpmicddkaa
