/- A new search; one that is none. -/
import Derived.Test.YtepddieblankpaaDoorSeRub
namespace Go.Proofs.YtepddieblankpaaDoor
open Go.RowKit Go.Shelf
attribute [local go_sem] Oper.semAt_some
set_option linter.unusedVariables false

theorem ownsRow_texts {w : World} {base : Nat} {v : Value} {ts : List ByteArray} (h : w.ownsRow base 9 1 v ts.length (ts.map Value.string)) : SliceS w v ts ∧ ∀ g, v.ownBlock = some g → base ≤ g ∧ g < w.heap.size := by
  have hh := h
  rcases h.2 with ⟨rfl, h0⟩ | ⟨g, cap, cur, rfl, hb, hg, hn, hm, hc, ht⟩
  · have : ts = [] := List.eq_nil_of_length_eq_zero h0
    subst this
    exact ⟨SliceS.none w, fun g hg => (by cases hg)⟩
  · refine ⟨⟨_, cap, rfl, hn, .inr ⟨g, 0, rfl, (Array.getElem?_eq_some_iff.1 hg).1, fun i hi => ?_⟩⟩, fun g' hg' => ?_⟩
    · have := World.ownsRow.cells hh (g := g) rfl i (.string ts[i]) (by simp [List.getElem?_eq_getElem hi])
      rw [show (⟨g, 0, Option.none⟩ : Addr).add i = ⟨g, 0 + i, Option.none⟩ from by unfold Addr.add; split <;> simp_all] at this
      exact this
    · have e : g = g' := by
        simp [Value.ownBlock] at hg'
        exact hg'
      rw [← e]; exact ⟨hb, (Array.getElem?_eq_some_iff.1 hg).1⟩

theorem clone_texts (v : Value) (ts : List ByteArray) (w : World) (hv : SliceS w v ts) (hn : ts.length ≤ 1000000000) :
    Calls Tryd.prog 45 #[v] w fun e w' => ∃ v', e = .returned v' ∧ SliceS w' v' ts ∧ (∀ g, v'.ownBlock = some g → w.heap.size ≤ g ∧ g < w'.heap.size) ∧ Below w.heap.size w w' := by
  obtain ⟨a, cap, rfl, hcap, hrow⟩ := hv
  cases a with
  | none =>
    have : ts = [] := by
      rcases hrow with h | ⟨b, off, h, _⟩
      · exact h
      · cases h
    subst this
    exact (Any.slices_Clone_string_nil shClone 0 cap w).mono (by
      rintro e w' ⟨rfl, rfl⟩
      exact ⟨_, rfl, SliceS.none _, fun g hg => (by cases hg), Below.refl _ _⟩)
  | some ad =>
    by_cases h0 : ts = []
    · subst h0
      exact (Any.slices_Clone_string_zero shClone ad cap w).mono (by
        rintro e w' ⟨v', rfl, ho, _, hb⟩
        obtain ⟨h1, h2⟩ := ownsRow_texts (ts := []) ho
        exact ⟨_, rfl, h1, h2, hb⟩)
    · rcases hrow with h | ⟨b, off, ha, hlt, hc⟩
      · exact absurd h h0
      · cases ha
        exact (Any.slices_Clone_string shClone b off ts.length cap ts w (Nat.le_refl _) (by omega) (fun j hj => by rw [hc j hj]; simp [List.getD, List.getElem?_eq_getElem hj])).mono (by
          rintro e w' ⟨v', rfl, ho, _, hb⟩
          rw [List.take_length] at ho
          obtain ⟨h1, h2⟩ := ownsRow_texts ho
          exact ⟨_, rfl, h1, h2, hb⟩)

theorem search_New (v : Value) (ts : List ByteArray) (w : World) (hv : SliceS w v ts) (hn : ts.length ≤ 1000000000) (hs : ∀ t ∈ ts, t.size < 4294967281) (hM : MaxLen w) :
    Calls Tryd.prog 16 #[v] w fun e w' => ∃ (p : Nat) (v' : Value), e = .returned (.pointer (some ⟨p, 0, none⟩)) ∧ w.heap.size ≤ p ∧ (∀ g, v'.ownBlock = some g → w.heap.size ≤ g ∧ g < w'.heap.size) ∧ Sea w' p v' ts ByteArray.empty 0 false ∧ Below w.heap.size w w' := by
  have HM := Lib.hid hM
  obtain ⟨m, hm⟩ := hM
  have hml := block_lt_of_cell hm
  have HC := Lib.hid (clone_texts v ts w hv hn)
  obtain ⟨a, cap, rfl⟩ : ∃ a cap, v = .slice a ts.length cap := by obtain ⟨a, cap, e, _⟩ := hv; exact ⟨a, cap, e⟩
  have HS := Lib.hid hs
  have HN := Lib.hid hn
  clear hv hm hs hn
  go_enter Tryd.func16, Tryd.ntmps16
  go_wp2_with fail
  refine HC.out.mono ?_
  rintro e w1 ⟨v', rfl, h1, h2, hb⟩
  have H1 := Lib.hid (And.intro h1 (And.intro h2 hb))
  obtain ⟨a', cap', rfl⟩ : ∃ a cap, v' = .slice a ts.length cap := by obtain ⟨a, cap, e, _⟩ := h1; exact ⟨a, cap, e⟩
  clear h1 h2 hb
  go_wp2
  go_ret
  have hb1 := H1.out.2.2
  have hsz := hb1.size
  have HH : Holds (w1.alloc (.cells #[.slice a' ts.length cap', .string ⟨#[]⟩, .int .i64 0, .bool false] 63)) w1.heap.size [.slice a' ts.length cap', .string ⟨#[]⟩, .int .i64 0, .bool false] 63 := Holds.new w1 _ _
  refine ⟨w1.heap.size, .slice a' ts.length cap', rfl, hsz, fun g hg => ⟨(H1.out.2.1 g hg).1, by have := (H1.out.2.1 g hg).2; simp; omega⟩, ⟨⟨HH.cell 0 (by simp), HH.cell 1 (by simp), HH.cell 2 (by simp), HH.cell 3 (by simp), HH.frozen 0, HH.frozen 1, HH.frozen 2, HH.frozen 3⟩, H1.out.1.below (grew_alloc _ _), fun g hg => ?_, HN.out, HS.out, (HM.out.below hb1).below (grew_alloc _ _), by omega⟩, hb1.alloc hsz _⟩
  have := (H1.out.2.1 g hg).2
  omega

theorem search_nil (r : Int) (w : World) : Calls Tryd.prog 18 #[.pointer none, .int .i64 r] w (fun e w' => e = .returned (.bool false) ∧ w = w') ∧ Calls Tryd.prog 20 #[.pointer none] w (fun e w' => e = .returned (.bool false) ∧ w = w') ∧
    Calls Tryd.prog 22 #[.pointer none] w (fun e w' => e = .returned (.bool false) ∧ w = w') ∧ Calls Tryd.prog 24 #[.pointer none] w (fun e w' => e = .returned (.bool false) ∧ w = w') ∧
    Calls Tryd.prog 27 #[.pointer none] w (fun e w' => e = .returned (.string ⟨#[]⟩) ∧ w = w') ∧ Calls Tryd.prog 26 #[.pointer none] w (fun e w' => e = .returned (.tuple #[.int .i64 0, .string ⟨#[]⟩, .bool false]) ∧ w = w') := by
  refine ⟨?_, ?_, ?_, ?_, ?_, ?_⟩
  · go_enter Tryd.func18, Tryd.ntmps18
    go_wp2
    go_ret
    exact ⟨rfl, rfl⟩
  · go_enter Tryd.func20, Tryd.ntmps20
    go_wp2
    go_ret
    exact ⟨rfl, rfl⟩
  · go_enter Tryd.func22, Tryd.ntmps22
    go_wp2
    go_ret
    exact ⟨rfl, rfl⟩
  · go_enter Tryd.func24, Tryd.ntmps24
    go_wp2
    go_ret
    exact ⟨rfl, rfl⟩
  · go_enter Tryd.func27, Tryd.ntmps27
    go_wp2
    go_ret
    exact ⟨rfl, rfl⟩
  · go_enter Tryd.func26, Tryd.ntmps26
    go_wp2
    go_ret3
    exact ⟨rfl, rfl⟩
end Go.Proofs.YtepddieblankpaaDoor
