/- The reference's New. -/
import Derived.Test.YtgbikhpmicddkaaFrRef0
import Derived.Test.YtgbikhpmicddkaaFrOne1
import Derived.Deep.RegionHeld3
import Derived.Deep.RegionHeldLaw
namespace Go.Proofs.Ytgbikhpmicddkaa
open Go.RowKit
set_option linter.unusedVariables false

/-- Where New's loop stands. -/
def NewR (w : World) (q n k : Nat) (V : Value) (us : List Value) (wr : World) : Prop :=
  Holds wr q [V] 50 ∧ Owns wr 30 1 V k us ∧ (∀ u ∈ us, SliceI wr u (List.replicate n 0)) ∧ (∀ g, V.ownBlock = some g → w.heap.size ≤ g ∧ ∀ u ∈ us, u.ownBlock ≠ some g) ∧ w.heap.size ≤ q ∧ Below w.heap.size w wr
theorem NewR.apart {w wr : World} {q n k : Nat} {V : Value} {us : List Value} (h : NewR w q n k V us wr) : ∀ g, V.ownBlock = some g → q ≠ g := by
  intro g hg
  rcases h.2.1.2 with ⟨rfl, _⟩ | ⟨g', cap, cur, rfl, _, hc, _⟩
  · cases hg
  · have : g' = g := Option.some.inj hg
    subst this
    exact h.1.apart (show Holds wr g' cur.toList 30 by unfold Holds; rw [hc]) (by decide)
theorem NewR.step {w wr w5 w6 : World} {q n k : Nat} {V V' : Value} {us : List Value} (hn : 1 ≤ n) (h : NewR w q n k V us wr) (hb : Below wr.heap.size wr w5) {u : Value} (hu : SliceI w5 u (List.replicate n 0)) (hf : ∀ g, u.ownBlock = some g → wr.heap.size ≤ g)
    (ho : Owns w6 30 1 V' (k + 1) (us ++ [u])) (hk : Keep (At V) w5 w6) (hnr : Near w5 V V') {a : Option Addr} {m c : Nat} (eV : V = .slice a m c) : NewR w q n (k + 1) V' (us ++ [u]) (w6.setCell ⟨q, 0, none⟩ V') := by
  have hap := h.apart
  obtain ⟨h1, h2, h3, h4, h5, h6⟩ := h
  have hl : 1 ≤ (List.replicate n (0 : Int)).length := by rw [List.length_replicate]; exact hn
  have h15 := h1.keep (Keep.of_grew hb Non) (fun h => h)
  have h16 := h15.keep hk (fun e => hap q e rfl)
  have hc := h16.cell 0 (by simp)
  simp only [List.getElem_cons_zero] at hc
  have hc' := hc
  rw [eV] at hc'
  have hkq : Keep (Just q) w6 (w6.setCell ⟨q, 0, none⟩ V') := Keep.setCell w6 q 0 V'
  have hlt : ∀ g, V.ownBlock = some g → g < wr.heap.size := fun g hg => Owns.lt h2 hg
  have h36 : ∀ x ∈ us ++ [u], SliceI w6 x (List.replicate n 0) := fun x hx => by
    rcases List.mem_append.1 hx with hx | hx
    · exact ((h3 x hx).below hb).keep hk (fun g hg e => (h4 g e).2 x hx hg)
    · rw [List.mem_singleton.1 hx]
      exact hu.keep hk (fun g hg e => by have := hf g hg; have := hlt g e; omega)
  refine ⟨h16.set 0 V' (by simp), Owns.keep ho hkq (fun g hg e => ?_), fun x hx => slice_over (h36 x hx) hc' V', fun g hg => ?_, h5, ?_⟩
  · have e : g = q := e
    subst e
    rcases hnr _ hg with k1 | k1
    · exact hap _ k1 rfl
    · have := h15.lt
      omega
  · rcases hnr g hg with k1 | k1
    · refine ⟨(h4 g k1).1, fun x hx e => ?_⟩
      rcases List.mem_append.1 hx with hx | hx
      · exact (h4 g k1).2 x hx e
      · rw [List.mem_singleton.1 hx] at e
        have := hf g e
        have := hlt g k1
        omega
    · refine ⟨by have := h6.size; have := hb.size; omega, fun x hx e => ?_⟩
      have hx5 : SliceI w5 x (List.replicate n 0) := by
        rcases List.mem_append.1 hx with hx | hx
        · exact (h3 x hx).below hb
        · rw [List.mem_singleton.1 hx]; exact hu
      have := SliceI.own_lt hx5 hl e
      omega
  · have b5 := grew h6 hb
    have b6 := b5.trans (hk.below b5.size (fun i e => (h4 i e).1))
    exact b6.trans (hkq.below b6.size (fun i e => by have e : i = q := e; omega))
theorem NewR.done {w wr : World} {q n : Nat} {V : Value} {us : List Value} (hn : 1 ≤ n ∧ n ≤ 16) (h : NewR w q n n V us wr) : ∃ g cap, V = .slice (some ⟨g, 0, none⟩) n cap ∧ IsRefW wr q g cap us (List.replicate n (List.replicate n 0)) ∧ w.heap.size ≤ g ∧ Below w.heap.size w wr := by
  obtain ⟨h1, h2, h3, h4, h5, h6⟩ := h
  have h2' := h2
  rcases h2.2 with ⟨_, h0⟩ | ⟨g, cap, cur, rfl, _, hc, _⟩
  · omega
  · refine ⟨g, cap, rfl, ⟨by rw [List.length_replicate]; exact h1, by rw [List.length_replicate]; exact h2', fun i hi hi' => ?_, fun r hr => ?_, by rw [List.length_replicate]; exact hn⟩, (h4 g rfl).1, h6⟩
    · rw [List.getElem_replicate]
      exact h3 _ (List.getElem_mem hi')
    · rw [List.eq_of_mem_replicate hr, List.length_replicate, List.length_replicate]
      refine ⟨Vecs.may_of (by rw [List.length_replicate]; exact hn.1) (by rw [List.length_replicate]; exact hn.2) (fun k hk => ?_), rfl⟩
      rw [List.getElem_replicate]
      decide

theorem ref09_New_no (n : Int) (w : World) (h : ¬ (1 ≤ n ∧ n ≤ 16)) : Calls Try.prog 5 #[.int .i64 n] w fun e w' => e = .returned (.tuple #[.pointer none, .int .i64 1]) ∧ w' = w := by
  by_cases h1 : n < 1
  · have d1 : decide (n < 1) = true := decide_eq_true h1
    go_enter Try.func5, Try.ntmps5
    go_wp2
    go_ret2
    exact ⟨rfl, rfl⟩
  · have d1 : decide (n < 1) = false := decide_eq_false h1
    have d2 : decide (16 < n) = true := decide_eq_true (by omega)
    go_enter Try.func5, Try.ntmps5
    go_wp2
    go_ret2
    exact ⟨rfl, rfl⟩

set_option maxRecDepth 100000 in
set_option maxHeartbeats 4000000 in
theorem ref09_New_yes (n : Nat) (w : World) (hn : 1 ≤ n ∧ n ≤ 16) : Calls Try.prog 5 #[.int .i64 n] w fun e w' => ∃ q g cap us, e = .returned (.tuple #[.pointer (some ⟨q, 0, none⟩), .int .i64 0]) ∧ IsRefW w' q g cap us (List.replicate n (List.replicate n 0)) ∧ w.heap.size ≤ g ∧ Below w.heap.size w w' := by
  have HNN := Lib.hid hn
  have d1 : decide ((n : Int) < 1) = false := decide_eq_false (by omega)
  have d2 : decide (16 < (n : Int)) = false := decide_eq_false (by omega)
  have d3 : decide (n < 1) = false := decide_eq_false (by omega)
  have d4 : decide (16 < n) = false := decide_eq_false (by omega)
  have H0 : Hid (NewR w w.heap.size n 0 (.slice none 0 0) [] (w.alloc (.cells #[.slice none 0 0] 50))) := Lib.hid ⟨Holds.new w _ _, Owns.nil _ _ _, fun u hu => by simp at hu, fun g hg => (by cases hg), Nat.le_refl _, grew_alloc _ _⟩
  go_enter Try.func5, Try.ntmps5
  go_wp2_with fail
  go_loopw [5] (fun i wr => ∃ k : Nat, k ≤ n ∧ i = .int .i64 k ∧ ∃ V us, NewR w w.heap.size n k V us wr) (fun i _ => n - (intOf i).toNat)
  case atStart => exact ⟨0, by omega, rfl, _, _, H0.out⟩
  case round =>
    obtain ⟨k, hk, rfl, V, us, hR⟩ := hrel
    have HR := Lib.hid hR
    obtain ⟨va, vc, e⟩ : ∃ a cap, V = .slice a k cap := by
      rcases hR.2.1.2 with ⟨e, h0⟩ | ⟨g, cap, cur, e, _⟩
      · exact ⟨none, 0, by rw [e, h0]⟩
      · exact ⟨_, cap, e⟩
    subst e
    clear hR
    by_cases hlt : k < n
    · have e1 : decide ((k : Int) < (n : Int)) = true := decide_eq_true (by omega)
      have e2 : decide (k < n) = true := decide_eq_true hlt
      have c0 := HR.out.1.cell 0 (by simp)
      simp only [List.getElem_cons_zero] at c0
      have HX : Hid (∀ w5, Below wr.heap.size wr w5 → w5.cell? ⟨w.heap.size, 0, none⟩ = some (.slice va k vc) ∧ ∀ O, (w5.alloc O).cell? ⟨w.heap.size, 0, none⟩ = some (.slice va k vc)) := Lib.hid (fun w5 hb5 => ⟨(HR.out.1.keep (Keep.of_grew hb5 Non) (fun h => h)).cell 0 (by simp), fun O => (HR.out.1.keep (Keep.of_grew (grew hb5 (grew_alloc _ O)) Non) (fun h => h)).cell 0 (by simp)⟩)
      have HX6 : Hid (∀ w5 w6, Below wr.heap.size wr w5 → Keep (At (.slice va k vc)) w5 w6 → w6.cell? ⟨w.heap.size, 0, none⟩ = some (.slice va k vc) ∧ w6.frozen? ⟨w.heap.size, 0, none⟩ = false) := Lib.hid (fun w5 w6 hb5 hk => by
        have hh := (HR.out.1.keep (Keep.of_grew hb5 Non) (fun h => h)).keep hk (fun e => HR.out.apart _ e rfl)
        exact ⟨hh.cell 0 (by simp), hh.frozen 0⟩)
      have HOWN : Hid (∀ w5, Below wr.heap.size wr w5 → Owns w5 30 1 (.slice va k vc) k us) := Lib.hid (fun w5 hb5 => Owns.keep HR.out.2.1 (Keep.of_grew hb5 Non) (fun _ _ h => h))
      go_wp2_with fail
      go_region_law (first
        | (refine step_append_lit0 (w := w5) rfl (.tmp 23) (.tmp 26) rfl Try.underlying48 info_ints rfl (by decide) (by decide) (.slice va k vc) k us rfl (HOWN.out w5 HB5.out) 1 [.slice ra n rc] _ rfl rfl rfl (by simp [Value.oneCell']) (by omega) ?_; intro va2 cap2 w6 ho2 hk2 hn2; have HM6 := Lib.hid (And.intro ho2 (And.intro hk2 hn2)); obtain ⟨y2, yf⟩ := HX6.out w5 w6 HB5.out hk2; clear ho2 hk2 hn2)
        | (go_simp; go_at_call 19; refine (ref06_Zero_own n _ (by omega)).mono ?_; rintro e w5 ⟨r5, rfl, ho5, hb5⟩; have HB5 := Lib.hid (grew (grew_drew wr) hb5); have HS5 := Lib.hid ho5.slice; have HF5 : Hid (∀ g, r5.ownBlock = some g → wr.heap.size ≤ g) := Lib.hid (fun g hg => by have := (World.ownsRow.lt ho5 g hg).1; simpa using this); obtain ⟨ra, rc, e5⟩ := ho5.slice.shape; rw [List.length_replicate] at e5; subst e5; obtain ⟨x2, x2'⟩ := HX.out w5 HB5.out; clear ho5 hb5))
      all_goals
        have HR2 := Lib.hid (NewR.step HNN.out.1 HR.out HB5.out HS5.out HF5.out HM6.out.1 HM6.out.2.1 HM6.out.2.2 rfl)
        go_wp2
        go_roundw
        case rel => exact ⟨k + 1, by omega, by go_num, _, _, HR2.out⟩
        case measure => simp [intOf]; omega
    · have e1 : decide ((k : Int) < (n : Int)) = false := decide_eq_false (by omega)
      have e2 : decide (k < n) = false := decide_eq_false hlt
      obtain rfl : k = n := by omega
      go_wp2
      go_ret2
      obtain ⟨g, cap, _, h1, h2, h3⟩ := HR.out.done HNN.out
      exact ⟨_, g, cap, us, rfl, h1, h2, h3⟩
end Go.Proofs.Ytgbikhpmicddkaa
