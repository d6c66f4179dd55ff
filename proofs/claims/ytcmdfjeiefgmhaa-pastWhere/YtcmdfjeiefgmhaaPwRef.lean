/- The reference's: where everybody's caret is. -/
import Derived.Test.YtcmdfjeiefgmhaaPwMove2
import Derived.Laws.MakeOwn
namespace Go.Proofs.Ytcmdfjeiefgmhaa
open Go.RowKit Carets
set_option linter.unusedVariables false

theorem cars_made : ∀ n : Nat, n ≤ 16 → madeCells (Value.agg #[.int .i64 0, .int .i64 0, .int .i64 0, .int .i64 0]).cells (n * 4) = (carsL (List.replicate n noCar)).toArray
  | 0, _ => by kernel_rfl
  | 1, _ => by kernel_rfl
  | 2, _ => by kernel_rfl
  | 3, _ => by kernel_rfl
  | 4, _ => by kernel_rfl
  | 5, _ => by kernel_rfl
  | 6, _ => by kernel_rfl
  | 7, _ => by kernel_rfl
  | 8, _ => by kernel_rfl
  | 9, _ => by kernel_rfl
  | 10, _ => by kernel_rfl
  | 11, _ => by kernel_rfl
  | 12, _ => by kernel_rfl
  | 13, _ => by kernel_rfl
  | 14, _ => by kernel_rfl
  | 15, _ => by kernel_rfl
  | 16, _ => by kernel_rfl
  | n + 17, h => absurd h (by omega)
theorem info_car : (Try.prog.info? 132).map (fun i => (i.zero, i.size, i.bytes)) = some (some (.agg #[.int .i64 0, .int .i64 0, .int .i64 0, .int .i64 0]), 4, 32) := by kernel_rfl
theorem ref16_Nowhere_no (n : Int) (h : ¬ (1 ≤ n ∧ n ≤ 16)) (w : World) : Calls Try.prog 46 #[.int .i64 n] w fun e w' => e = .returned (.tuple #[.pointer none, .int .i64 1]) ∧ Below w.heap.size w w' := by
  by_cases h1 : n < 1
  · go_enter Try.func46, Try.ntmps46
    go_wp2
    go_ret2
    exact ⟨rfl, Below.refl _ _⟩
  · have h2 : (16 : Int) < n := by omega
    clear h
    go_enter Try.func46, Try.ntmps46
    go_wp2
    go_ret2
    exact ⟨rfl, Below.refl _ _⟩
set_option maxRecDepth 100000 in
theorem ref16_Nowhere_yes (n : Nat) (h : 1 ≤ n ∧ n ≤ 16) (w : World) : Calls Try.prog 46 #[.int .i64 n] w fun e w' => ∃ q F, e = .returned (.tuple #[.pointer (some ⟨q, 0, none⟩), .int .i64 0]) ∧ RWhereV q (List.replicate n noCar) w' F ∧ (∀ k, F k → w.heap.size ≤ k) ∧ Below w.heap.size w w' := by
  have h1 : decide ((n : Int) < 1) = false := decide_eq_false (by omega)
  have h2 : decide ((16 : Int) < (n : Int)) = false := decide_eq_false (by omega)
  have h3 : decide (16 < n) = false := decide_eq_false (by omega)
  have h4 : decide (n < 1) = false := decide_eq_false (by omega)
  obtain ⟨i0, hi, hz0, hz1, hz2⟩ := info_parts info_car
  have hr := run_make (P := Try.prog) w 128 132 i0 _ Try.underlying128 hi hz0 .i64 .i64 n n (by omega) (Int.le_refl _) (by rw [hz2]; omega) (by omega)
  rw [Int.toNat_natCast, hz1, cars_made n h.2] at hr
  have H1 := Lib.hid (Holds.new w (carsL (List.replicate n noCar)) 132)
  have HB1 := Lib.hid (grew_alloc w (.cells (carsL (List.replicate n noCar)).toArray 132))
  have HN := Lib.hid h
  clear h hi hz0 hz1 hz2
  go_enter Try.func46, Try.ntmps46
  go_wp2
  go_ret2
  have H2 := Holds.new (w.alloc (.cells (carsL (List.replicate n noCar)).toArray 132)) [.slice (some ⟨w.heap.size, 0, none⟩) n n] 130
  have hb2 := grew_alloc (w.alloc (.cells (carsL (List.replicate n noCar)).toArray 132)) (.cells #[.slice (some ⟨w.heap.size, 0, none⟩) n n] 130)
  have hz : (w.alloc (.cells (carsL (List.replicate n noCar)).toArray 132)).heap.size = w.heap.size + 1 := Array.size_push _
  rw [hz] at H2
  refine ⟨w.heap.size + 1, fun k => k = w.heap.size + 1 ∨ k = w.heap.size, rfl, ⟨w.heap.size, ?_, H1.out.keep (Keep.of_grew hb2 Non) (fun h => h), by rw [List.length_replicate]; exact HN.out, fun k => Iff.rfl⟩, fun k hk => by omega, grew HB1.out hb2⟩
  rw [List.length_replicate]
  exact H2

/-- What the reference's tells who looks. -/
theorem RWhereV.cell {q : Nat} {L : List Car} {w : World} {F : Nat → Prop} (h : RWhereV q L w F) : ∃ g, Holds w q [.slice (some ⟨g, 0, none⟩) L.length L.length] 130 ∧ Holds w g (carsL L) 132 ∧ (∀ k, F k ↔ k = q ∨ k = g) ∧ ∀ i, i < L.length →
    w.cell? ⟨g, i * 4, none⟩ = some (.int .i64 (carAt L i).seq) ∧ w.cell? ⟨g, i * 4 + 1, none⟩ = some (.int .i64 (carAt L i).epoch) ∧ w.cell? ⟨g, i * 4 + 2, none⟩ = some (.int .i64 (carAt L i).ref.1) ∧ w.cell? ⟨g, i * 4 + 3, none⟩ = some (.int .i64 (carAt L i).ref.2) := by
  obtain ⟨g, h1, h2, h3, h4⟩ := h
  refine ⟨g, h1, h2, h4, fun i hi => ?_⟩
  have hat : ∀ j u, (carL (carAt L i))[j]? = some u → w.cell? ⟨g, i * 4 + j, none⟩ = some u := fun j u hu => by
    rw [carAt_lt hi] at hu
    have := carsL_at L i hi j u hu
    rw [cell_of_row _ _ _ _ _ _ h2]
    simpa using this
  exact ⟨hat 0 _ rfl, hat 1 _ rfl, hat 2 _ rfl, hat 3 _ rfl⟩

set_option maxRecDepth 100000 in
set_option maxHeartbeats 2000000 in
theorem ref16_At {q : Nat} {L : List Car} {w : World} {F : Nat → Prop} (h : RWhereV q L w F) (s e : Int) :
    Calls Try.prog 50 #[.pointer (some ⟨q, 0, none⟩), .int .i64 s, .int .i64 e] w fun r w' => r = .returned (.tuple #[.agg #[.int .i64 (atRef L s e).1, .int .i64 (atRef L s e).2], .bool (isAt L s e)]) ∧ Below w.heap.size w w' := by
  obtain ⟨g, hq, hg, _, hcs⟩ := h.cell
  have HB := Lib.hid (grew_alloc w (.cells #[.int .i64 0, .int .i64 0] 34))
  have HX := Lib.hid (Holds.new w [.int .i64 0, .int .i64 0] 34)
  have hql := hq.lt
  have hgl := hg.lt
  have c0 := (HB.out.cell (p := ⟨q, 0, none⟩) hql).trans (hq.cell 0 (by simp))
  simp only [List.getElem_cons_zero] at c0
  clear hq hg
  by_cases hs : 0 ≤ s ∧ s < L.length
  · obtain ⟨i, rfl⟩ : ∃ i : Nat, s = i := ⟨s.toNat, by omega⟩
    have hi : i < L.length := by omega
    have d1 : decide ((i : Int) < 0) = false := decide_eq_false (by omega)
    have d2 : decide ((L.length : Int) ≤ (i : Int)) = false := decide_eq_false (by omega)
    have d3 : decide (L.length ≤ i) = false := decide_eq_false (by omega)
    have hia : (i : Int) < (L.length : Int) := by omega
    obtain ⟨k0, k1, k2, k3⟩ := hcs i hi
    have HIN : Hid (isAt L (i : Int) e = carIn (carAt L i) e ∧ atRef L (i : Int) e = if carIn (carAt L i) e then (carAt L i).ref else (0, 0)) := Lib.hid (by
      have e1 : isAt L (i : Int) e = carIn (carAt L i) e := by
        unfold isAt
        rw [Int.toNat_natCast, decide_eq_true (by omega), Bool.true_and]
      refine ⟨e1, ?_⟩
      unfold atRef
      rw [e1, Int.toNat_natCast])
    rw [HIN.out.1, HIN.out.2]
    generalize carAt L i = c at k0 k1 k2 k3 ⊢
    obtain ⟨q', ep, r1, r2⟩ := c
    simp only at k0 k1 k2 k3 ⊢
    clear h hs HIN hcs
    have m0 := (HB.out.cell (p := ⟨g, i * 4, none⟩) hgl).trans k0
    have m1 := (HB.out.cell (p := ⟨g, i * 4 + 1, none⟩) hgl).trans k1
    have m2 := (HB.out.cell (p := ⟨g, i * 4 + 2, none⟩) hgl).trans k2
    have m3 := (HB.out.cell (p := ⟨g, i * 4 + 3, none⟩) hgl).trans k3
    clear k0 k1 k2 k3
    have HWS := Lib.hid (fun W (hb : Below (w.alloc (.cells #[.int .i64 0, .int .i64 0] 34)).heap.size (w.alloc (.cells #[.int .i64 0, .int .i64 0] 34)) W) (a b : Int) => And.intro (((HX.out.keep (Keep.of_grew hb Non) (fun h => h)).set 0 (.int .i64 a) (by simp)).set 1 (.int .i64 b) (by simp)) ((grew HB.out hb).trans (((Keep.setCell W w.heap.size 0 (.int .i64 a)).trans (Keep.setCell _ w.heap.size 1 (.int .i64 b)) (fun _ _ h => h)).below (grew HB.out hb).size (fun i e => by have e : i = w.heap.size := e; omega))))
    have hfz : ∀ j, (w.alloc (.cells #[.int .i64 0, .int .i64 0] 34)).frozen? ⟨w.heap.size, j, none⟩ = false := fun j => HX.out.frozen j
    by_cases h0 : q' = 0
    · have b1 : (q' == 0) = true := by simp [h0]
      have HR : Hid (carIn ⟨q', ep, (r1, r2)⟩ e = false) := Lib.hid (by unfold carIn; simp [h0])
      rw [HR.out]
      simp only [if_neg (by decide : ¬ (false = true))]
      clear h0 HR
      go_enter Try.func50, Try.ntmps50
      go_wp2
      have hf := (HWS.out _ (Below.refl _ _) 0 0)
      have f0 := hf.1.cell 0 (by simp)
      have f1 := hf.1.cell 1 (by simp)
      simp only [List.set_cons_zero, List.set_cons_succ, List.getElem_cons_zero, List.getElem_cons_succ] at f0 f1
      refine bodyPost_ret (v := .tuple #[.agg #[.int .i64 0, .int .i64 0], .bool false]) (by simp [results, Try.results50, go_sem]) rfl ?_
      exact ⟨rfl, HB.out⟩
    · have b1 : (q' == 0) = false := by simp [h0]
      by_cases h2 : ep = e
      · have b2 : (ep != e) = false := by simp [h2]
        have HR : Hid (carIn ⟨q', ep, (r1, r2)⟩ e = true) := Lib.hid (by unfold carIn; simp [h0, h2])
        rw [HR.out]
        simp only [if_true]
        clear h0 h2 HR
        go_enter Try.func50, Try.ntmps50
        go_wp2
        refine bodyPost_ret (v := .tuple #[.agg #[.int .i64 r1, .int .i64 r2], .bool true]) (by simp [results, Try.results50, go_sem]) rfl ?_
        exact ⟨rfl, grew_alloc _ _⟩
      · have b2 : (ep != e) = true := by simp [h2]
        have HR : Hid (carIn ⟨q', ep, (r1, r2)⟩ e = false) := Lib.hid (by unfold carIn; simp [h2])
        rw [HR.out]
        simp only [if_neg (by decide : ¬ (false = true))]
        clear h0 h2 HR
        go_enter Try.func50, Try.ntmps50
        go_wp2
        refine bodyPost_ret (v := .tuple #[.agg #[.int .i64 0, .int .i64 0], .bool false]) (by simp [results, Try.results50, go_sem]) rfl ?_
        exact ⟨rfl, HB.out⟩
  · have HIN : Hid (isAt L s e = false ∧ atRef L s e = (0, 0)) := Lib.hid (by
      have e1 : isAt L s e = false := by
        unfold isAt
        rw [decide_eq_false (by omega), Bool.false_and]
      refine ⟨e1, ?_⟩
      unfold atRef
      rw [e1]
      rfl)
    rw [HIN.out.1, HIN.out.2]
    clear h HIN hcs
    by_cases h0 : s < 0
    · have d1 : decide (s < 0) = true := decide_eq_true h0
      clear hs
      go_enter Try.func50, Try.ntmps50
      go_wp2
      refine bodyPost_ret (v := .tuple #[.agg #[.int .i64 0, .int .i64 0], .bool false]) (by simp [results, Try.results50, go_sem]) rfl ?_
      exact ⟨rfl, HB.out⟩
    · obtain ⟨i, rfl⟩ : ∃ i : Nat, s = i := ⟨s.toNat, by omega⟩
      have d1 : decide ((i : Int) < 0) = false := decide_eq_false h0
      have d2 : decide ((L.length : Int) ≤ (i : Int)) = true := decide_eq_true (by omega)
      have d3 : decide (L.length ≤ i) = true := decide_eq_true (by omega)
      clear hs
      go_enter Try.func50, Try.ntmps50
      go_wp2
      refine bodyPost_ret (v := .tuple #[.agg #[.int .i64 0, .int .i64 0], .bool false]) (by simp [results, Try.results50, go_sem]) rfl ?_
      exact ⟨rfl, HB.out⟩
end Go.Proofs.Ytcmdfjeiefgmhaa
