/- Where everybody's caret is: At. -/
import Derived.Test.YtcmdfjeiefgmhaaPwMove
namespace Go.Proofs.Ytcmdfjeiefgmhaa
open Go.RowKit Carets
set_option linter.unusedVariables false

set_option maxRecDepth 100000 in
set_option maxHeartbeats 2000000 in
theorem past_At {p : Nat} {L : List Car} {w : World} {F : Nat → Prop} (h : WhereV p L w F) (s e : Int) :
    Calls Try.prog 49 #[.pointer (some ⟨p, 0, none⟩), .int .i64 s, .int .i64 e] w fun r w' => r = .returned (.tuple #[.agg #[.int .i64 (atRef L s e).1, .int .i64 (atRef L s e).2], .bool (isAt L s e)]) ∧ Below w.heap.size w w' := by
  have hpl : p < w.heap.size := h.1.lt
  have HB := Lib.hid (grew_alloc w (.cells #[.int .i64 0, .int .i64 0] 34))
  have HX := Lib.hid (Holds.new w [.int .i64 0, .int .i64 0] 34)
  by_cases hs : 0 ≤ s ∧ s < 16
  · obtain ⟨i, rfl⟩ : ∃ i : Nat, s = i := ⟨s.toNat, by omega⟩
    have hi : i < 16 := by omega
    have d1 : decide ((i : Int) < 0) = false := decide_eq_false (by omega)
    have d2 : decide ((16 : Int) ≤ (i : Int)) = false := decide_eq_false (by omega)
    have d3 : decide (16 ≤ i) = false := decide_eq_false (by omega)
    have hia : (i : Int) < 16 := by omega
    obtain ⟨c0, c1, c2, c3⟩ := h.cell hi
    have HIN : Hid (isAt L (i : Int) e = carIn (carAt L i) e ∧ atRef L (i : Int) e = if carIn (carAt L i) e then (carAt L i).ref else (0, 0)) := Lib.hid (by
      have e1 : isAt L (i : Int) e = carIn (carAt L i) e := by
        unfold isAt
        rw [Int.toNat_natCast]
        by_cases hl : i < L.length
        · rw [decide_eq_true (by omega), Bool.true_and]
        · rw [carAt_ge (by omega), noCar_in, Bool.and_false]
      refine ⟨e1, ?_⟩
      unfold atRef
      rw [e1, Int.toNat_natCast])
    rw [HIN.out.1, HIN.out.2]
    generalize carAt L i = c at c0 c1 c2 c3 ⊢
    have HC := Lib.hid (fun W => caret_isIn c e W)
    obtain ⟨q, ep, r1, r2⟩ := c
    simp only at c0 c1 c2 c3 HC ⊢
    clear h hs HIN
    have k0 := (HB.out.cell (p := ⟨p, 1 + i * 4, none⟩) hpl).trans c0
    have k1 := (HB.out.cell (p := ⟨p, 1 + i * 4 + 1, none⟩) hpl).trans c1
    have k2 := (HB.out.cell (p := ⟨p, 1 + i * 4 + 2, none⟩) hpl).trans c2
    have k3 := (HB.out.cell (p := ⟨p, 1 + i * 4 + 3, none⟩) hpl).trans c3
    have HK := Lib.hid (And.intro k0 (And.intro k1 (And.intro k2 k3)))
    clear c0 c1 c2 c3
    generalize carIn ⟨q, ep, (r1, r2)⟩ e = z at HC ⊢
    cases z
    · simp only [if_neg (by decide : ¬ (false = true))]
      go_enter Try.func49, Try.ntmps49
      go_wp2_with fail
      refine (HC.out _).mono ?_
      rintro r w1 ⟨rfl, hb⟩
      have hpl1 : p < (w.alloc (.cells #[.int .i64 0, .int .i64 0] 34)).heap.size := Nat.lt_of_lt_of_le hpl HB.out.size
      have HB1 := Lib.hid (grew HB.out hb)
      have m2 := (hb.cell (p := ⟨p, 1 + i * 4 + 2, none⟩) hpl1).trans k2
      have m3 := (hb.cell (p := ⟨p, 1 + i * 4 + 3, none⟩) hpl1).trans k3
      have hx := HX.out.keep (Keep.of_grew hb Non) (fun h => h)
      have x0 := hx.cell 0 (by simp)
      have x1 := hx.cell 1 (by simp)
      have y0 := hx.frozen 0
      have y1 := hx.frozen 1
      simp only [List.getElem_cons_zero, List.getElem_cons_succ] at x0 x1
      have HX1 := Lib.hid hx
      have HWS := Lib.hid (fun (a b : Int) => (Keep.setCell w1 w.heap.size 0 (.int .i64 a)).trans (Keep.setCell _ w.heap.size 1 (.int .i64 b)) (fun _ _ h => h))
      have HSET := Lib.hid (fun (a b : Int) => ((hx.set 0 (.int .i64 a) (by simp)).set 1 (.int .i64 b) (by simp)))
      clear hb hx k0 k1 k2 k3
      go_wp2
      have hf := HSET.out 0 0
      simp only [List.set_cons_zero, List.set_cons_succ] at hf
      have f0 := hf.cell 0 (by simp)
      have f1 := hf.cell 1 (by simp)
      simp only [List.getElem_cons_zero, List.getElem_cons_succ] at f0 f1
      refine bodyPost_ret (v := .tuple #[.agg #[.int .i64 0, .int .i64 0], .bool false]) (by simp [results, Try.results49, go_sem, f0, f1]) rfl ?_
      exact ⟨rfl, HB1.out.trans ((HWS.out 0 0).below HB1.out.size (fun i e => by have e : i = w.heap.size := e; omega))⟩
    · simp only [if_true]
      go_enter Try.func49, Try.ntmps49
      go_wp2_with fail
      refine (HC.out _).mono ?_
      rintro r w1 ⟨rfl, hb⟩
      have hpl1 : p < (w.alloc (.cells #[.int .i64 0, .int .i64 0] 34)).heap.size := Nat.lt_of_lt_of_le hpl HB.out.size
      have HB1 := Lib.hid (grew HB.out hb)
      have m2 := (hb.cell (p := ⟨p, 1 + i * 4 + 2, none⟩) hpl1).trans k2
      have m3 := (hb.cell (p := ⟨p, 1 + i * 4 + 3, none⟩) hpl1).trans k3
      have hx := HX.out.keep (Keep.of_grew hb Non) (fun h => h)
      have x0 := hx.cell 0 (by simp)
      have x1 := hx.cell 1 (by simp)
      have y0 := hx.frozen 0
      have y1 := hx.frozen 1
      simp only [List.getElem_cons_zero, List.getElem_cons_succ] at x0 x1
      have HX1 := Lib.hid hx
      have HWS := Lib.hid (fun (a b : Int) => (Keep.setCell w1 w.heap.size 0 (.int .i64 a)).trans (Keep.setCell _ w.heap.size 1 (.int .i64 b)) (fun _ _ h => h))
      have HSET := Lib.hid (fun (a b : Int) => ((hx.set 0 (.int .i64 a) (by simp)).set 1 (.int .i64 b) (by simp)))
      clear hb hx k0 k1 k2 k3
      go_wp2
      have hf := HSET.out r1 r2
      simp only [List.set_cons_zero, List.set_cons_succ] at hf
      have f0 := hf.cell 0 (by simp)
      have f1 := hf.cell 1 (by simp)
      simp only [List.getElem_cons_zero, List.getElem_cons_succ] at f0 f1
      refine bodyPost_ret (v := .tuple #[.agg #[.int .i64 r1, .int .i64 r2], .bool true]) (by simp [results, Try.results49, go_sem, f0, f1]) rfl ?_
      exact ⟨rfl, HB1.out.trans ((HWS.out r1 r2).below HB1.out.size (fun i e => by have e : i = w.heap.size := e; omega))⟩
  · have HIN : Hid (isAt L s e = false ∧ atRef L s e = (0, 0)) := Lib.hid (by
      have hl := h.2.1
      have e1 : isAt L s e = false := by
        unfold isAt
        rw [decide_eq_false (by omega), Bool.false_and]
      refine ⟨e1, ?_⟩
      unfold atRef
      rw [e1]
      rfl)
    rw [HIN.out.1, HIN.out.2]
    clear h HIN
    by_cases h0 : s < 0
    · have d1 : decide (s < 0) = true := decide_eq_true h0
      clear hs
      go_enter Try.func49, Try.ntmps49
      go_wp2
      refine bodyPost_ret (v := .tuple #[.agg #[.int .i64 0, .int .i64 0], .bool false]) (by simp [results, Try.results49, go_sem]) rfl ?_
      exact ⟨rfl, HB.out⟩
    · have d1 : decide (s < 0) = false := decide_eq_false h0
      have d2 : decide (16 ≤ s) = true := decide_eq_true (by omega)
      clear hs
      go_enter Try.func49, Try.ntmps49
      go_wp2
      refine bodyPost_ret (v := .tuple #[.agg #[.int .i64 0, .int .i64 0], .bool false]) (by simp [results, Try.results49, go_sem]) rfl ?_
      exact ⟨rfl, HB.out⟩
end Go.Proofs.Ytcmdfjeiefgmhaa
