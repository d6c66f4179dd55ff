/- The document's answer: where an element is. -/
import Derived.Test.YtmelaidbicaagaaViR4
namespace Go.Proofs.Ytmelaidbicaagaa
open Go.RowKit
set_option linter.unusedVariables false

theorem View.len_take {es : List El} {k : Nat} (h : k < es.length) : (View.seen (es.take (k + 1))).length = (View.seen (es.take k)).length + (if es[k].un = 0 then 1 else 0) := by
  rw [View.seen_take h, List.length_append]
  congr 1
  split <;> rfl

set_option maxRecDepth 100000 in
set_option maxHeartbeats 2000000 in
theorem ref12_Index (v : Value) (es : List El) (x1 x2 : Int) (w : World) (hv : SliceG 6 El.cells w v es) (hm : es.length ≤ 1000000) :
    Calls Try.prog 13 #[v, .agg #[.int .i64 x1, .int .i64 x2]] w fun e w' => e = .returned (.tuple #[.int .i64 (View.idx es (x1, x2)).1, .int .i64 (View.idx es (x1, x2)).2]) ∧ Below w.heap.size w w' := by
  have HV := Lib.hid hv
  obtain ⟨va, vc, rfl⟩ := hv.shape
  clear hv
  have HB0 := Lib.hid (grew_alloc w (.cells #[.int .i64 x1, .int .i64 x2] 24))
  have HX0 := Lib.hid (Holds.new w [.int .i64 x1, .int .i64 x2] 24)
  by_cases hz : (x1, x2) = ((0 : Int), (0 : Int))
  · obtain ⟨rfl, rfl⟩ : x1 = 0 ∧ x2 = 0 := by injection hz with h1 h2; exact ⟨h1, h2⟩
    have hq : ∀ W, (binOp .eql 24 (.agg #[.int .i64 0, .int .i64 0]) (.agg #[.int .i64 0, .int .i64 0])).run Try.prog W = .ok (.bool true) W := fun W => by rw [eql_el]; rfl
    go_enter Try.func13, Try.ntmps13
    go_wp2
    go_ret2
    exact ⟨by rw [View.idx_zero]; rfl, HB0.out⟩
  · have HZ := Lib.hid hz
    have hq : ∀ W, (binOp .eql 24 (.agg #[.int .i64 x1, .int .i64 x2]) (.agg #[.int .i64 0, .int .i64 0])).run Try.prog W = .ok (.bool false) W := fun W => by rw [eql_el, decide_eq_false hz]
    have HNO := Lib.hid (fun h => View.idx_none (es := es) hz h)
    have HAT := Lib.hid (fun k h => View.idx_at (es := es) (k := k) hz h)
    clear hz
    go_enter Try.func13, Try.ntmps13
    go_wp2_with fail
    generalize w.alloc (.cells #[.int .i64 x1, .int .i64 x2] 24) = W0 at *
    clear hq
    go_loopw [6, 7] (fun n i wr => ∃ k : Nat, k ≤ es.length ∧ i = .int .i64 k ∧ n = .int .i64 ((View.seen (es.take k)).length : Nat) ∧ (∀ j (hj : j < es.length), j < k → (es[j].t, es[j].s) ≠ (x1, x2)) ∧ Below W0.heap.size W0 wr) (fun _ i _ => es.length - (intOf i).toNat)
    case atStart => exact ⟨0, by omega, rfl, rfl, fun j _ h => by omega, Below.refl _ _⟩
    case round =>
      obtain ⟨k, hk, rfl, rfl, hno, hbr⟩ := hrel
      have HN := Lib.hid hno
      have HB := Lib.hid hbr
      clear hno hbr
      have HX := Lib.hid (HX0.out.keep (Keep.of_grew HB.out Non) (fun h => h))
      have y0 := HX.out.cell 0 (by simp)
      have y1 := HX.out.cell 1 (by simp)
      simp only [List.getElem_cons_zero, List.getElem_cons_succ] at y0 y1
      by_cases hlt : k < es.length
      · have d1 : decide ((k : Int) < (es.length : Int)) = true := decide_eq_true (by omega)
        have hia : (k : Int) < (es.length : Int) := by omega
        obtain ⟨b, off, e, hbl, hcc⟩ := (HV.out.below (grew HB0.out HB.out)).at hlt
        subst e
        have HAT2 := Lib.hid (fun h => HAT.out k ⟨hlt, h, fun j hj => HN.out j (by omega) hj⟩)
        have HN2 := Lib.hid (fun (h : (es[k].t, es[k].s) ≠ (x1, x2)) => show ∀ j (hj : j < es.length), j < k + 1 → (es[j].t, es[j].s) ≠ (x1, x2) from fun j hj hjk => by
          by_cases e : j = k
          · subst e; exact h
          · exact HN.out j hj (by omega))
        have HLT := Lib.hid (View.len_take hlt)
        have hsn : (View.seen (es.take k)).length ≤ 1000000 := by have := View.seen_len (es.take k); rw [List.length_take] at this; omega
        generalize hS1 : (View.seen (es.take (k + 1))).length = S1 at HLT HAT2
        have HS1 := Lib.hid hS1
        clear hS1
        generalize (View.seen (es.take k)).length = S at HLT hsn
        generalize es[k] = x at hcc HAT2 HN2 HLT
        obtain ⟨t, s, rt, rs, rune, ua, un, uc⟩ := x
        have q0 := hcc 0 _ rfl
        have q1 := hcc 1 _ rfl
        have q5 := hcc 5 _ rfl
        simp only [Nat.add_zero] at q0
        simp only at HAT2 HN2 HLT
        clear hcc
        by_cases h0 : un = 0
        · subst h0
          rw [if_pos rfl] at HLT
          have e2 : S1 = S + 1 := HLT.out
          subst e2
          by_cases he : (t, s) = (x1, x2)
          · have hq : ∀ W, (binOp .eql 24 (.agg #[.int .i64 t, .int .i64 s]) (.agg #[.int .i64 x1, .int .i64 x2])).run Try.prog W = .ok (.bool true) W := fun W => by rw [eql_el, decide_eq_true he]
            have HAT3 := Lib.hid (HAT2.out he)
            clear he HAT2 HN2
            go_wp2_with fail
            go_quiet (fail)
            go_wp2
            go_ret2
            exact ⟨by rw [HAT3.out]; rfl, grew HB0.out (grew HB.out (grew_drewN _ _))⟩
          · have hq : ∀ W, (binOp .eql 24 (.agg #[.int .i64 t, .int .i64 s]) (.agg #[.int .i64 x1, .int .i64 x2])).run Try.prog W = .ok (.bool false) W := fun W => by rw [eql_el, decide_eq_false he]
            have HN3 := Lib.hid (HN2.out he)
            clear he HAT2 HN2
            go_wp2_with fail
            go_quiet (fail)
            go_wp2
            go_roundw
            case rel => exact ⟨k + 1, by omega, by go_num, by rw [HS1.out]; go_num, HN3.out, grew HB.out (grew_drewN _ _)⟩
            case measure => simp [intOf]; omega
        · have e3 : ((un : Int) == 0) = false := by simp [h0]
          have e4 : decide ((un : Int) = 0) = false := decide_eq_false (by omega)
          rw [if_neg h0] at HLT
          have e2 : S1 = S := HLT.out
          subst e2
          by_cases he : (t, s) = (x1, x2)
          · have hq : ∀ W, (binOp .eql 24 (.agg #[.int .i64 t, .int .i64 s]) (.agg #[.int .i64 x1, .int .i64 x2])).run Try.prog W = .ok (.bool true) W := fun W => by rw [eql_el, decide_eq_true he]
            have HAT3 := Lib.hid (HAT2.out he)
            clear he HAT2 HN2 h0
            go_wp2_with fail
            go_quiet (fail)
            go_wp2
            go_ret2
            exact ⟨by rw [HAT3.out]; rfl, grew HB0.out (grew HB.out (grew_drewN _ _))⟩
          · have hq : ∀ W, (binOp .eql 24 (.agg #[.int .i64 t, .int .i64 s]) (.agg #[.int .i64 x1, .int .i64 x2])).run Try.prog W = .ok (.bool false) W := fun W => by rw [eql_el, decide_eq_false he]
            have HN3 := Lib.hid (HN2.out he)
            clear he HAT2 HN2 h0
            go_wp2_with fail
            go_quiet (fail)
            go_wp2
            go_roundw
            case rel => exact ⟨k + 1, by omega, by go_num, by rw [HS1.out], HN3.out, grew HB.out (grew_drewN _ _)⟩
            case measure => simp [intOf]; omega
      · have d1 : decide ((k : Int) < (es.length : Int)) = false := decide_eq_false (by omega)
        have HNN := Lib.hid (HNO.out (fun j hj => HN.out j hj (by omega)))
        go_wp2
        go_ret2
        exact ⟨by rw [HNN.out]; rfl, grew HB0.out HB.out⟩
end Go.Proofs.Ytmelaidbicaagaa
