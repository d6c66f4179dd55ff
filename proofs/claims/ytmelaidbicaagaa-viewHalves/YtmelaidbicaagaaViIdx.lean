/- Where an element is. -/
import Derived.Test.YtmelaidbicaagaaViText
import Derived.Test.YtmelaidbicaagaaViIds
namespace Go.Proofs.Ytmelaidbicaagaa
open Go.RowKit
set_option linter.unusedVariables false

theorem SliceG.take {α : Type} {k : Nat} {c : α → List Value} {w : World} {a : Option Addr} {len cap : Nat} {os : List α} (h : SliceG k c w (.slice a len cap) os) {m : Nat} (hm : m ≤ os.length) : SliceG k c w (.slice a m cap) (os.take m) := by
  obtain ⟨a', cap', e, hc, h⟩ := h
  injection e with e1 e2 e3
  subst e1
  subst e3
  have hl : (os.take m).length = m := by rw [List.length_take]; omega
  refine ⟨a, cap, by rw [hl], by omega, ?_⟩
  rcases h with h | ⟨b, off, ha, hlt, hcell⟩
  · exact .inl (by rw [h, List.take_nil])
  · refine .inr ⟨b, off, ha, hlt, fun i hi j u hu => hcell i (by omega) j u ?_⟩
    rw [List.getElem_take] at hu
    exact hu

/-- The k-th is the first one of that Id. -/
def View.at (es : List El) (x : Int × Int) (k : Nat) : Prop := ∃ h : k < es.length, (es[k].t, es[k].s) = x ∧ ∀ j (hj : j < k), (es[j].t, es[j].s) ≠ x
open Classical in
/-- What Index tells. -/
noncomputable def View.idx (es : List El) (x : Int × Int) : Int × Int := if x = (0, 0) then (0, 0) else if h : ∃ k, View.at es x k then (((View.seen (es.take (Classical.choose h + 1))).length : Nat), 0) else (0, 6)
theorem View.at_one {es : List El} {x : Int × Int} {a b : Nat} (h1 : View.at es x a) (h2 : View.at es x b) : a = b := by
  obtain ⟨ha, ea, na⟩ := h1
  obtain ⟨hb, eb, nb⟩ := h2
  rcases Nat.lt_trichotomy a b with h | h | h
  · exact absurd ea (nb a h)
  · exact h
  · exact absurd eb (na b h)
theorem View.idx_zero (es : List El) : View.idx es (0, 0) = (0, 0) := if_pos rfl
theorem View.idx_at {es : List El} {x : Int × Int} {k : Nat} (hx : x ≠ (0, 0)) (h : View.at es x k) : View.idx es x = ((((View.seen (es.take (k + 1))).length : Nat) : Int), (0 : Int)) := by
  unfold View.idx
  have hh : ∃ k, View.at es x k := ⟨k, h⟩
  rw [if_neg hx, dif_pos hh]
  have e := View.at_one (Classical.choose_spec hh) h
  simp only [e]
theorem View.idx_none {es : List El} {x : Int × Int} (hx : x ≠ (0, 0)) (h : ∀ j (hj : j < es.length), (es[j].t, es[j].s) ≠ x) : View.idx es x = (0, 6) := by
  unfold View.idx
  rw [if_neg hx, dif_neg]
  rintro ⟨k, hk, ek, _⟩
  exact h k hk ek

set_option maxRecDepth 100000 in
set_option maxHeartbeats 2000000 in
theorem view_Index (v : Value) (es : List El) (x1 x2 : Int) (w : World) (hv : SliceG 6 El.cells w v es) (hm : es.length ≤ 1000000000) :
    Calls Try.prog 12 #[v, .agg #[.int .i64 x1, .int .i64 x2]] w fun e w' => e = .returned (.tuple #[.int .i64 (View.idx es (x1, x2)).1, .int .i64 (View.idx es (x1, x2)).2]) ∧ Below w.heap.size w w' := by
  have HV := Lib.hid hv
  obtain ⟨va, vc, rfl⟩ := hv.shape
  clear hv
  have HB0 := Lib.hid (grew_alloc w (.cells #[.int .i64 x1, .int .i64 x2] 24))
  have HX0 := Lib.hid (Holds.new w [.int .i64 x1, .int .i64 x2] 24)
  by_cases hz : (x1, x2) = ((0 : Int), (0 : Int))
  · obtain ⟨rfl, rfl⟩ : x1 = 0 ∧ x2 = 0 := by injection hz with h1 h2; exact ⟨h1, h2⟩
    have hq : ∀ W, (binOp .eql 24 (.agg #[.int .i64 0, .int .i64 0]) (.agg #[.int .i64 0, .int .i64 0])).run Try.prog W = .ok (.bool true) W := fun W => by rw [eql_el]; rfl
    go_enter Try.func12, Try.ntmps12
    go_wp2
    go_ret2
    exact ⟨by rw [View.idx_zero]; rfl, HB0.out⟩
  · have HZ := Lib.hid hz
    have hq : ∀ W, (binOp .eql 24 (.agg #[.int .i64 x1, .int .i64 x2]) (.agg #[.int .i64 0, .int .i64 0])).run Try.prog W = .ok (.bool false) W := fun W => by rw [eql_el, decide_eq_false hz]
    have HNO := Lib.hid (fun h => View.idx_none (es := es) hz h)
    have HAT := Lib.hid (fun k h => View.idx_at (es := es) (k := k) hz h)
    clear hz
    go_enter Try.func12, Try.ntmps12
    go_wp2_with fail
    generalize w.alloc (.cells #[.int .i64 x1, .int .i64 x2] 24) = W0 at *
    clear hq
    go_loopw [13] (fun i wr => ∃ k : Nat, k ≤ es.length ∧ i = .int .i64 k ∧ (∀ j (hj : j < es.length), j < k → (es[j].t, es[j].s) ≠ (x1, x2)) ∧ Below W0.heap.size W0 wr) (fun i _ => es.length - (intOf i).toNat)
    case atStart => exact ⟨0, by omega, rfl, fun j _ h => by omega, Below.refl _ _⟩
    case round =>
      obtain ⟨k, hk, rfl, hno, hbr⟩ := hrel
      have HN := Lib.hid hno
      have HB := Lib.hid hbr
      clear hno hbr
      have HX := Lib.hid (HX0.out.keep (Keep.of_grew HB.out Non) (fun h => h))
      have y0 := HX.out.cell 0 (by simp)
      have y1 := HX.out.cell 1 (by simp)
      simp only [List.getElem_cons_zero, List.getElem_cons_succ] at y0 y1
      by_cases hlt : k < es.length
      · have d1 : decide ((k : Int) < (es.length : Int)) = true := decide_eq_true (by omega)
        have hia : (k : Int) < (es.length : Int) := by omega
        have HVW := Lib.hid (HV.out.below (grew HB0.out HB.out))
        obtain ⟨b, off, e, hbl, hcc⟩ := HVW.out.at hlt
        subst e
        have HST := Lib.hid (HVW.out.take (m := k + 1) (by omega))
        have HAT2 := Lib.hid (fun h => HAT.out k ⟨hlt, h, fun j hj => HN.out j (by omega) hj⟩)
        have HN2 := Lib.hid (fun (h : (es[k].t, es[k].s) ≠ (x1, x2)) => show ∀ j (hj : j < es.length), j < k + 1 → (es[j].t, es[j].s) ≠ (x1, x2) from fun j hj hjk => by
          by_cases e : j = k
          · subst e; exact h
          · exact HN.out j hj (by omega))
        have hll : (es.take (k + 1)).length = k + 1 := by rw [List.length_take]; omega
        have HLL := Lib.hid hll
        generalize es.take (k + 1) = tk at HST HAT2 HLL
        generalize es[k] = x at hcc HAT2 HN2
        obtain ⟨t, s, rt, rs, rune, ua, un, uc⟩ := x
        have q0 := hcc 0 _ rfl
        have q1 := hcc 1 _ rfl
        have q2 := hcc 2 _ rfl
        have q3 := hcc 3 _ rfl
        have q4 := hcc 4 _ rfl
        have q5 := hcc 5 _ rfl
        simp only [Nat.add_zero] at q0
        simp only at HAT2 HN2
        have g0 := (HX.out.keep (Keep.alloc Non _ (.cells #[.int .i64 t, .int .i64 s, .int .i64 rt, .int .i64 rs, .int .i64 rune, .slice ua un uc] 44)) (fun h => h)).cell 0 (by simp)
        have g1 := (HX.out.keep (Keep.alloc Non _ (.cells #[.int .i64 t, .int .i64 s, .int .i64 rt, .int .i64 rs, .int .i64 rune, .slice ua un uc] 44)) (fun h => h)).cell 1 (by simp)
        simp only [List.getElem_cons_zero, List.getElem_cons_succ] at g0 g1
        have HBA := Lib.hid (grew HB.out (grew_alloc _ (.cells #[.int .i64 t, .int .i64 s, .int .i64 rt, .int .i64 rs, .int .i64 rune, .slice ua un uc] 44)))
        have HSA := Lib.hid (HST.out.below (grew_alloc _ (.cells #[.int .i64 t, .int .i64 s, .int .i64 rt, .int .i64 rs, .int .i64 rune, .slice ua un uc] 44)))
        clear hcc hll
        by_cases he : (t, s) = (x1, x2)
        · have hq : ∀ W, (binOp .eql 24 (.agg #[.int .i64 t, .int .i64 s]) (.agg #[.int .i64 x1, .int .i64 x2])).run Try.prog W = .ok (.bool true) W := fun W => by rw [eql_el, decide_eq_true he]
          have HAT3 := Lib.hid (HAT2.out he)
          clear he HAT2 HN2
          have hs1 : (k : Int) + 1 ≤ (vc : Int) := by
            obtain ⟨_, c', e, hc, _⟩ := HVW.out
            injection e with _ _ e3
            subst e3
            omega
          have hs2 : k + 1 ≤ vc := by omega
          go_wp2_with fail
          refine (view_last _ tk _ HSA.out (by rw [HLL.out]; unfold maxLen; omega)).mono ?_
          rintro e w3 ⟨rfl, hb3⟩
          have HB3 := Lib.hid (grew HB0.out (grew HBA.out hb3))
          clear hb3
          go_wp2
          go_ret2
          exact ⟨by rw [HAT3.out]; rfl, HB3.out⟩
        · have hq : ∀ W, (binOp .eql 24 (.agg #[.int .i64 t, .int .i64 s]) (.agg #[.int .i64 x1, .int .i64 x2])).run Try.prog W = .ok (.bool false) W := fun W => by rw [eql_el, decide_eq_false he]
          have HN3 := Lib.hid (HN2.out he)
          clear he HAT2 HN2
          go_wp2
          go_roundw
          case rel => exact ⟨k + 1, by omega, by go_num, HN3.out, HBA.out⟩
          case measure => simp [intOf]; omega
      · have d1 : decide ((k : Int) < (es.length : Int)) = false := decide_eq_false (by omega)
        have HNN := Lib.hid (HNO.out (fun j hj => HN.out j hj (by omega)))
        go_wp2
        go_ret2
        exact ⟨by rw [HNN.out]; rfl, grew HB0.out HB.out⟩
end Go.Proofs.Ytmelaidbicaagaa
