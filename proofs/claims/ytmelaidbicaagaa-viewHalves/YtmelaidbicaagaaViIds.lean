/- Ids: are two the same; are two lists of them? -/
import Derived.Test.YtmelaidbicaagaaSliceG
import Derived.Test.YtmelaidbicaagaaInts0
import Derived.Laws.StructEq
namespace Go.Proofs.Ytmelaidbicaagaa
open Go.RowKit
set_option linter.unusedVariables false

def idvL (x : Int × Int) : List Value := [.int .i64 x.1, .int .i64 x.2]
theorem eql_el (a b c d : Int) (w : World) : (binOp .eql 24 (.agg #[.int .i64 a, .int .i64 b]) (.agg #[.int .i64 c, .int .i64 d])).run Try.prog w = .ok (.bool (decide (((a, b) : Int × Int) = (c, d)))) w := by
  have u3 := Try.underlying3
  have a3 := Try.isAgg3
  have z3 := Try.sizeOf3
  have hS : Try.prog.underlying 24 = some (.struct (Try.prog.fieldsOf 24)) := by kernel_rfl
  have hp : Try.prog.stoodInHeld 24 = false := by kernel_rfl
  rw [run_eql_struct, show (10000 : Nat) = 9999 + 1 from rfl, run_equalIn_agg w 9999 24 _ _ hS hp]
  simp only [Program.fieldsOf, Try.underlying24]
  go_simp
  by_cases h1 : a = c <;> by_cases h2 : b = d <;> simp [h1, h2]
theorem neq_el (a b c d : Int) (w : World) : (binOp .neq 24 (.agg #[.int .i64 a, .int .i64 b]) (.agg #[.int .i64 c, .int .i64 d])).run Try.prog w = .ok (.bool (!decide (((a, b) : Int × Int) = (c, d)))) w := by
  have u3 := Try.underlying3
  have a3 := Try.isAgg3
  have z3 := Try.sizeOf3
  have hS : Try.prog.underlying 24 = some (.struct (Try.prog.fieldsOf 24)) := by kernel_rfl
  have hp : Try.prog.stoodInHeld 24 = false := by kernel_rfl
  rw [run_neq_struct, show (10000 : Nat) = 9999 + 1 from rfl, run_equalIn_agg w 9999 24 _ _ hS hp]
  simp only [Program.fieldsOf, Try.underlying24]
  go_simp
  by_cases h1 : a = c <;> by_cases h2 : b = d <;> simp [h1, h2]
theorem guard_id (op : BinOp) (x y : Operand) (xs ys : Array Value) (w : World) : (eqGuard op 24 x y (.agg xs) (.agg ys)).run Try.prog w = .ok () w := run_eqGuard_agg w op _ x y xs ys (by kernel_rfl)

theorem SliceG.idv {w : World} {a : Option Addr} {cap : Nat} {ys : List (Int × Int)} (h : SliceG 2 idvL w (.slice a ys.length cap) ys) {i : Nat} (hi : i < ys.length) : ∃ b off, a = some ⟨b, off, none⟩ ∧ w.cell? ⟨b, off + i * 2, none⟩ = some (.int .i64 ys[i].1) ∧ w.cell? ⟨b, off + i * 2 + 1, none⟩ = some (.int .i64 ys[i].2) := by
  obtain ⟨b, off, e, _, hc⟩ := h.at hi
  exact ⟨b, off, e, hc 0 _ rfl, hc 1 _ rfl⟩
theorem ret_bov {a b : Bool} (h : a = b) : Ending.returned (.bool a) = .returned (.bool b) := by rw [h]
theorem take_onev {α : Type} {xs ys : List α} {k : Nat} (h : k < xs.length) (h2 : k < ys.length) (e : xs.take k = ys.take k) : xs[k] = ys[k] ↔ xs.take (k + 1) = ys.take (k + 1) := by
  rw [List.take_succ_eq_append_getElem h, List.take_succ_eq_append_getElem h2, e]
  exact ⟨fun h => by rw [h], fun h => by have := List.append_cancel_left h; injection this⟩

set_option maxRecDepth 100000 in
set_option maxHeartbeats 1000000 in
theorem ref10_SameV (va vb : Value) (xs ys : List (Int × Int)) (w : World) (ha : SliceG 2 idvL w va xs) (hb : SliceG 2 idvL w vb ys) (hm : xs.length ≤ 1000000000) (hm2 : ys.length ≤ 1000000000) :
    Calls Try.prog 21 #[va, vb] w fun e w' => e = .returned (.bool (decide (xs = ys))) ∧ Below w.heap.size w w' := by
  have HA := Lib.hid ha
  have HB := Lib.hid hb
  have HNQ := Lib.hid (fun a b c e W => neq_el a b c e W)
  obtain ⟨aa, ca, rfl⟩ := ha.shape
  obtain ⟨ab, cb, rfl⟩ := hb.shape
  clear ha hb
  by_cases hl : xs.length = ys.length
  · have hd : ((xs.length : Int) != (ys.length : Int)) = false := by simp; omega
    have HL := Lib.hid hl
    clear hl
    go_enter Try.func21, Try.ntmps21
    go_wp2
    go_loopw [5] (fun i wr => ∃ k : Nat, k ≤ xs.length ∧ i = .int .i64 k ∧ xs.take k = ys.take k ∧ ∃ n, wr = w.drewN n) (fun i _ => xs.length - (intOf i).toNat)
    case atStart => exact ⟨0, by omega, rfl, rfl, 0, rfl⟩
    case round =>
      obtain ⟨k, hk, rfl, heq, n, rfl⟩ := hrel
      have HEQ := Lib.hid heq
      clear heq
      by_cases hlt : k < xs.length
      · have hdk : decide ((k : Int) < (xs.length : Int)) = true := by simp; omega
        have hlb : k < ys.length := by rw [← HL.out]; exact hlt
        obtain ⟨ba, oa, rfl, c0, c1⟩ := HA.out.idv hlt
        obtain ⟨bb, ob, rfl, b0, b1⟩ := HB.out.idv hlb
        have HX := Lib.hid (take_onev hlt hlb HEQ.out)
        have hia : (k : Int) < (xs.length : Int) := by omega
        have hib : (k : Int) < (ys.length : Int) := by omega
        generalize hxa : xs[k] = x at *
        generalize hyb : ys[k] = y at *
        have HXA := Lib.hid hxa
        have HYB := Lib.hid hyb
        clear hxa hyb
        obtain ⟨x1, x2⟩ := x
        obtain ⟨y1, y2⟩ := y
        simp only at c0 c1 b0 b1
        by_cases hxy : ((x1, x2) : Int × Int) = (y1, y2)
        · have HQQ : Hid ((!decide (x1 = y1) || !decide (x2 = y2)) = false) := Lib.hid (by simp at hxy; simp [hxy])
          have HXY := Lib.hid hxy
          clear hxy
          have hq := fun W => HNQ.out x1 x2 y1 y2 W
          have hgd := fun op a b W => guard_id op a b #[.int .i64 x1, .int .i64 x2] #[.int .i64 y1, .int .i64 y2] W
          go_wp2
          go_quiet (fail)
          rw [HQQ.out]
          go_wp2
          go_roundw
          case rel => exact ⟨k + 1, by omega, by go_num, HX.out.1 HXY.out, n + nq, by simp⟩
          case measure => simp [intOf]; omega
        · have HQQ : Hid ((!decide (x1 = y1) || !decide (x2 = y2)) = true) := Lib.hid (by
            simp at hxy
            by_cases e : x1 = y1 <;> simp [e]
            exact hxy e)
          have HXY := Lib.hid hxy
          clear hxy
          have hq := fun W => HNQ.out x1 x2 y1 y2 W
          have hgd := fun op a b W => guard_id op a b #[.int .i64 x1, .int .i64 x2] #[.int .i64 y1, .int .i64 y2] W
          go_wp2
          go_quiet (fail)
          rw [HQQ.out]
          go_wp2
          go_ret
          refine ⟨ret_bov (decide_eq_false fun e => HXY.out ?_).symm, grew (grew_drewN _ _) (grew_drewN _ _)⟩
          rw [← HXA.out, ← HYB.out]
          simp only [e]
      · have hdk : decide ((k : Int) < (xs.length : Int)) = false := by simp; omega
        go_wp2
        go_ret
        refine ⟨ret_bov (decide_eq_true ?_).symm, grew_drewN _ _⟩
        have := HEQ.out
        rw [List.take_of_length_le (by omega), List.take_of_length_le (by rw [← HL.out]; omega)] at this
        exact this
  · have hd : ((xs.length : Int) != (ys.length : Int)) = true := by simp; omega
    have HNE : Hid (decide (xs = ys) = false) := Lib.hid (decide_eq_false fun e => hl (by rw [e]))
    rw [HNE.out]
    clear hl
    go_enter Try.func21, Try.ntmps21
    go_wp2
    go_ret
    exact ⟨rfl, Below.refl _ _⟩
end Go.Proofs.Ytmelaidbicaagaa
