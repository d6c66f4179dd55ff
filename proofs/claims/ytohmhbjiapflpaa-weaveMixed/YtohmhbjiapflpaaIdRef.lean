/- The document's answers of Ids: the small ones. -/
import Derived.Test.YtohmhbjiapflpaaIdMaker
namespace Go.Proofs.Ytohmhbjiapflpaa
open Go.RowKit
set_option linter.unusedVariables false

theorem take_one {α : Type} {xs ys : List α} {k : Nat} (h : k < xs.length) (h2 : k < ys.length) (e : xs.take k = ys.take k) : xs[k] = ys[k] ↔ xs.take (k + 1) = ys.take (k + 1) := by
  rw [List.take_succ_eq_append_getElem h, List.take_succ_eq_append_getElem h2, e]
  exact ⟨fun h => by rw [h], fun h => by have := List.append_cancel_left h; injection this⟩

set_option maxRecDepth 100000 in
set_option maxHeartbeats 1000000 in
theorem ref10_Same (va vb : Value) (xs ys : List (Int × Int)) (w : World) (ha : SliceG 2 idL w va xs) (hb : SliceG 2 idL w vb ys) (hm : xs.length ≤ 1000000000) (hm2 : ys.length ≤ 1000000000) :
    Calls Try.prog 24 #[va, vb] w fun e w' => e = .returned (.bool (decide (xs = ys))) ∧ Below w.heap.size w w' := by
  have HA := Lib.hid ha
  have HB := Lib.hid hb
  have HNQ := Lib.hid (fun a b c e W => neq_id a b c e W)
  obtain ⟨aa, ca, rfl⟩ := ha.shape
  obtain ⟨ab, cb, rfl⟩ := hb.shape
  clear ha hb
  by_cases hl : xs.length = ys.length
  · have hd : ((xs.length : Int) != (ys.length : Int)) = false := by simp; omega
    have HL := Lib.hid hl
    clear hl
    go_enter Try.func24, Try.ntmps24
    go_wp2
    go_loopw [5] (fun i wr => ∃ k : Nat, k ≤ xs.length ∧ i = .int .i64 k ∧ xs.take k = ys.take k ∧ ∃ n, wr = w.drewN n) (fun i _ => xs.length - (intOf i).toNat)
    case atStart => exact ⟨0, by omega, rfl, rfl, 0, rfl⟩
    case round =>
      obtain ⟨k, hk, rfl, heq, n, rfl⟩ := hrel
      have HEQ := Lib.hid heq
      clear heq
      by_cases hlt : k < xs.length
      · have hdk : decide ((k : Int) < (xs.length : Int)) = true := by simp; omega
        have hlb : k < ys.length := by rw [← HL.out]; exact hlt
        obtain ⟨ba, oa, rfl, c0, c1⟩ := HA.out.id hlt
        obtain ⟨bb, ob, rfl, b0, b1⟩ := HB.out.id hlb
        have HX := Lib.hid (take_one hlt hlb HEQ.out)
        have hia : (k : Int) < (xs.length : Int) := by omega
        have hib : (k : Int) < (ys.length : Int) := by omega
        generalize hxa : xs[k] = x at *
        generalize hyb : ys[k] = y at *
        have HXA := Lib.hid hxa
        have HYB := Lib.hid hyb
        clear hxa hyb
        obtain ⟨x1, x2⟩ := x
        obtain ⟨y1, y2⟩ := y
        simp only at c0 c1 b0 b1
        by_cases hxy : ((x1, x2) : Int × Int) = (y1, y2)
        · have HQQ : Hid ((!decide (x1 = y1) || !decide (x2 = y2)) = false) := Lib.hid (by simp at hxy; simp [hxy])
          have HXY := Lib.hid hxy
          clear hxy
          have hq := fun W => HNQ.out x1 x2 y1 y2 W
          have hgd := fun op a b W => guard_id op a b #[.int .i64 x1, .int .i64 x2] #[.int .i64 y1, .int .i64 y2] W
          go_wp2
          go_quiet (fail)
          rw [HQQ.out]
          go_wp2
          go_roundw
          case rel => exact ⟨k + 1, by omega, by go_num, HX.out.1 HXY.out, n + nq, by simp⟩
          case measure => simp [intOf]; omega
        · have HQQ : Hid ((!decide (x1 = y1) || !decide (x2 = y2)) = true) := Lib.hid (by
            simp at hxy
            by_cases e : x1 = y1 <;> simp [e]
            exact hxy e)
          have HXY := Lib.hid hxy
          clear hxy
          have hq := fun W => HNQ.out x1 x2 y1 y2 W
          have hgd := fun op a b W => guard_id op a b #[.int .i64 x1, .int .i64 x2] #[.int .i64 y1, .int .i64 y2] W
          go_wp2
          go_quiet (fail)
          rw [HQQ.out]
          go_wp2
          go_ret
          refine ⟨ret_bo (decide_eq_false fun e => HXY.out ?_).symm, grew (grew_drewN _ _) (grew_drewN _ _)⟩
          rw [← HXA.out, ← HYB.out]
          simp only [e]
      · have hdk : decide ((k : Int) < (xs.length : Int)) = false := by simp; omega
        go_wp2
        go_ret
        refine ⟨ret_bo (decide_eq_true ?_).symm, grew_drewN _ _⟩
        have := HEQ.out
        rw [List.take_of_length_le (by omega), List.take_of_length_le (by rw [← HL.out]; omega)] at this
        exact this
  · have hd : ((xs.length : Int) != (ys.length : Int)) = true := by simp; omega
    have HNE : Hid (decide (xs = ys) = false) := Lib.hid (decide_eq_false fun e => hl (by rw [e]))
    rw [HNE.out]
    clear hl
    go_enter Try.func24, Try.ntmps24
    go_wp2
    go_ret
    exact ⟨rfl, Below.refl _ _⟩

end Go.Proofs.Ytohmhbjiapflpaa