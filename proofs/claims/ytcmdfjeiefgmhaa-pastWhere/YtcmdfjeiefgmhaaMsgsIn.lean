/- Messages in a list, as they are handed over. -/
import Derived.Test.YtcmdfjeiefgmhaaMesgOpen
import Derived.Test.YtcmdfjeiefgmhaaSliceG
namespace Go.Proofs.Ytcmdfjeiefgmhaa
open Go.ChangeShapes Go.WideShapes Go.ChangeAt Go.RowKit Go.Joins Go.Deep
set_option linter.unusedVariables false

def msgQ (q : Mesg.Msg × Value) : List Value := msgL q.1 q.2
def okQ (W : World) (q : Mesg.Msg × Value) : Prop := SliceI W q.2 q.1.know ∧ q.1.know.length ≤ maxLen
theorem trod_msgQ {H : Type} {enc : TypeId × Value → H} {W : World} {n : Nat} {cs : List Value} {y : DataW H × List MemPlace} (h : DataW.trod enc Try.prog W 0 (fun _ => true) true n 38 cs = some y) (hl : cs.length = 10) : ∃ q : Mesg.Msg × Value, cs = msgQ q ∧ okQ W q := by
  have hI : Try.prog.cellsOf 3 = 1 := by kernel_rfl
  have hS : Try.prog.cellsOf 32 = 1 := by kernel_rfl
  have hO : Try.prog.cellsOf 36 = 7 := by kernel_rfl
  match cs, hl with
  | [c0, c1, c2, c3, c4, c5, c6, c7, c8, c9], _ =>
    obtain ⟨y0, y1, y2, y3, m, _, _, h0, h1, h2, h3⟩ := trod_struct4 Try.underlying38 h
    obtain ⟨x0, rfl⟩ := trod_num h0 (c := c0) (by show (List.drop 0 [c0, c1, c2, c3, c4, c5, c6, c7, c8, c9]).take (Try.prog.cellsOf 3) = _; rw [hI]; rfl)
    obtain ⟨x1, rfl⟩ := trod_num h1 (c := c1) (by show (List.drop 1 [_, c1, c2, c3, c4, c5, c6, c7, c8, c9]).take (Try.prog.cellsOf 3) = _; rw [hI]; rfl)
    obtain ⟨zs, k1, k2⟩ := trod_know h2 (c := c2) (by show (List.drop 2 [_, _, c2, c3, c4, c5, c6, c7, c8, c9]).take (Try.prog.cellsOf 32) = _; rw [hS]; rfl)
    obtain ⟨o, ho⟩ := trod_op h3 (c0 := c3) (c1 := c4) (c2 := c5) (c3 := c6) (c4 := c7) (c5 := c8) (c6 := c9) (by show (List.drop 3 [_, _, _, c3, c4, c5, c6, c7, c8, c9]).take (Try.prog.cellsOf 36) = _; rw [hO]; rfl)
    simp only [opL, List.cons.injEq] at ho
    obtain ⟨rfl, rfl, rfl, rfl, rfl, rfl, rfl, _⟩ := ho
    exact ⟨(⟨x0, x1, zs, o⟩, c2), rfl, k1, k2⟩

theorem ref07_Few (v : Value) (qs : List (Mesg.Msg × Value)) (w : World) (hv : SliceG 10 msgQ w v qs) (hm : qs.length ≤ maxLen) (hq : ∀ q ∈ qs, okQ w q) :
    Calls Try.prog 15 #[v] w fun e w' => e = .returned (.bool (decide (qs.length ≤ 60 ∧ ∀ q ∈ qs, q.1.know.length ≤ 30))) ∧ w' = w := by
  have HV := Lib.hid hv
  have HU := Lib.hid hq
  obtain ⟨va, vc, rfl⟩ := hv.shape
  unfold maxLen at hm
  clear hv hq
  by_cases h60 : 60 < qs.length
  · have d1 : decide ((60 : Int) < (qs.length : Int)) = true := decide_eq_true (by omega)
    have HD : Hid (decide (qs.length ≤ 60 ∧ ∀ q ∈ qs, q.1.know.length ≤ 30) = false) := Lib.hid (decide_eq_false (by omega))
    go_enter Try.func15, Try.ntmps15
    go_wp2
    go_ret
    exact ⟨by rw [HD.out]; rfl, rfl⟩
  · have d1 : decide ((60 : Int) < (qs.length : Int)) = false := decide_eq_false (by omega)
    go_enter Try.func15, Try.ntmps15
    go_wp2
    go_loopw [3] (fun i wr => ∃ k : Nat, k ≤ qs.length ∧ i = .int .i64 k ∧ (∀ j (hj : j < qs.length), j < k → qs[j].1.know.length ≤ 30) ∧ wr = w) (fun i _ => qs.length - (intOf i).toNat)
    case atStart => exact ⟨0, by omega, rfl, fun j _ h => by omega, rfl⟩
    case round =>
      obtain ⟨k, hk, rfl, hno, rfl⟩ := hrel
      have HN := Lib.hid hno
      clear hno
      by_cases hlt : k < qs.length
      · have d2 : decide ((k : Int) < (qs.length : Int)) = true := decide_eq_true (by omega)
        have hia : (k : Int) < (qs.length : Int) := by omega
        obtain ⟨b, off, e, hbl, hcc⟩ := HV.out.at hlt
        subst e
        have q2 := hcc 2 _ rfl
        obtain ⟨ka, kc, e⟩ := (HU.out qs[k] (List.getElem_mem hlt)).1.shape
        rw [e] at q2
        by_cases h20 : 30 < qs[k].1.know.length
        · have d3 : decide ((30 : Int) < (qs[k].1.know.length : Int)) = true := decide_eq_true (by omega)
          have HD : Hid (decide (qs.length ≤ 60 ∧ ∀ q ∈ qs, q.1.know.length ≤ 30) = false) := Lib.hid (decide_eq_false (fun h => by have := h.2 _ (List.getElem_mem hlt); omega))
          clear hcc e
          generalize qs[k].1.know.length = L at q2 d3
          go_wp2
          go_ret
          exact ⟨by rw [HD.out]; rfl, rfl⟩
        · have d3 : decide ((30 : Int) < (qs[k].1.know.length : Int)) = false := decide_eq_false (by omega)
          have HN3 : Hid (∀ j (hj : j < qs.length), j < k + 1 → qs[j].1.know.length ≤ 30) := Lib.hid (fun j hj hjk => by
            by_cases e : j = k
            · subst e; omega
            · exact HN.out j hj (by omega))
          clear hcc e
          generalize qs[k].1.know.length = L at q2 d3
          go_wp2
          go_roundw
          case rel => exact ⟨k + 1, by omega, by go_num, HN3.out, trivial⟩
          case measure => simp [intOf]; omega
      · have d2 : decide ((k : Int) < (qs.length : Int)) = false := decide_eq_false (by omega)
        have HD : Hid (decide (qs.length ≤ 60 ∧ ∀ q ∈ qs, q.1.know.length ≤ 30) = true) := Lib.hid (decide_eq_true ⟨by omega, fun e he => by
          obtain ⟨j, hj, rfl⟩ := List.getElem_of_mem he
          exact HN.out j hj (by omega)⟩)
        go_wp2
        go_ret
        exact ⟨by rw [HD.out]; rfl, rfl⟩
end Go.Proofs.Ytcmdfjeiefgmhaa
