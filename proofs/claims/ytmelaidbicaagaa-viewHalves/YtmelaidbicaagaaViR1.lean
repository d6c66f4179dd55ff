/- The document's answers: which are seen; where. -/
import Derived.Test.YtmelaidbicaagaaViIds
import Derived.Test.YtmelaidbicaagaaViSeen
import Derived.Test.YtmelaidbicaagaaInts
namespace Go.Proofs.Ytmelaidbicaagaa
open Go.RowKit
set_option linter.unusedVariables false

theorem View.nums_take {es : List El} {k : Nat} (h : k < es.length) : View.nums (es.take (k + 1)) = View.nums (es.take k) ++ (if es[k].un = 0 then [(k : Int)] else []) := by
  unfold View.nums
  rw [View.seen_take h, List.map_append]
  congr 1
  split <;> rfl

theorem ref12_Few (v : Value) (es : List El) (w : World) (hv : SliceG 6 El.cells w v es) (hm : es.length ≤ maxLen) (hu : ∀ e ∈ es, e.un ≤ maxLen) :
    Calls Try.prog 8 #[v] w fun e w' => e = .returned (.bool (decide (es.length ≤ 60 ∧ ∀ e ∈ es, e.un ≤ 20))) ∧ w' = w := by
  have HV := Lib.hid hv
  have HU := Lib.hid hu
  obtain ⟨va, vc, rfl⟩ := hv.shape
  unfold maxLen at hm
  clear hv hu
  by_cases h60 : 60 < es.length
  · have d1 : decide ((60 : Int) < (es.length : Int)) = true := decide_eq_true (by omega)
    have HD : Hid (decide (es.length ≤ 60 ∧ ∀ e ∈ es, e.un ≤ 20) = false) := Lib.hid (decide_eq_false (by omega))
    go_enter Try.func8, Try.ntmps8
    go_wp2
    go_ret
    exact ⟨by rw [HD.out]; rfl, rfl⟩
  · have d1 : decide ((60 : Int) < (es.length : Int)) = false := decide_eq_false (by omega)
    go_enter Try.func8, Try.ntmps8
    go_wp2
    go_loopw [3] (fun i wr => ∃ k : Nat, k ≤ es.length ∧ i = .int .i64 k ∧ (∀ j (hj : j < es.length), j < k → es[j].un ≤ 20) ∧ wr = w) (fun i _ => es.length - (intOf i).toNat)
    case atStart => exact ⟨0, by omega, rfl, fun j _ h => by omega, rfl⟩
    case round =>
      obtain ⟨k, hk, rfl, hno, rfl⟩ := hrel
      have HN := Lib.hid hno
      clear hno
      by_cases hlt : k < es.length
      · have d2 : decide ((k : Int) < (es.length : Int)) = true := decide_eq_true (by omega)
        have hia : (k : Int) < (es.length : Int) := by omega
        obtain ⟨b, off, e, hbl, hcc⟩ := HV.out.at hlt
        subst e
        have q5 := hcc 5 _ rfl
        by_cases h20 : 20 < es[k].un
        · have d3 : decide ((20 : Int) < (es[k].un : Int)) = true := decide_eq_true (by omega)
          have HD : Hid (decide (es.length ≤ 60 ∧ ∀ e ∈ es, e.un ≤ 20) = false) := Lib.hid (decide_eq_false (fun h => by have := h.2 _ (List.getElem_mem hlt); omega))
          clear hcc
          generalize es[k] = x at q5 d3
          go_wp2
          go_ret
          exact ⟨by rw [HD.out]; rfl, rfl⟩
        · have d3 : decide ((20 : Int) < (es[k].un : Int)) = false := decide_eq_false (by omega)
          have HN3 : Hid (∀ j (hj : j < es.length), j < k + 1 → es[j].un ≤ 20) := Lib.hid (fun j hj hjk => by
            by_cases e : j = k
            · subst e; omega
            · exact HN.out j hj (by omega))
          clear hcc
          generalize es[k] = x at q5 d3
          go_wp2
          go_roundw
          case rel => exact ⟨k + 1, by omega, by go_num, HN3.out, trivial⟩
          case measure => simp [intOf]; omega
      · have d2 : decide ((k : Int) < (es.length : Int)) = false := decide_eq_false (by omega)
        have HD : Hid (decide (es.length ≤ 60 ∧ ∀ e ∈ es, e.un ≤ 20) = true) := Lib.hid (decide_eq_true ⟨by omega, fun e he => by
          obtain ⟨j, hj, rfl⟩ := List.getElem_of_mem he
          exact HN.out j hj (by omega)⟩)
        go_wp2
        go_ret
        exact ⟨by rw [HD.out]; rfl, rfl⟩

set_option maxRecDepth 100000 in
set_option maxHeartbeats 1000000 in
theorem ref12_Seen (v : Value) (es : List El) (w : World) (hv : SliceG 6 El.cells w v es) (hm : es.length ≤ 1000000) :
    Calls Try.prog 18 #[v] w fun e w' => ∃ r, e = .returned r ∧ OwnsI w' w.heap.size r (View.nums es) ∧ Below w.heap.size w w' := by
  have HV := Lib.hid hv
  obtain ⟨va, vc, rfl⟩ := hv.shape
  clear hv
  go_enter Try.func18, Try.ntmps18
  go_wp2
  go_loopw [3, 4] (fun r i wr => ∃ k : Nat, k ≤ es.length ∧ i = .int .i64 k ∧ OwnsI wr w.heap.size r (View.nums (es.take k)) ∧ Below w.heap.size w wr) (fun _ i _ => es.length - (intOf i).toNat)
  case atStart => exact ⟨0, by omega, rfl, OwnsI.nil _ _, Below.refl _ _⟩
  case round =>
    obtain ⟨k, hk, rfl, hown, hbel⟩ := hrel
    have HO := Lib.hid hown
    have HB := Lib.hid hbel
    clear hown hbel
    by_cases hlt : k < es.length
    · have d1 : decide ((k : Int) < (es.length : Int)) = true := decide_eq_true (by omega)
      have hia : (k : Int) < (es.length : Int) := by omega
      obtain ⟨b, off, e, hbl, hcc⟩ := (HV.out.below HB.out).at hlt
      subst e
      have q5 := hcc 5 _ rfl
      have HT := Lib.hid (View.nums_take hlt)
      have HLN : Hid ((View.nums (es.take k)).length ≤ k) := Lib.hid (by rw [View.nums_len]; have := View.seen_len (es.take k); rw [List.length_take] at this; omega)
      clear hcc
      generalize es[k] = x at q5 HT
      by_cases h0 : x.un = 0
      · have d2 : ((x.un : Int) == 0) = true := by simp [h0]
        have d3 : decide ((x.un : Int) = 0) = true := decide_eq_true (by omega)
        rw [if_pos h0] at HT
        clear h0
        go_wp2_with (at_builtin; refine wp_append_int rfl (.tmp 18) (.tmp 20) rfl w.heap.size _ _ _ rfl rfl HO.out HB.out.size (by have := HLN.out; omega) ?_; intro v1 w1 ho1 hk1)
        go_roundw
        case rel => exact ⟨k + 1, by omega, by go_num, by rw [HT.out]; exact ho1, HB.out.trans hk1⟩
        case measure => simp [intOf]; omega
      · have d2 : ((x.un : Int) == 0) = false := by simp [h0]
        have d3 : decide ((x.un : Int) = 0) = false := decide_eq_false (by omega)
        rw [if_neg h0, List.append_nil] at HT
        clear h0
        go_wp2
        go_roundw
        case rel => exact ⟨k + 1, by omega, by go_num, by rw [HT.out]; exact HO.out, HB.out⟩
        case measure => simp [intOf]; omega
    · have d1 : decide ((k : Int) < (es.length : Int)) = false := decide_eq_false (by omega)
      obtain rfl : k = es.length := by omega
      rw [List.take_length] at HO
      go_wp2
      go_ret
      exact ⟨_, rfl, HO.out, HB.out⟩
end Go.Proofs.Ytmelaidbicaagaa
