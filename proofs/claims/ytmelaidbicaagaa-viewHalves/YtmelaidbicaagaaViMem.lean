/- Elements; the walk over those that are seen. -/
import Derived.Test.YtmelaidbicaagaaSliceG
import Derived.Test.YtmelaidbicaagaaInts0
import Derived.RangeFuncNested
import Derived.RangeFuncBound
import Derived.RangeFuncCalls
import Derived.RangeFuncLeaves
import Derived.Shelf.Abstract
import Derived.Shelf.RegionOpen
import Derived.WalkKit
import Derived.OwnWalkIn
import Derived.TacticsInMore
import Derived.LoopNIn
import Derived.LoopIn
namespace Go.Proofs.Ytmelaidbicaagaa
open Go.RowKit Go.Shelf
attribute [local go_sem] Oper.semAt_some
set_option linter.unusedVariables false

/-- An element: its Id, its Ref, its rune, its users (a slice of un numbers). -/
structure El where
  t : Int
  s : Int
  rt : Int
  rs : Int
  rune : Int
  ua : Option Addr
  un : Nat
  uc : Nat
def El.cells (e : El) : List Value := [.int .i64 e.t, .int .i64 e.s, .int .i64 e.rt, .int .i64 e.rs, .int .i64 e.rune, .slice e.ua e.un e.uc]
def El.val (e : El) : Value := .agg #[.int .i64 e.t, .int .i64 e.s, .int .i64 e.rt, .int .i64 e.rs, .int .i64 e.rune, .slice e.ua e.un e.uc]

/-- Those that are seen, each with its number. -/
def View.seen (es : List El) : List (Nat × El) := (es.zipIdx.filter (fun p => p.1.un == 0)).map (fun p => (p.2, p.1))
theorem View.seen_snoc (es : List El) (e : El) : View.seen (es ++ [e]) = View.seen es ++ (if e.un = 0 then [(es.length, e)] else []) := by
  unfold View.seen
  rw [List.zipIdx_append, List.filter_append, List.map_append]
  congr 1
  by_cases h : e.un = 0 <;> simp [List.zipIdx, h]
theorem View.seen_len (es : List El) : (View.seen es).length ≤ es.length := by
  unfold View.seen
  rw [List.length_map]
  exact Nat.le_trans (List.length_filter_le _ _) (by simp)
theorem View.seen_take {es : List El} {k : Nat} (h : k < es.length) : View.seen (es.take (k + 1)) = View.seen (es.take k) ++ (if es[k].un = 0 then [(k, es[k])] else []) := by
  rw [List.take_succ_eq_append_getElem h, View.seen_snoc, List.length_take, Nat.min_eq_left (by omega)]
theorem View.seen_pre {es : List El} : ∀ {k m : Nat}, k ≤ m → m ≤ es.length → View.seen (es.take k) <+: View.seen (es.take m)
  | k, 0, h, _ => by obtain rfl : k = 0 := by omega
                     exact List.prefix_rfl
  | k, m + 1, h, hm => by
    by_cases e : k = m + 1
    · rw [e]; exact List.prefix_rfl
    · refine (View.seen_pre (k := k) (m := m) (by omega) (by omega)).trans ?_
      rw [View.seen_take (by omega)]
      exact List.prefix_append _ _

set_option maxRecDepth 100000 in
set_option maxHeartbeats 2000000 in
/-- The closure of seen. -/
theorem seen1_in (n : Nat) (hn : 1 ≤ n) (l Bn : Nat) (w W : World) (v : Value) (es : List El) (hv : SliceG 6 El.cells w v es) (hm : es.length ≤ maxLen) (hB : Below w.heap.size w W) (hc : W.cell? ⟨Bn, 0, none⟩ = some v) (J Jx : List (Nat × El) → World → Prop) (hJ : AbidesFrom W.heap.size J)
    (hY : ∀ pre x W1, J pre W1 → pre.length < es.length → YieldAt Fence.wide (n - 1) Try.prog l #[.int .i64 (x.1 : Nat), x.2.val] W1 fun e W' => (e = .returned (.bool true) ∧ J (pre ++ [x]) W' ∧ Below w.heap.size W1 W') ∨ (e = .returned (.bool false) ∧ Jx (pre ++ [x]) W'))
    (h0 : J [] W) : CallsIn Fence.wide n Try.prog 27 #[.func (.yield l) #[] #[], .pointer (some ⟨Bn, 0, none⟩)] W fun e W' => (∃ v, e = .returned v) ∧ ((∃ ys, ys = View.seen es ∧ J ys W') ∨ (∃ pre, pre <+: View.seen es ∧ Jx pre W')) := by
  have hv' := hv
  obtain ⟨va, vc, rfl⟩ := hv.shape
  unfold maxLen at hm
  refine callsIn_of_wp Try.func27 rfl trivial ?_ rfl
  simp only [Try.ntmps27, List.size_toArray, List.length_cons, List.length_nil, Nat.reduceAdd, Nat.reduceSub, Array.replicate_succ, Array.replicate_zero, List.push_toArray, List.append_toArray, List.nil_append, List.cons_append]
  gi_wp2
  gi_loopw [7] (fun i wr => ∃ k : Nat, k ≤ es.length ∧ i = .int .i64 k ∧ J (View.seen (es.take k)) wr ∧ Below w.heap.size w wr) (fun i _ => es.length - (intOf i).toNat)
  case atStart => exact ⟨0, Nat.zero_le _, rfl, h0, hB⟩
  case round =>
    obtain ⟨k, hk, rfl, hJs, hnx⟩ := hrel
    by_cases hlt : k < es.length
    · have d1 : decide ((k : Int) < (es.length : Int)) = true := decide_eq_true (by omega)
      have hia : (k : Int) < (es.length : Int) := by omega
      obtain ⟨b, off, rfl, hbl, hcc⟩ := hv'.at hlt
      have HST := Lib.hid (View.seen_take hlt)
      have HPR := Lib.hid (View.seen_pre (es := es) (k := k + 1) (m := es.length) (by omega) (Nat.le_refl _))
      rw [List.take_length] at HPR
      have HLN : Hid ((View.seen (es.take k)).length < es.length) := Lib.hid (by have := View.seen_len (es.take k); rw [List.length_take] at this; omega)
      have q : ∀ j u, (El.cells es[k])[j]? = some u → wr.cell? ⟨b, off + k * 6 + j, none⟩ = some u := fun j u hu => by rw [hnx.cell (p := ⟨b, off + k * 6 + j, none⟩) hbl]; exact hcc j u hu
      generalize es[k] = x at q HST
      obtain ⟨t, s, rt, rs, rune, ua, un, uc⟩ := x
      have q0 := q 0 _ rfl
      have q1 := q 1 _ rfl
      have q2 := q 2 _ rfl
      have q3 := q 3 _ rfl
      have q4 := q 4 _ rfl
      have q5 := q 5 _ rfl
      simp only [Nat.add_zero] at q0
      have HJA := Lib.hid (fun o => hJ _ wr (wr.alloc o) none hJs (World.grownBy_alloc wr o none) (fun r e => by cases e))
      clear hcc q
      by_cases h0 : un = 0
      · subst h0
        obtain ⟨fn, tmps, assign, body, hy, hR⟩ := hY _ (k, ⟨t, s, rt, rs, rune, ua, 0, uc⟩) _ (HJA.out (.cells #[.int .i64 t, .int .i64 s, .int .i64 rt, .int .i64 rs, .int .i64 rune, .slice ua 0 uc] 44)) HLN.out
        dsimp only [El.val] at hy
        gi_wp2
        refine hR.mono ?_
        rintro e W3 (⟨rfl, hJ3, hk3⟩ | ⟨rfl, hJx3⟩)
        · gi_wp2
          go_roundw
          case rel => exact ⟨k + 1, by omega, by go_num, by rw [HST.out]; exact hJ3, (hnx.alloc hnx.size _).trans hk3⟩
          case measure => simp [intOf]; omega
        · gi_wp2
          refine bodyPost_ret (results_none rfl _ _ _) rfl ?_
          exact ⟨⟨_, rfl⟩, .inr ⟨_, by rw [HST.out] at HPR; exact HPR.out, hJx3⟩⟩
      · have d2 : ((un : Int) == 0) = false := by simp [h0]
        have d3 : decide ((un : Int) = 0) = false := decide_eq_false (by omega)
        gi_wp2
        refine ⟨fun _ h => (by cases h), ?_⟩
        gi_wp2
        go_roundw
        case rel => exact ⟨k + 1, by omega, by go_num, by rw [HST.out, if_neg h0, List.append_nil]; exact HJA.out _, hnx.alloc hnx.size _⟩
        case measure => simp [intOf]; omega
    · have d1 : decide ((k : Int) < (es.length : Int)) = false := decide_eq_false (by omega)
      obtain rfl : k = es.length := by omega
      rw [List.take_length] at hJs
      gi_wp2
      go_end0
      exact ⟨⟨_, rfl⟩, .inl ⟨_, rfl, hJs⟩⟩
theorem seen_in (n : Nat) (a : Option Addr) (len cap : Nat) (w : World) : CallsIn Fence.wide n Try.prog 24 #[.slice a len cap] w fun e w' => e = .returned (.func (.func 27) #[] #[.pointer (some ⟨w.heap.size, 0, none⟩)]) ∧ w' = w.alloc (.cells #[.slice a len cap] 22) := by
  refine callsIn_of_wp Try.func24 rfl trivial ?_ rfl
  simp only [Try.ntmps24, List.size_toArray, List.length_cons, List.length_nil, Nat.reduceAdd, Nat.reduceSub, Array.replicate_succ, Array.replicate_zero, List.push_toArray, List.append_toArray, List.nil_append, List.cons_append]
  gi_wp2
  go_ret
  exact ⟨rfl, rfl⟩
theorem seen_stops (n : Nat) (hn : 1 ≤ n) (Bn : Nat) (w W0 : World) (v : Value) (es : List El) (hv : SliceG 6 El.cells w v es) (hm : es.length ≤ maxLen) (hB : Below w.heap.size w W0) (hlt : Bn < W0.heap.size) (hc : W0.cell? ⟨Bn, 0, none⟩ = some v) :
    SeqStopsK Fence.wide n Try.prog 27 #[.pointer (some ⟨Bn, 0, none⟩)] (fun x : Nat × El => #[.int .i64 (x.1 : Nat), x.2.val]) (Below w.heap.size) (fun ys => ys = View.seen es) (fun pre => pre <+: View.seen es) es.length W0 := fun l J Jx W hW hJ _ hY h0 =>
  seen1_in n hn l Bn w W v es hv hm (hB.trans (hW.mono hB.size)) ((hW.cell (p := ⟨Bn, 0, none⟩) hlt).trans hc) J Jx hJ hY h0
end Go.Proofs.Ytmelaidbicaagaa
