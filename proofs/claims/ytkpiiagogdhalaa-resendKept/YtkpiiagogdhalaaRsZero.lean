/- duetref06.Zero makes a list of its own; duetref04.Check of a message that knows of too many sites. -/
import Derived.Test.YtkpiiagogdhalaaMesgRef3
import Derived.Test.YtkpiiagogdhalaaVecRef2
namespace Go.Proofs.Ytkpiiagogdhalaa
open Go.RowKit
set_option linter.unusedVariables false

theorem ref06_Zero_own (n : Nat) (w : World) (hn : n ≤ 1000000) :
    Calls Try.prog 25 #[.int .i64 (n : Int)] w fun e w' => ∃ r, e = .returned r ∧ OwnsI w' w.heap.size r (List.replicate n 0) ∧ Below w.heap.size w w' := by
  go_enter Try.func25, Try.ntmps25
  go_wp2
  go_loopw [3, 4] (fun r i wr => ∃ k : Nat, k ≤ n ∧ i = .int .i64 k ∧ OwnsI wr w.heap.size r (List.replicate k 0) ∧ Below w.heap.size w wr) (fun _ i _ => n - (intOf i).toNat)
  case atStart => exact ⟨0, by omega, rfl, OwnsI.nil _ _, Below.refl _ _⟩
  case round =>
    obtain ⟨k, hk, rfl, hown, hbel⟩ := hrel
    have HO := Lib.hid hown
    have HB := Lib.hid hbel
    clear hown hbel
    by_cases hlt : k < n
    · have hdk : decide ((k : Int) < (n : Int)) = true := decide_eq_true (by omega)
      have hdn : decide (k < n) = true := decide_eq_true hlt
      go_wp2_with (at_builtin; refine wp_append_int rfl (.tmp 10) (.tmp 11) rfl w.heap.size _ _ _ rfl rfl HO.out HB.out.size (by rw [List.length_replicate]; omega) ?_; intro v1 w1 ho1 hk1)
      go_roundw
      case rel => exact ⟨k + 1, by omega, by go_num, by rw [List.replicate_succ']; exact ho1, HB.out.trans hk1⟩
      case measure => simp [intOf]; omega
    · have hdk : decide ((k : Int) < (n : Int)) = false := decide_eq_false (by omega)
      have hdn : decide (k < n) = false := decide_eq_false hlt
      obtain rfl : k = n := by omega
      go_wp2
      go_ret
      exact ⟨_, rfl, HO.out, HB.out⟩

/-- A list that the call made: its block. -/
theorem OwnsI.fresh {w w' : World} {r : Value} {zs : List Int} (h : OwnsI w' w.heap.size r zs) (h1 : 1 ≤ zs.length) (hb : Below w.heap.size w w') : ∃ g cap, Fresh w w' r zs g cap := by
  have ho : OwnI w' r zs := by
    obtain ⟨h2, h3⟩ := h
    refine ⟨h2, ?_⟩
    rcases h3 with h3 | ⟨g, cap, cur, hv, _, q⟩
    · exact .inl h3
    · exact .inr ⟨g, cap, cur, hv, Nat.zero_le _, q⟩
  refine fresh_of h1 ho (fun g hg => ?_) hb
  rcases h.2 with ⟨rfl, h0⟩ | ⟨g', cap, cur, rfl, hge, _⟩
  · cases hg
  · have : g' = g := Option.some.inj hg
    omega

set_option maxRecDepth 100000 in
set_option maxHeartbeats 4000000 in
theorem ref04_Check_long (m : Mesg.Msg) (v : Value) (w : World) (hv : SliceI w v m.know) (hm : m.know.length ≤ maxLen) (h2 : 16 < m.know.length) :
    Calls Try.prog 26 #[msgV m v] w fun e w' => e = .returned (.int .i64 1) ∧ Below w.heap.size w w' := by
  unfold maxLen at hm
  obtain ⟨a, cap, rfl, hcap, hrow⟩ := hv
  clear hrow
  obtain ⟨site, seq, know, op⟩ := m
  simp only at hm hcap h2 ⊢
  have HB : Hid (Below w.heap.size w (w.alloc (.cells (msgL ⟨site, seq, know, op⟩ (.slice a know.length cap)).toArray 40))) := Lib.hid (grew_alloc _ _)
  unfold msgV
  simp only
  have dh1 : decide ((know.length : Int) < 1) = false := by simp; omega
  have dh2 : decide ((16 : Int) < (know.length : Int)) = true := by simp; omega
  go_enter Try.func26, Try.ntmps26
  go_wp2
  go_quiet (fail)
  go_wp2
  go_ret
  exact ⟨rfl, grew HB.out (grew_drewN _ _)⟩
end Go.Proofs.Ytkpiiagogdhalaa
