/- What Zero, New, Tick, Join, Meet of duetref06 come to. -/
import Derived.Test.YtkpiiagogdhalaaVecJoin
import Derived.Deep.AppendLies
import Derived.Deep.RegionLaw
namespace Go.Proofs.Ytkpiiagogdhalaa
open Go.RowKit
set_option linter.unusedVariables false

set_option maxHeartbeats 1000000 in
theorem ref06_Zero (n : Nat) (w : World) (hn : n ≤ 1000000) :
    Calls Try.prog 25 #[.int .i64 (n : Int)] w fun e w' => ∃ r, e = .returned r ∧ SliceI w' r (List.replicate n 0) ∧ Below w.heap.size w w' := by
  go_enter Try.func25, Try.ntmps25
  go_wp2
  go_loopw [3, 4] (fun r i wr => ∃ k : Nat, k ≤ n ∧ i = .int .i64 k ∧ OwnsI wr w.heap.size r (List.replicate k 0) ∧ Below w.heap.size w wr) (fun _ i _ => n - (intOf i).toNat)
  case atStart => exact ⟨0, by omega, rfl, OwnsI.nil _ _, Below.refl _ _⟩
  case round =>
    obtain ⟨k, hk, rfl, hown, hbel⟩ := hrel
    have HO := Lib.hid hown
    have HB := Lib.hid hbel
    clear hown hbel
    by_cases hlt : k < n
    · have hdk : decide ((k : Int) < (n : Int)) = true := decide_eq_true (by omega)
      have hdn : decide (k < n) = true := decide_eq_true hlt
      go_wp2_with (at_builtin; refine wp_append_int rfl (.tmp 10) (.tmp 11) rfl w.heap.size _ _ _ rfl rfl HO.out HB.out.size (by rw [List.length_replicate]; omega) ?_; intro v1 w1 ho1 hk1)
      go_roundw
      case rel => exact ⟨k + 1, by omega, by go_num, by rw [List.replicate_succ']; exact ho1, HB.out.trans hk1⟩
      case measure => simp [intOf]; omega
    · have hdk : decide ((k : Int) < (n : Int)) = false := decide_eq_false (by omega)
      have hdn : decide (k < n) = false := decide_eq_false hlt
      obtain rfl : k = n := by omega
      go_wp2
      go_ret
      exact ⟨_, rfl, HO.out.slice, HB.out⟩

end Go.Proofs.Ytkpiiagogdhalaa