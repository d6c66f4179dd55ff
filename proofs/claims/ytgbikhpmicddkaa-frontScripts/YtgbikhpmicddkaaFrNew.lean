/- A new front; what is stable, what is the most. -/
import Derived.Test.YtgbikhpmicddkaaFrTog
import Derived.Deep.RegionHeld3
namespace Go.Proofs.Ytgbikhpmicddkaa
open Go.RowKit
set_option linter.unusedVariables false

theorem front_Stable {w : World} {p rb rc : Nat} {vs : List Value} {rows : List (List Int)} (h : IsFrontW w p rb rc vs rows) : Calls Try.prog 10 #[.pointer (some ⟨p, 0, none⟩)] w fun e w' => ∃ v, e = .returned v ∧ SliceI w' v (Front.all Vecs.meet rows) ∧ Below w.heap.size w w' := by
  have HC := Lib.hid (front_togMeet h)
  clear h
  go_enter Try.func10, Try.ntmps10
  go_wp2_with fail
  refine HC.out.mono ?_
  rintro e w2 ⟨v, rfl, hs, hb⟩
  have HS := Lib.hid (And.intro hs hb)
  clear hs hb
  go_wp2
  go_ret
  exact ⟨_, rfl, HS.out.1, HS.out.2⟩
theorem front_Most {w : World} {p rb rc : Nat} {vs : List Value} {rows : List (List Int)} (h : IsFrontW w p rb rc vs rows) : Calls Try.prog 12 #[.pointer (some ⟨p, 0, none⟩)] w fun e w' => ∃ v, e = .returned v ∧ SliceI w' v (Front.all Vecs.join rows) ∧ Below w.heap.size w w' := by
  have HC := Lib.hid (front_togJoin h)
  clear h
  go_enter Try.func12, Try.ntmps12
  go_wp2_with fail
  refine HC.out.mono ?_
  rintro e w2 ⟨v, rfl, hs, hb⟩
  have HS := Lib.hid (And.intro hs hb)
  clear hs hb
  go_wp2
  go_ret
  exact ⟨_, rfl, HS.out.1, HS.out.2⟩
theorem front_tog_nil (f : Value) (w : World) : Calls Try.prog 26 #[.pointer none, f] w fun e w' => e = .returned (.slice none 0 0) ∧ w' = w := by
  go_enter Try.func26, Try.ntmps26
  go_wp2_with fail
  refine (front_Row_nil 0 _).mono ?_
  rintro e w1 ⟨rfl, h1⟩
  subst h1
  go_wp2_with fail
  go_loopw [5, 6] (fun v i wr => v = .slice none 0 0 ∧ i = .int .i64 ((1 : Nat) : Int) ∧ wr = w1) (fun _ _ _ => 0)
  case atStart => exact ⟨rfl, rfl, rfl⟩
  case round =>
    obtain ⟨rfl, rfl, rfl⟩ := hrel
    go_wp2_with fail
    refine (front_has_nil _ _).mono ?_
    rintro e _ ⟨rfl, rfl⟩
    go_wp2
    go_ret
    exact ⟨rfl, rfl⟩
theorem front_Stable_nil (w : World) : Calls Try.prog 10 #[.pointer none] w fun e w' => e = .returned (.slice none 0 0) ∧ w' = w := by
  go_enter Try.func10, Try.ntmps10
  go_wp2_with fail
  refine (front_tog_nil _ _).mono ?_
  rintro e _ ⟨rfl, rfl⟩
  go_wp2
  go_ret
  exact ⟨rfl, rfl⟩
theorem front_Most_nil (w : World) : Calls Try.prog 12 #[.pointer none] w fun e w' => e = .returned (.slice none 0 0) ∧ w' = w := by
  go_enter Try.func12, Try.ntmps12
  go_wp2_with fail
  refine (front_tog_nil _ _).mono ?_
  rintro e _ ⟨rfl, rfl⟩
  go_wp2
  go_ret
  exact ⟨rfl, rfl⟩
theorem front_Late_nil (w : World) : Calls Try.prog 14 #[.pointer none] w fun e w' => e = .returned (.slice none 0 0) ∧ w' = w := by
  go_enter Try.func14, Try.ntmps14
  go_wp2_with fail
  refine (front_Most_nil _).mono ?_
  rintro e w1 ⟨rfl, h1⟩
  subst h1
  go_wp2_with fail
  go_loopw [3, 5] (fun v i wr => v = .slice none 0 0 ∧ i = .int .i64 ((0 : Nat) : Int) ∧ wr = w1) (fun _ _ _ => 0)
  case atStart => exact ⟨rfl, rfl, rfl⟩
  case round =>
    obtain ⟨rfl, rfl, rfl⟩ := hrel
    go_wp2_with fail
    refine (front_has_nil _ _).mono ?_
    rintro e _ ⟨rfl, rfl⟩
    go_wp2
    go_ret
    exact ⟨rfl, rfl⟩
theorem front_Hear_nil (i : Int) (v : Value) (zs : List Int) (w : World) (hv : SliceI w v zs) : Calls Try.prog 7 #[.pointer none, .int .i64 i, v] w fun e w' => e = .returned (.int .i64 1) ∧ w' = w := by
  obtain ⟨va, vc, rfl⟩ := hv.shape
  clear hv
  go_enter Try.func7, Try.ntmps7
  go_wp2_with fail
  refine (front_has_nil i _).mono ?_
  rintro e _ ⟨rfl, rfl⟩
  go_wp2
  go_ret
  exact ⟨rfl, rfl⟩
theorem front_New_no (n : Int) (w : World) (h : ¬ (1 ≤ n ∧ n ≤ 16)) : Calls Try.prog 4 #[.int .i64 n] w fun e w' => e = .returned (.tuple #[.pointer none, .int .i64 1]) ∧ Below w.heap.size w w' := by
  have HN := Lib.hid (vec_New n w)
  rw [show newR n = ([], 1) from by unfold newR; rw [if_neg h]] at HN
  clear h
  go_enter Try.func4, Try.ntmps4
  go_wp2_with fail
  refine HN.out.mono ?_
  rintro e w1 ⟨r, rfl, ⟨v, rfl, hs⟩, hb⟩
  have HB := Lib.hid hb
  obtain ⟨va, vc, rfl⟩ := hs.shape
  clear hs hb
  go_wp2
  go_ret2
  exact ⟨rfl, HB.out⟩
end Go.Proofs.Ytgbikhpmicddkaa
