/- What is stable never goes back: the walk. -/
import Derived.Test.YtgbikhpmicddkaaFrMath
import Derived.Test.YtgbikhpmicddkaaSliceG
namespace Go.Proofs.Ytgbikhpmicddkaa
open Go.RowKit
set_option linter.unusedVariables false

theorem ref06_Zero_own (n : Nat) (w : World) (hn : n ≤ 1000000) :
    Calls Try.prog 19 #[.int .i64 (n : Int)] w fun e w' => ∃ r, e = .returned r ∧ OwnsI w' w.heap.size r (List.replicate n 0) ∧ Below w.heap.size w w' := by
  go_enter Try.func19, Try.ntmps19
  go_wp2
  go_loopw [3, 4] (fun r i wr => ∃ k : Nat, k ≤ n ∧ i = .int .i64 k ∧ OwnsI wr w.heap.size r (List.replicate k 0) ∧ Below w.heap.size w wr) (fun _ i _ => n - (intOf i).toNat)
  case atStart => exact ⟨0, by omega, rfl, OwnsI.nil _ _, Below.refl _ _⟩
  case round =>
    obtain ⟨k, hk, rfl, hown, hbel⟩ := hrel
    have HO := Lib.hid hown
    have HB := Lib.hid hbel
    clear hown hbel
    by_cases hlt : k < n
    · have hdk : decide ((k : Int) < (n : Int)) = true := decide_eq_true (by omega)
      have hdn : decide (k < n) = true := decide_eq_true hlt
      go_wp2_with (at_builtin; refine wp_append_int rfl (.tmp 10) (.tmp 11) rfl w.heap.size _ _ _ rfl rfl HO.out HB.out.size (by rw [List.length_replicate]; omega) ?_; intro v1 w1 ho1 hk1)
      go_roundw
      case rel => exact ⟨k + 1, by omega, by go_num, by rw [List.replicate_succ']; exact ho1, HB.out.trans hk1⟩
      case measure => simp [intOf]; omega
    · have hdk : decide ((k : Int) < (n : Int)) = false := decide_eq_false (by omega)
      have hdn : decide (k < n) = false := decide_eq_false hlt
      obtain rfl : k = n := by omega
      go_wp2
      go_ret
      exact ⟨_, rfl, HO.out, HB.out⟩

/-- Hear leaves each list of numbers as it was. -/
theorem flive_Hear2 {w0 w : World} {p : Nat} {rows : List (List Int)} (h : FLive w0 p rows w) (s : Int) (v : Value) (zs : List Int) (hv : SliceI w v zs) (hm : zs.length ≤ maxLen) : Calls Try.prog 7 #[.pointer (some ⟨p, 0, none⟩), .int .i64 s, v] w fun e w' => e = .returned (.int .i64 (Front.hear rows s zs).1) ∧ FLive w0 p (Front.hear rows s zs).2 w' ∧ ∀ u ns, SliceI w u ns → 1 ≤ ns.length → SliceI w' u ns := by
  obtain ⟨rb, rc, vs, h1, h2, h3⟩ := h
  exact (front_Hear h1 s v zs hv hm).mono fun e w' ⟨k1, vs', k2, k3⟩ => ⟨k1, ⟨rb, rc, vs', k2, h2, h3.trans (k3.below h3.size (fun i e => by have e : i = rb := e; rw [e]; exact h2))⟩, fun u ns hu hl => hu.keep k3 (fun g hg e => hu.no_row hl h1.row h1.slices (hg.trans (congrArg some e)))⟩

/-- Where the loop over the script stands. -/
def OnW (w : World) (p n : Nat) (was : Value) (wr : World) : Prop := ∃ rows zs, FLive w p rows wr ∧ Front.Ok rows ∧ rows.length = n ∧ SliceI wr was zs ∧ zs.length = n ∧ Vecs.below zs (Front.all Vecs.meet rows) = true

end Go.Proofs.Ytgbikhpmicddkaa