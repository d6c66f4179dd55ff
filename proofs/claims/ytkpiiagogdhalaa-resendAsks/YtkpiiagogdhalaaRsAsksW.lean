/- What is to be asked for by any two: the walk of ResendAsks. -/
import Derived.Test.YtkpiiagogdhalaaRsAsksR
import Derived.Test.YtkpiiagogdhalaaRsLive2
import Derived.Test.YtkpiiagogdhalaaStepApp
namespace Go.Proofs.Ytkpiiagogdhalaa
open Go.RowKit Go.Maps
set_option linter.unusedVariables false

theorem asks_few (xs ys : List Int) (most : Int) : (Resend.asks xs ys most).1.length ≤ 1000 := by
  unfold Resend.asks
  split
  · rename_i h
    simp only [List.length_take]
    omega
  · simp

set_option maxRecDepth 100000 in
set_option maxHeartbeats 8000000 in
theorem walk_ResendAsks (a0 : Option Addr) (len0 cap0 : Nat) (z0 : List Int) (a1 : Option Addr) (len1 cap1 : Nat) (z1 : List Int) (most : Int) (w : World) (h0 : IsRow .i64 w a0 len0 cap0 z0) (h1 : IsRow .i64 w a1 len1 cap1 z1) (hmost : (Lit.int .i64 most).wf = true) :
    Calls Try.prog 9 #[.slice a0 len0 cap0, .slice a1 len1 cap1, .int .i64 most] w fun e w' => e = .returned (.bool true) ∧ Below w.heap.size w w' := by
  obtain ⟨xs, hx, hlx, hmx, _⟩ := h0.slice
  obtain ⟨ys, hy, hly, hmy, _⟩ := h1.slice
  subst hlx hly
  have HX := Lib.hid hx
  have HY := Lib.hid hy
  unfold maxLen at hmx hmy
  clear h0 h1 hx hy hmost
  by_cases c1 : 30 < xs.length
  · have d1 : decide ((30 : Int) < (xs.length : Int)) = true := decide_eq_true (by omega)
    clear c1
    go_enter Try.func9, Try.ntmps9
    go_wp2_with fail
    refine (law08_live _).mono ?_
    rintro e w3 ⟨rfl, hb3⟩
    go_wp2
    go_ret
    exact ⟨rfl, hb3⟩
  · have d1 : decide ((30 : Int) < (xs.length : Int)) = false := decide_eq_false (by omega)
    by_cases c2 : 30 < ys.length
    · have d2 : decide ((30 : Int) < (ys.length : Int)) = true := decide_eq_true (by omega)
      clear c1 c2
      go_enter Try.func9, Try.ntmps9
      go_wp2_with fail
      refine (law08_live _).mono ?_
      rintro e w3 ⟨rfl, hb3⟩
      go_wp2
      go_ret
      exact ⟨rfl, hb3⟩
    · have d2 : decide ((30 : Int) < (ys.length : Int)) = false := decide_eq_false (by omega)
      have HL : Hid (xs.length ≤ 30 ∧ ys.length ≤ 30) := Lib.hid ⟨by omega, by omega⟩
      have hfew := asks_few xs ys most
      clear c1 c2
      go_enter Try.func9, Try.ntmps9
      go_wp2_with fail
      refine (resend_Asks _ _ xs ys most _ HX.out HY.out (by have := HL.out; omega) (by have := HL.out; omega)).mono ?_
      rintro e w1 ⟨V, rfl, hV, hb1⟩
      have HA := Lib.hid (ref08_Asks _ _ xs ys most _ (HX.out.below hb1) (HY.out.below hb1) (by have := HL.out; omega) (by have := HL.out; omega))
      generalize Resend.asks xs ys most = q at *
      obtain ⟨L, er⟩ := q
      simp only at hV HA hfew ⊢
      have HB1 := Lib.hid hb1
      have HV := Lib.hid hV
      clear hV hb1
      go_wp2_with fail
      refine HA.out.mono ?_
      rintro e w2 ⟨U, rfl, hU, hb2⟩
      have HV := Lib.hid (HV.out.below hb2)
      have HU := Lib.hid hU
      have HB2 := Lib.hid (grew HB1.out hb2)
      obtain ⟨va, vc, rfl, hvr⟩ := HV.out.read
      have HVR := Lib.hid hvr
      clear hU hb2 hvr
      have her : (er == er) = true := by simp
      go_wp2_with fail
      go_loopw [11, 12] (fun T i wr => ∃ k : Nat, k ≤ L.length ∧ i = .int .i64 k ∧ AskRW w2 T (L.take k) wr) (fun _ i _ => L.length - (intOf i).toNat)
      case atStart => exact ⟨0, by omega, rfl, ⟨OwnA.nil _ _, fun g hg => (by cases hg), Below.refl _ _⟩⟩
      case round =>
        obtain ⟨k, hk, rfl, hA⟩ := hrel
        have HAW := Lib.hid hA
        obtain ⟨ta, tc, rfl⟩ := hA.form
        have hlk : (L.take k).length = k := by rw [List.length_take]; omega
        rw [hlk]
        clear hA
        by_cases hlt : k < L.length
        · have hdk : decide ((k : Int) < (L.length : Int)) = true := decide_eq_true (by omega)
          have hdn : decide (k < L.length) = true := decide_eq_true hlt
          have hik : (k : Int) < (L.length : Int) := by omega
          obtain ⟨bv, rfl, hbv, hcv⟩ : ∃ bx, va = some ⟨bx, 0, none⟩ ∧ bx < w2.heap.size ∧ ∀ k (hk : k < L.length), w2.cell? ⟨bx, k * 2, none⟩ = some (.int .i64 L[k].1) ∧ w2.cell? ⟨bx, k * 2 + 1, none⟩ = some (.int .i64 L[k].2) := by
            rcases HVR.out with h | h
            · subst h; simp at hlt
            · exact h
          have x0 := (HAW.out.bel.cell (p := ⟨bv, k * 2, none⟩) hbv).trans (hcv k hlt).1
          have x1 := (HAW.out.bel.cell (p := ⟨bv, k * 2 + 1, none⟩) hbv).trans (hcv k hlt).2
          have HTK : Hid (L.take (k + 1) = L.take k ++ [L[k]]) := Lib.hid (List.take_succ_eq_append_getElem hlt)
          have HLK := Lib.hid hlk
          have HKK := Lib.hid hlt
          clear hcv hbv hlk
          generalize L[k] = p at *
          obtain ⟨p0, p1⟩ := p
          simp only at x0 x1
          clear hlt
          go_wp2_with fail
          have HOW : Hid (Owns wr 64 2 (.slice ta k tc) k (askCells (L.take k))) := Lib.hid (by have := HAW.out.own; unfold OwnA at this; rw [HLK.out] at this; exact this)
          have HK1 : Hid (k + 1 ≤ 1000000000) := Lib.hid (by have := HKK.out; omega)
          have HONE : Hid (∀ u ∈ [Value.int .i64 p0, .int .i64 p1], u.oneCell' = true) := Lib.hid (by intro u hu; simp at hu; rcases hu with rfl | rfl <;> rfl)
          go_region_law ((refine step_append_lit (w := wr) rfl (.tmp 42) (.tmp 54) rfl Try.underlying81 info_askR rfl (by decide) (by decide) (.slice ta k tc) k (askCells (L.take k)) rfl HOW.out 1 [.int .i64 p0, .int .i64 p1] _ rfl rfl rfl HONE.out HK1.out ?_; intro va2 cap2 w3 ho2 hk2 hn2; have HM2 := Lib.hid (And.intro ho2 (And.intro hk2 hn2)); clear ho2 hk2 hn2))
          all_goals
            go_wp2
            go_roundw
            case rel =>
              refine ⟨k + 1, by have := HKK.out; omega, by go_num, ?_⟩
              rw [HTK.out]
              have hA := HAW.out
              have hA2 : AskRW w2 (.slice ta (L.take k).length tc) (L.take k) wr := hA
              rw [HLK.out] at hA2
              exact hA2.more (by rw [HLK.out]; exact HM2.out.1) HM2.out.2.1 HM2.out.2.2
            case measure => simp [intOf]; have := HKK.out; omega
        · have hdn : decide (k < L.length) = false := decide_eq_false hlt
          have hdk : decide ((k : Int) < (L.length : Int)) = false := decide_eq_false (by omega)
          have hke : L.take k = L := List.take_of_length_le (by omega)
          have hA := HAW.out
          rw [hke] at hA
          have HA3 := Lib.hid hA
          have HKL : Hid (k = L.length) := Lib.hid (by omega)
          clear hke hA hlk hlt
          go_wp2_with fail
          refine (ref08_Same 64 _ U L L _ (by have := HA3.out.own; rw [← HKL.out] at this; exact this) (HU.out.below HA3.out.bel) (by omega) (by omega)).mono ?_
          rintro e w4 ⟨rfl, hb4⟩
          rw [show decide (L = L) = true from by simp]
          have HB4 := Lib.hid (grew HB2.out (grew HA3.out.bel hb4))
          clear hb4
          go_wp2_with fail
          refine (law08_live _).mono ?_
          rintro e w5 ⟨rfl, hb5⟩
          go_wp2
          go_ret
          exact ⟨rfl, grew HB4.out hb5⟩
end Go.Proofs.Ytkpiiagogdhalaa
