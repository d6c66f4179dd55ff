/- The walk of LinksRoom. -/
import Derived.Test.YtlihdnlojbmhjaaLinkLive
import Derived.Test.YtlihdnlojbmhjaaLinkMath2
namespace Go.Proofs.Ytlihdnlojbmhjaa
open Go.RowKit Go.Maps
set_option linter.unusedVariables false

set_option maxRecDepth 100000 in
set_option maxHeartbeats 4000000 in
theorem walk_LinksRoom (room : Int) (s : ByteArray) (w : World) (hroom : (Lit.int .i64 room).wf = true) (hs : s.size ≤ maxLen) :
    Calls Try.prog 6 #[.int .i64 room, .string s] w fun e w' => e = .returned (.bool true) ∧ Below w.heap.size w w' := by
  clear hroom
  have hs' := hs
  unfold maxLen at hs'
  by_cases hok : 1 ≤ room ∧ room ≤ 60 ∧ s.size ≤ 5000
  · obtain ⟨r, rfl⟩ : ∃ r : Nat, room = r := ⟨room.toNat, by omega⟩
    have h1 : 1 ≤ r := by omega
    have h60 : r ≤ 60 := by omega
    have hlen : s.data.toList.length ≤ 5000 := by rw [size_list]; omega
    have hd1 : decide ((r : Int) < 1) = false := decide_eq_false (by omega)
    have hd2 : decide ((60 : Int) < (r : Int)) = false := decide_eq_false (by omega)
    have hd3 : decide ((5000 : Int) < (s.size : Int)) = false := decide_eq_false (by omega)
    have HS := Lib.hid hs
    have hss : (s.toList == s.toList) = true := str_same rfl
    have HF := Lib.hid (fun k (hk : k < r) => Links.fill_send (r := r) (k := k) hlen hk)
    have H5 := Lib.hid (Links.fill_full (r := r) hlen)
    have H6 := Lib.hid (Links.fill_double (r := r) (s := s.data.toList) h1)
    have H7 := Lib.hid (Links.fill_cast (r := r) hlen)
    have H8 := Lib.hid (Links.fill_take (r := r) (s := s.data.toList) h1)
    have H9 : Hid (((Links.fill r s.data.toList r).on 0 1).length = r) := Lib.hid (by
      have := Links.fill_on r s.data.toList r
      have e : (Links.fill r s.data.toList r).on 0 1 = _ := this
      rw [e, List.length_replicate])
    have H0 := Lib.hid (Links.fill_zero r s.data.toList)
    have hsz : s.size ≤ 5000 := by omega
    clear hok hs hlen
    go_enter Try.func6, Try.ntmps6
    go_wp2_with fail
    refine (lives_New 2 r w w (Below.refl _ _) (by decide) ⟨h1, by omega⟩).mono ?_
    rintro e w1 ⟨p, rfl, hl⟩
    rw [← H0.out] at hl
    have H := Lib.hid hl
    clear hl
    go_wp2
    go_loopw [7] (fun i wr => ∃ k : Nat, k ≤ r ∧ i = .int .i64 k ∧ Lives w p (Links.fill r s.data.toList k) wr) (fun i _ => r - (intOf i).toNat)
    case atStart => exact ⟨0, by omega, rfl, H.out⟩
    case round =>
      obtain ⟨k, hk, rfl, hl⟩ := hrel
      have H := Lib.hid hl
      clear hl
      by_cases hlt : k < r
      · have hdk : decide ((k : Int) < (r : Int)) = true := decide_eq_true (by omega)
        have hdn : decide (k < r) = true := decide_eq_true hlt
        have HFK := Lib.hid (HF.out k hlt)
        go_wp2_with fail
        refine (lives_Send H.out 0 1 s (i64_small (by decide)) (i64_small (by decide)) HS.out).mono ?_
        rintro e w2 ⟨rfl, hl⟩
        rw [HFK.out] at hl ⊢
        have H2 := Lib.hid hl
        clear hl
        go_wp2
        go_roundw
        case rel => exact ⟨k + 1, by omega, by go_num, H2.out⟩
        case measure => simp [intOf]; omega
      · have hdk : decide ((k : Int) < (r : Int)) = false := decide_eq_false (by omega)
        have hdn : decide (k < r) = false := decide_eq_false hlt
        obtain rfl : r = k := by omega
        go_wp2_with fail
        refine (lives_Send H.out 0 1 s (i64_small (by decide)) (i64_small (by decide)) HS.out).mono ?_
        rintro e w2 ⟨rfl, hl⟩
        rw [H5.out] at hl ⊢
        have H := Lib.hid hl
        clear hl
        go_wp2_with fail
        refine (lives_Double H.out 0 1 0 (i64_small (by decide)) (i64_small (by decide))).mono ?_
        rintro e w3 ⟨rfl, hl⟩
        rw [H6.out] at hl ⊢
        have H := Lib.hid hl
        clear hl
        go_wp2_with fail
        refine (lives_Cast H.out 0 s (i64_small (by decide)) HS.out).mono ?_
        rintro e w4 ⟨rfl, hl⟩
        rw [H7.out] at hl ⊢
        have H := Lib.hid hl
        clear hl
        go_wp2_with fail
        refine (lives_Take H.out 0 1 ((r : Int) - 1) (i64_small (by decide)) (i64_small (by decide))).mono ?_
        rintro e w5 ⟨rfl, hl⟩
        rw [H8.out] at hl ⊢
        simp only at hl ⊢
        rw [str_whole s]
        have H := Lib.hid hl
        clear hl
        have HFK := Lib.hid (HF.out (r - 1) (by omega))
        rw [show r - 1 + 1 = r by omega] at HFK
        go_wp2_with fail
        refine (lives_Send H.out 0 1 s (i64_small (by decide)) (i64_small (by decide)) HS.out).mono ?_
        rintro e w6 ⟨rfl, hl⟩
        rw [HFK.out] at hl ⊢
        have H := Lib.hid hl
        clear hl
        go_wp2_with fail
        refine (lives_Len H.out 0 1 (i64_small (by decide)) (i64_small (by decide))).mono ?_
        rintro e _ ⟨rfl, rfl⟩
        rw [H9.out]
        go_wp2_with fail
        refine (law05_live _).mono ?_
        rintro e w7 ⟨rfl, hb⟩
        go_wp2
        go_ret
        exact ⟨rfl, grew H.out.below hb⟩
  · have hc : (decide (room < 1) = true) ∨ (decide (room < 1) = false ∧ decide (60 < room) = true) ∨ (decide (room < 1) = false ∧ decide (60 < room) = false ∧ decide ((5000 : Int) < (s.size : Int)) = true) := by
      simp only [decide_eq_true_eq, decide_eq_false_iff_not]
      omega
    clear hok hs
    rcases hc with d1 | ⟨d1, d2⟩ | ⟨d1, d2, d3⟩
    all_goals
      go_enter Try.func6, Try.ntmps6
      go_wp2_with fail
      refine (law05_live _).mono ?_
      rintro e w1 ⟨rfl, hb⟩
      go_wp2
      go_ret
      exact ⟨rfl, hb⟩
end Go.Proofs.Ytlihdnlojbmhjaa
