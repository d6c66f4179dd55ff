/- The walk of LinksTurned. -/
import Derived.Test.YtlihdnlojbmhjaaLinkLive
import Derived.Test.YtlihdnlojbmhjaaLinkMath2
namespace Go.Proofs.Ytlihdnlojbmhjaa
open Go.RowKit Go.Maps
set_option linter.unusedVariables false

theorem bounds_byte {n : Int} (h : (Lit.int .u8 n).wf = true) : ∃ c : UInt8, (c.toNat : Int) = n := by
  obtain ⟨h1, h2⟩ := bounds_u8 h
  refine ⟨UInt8.ofNat n.toNat, ?_⟩
  rw [UInt8.toNat_ofNat', Nat.mod_eq_of_lt (by omega)]
  omega

set_option maxRecDepth 100000 in
set_option maxHeartbeats 4000000 in
theorem walk_LinksTurned (s : ByteArray) (at_ by_ : Int) (w : World) (hs : s.size ≤ maxLen) (hat : (Lit.int .i64 at_).wf = true) (hby : (Lit.int .u8 by_).wf = true) :
    Calls Try.prog 7 #[.string s, .int .i64 at_, .int .u8 by_] w fun e w' => e = .returned (.bool true) ∧ Below w.heap.size w w' := by
  obtain ⟨c, hc⟩ := bounds_byte hby
  clear hat hby
  by_cases h5 : 5000 < s.size
  · unfold maxLen at hs
    have hd : decide ((5000 : Int) < (s.size : Int)) = true := decide_eq_true (by omega)
    clear h5 hc
    go_enter Try.func7, Try.ntmps7
    go_wp2_with fail
    refine (law05_live _).mono ?_
    rintro e w1 ⟨rfl, hb⟩
    go_wp2
    go_ret
    exact ⟨rfl, hb⟩
  · have hd : decide ((5000 : Int) < (s.size : Int)) = false := decide_eq_false (by omega)
    have hlen : s.data.toList.length ≤ 5000 := by rw [size_list]; omega
    have HC := Lib.hid hc
    have HS := Lib.hid hs
    have HO1 := Lib.hid (Links.one_send s.data.toList hlen)
    have HT := Lib.hid (Links.turnL_twice s.data.toList at_ c)
    have HTL := Lib.hid (Links.turnL_len s.data.toList at_ c)
    have HSZ : Hid ((s.data.toList.length : Int) = (s.size : Int)) := Lib.hid (by rw [size_list])
    have hss : (s.toList == s.toList) = true := str_same rfl
    have hsz : s.size ≤ 5000 := by omega
    clear h5 hc hs
    go_enter Try.func7, Try.ntmps7
    go_wp2_with fail
    refine (lives_New 2 5 w w (Below.refl _ _) (by decide) (by decide)).mono ?_
    rintro e w1 ⟨p, rfl, hl⟩
    have H := Lib.hid hl
    clear hl
    go_wp2_with fail
    refine (lives_Send H.out 1 0 s (i64_small (by decide)) (i64_small (by decide)) HS.out).mono ?_
    rintro e w2 ⟨rfl, hl⟩
    have H := Lib.hid hl
    clear hl
    generalize Links.send (Links.new 2 5) 1 0 s.data.toList = R1 at *
    obtain ⟨r1, N1⟩ := R1
    simp only at H HO1 ⊢
    have HA := Lib.hid (Links.one_turn HO1.out at_ c)
    go_wp2_with fail
    refine (lives_Turn H.out 1 0 0 at_ c by_ HC.out (i64_small (by decide)) (i64_small (by decide))).mono ?_
    rintro e w3 ⟨rfl, hl⟩
    have H := Lib.hid hl
    clear hl
    generalize Links.turn N1 1 0 0 at_ c = R2 at *
    obtain ⟨r2, N2⟩ := R2
    simp only at H HA ⊢
    have HA2 := Lib.hid (Links.one_turn HA.out.2 at_ c)
    rw [HTL.out, HT.out] at HA2
    go_wp2_with fail
    refine (lives_Turn H.out 1 0 0 at_ c by_ HC.out (i64_small (by decide)) (i64_small (by decide))).mono ?_
    rintro e w4 ⟨rfl, hl⟩
    have H := Lib.hid hl
    clear hl
    generalize Links.turn N2 1 0 0 at_ c = R3 at *
    obtain ⟨r3, N3⟩ := R3
    simp only at H HA2 ⊢
    have HTK := Lib.hid (Links.one_take HA2.out.2)
    go_wp2_with fail
    refine (lives_Take H.out 1 0 0 (i64_small (by decide)) (i64_small (by decide))).mono ?_
    rintro e w5 ⟨rfl, hl⟩
    have H := Lib.hid hl.below
    rw [HTK.out.1, HTK.out.2, str_whole s]
    clear hl
    have hr3 := HA2.out.1
    have hr2 := HA.out.1
    subst hr3 hr2
    rw [HSZ.out]
    by_cases h0 : 0 ≤ at_
    · have hd0 : decide (0 ≤ at_) = true := decide_eq_true h0
      rw [hd0, Bool.true_and]
      by_cases h1 : at_ < s.size
      · have hd1 : decide (at_ < (s.size : Int)) = true := decide_eq_true h1
        rw [hd1]
        clear h0 h1
        go_wp2_with fail
        refine (law05_live _).mono ?_
        rintro e w6 ⟨rfl, hb⟩
        go_wp2
        go_ret
        exact ⟨rfl, grew H.out hb⟩
      · have hd1 : decide (at_ < (s.size : Int)) = false := decide_eq_false h1
        rw [hd1]
        clear h0 h1
        go_wp2_with fail
        refine (law05_live _).mono ?_
        rintro e w6 ⟨rfl, hb⟩
        go_wp2
        go_ret
        exact ⟨rfl, grew H.out hb⟩
    · have hd0 : decide (0 ≤ at_) = false := decide_eq_false h0
      rw [hd0, Bool.false_and]
      clear h0
      go_wp2_with fail
      refine (law05_live _).mono ?_
      rintro e w6 ⟨rfl, hb⟩
      go_wp2
      go_ret
      exact ⟨rfl, grew H.out hb⟩
end Go.Proofs.Ytlihdnlojbmhjaa
