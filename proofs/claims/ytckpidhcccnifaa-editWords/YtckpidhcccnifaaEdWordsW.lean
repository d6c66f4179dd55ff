/- Words: on, and back. -/
import Derived.Test.YtckpidhcccnifaaEdWordsM
import Derived.Test.YtckpidhcccnifaaEdLive
namespace Go.Proofs.Ytckpidhcccnifaa
open Go.RowKit
set_option linter.unusedVariables false

set_option maxRecDepth 100000 in
set_option maxHeartbeats 4000000 in
theorem walk_EditWords (a : Option Addr) (len cap : Nat) (zs0 : List Int) (z : Int) (w : World) (hrow : IsRow .i64 w a len cap zs0) (hz : (Lit.int .i64 z).wf = true) :
    Calls Try.prog 9 #[.slice a len cap, .int .i64 z] w fun e w' => e = .returned (.bool true) ∧ Below w.heap.size w w' := by
  obtain ⟨l, hs, hlen, hmx, _⟩ := hrow.slice
  subst hlen
  have HV := Lib.hid hs
  clear hs hrow
  have HLV := Lib.hid (fun W => law18_live W)
  by_cases hq : l.length ≤ 300 ∧ 0 ≤ z ∧ z ≤ l.length
  · obtain ⟨q1, q2, q3⟩ := hq
    obtain ⟨i, rfl⟩ : ∃ i : Nat, z = i := ⟨z.toNat, by omega⟩
    have hil : i ≤ l.length := by omega
    have hmm : l.length ≤ maxLen := hmx
    have HWO := Lib.hid (fun (y : Int) => edit_Word_on _ l y w HV.out hmm)
    have HWB := Lib.hid (fun (y : Int) => edit_Word_back _ l y w HV.out hmm)
    have HC := Lib.hid (Ed.caret_at hil)
    have HE1 := Lib.hid (fun h => Ed.wordOn_edge (l := l) (i := i) hil h)
    have HE2 := Lib.hid (fun h => Ed.wordBack_edge (l := l) (i := i) hil h)
    have h1 := Ed.wordOn_ge l i
    have h2 := Ed.wordOn_le l i hil
    have h3 := Ed.wordBack_le l i
    have HO1 := Lib.hid (HWO.out i)
    have HB1 := Lib.hid (HWB.out i)
    rw [HC.out] at HO1 HB1
    generalize hON : Ed.wordOn l i = on at HO1 h1 h2 HE1
    generalize hBK : Ed.wordBack l i = bk at HB1 h3 HE2
    have e1 : decide ((300 : Int) < (l.length : Int)) = false := decide_eq_false (by omega)
    have e2 : decide ((i : Int) < 0) = false := decide_eq_false (by omega)
    have e3 : decide ((l.length : Int) < (i : Int)) = false := decide_eq_false (by omega)
    have e4 : decide ((on : Int) < (i : Int)) = false := decide_eq_false (by omega)
    have e5 : decide ((i : Int) < (bk : Int)) = false := decide_eq_false (by omega)
    have e6 : decide ((l.length : Int) < (on : Int)) = false := decide_eq_false (by omega)
    have e7 : decide ((bk : Int) < 0) = false := decide_eq_false (by omega)
    have e3n : decide (l.length < i) = false := decide_eq_false (by omega)
    have e4n : decide (on < i) = false := decide_eq_false (by omega)
    have e5n : decide (i < bk) = false := decide_eq_false (by omega)
    have e6n : decide (l.length < on) = false := decide_eq_false (by omega)
    have HB4 : Hid (Ed.wordBack l (Ed.caret l on) ≤ on) := Lib.hid (by rw [Ed.caret_at h2]; exact Ed.wordBack_le l on)
    have HB3 := Lib.hid (HWB.out on)
    generalize hb4 : Ed.wordBack l (Ed.caret l on) = b4 at HB3 HB4
    have hb4' := HB4.out
    have e8 : decide ((b4 : Int) ≤ (on : Int)) = true := decide_eq_true (by omega)
    have e8n : decide (b4 ≤ on) = true := decide_eq_true hb4'
    clear hb4 hb4' hmm hmx q2
    by_cases hon : on < l.length
    · have HE1' := Lib.hid (HE1.out hon)
      have f1 : decide ((on : Int) < (l.length : Int)) = true := decide_eq_true (by omega)
      have f1n : decide (on < l.length) = true := decide_eq_true hon
      have f2 : decide ((0 : Int) < (on : Int)) = true := decide_eq_true (by have := HE1'.out.1; omega)
      have f2n : decide (0 < on) = true := decide_eq_true HE1'.out.1
      have HO2 := Lib.hid (HWO.out ((on : Int) - 1))
      rw [show Ed.caret l ((on : Int) - 1) = on - 1 from by have := HE1'.out.1; unfold Ed.caret; omega, HE1'.out.2] at HO2
      by_cases hbk : 0 < bk
      · have HE2' := Lib.hid (HE2.out hbk)
        have g1 : decide ((0 : Int) < (bk : Int)) = true := decide_eq_true (by omega)
        have g1n : decide (0 < bk) = true := decide_eq_true hbk
        have HB2 := Lib.hid (HWB.out ((bk : Int) + 1))
        rw [show Ed.caret l ((bk : Int) + 1) = bk + 1 from by have := HE2'.out.1; unfold Ed.caret; omega, HE2'.out.2] at HB2
        clear hON hBK
        go_enter Try.func9, Try.ntmps9
        go_wp2_with fail
        refine HO1.out.mono ?_
        rintro e _ ⟨rfl, rfl⟩
        go_wp2_with fail
        refine HB1.out.mono ?_
        rintro e _ ⟨rfl, rfl⟩
        go_wp2_with fail
        refine HO2.out.mono ?_
        rintro e _ ⟨rfl, rfl⟩
        go_wp2_with fail
        refine HB2.out.mono ?_
        rintro e _ ⟨rfl, rfl⟩
        go_wp2_with fail
        refine HB3.out.mono ?_
        rintro e _ ⟨rfl, rfl⟩
        go_wp2_with fail
        refine (HLV.out _).mono ?_
        rintro e w9 ⟨rfl, hb9⟩
        go_wp2
        go_ret
        exact ⟨rfl, hb9⟩
      · have g1 : decide ((0 : Int) < (bk : Int)) = false := decide_eq_false (by omega)
        have g1n : decide (0 < bk) = false := decide_eq_false hbk
        clear hON hBK
        go_enter Try.func9, Try.ntmps9
        go_wp2_with fail
        refine HO1.out.mono ?_
        rintro e _ ⟨rfl, rfl⟩
        go_wp2_with fail
        refine HB1.out.mono ?_
        rintro e _ ⟨rfl, rfl⟩
        go_wp2_with fail
        refine HO2.out.mono ?_
        rintro e _ ⟨rfl, rfl⟩
        go_wp2_with fail
        refine HB3.out.mono ?_
        rintro e _ ⟨rfl, rfl⟩
        go_wp2_with fail
        refine (HLV.out _).mono ?_
        rintro e w9 ⟨rfl, hb9⟩
        go_wp2
        go_ret
        exact ⟨rfl, hb9⟩
    · have f1 : decide ((on : Int) < (l.length : Int)) = false := decide_eq_false (by omega)
      have f1n : decide (on < l.length) = false := decide_eq_false hon
      by_cases hbk : 0 < bk
      · have HE2' := Lib.hid (HE2.out hbk)
        have g1 : decide ((0 : Int) < (bk : Int)) = true := decide_eq_true (by omega)
        have g1n : decide (0 < bk) = true := decide_eq_true hbk
        have HB2 := Lib.hid (HWB.out ((bk : Int) + 1))
        rw [show Ed.caret l ((bk : Int) + 1) = bk + 1 from by have := HE2'.out.1; unfold Ed.caret; omega, HE2'.out.2] at HB2
        clear hON hBK
        go_enter Try.func9, Try.ntmps9
        go_wp2_with fail
        refine HO1.out.mono ?_
        rintro e _ ⟨rfl, rfl⟩
        go_wp2_with fail
        refine HB1.out.mono ?_
        rintro e _ ⟨rfl, rfl⟩
        go_wp2_with fail
        refine HB2.out.mono ?_
        rintro e _ ⟨rfl, rfl⟩
        go_wp2_with fail
        refine HB3.out.mono ?_
        rintro e _ ⟨rfl, rfl⟩
        go_wp2_with fail
        refine (HLV.out _).mono ?_
        rintro e w9 ⟨rfl, hb9⟩
        go_wp2
        go_ret
        exact ⟨rfl, hb9⟩
      · have g1 : decide ((0 : Int) < (bk : Int)) = false := decide_eq_false (by omega)
        have g1n : decide (0 < bk) = false := decide_eq_false hbk
        clear hON hBK
        go_enter Try.func9, Try.ntmps9
        go_wp2_with fail
        refine HO1.out.mono ?_
        rintro e _ ⟨rfl, rfl⟩
        go_wp2_with fail
        refine HB1.out.mono ?_
        rintro e _ ⟨rfl, rfl⟩
        go_wp2_with fail
        refine HB3.out.mono ?_
        rintro e _ ⟨rfl, rfl⟩
        go_wp2_with fail
        refine (HLV.out _).mono ?_
        rintro e w9 ⟨rfl, hb9⟩
        go_wp2
        go_ret
        exact ⟨rfl, hb9⟩
  · by_cases n1 : (300 : Int) < (l.length : Int)
    · have e1 : decide ((300 : Int) < (l.length : Int)) = true := decide_eq_true n1
      clear hq
      go_enter Try.func9, Try.ntmps9
      go_wp2_with fail
      refine (HLV.out _).mono ?_
      rintro e w9 ⟨rfl, hb9⟩
      go_wp2
      go_ret
      exact ⟨rfl, hb9⟩
    · have e1 : decide ((300 : Int) < (l.length : Int)) = false := decide_eq_false n1
      by_cases n2 : z < 0
      · have e2 : decide (z < 0) = true := decide_eq_true n2
        clear hq
        go_enter Try.func9, Try.ntmps9
        go_wp2_with fail
        refine (HLV.out _).mono ?_
        rintro e w9 ⟨rfl, hb9⟩
        go_wp2
        go_ret
        exact ⟨rfl, hb9⟩
      · have e2 : decide (z < 0) = false := decide_eq_false n2
        have e3 : decide ((l.length : Int) < z) = true := decide_eq_true (by omega)
        clear hq
        go_enter Try.func9, Try.ntmps9
        go_wp2_with fail
        refine (HLV.out _).mono ?_
        rintro e w9 ⟨rfl, hb9⟩
        go_wp2
        go_ret
        exact ⟨rfl, hb9⟩
end Go.Proofs.Ytckpidhcccnifaa
