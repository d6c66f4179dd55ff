/- The walk of EditApplies. -/
import Derived.Test.YtakjoodlediemaaEdCase
import Derived.Test.YtakjoodlediemaaEdRefA
namespace Go.Proofs.Ytakjoodlediemaa
open Go.RowKit
set_option linter.unusedVariables false

set_option maxRecDepth 100000 in
set_option maxHeartbeats 8000000 in
theorem walk_EditApplies (lv av : Value) (l : List Int) (acs : List EAct) (z : Int) (b : Bool) (w : World) (hs : SliceI w lv l ∧ SliceG 3 EAct.cells w av acs ∧ l.length ≤ maxLen ∧ acs.length ≤ maxLen) :
    Calls Try.prog 4 #[.agg #[lv, av, .int .i64 z, .bool b]] w fun e w' => e = .returned (.bool true) ∧ Below w.heap.size w w' := by
  obtain ⟨hv, hu, hm1, hm2⟩ := hs
  have HLV := Lib.hid (fun W => law18_live W)
  have HV0 := Lib.hid hv
  have HU0 := Lib.hid hu
  obtain ⟨va, vc, rfl⟩ := hv.shape
  obtain ⟨ua, uc, rfl⟩ := hu.shape
  unfold maxLen at hm1 hm2
  clear hv hu
  go_enter Try.func4, Try.ntmps4
  go_wp2_with fail
  have HBX := Lib.hid (Holds.new w [.slice va l.length vc, .slice ua acs.length uc, .int .i64 z, .bool b] 43)
  have HB0 := Lib.hid (grew_alloc w (.cells #[.slice va l.length vc, .slice ua acs.length uc, .int .i64 z, .bool b] 43))
  have c0 := HBX.out.cell 0 (by simp)
  have c1 := HBX.out.cell 1 (by simp)
  have c2 := HBX.out.cell 2 (by simp)
  have c3 := HBX.out.cell 3 (by simp)
  simp only [List.getElem_cons_zero, List.getElem_cons_succ] at c0 c1 c2 c3
  go_quiet (fail)
  clear c0 c1 c2 c3
  have HBN : Hid (Below w.heap.size w (((w.alloc (.cells #[.slice va l.length vc, .slice ua acs.length uc, .int .i64 z, .bool b] 43))).drewN nq)) := Lib.hid (grew HB0.out (grew_drewN _ _))
  generalize ((w.alloc (.cells #[.slice va l.length vc, .slice ua acs.length uc, .int .i64 z, .bool b] 43))).drewN nq = W1 at *
  have HV := Lib.hid (HV0.out.below HBN.out)
  have HU := Lib.hid (HU0.out.below HBN.out)
  clear HBX HB0
  by_cases h1 : 300 < l.length
  · have d1 : decide ((300 : Int) < (l.length : Int)) = true := decide_eq_true (by omega)
    have d1n : decide (300 < l.length) = true := decide_eq_true h1
    go_wp2_with fail
    refine (HLV.out _).mono ?_
    rintro e w3 ⟨rfl, hb3⟩
    go_wp2
    go_ret
    exact ⟨rfl, grew HBN.out hb3⟩
  have d1 : decide ((300 : Int) < (l.length : Int)) = false := decide_eq_false (by omega)
  have d1n : decide (300 < l.length) = false := decide_eq_false h1
  by_cases h2 : 60 < acs.length
  · have d2 : decide ((60 : Int) < (acs.length : Int)) = true := decide_eq_true (by omega)
    have d2n : decide (60 < acs.length) = true := decide_eq_true h2
    go_wp2_with fail
    refine (HLV.out _).mono ?_
    rintro e w3 ⟨rfl, hb3⟩
    go_wp2
    go_ret
    exact ⟨rfl, grew HBN.out hb3⟩
  have d2 : decide ((60 : Int) < (acs.length : Int)) = false := decide_eq_false (by omega)
  have d2n : decide (60 < acs.length) = false := decide_eq_false h2
  have HQ : Hid (l.length ≤ 300 ∧ acs.length ≤ 60) := Lib.hid (by omega)
  have HLEN := Lib.hid (Ed.apply_len acs l)
  clear h1 h2
  go_wp2_with fail
  refine (law18_acts _ acs _ HU.out (by have := HQ.out; omega)).mono ?_
  rintro e W2 ⟨V, rfl, ho, hf, hb2⟩
  have HO := Lib.hid ho
  have HB2 := Lib.hid hb2
  clear ho hf hb2
  go_wp2_with fail
  refine (edit_Apply _ _ l acs _ (HV.out.below HB2.out) HO.out.slice (by have := HQ.out; omega) (by have := HQ.out; omega)).mono ?_
  rintro e W3 ⟨A, rfl, ho, hf, hb3⟩
  have HA := Lib.hid ho.slice
  have HB3 := Lib.hid (grew HB2.out hb3)
  clear ho hf hb3
  go_wp2_with fail
  refine (ref18_Apply _ _ l acs _ (HV.out.below HB3.out) (HU.out.below HB3.out) (by have := HQ.out; omega) (by have := HQ.out; omega)).mono ?_
  rintro e W4 ⟨B, rfl, ho, _, hb4⟩
  have HA4 := Lib.hid (HA.out.below hb4)
  have HR4 := Lib.hid ho
  have HB4 := Lib.hid (grew HB3.out hb4)
  clear ho hb4
  generalize (Ed.apply l acs).isSome = ok at *
  go_wp2_with fail
  refine (ref01_Same _ _ _ _ _ HA4.out HR4.out (by have := HLEN.out; have := HQ.out; omega) (by have := HLEN.out; have := HQ.out; omega)).mono ?_
  rintro e W5 ⟨rfl, hb5⟩
  have HB5 := Lib.hid (grew HB4.out hb5)
  have HV5 := Lib.hid (HV.out.below HB5.out)
  clear hb5
  rw [decide_eq_true rfl]
  have hmm : l.length ≤ maxLen := by have := HQ.out; unfold maxLen; omega
  have HMM := Lib.hid hmm
  clear hmm
  cases b with
  | true =>
    have HW1 := Lib.hid (edit_Word_back _ l z W5 HV5.out HMM.out)
    have HW2 := Lib.hid (ref18_Word_back _ l z W5 HV5.out HMM.out)
    generalize Ed.wordBack l (Ed.caret l z) = x at HW1 HW2
    go_wp2_with fail
    refine HW1.out.mono ?_
    rintro e w6 ⟨rfl, h6⟩
    subst h6
    go_wp2_with fail
    refine HW2.out.mono ?_
    rintro e w6 ⟨rfl, h6⟩
    subst h6
    go_wp2_with fail
    refine (HLV.out _).mono ?_
    rintro e w7 ⟨rfl, hb7⟩
    have HB7 := Lib.hid (grew HBN.out (grew HB5.out hb7))
    clear hb7
    go_wp2
    go_ret
    exact ⟨rfl, HB7.out⟩
  | false =>
    have HW1 := Lib.hid (edit_Word_on _ l z W5 HV5.out HMM.out)
    have HW2 := Lib.hid (ref18_Word_on _ l z W5 HV5.out HMM.out)
    generalize Ed.wordOn l (Ed.caret l z) = x at HW1 HW2
    go_wp2_with fail
    refine HW1.out.mono ?_
    rintro e w6 ⟨rfl, h6⟩
    subst h6
    go_wp2_with fail
    refine HW2.out.mono ?_
    rintro e w6 ⟨rfl, h6⟩
    subst h6
    go_wp2_with fail
    refine (HLV.out _).mono ?_
    rintro e w7 ⟨rfl, hb7⟩
    have HB7 := Lib.hid (grew HBN.out (grew HB5.out hb7))
    clear hb7
    go_wp2
    go_ret
    exact ⟨rfl, HB7.out⟩
end Go.Proofs.Ytakjoodlediemaa
