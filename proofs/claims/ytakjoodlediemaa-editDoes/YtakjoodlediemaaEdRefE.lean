/- The reference's work on a state: keys with Ctrl. -/
import Derived.Test.YtakjoodlediemaaEdRefD
namespace Go.Proofs.Ytakjoodlediemaa
open Go.RowKit
set_option linter.unusedVariables false

def Wk.goto (t : Wk) (i : Nat) : Wk := ⟨t.line, i, t.kill, t.acts⟩
def Wk.cutTo (t : Wk) (f c : Nat) : Wk := ⟨(t.cut f c).line, t.cutAt f c, t.kill, (t.cut f c).acts⟩
def Wk.yank : Wk → List Int → Wk
  | t, [] => t
  | t, r :: l => if (t.put r).2 then yank (t.put r).1 l else (t.put r).1
/-- A key with Ctrl. -/
def Wk.ctrl (t : Wk) (c : Int) : Wk :=
  if c = 97 then t.goto 0 else if c = 101 then t.goto t.line.length else if c = 98 then t.goto (t.at' - 1) else if c = 102 then t.goto (min (t.at' + 1) t.line.length)
  else if c = 104 then t.cutTo (t.at' - 1) (t.at' - (t.at' - 1)) else if c = 100 then t.cutTo t.at' (min (t.at' + 1) t.line.length - t.at')
  else if c = 107 then t.kil t.at' (t.line.length - t.at') else if c = 117 then t.kil 0 t.at'
  else if c = 119 then t.kil (Ed.wordBack t.line t.at') (t.at' - Ed.wordBack t.line t.at') else if c = 121 then t.yank t.kill else if c = 116 then t.swp else t
theorem Ed.caret_in {l : List Int} {i : Nat} (h : i ≤ l.length) : Ed.caret l (i : Int) = i := by unfold Ed.caret; omega
theorem Wk.put_le (t : Wk) (r : Int) : (t.put r).1.line.length ≤ t.line.length + 1 ∧ (t.put r).1.at' ≤ t.at' + 1 ∧ (t.put r).1.acts.length ≤ t.acts.length + 1 ∧ (t.put r).1.kill = t.kill := by
  unfold Wk.put
  split
  · refine ⟨?_, by simp, by simp, rfl⟩
    have := Ed.apply_len [⟨1, t.at', r⟩] t.line
    simpa using this
  · exact ⟨by simp, by simp, by simp, rfl⟩

set_option maxRecDepth 100000 in
set_option maxHeartbeats 16000000 in
theorem ref18_ctrl {w0 w : World} {g : Nat} {LV KV AV : Value} {t : Wk} (h : WkW w0 w g LV KV AV t) (hl : t.line.length ≤ 20000) (hn : t.acts.length ≤ 20000) (ha : t.at' ≤ t.line.length) (hk : t.kill.length ≤ 20000) (hk0 : SliceI w0 KV t.kill) (c : Int) :
    Calls Try.prog 26 #[.pointer (some ⟨g, 0, none⟩), .int .i64 c] w fun e w' => (∃ u, e = .returned u) ∧ WkStep w0 w' g (t.ctrl c) := by
  have H := Lib.hid h
  have HK0 := Lib.hid hk0
  have HQ := Lib.hid (And.intro hl (And.intro hn (And.intro ha hk)))
  obtain ⟨c0, c1, c2, _⟩ := h.cells
  have f1 := h.box.frozen 1
  obtain ⟨la, lc, rfl⟩ := h.line.shape
  obtain ⟨ka, kc, rfl⟩ := h.kill.shape
  clear h hk0
  by_cases q97 : c = 97
  · subst q97
    have HE : Hid (t.ctrl 97 = t.goto 0) := Lib.hid (by simp [Wk.ctrl])
    have HM := Lib.hid (H.out.caret 0)
    go_enter Try.func26, Try.ntmps26
    go_wp2
    first | go_end0 | refine bodyPost_ret (results_none rfl _ _ _) rfl ?_
    rw [HE.out]
    exact ⟨⟨_, rfl⟩, _, _, _, HM.out⟩
  by_cases q101 : c = 101
  · subst q101
    have HE : Hid (t.ctrl 101 = t.goto t.line.length) := Lib.hid (by simp [Wk.ctrl])
    have HM := Lib.hid (H.out.caret t.line.length)
    go_enter Try.func26, Try.ntmps26
    go_wp2
    first | go_end0 | refine bodyPost_ret (results_none rfl _ _ _) rfl ?_
    rw [HE.out]
    exact ⟨⟨_, rfl⟩, _, _, _, HM.out⟩
  by_cases q98 : c = 98
  · subst q98
    have HE : Hid (t.ctrl 98 = t.goto (t.at' - 1)) := Lib.hid (by simp [Wk.ctrl])
    obtain ⟨i, hi⟩ : ∃ i, t.at' = i := ⟨_, rfl⟩
    rw [hi] at c1 HE
    have hil : i ≤ t.line.length := by omega
    cases i with
    | zero =>
      have m1 : max (-1 : Int) 0 = 0 := by decide
      rw [show ((0 : Nat) : Int) = 0 from rfl] at c1
      have HM := Lib.hid (H.out.caret 0)
      go_enter Try.func26, Try.ntmps26
      go_wp2
      first | go_end0 | refine bodyPost_ret (results_none rfl _ _ _) rfl ?_
      rw [HE.out]
      exact ⟨⟨_, rfl⟩, _, _, _, HM.out⟩
    | succ j =>
      have hz : ((j + 1 : Nat) : Int) = (j : Int) + 1 := by omega
      rw [hz] at c1
      rw [Nat.add_sub_cancel] at HE
      have m1 : max (j : Int) 0 = (j : Int) := by omega
      have HM := Lib.hid (H.out.caret j)
      go_enter Try.func26, Try.ntmps26
      go_wp2
      first | go_end0 | refine bodyPost_ret (results_none rfl _ _ _) rfl ?_
      rw [HE.out]
      exact ⟨⟨_, rfl⟩, _, _, _, HM.out⟩
  by_cases q102 : c = 102
  · subst q102
    have HE : Hid (t.ctrl 102 = t.goto (min (t.at' + 1) t.line.length)) := Lib.hid (by simp [Wk.ctrl])
    rcases Nat.lt_or_ge t.at' t.line.length with hlt | hge
    · have n1 : ¬ ((t.line.length : Int) < (t.at' : Int) + 1) := by omega
      have n2 : decide ((t.line.length : Int) < (t.at' : Int) + 1) = false := decide_eq_false n1
      have hz : ((t.at' + 1 : Nat) : Int) = (t.at' : Int) + 1 := by omega
      have hmn : min (t.at' + 1) t.line.length = t.at' + 1 := by omega
      rw [hmn] at HE
      have HM := Lib.hid (H.out.caret (t.at' + 1))
      rw [hz] at HM
      clear hmn hz
      go_enter Try.func26, Try.ntmps26
      go_wp2
      first | go_end0 | refine bodyPost_ret (results_none rfl _ _ _) rfl ?_
      rw [HE.out]
      exact ⟨⟨_, rfl⟩, _, _, _, HM.out⟩
    · have hen : t.at' = t.line.length := by omega
      have hmn : min (t.at' + 1) t.line.length = t.line.length := by omega
      rw [hmn] at HE
      have hei : (t.at' : Int) = (t.line.length : Int) := by omega
      rw [hei] at c1
      have n1 : (t.line.length : Int) < (t.line.length : Int) + 1 := by omega
      have n2 : decide ((t.line.length : Int) < (t.line.length : Int) + 1) = true := decide_eq_true n1
      have HM := Lib.hid (H.out.caret t.line.length)
      clear hmn hen hei hge
      go_enter Try.func26, Try.ntmps26
      go_wp2
      first | go_end0 | refine bodyPost_ret (results_none rfl _ _ _) rfl ?_
      rw [HE.out]
      exact ⟨⟨_, rfl⟩, _, _, _, HM.out⟩
  by_cases q104 : c = 104
  · subst q104
    have HE : Hid (t.ctrl 104 = t.cutTo (t.at' - 1) (t.at' - (t.at' - 1))) := Lib.hid (by simp [Wk.ctrl])
    obtain ⟨i, hi⟩ : ∃ i, t.at' = i := ⟨_, rfl⟩
    rw [hi] at c1 HE
    have hil : i ≤ t.line.length := by omega
    cases i with
    | zero =>
      have m1 : max (-1 : Int) 0 = 0 := by decide
      rw [show ((0 : Nat) : Int) = 0 from rfl] at c1
      rw [show 0 - (0 - 1) = 0 from rfl] at HE
      have HC := Lib.hid (ref18_cut H.out (by omega) (by omega) (f := 0) (c := 0) (by omega))
      rw [show ((0 + 0 : Nat) : Int) = 0 from rfl] at HC
      go_enter Try.func26, Try.ntmps26
      go_wp2_with fail
      refine HC.out.mono ?_
      rintro e W2 ⟨LV2, KV2, AV2, GV2, rfl, hC⟩
      have H2 := Lib.hid hC.wk
      clear hC
      go_wp2
      first | go_end0 | refine bodyPost_ret (results_none rfl _ _ _) rfl ?_
      rw [HE.out]
      exact ⟨⟨_, rfl⟩, _, _, _, H2.out⟩
    | succ j =>
      have hz : ((j + 1 : Nat) : Int) = (j : Int) + 1 := by omega
      rw [hz] at c1
      rw [Nat.add_sub_cancel] at HE
      have m1 : max (j : Int) 0 = (j : Int) := by omega
      rw [show j + 1 - j = 1 from by omega] at HE
      have HC := Lib.hid (ref18_cut H.out (by omega) (by omega) (f := j) (c := 1) (by omega))
      rw [hz] at HC
      go_enter Try.func26, Try.ntmps26
      go_wp2_with fail
      refine HC.out.mono ?_
      rintro e W2 ⟨LV2, KV2, AV2, GV2, rfl, hC⟩
      have H2 := Lib.hid hC.wk
      clear hC
      go_wp2
      first | go_end0 | refine bodyPost_ret (results_none rfl _ _ _) rfl ?_
      rw [HE.out]
      exact ⟨⟨_, rfl⟩, _, _, _, H2.out⟩
  by_cases q100 : c = 100
  · subst q100
    have HE : Hid (t.ctrl 100 = t.cutTo t.at' (min (t.at' + 1) t.line.length - t.at')) := Lib.hid (by simp [Wk.ctrl])
    rcases Nat.lt_or_ge t.at' t.line.length with hlt | hge
    · have n1 : ¬ ((t.line.length : Int) < (t.at' : Int) + 1) := by omega
      have n2 : decide ((t.line.length : Int) < (t.at' : Int) + 1) = false := decide_eq_false n1
      have hz : ((t.at' + 1 : Nat) : Int) = (t.at' : Int) + 1 := by omega
      have hmn : min (t.at' + 1) t.line.length = t.at' + 1 := by omega
      rw [hmn] at HE
      rw [show t.at' + 1 - t.at' = 1 from by omega] at HE
      have HC := Lib.hid (ref18_cut H.out (by omega) (by omega) (f := t.at') (c := 1) (by omega))
      rw [hz] at HC
      clear hmn hz
      go_enter Try.func26, Try.ntmps26
      go_wp2_with fail
      refine HC.out.mono ?_
      rintro e W2 ⟨LV2, KV2, AV2, GV2, rfl, hC⟩
      have H2 := Lib.hid hC.wk
      clear hC
      go_wp2
      first | go_end0 | refine bodyPost_ret (results_none rfl _ _ _) rfl ?_
      rw [HE.out]
      exact ⟨⟨_, rfl⟩, _, _, _, H2.out⟩
    · have hen : t.at' = t.line.length := by omega
      have hmn : min (t.at' + 1) t.line.length = t.line.length := by omega
      rw [hmn] at HE
      have hei : (t.at' : Int) = (t.line.length : Int) := by omega
      rw [hei] at c1
      have n1 : (t.line.length : Int) < (t.line.length : Int) + 1 := by omega
      have n2 : decide ((t.line.length : Int) < (t.line.length : Int) + 1) = true := decide_eq_true n1
      rw [show t.line.length - t.at' = 0 from by omega] at HE
      have HC := Lib.hid (ref18_cut H.out (by omega) (by omega) (f := t.at') (c := 0) (by omega))
      rw [Nat.add_zero, hei] at HC
      clear hmn hen hei hge
      go_enter Try.func26, Try.ntmps26
      go_wp2_with fail
      refine HC.out.mono ?_
      rintro e W2 ⟨LV2, KV2, AV2, GV2, rfl, hC⟩
      have H2 := Lib.hid hC.wk
      clear hC
      go_wp2
      first | go_end0 | refine bodyPost_ret (results_none rfl _ _ _) rfl ?_
      rw [HE.out]
      exact ⟨⟨_, rfl⟩, _, _, _, H2.out⟩
  by_cases q107 : c = 107
  · subst q107
    have HE : Hid (t.ctrl 107 = t.kil t.at' (t.line.length - t.at')) := Lib.hid (by simp [Wk.ctrl])
    have HC := Lib.hid (ref18_kill H.out (by omega) (by omega) (f := t.at') (c := t.line.length - t.at') (tt := t.line.length) (by omega) (by omega))

    go_enter Try.func26, Try.ntmps26
    go_wp2_with fail
    refine HC.out.mono ?_
    rintro e W2 ⟨⟨u, rfl⟩, hS⟩
    have HS := Lib.hid hS
    clear hS
    go_wp2
    first | go_end0 | refine bodyPost_ret (results_none rfl _ _ _) rfl ?_
    rw [HE.out]
    exact ⟨⟨_, rfl⟩, HS.out⟩
  by_cases q117 : c = 117
  · subst q117
    have HE : Hid (t.ctrl 117 = t.kil 0 t.at') := Lib.hid (by simp [Wk.ctrl])
    have HC := Lib.hid (ref18_kill H.out (by omega) (by omega) (f := 0) (c := t.at') (tt := t.at') (by omega) (by omega))
    rw [show ((0 : Nat) : Int) = 0 from rfl] at HC
    go_enter Try.func26, Try.ntmps26
    go_wp2_with fail
    refine HC.out.mono ?_
    rintro e W2 ⟨⟨u, rfl⟩, hS⟩
    have HS := Lib.hid hS
    clear hS
    go_wp2
    first | go_end0 | refine bodyPost_ret (results_none rfl _ _ _) rfl ?_
    rw [HE.out]
    exact ⟨⟨_, rfl⟩, HS.out⟩
  by_cases q119 : c = 119
  · subst q119
    have HE : Hid (t.ctrl 119 = t.kil (Ed.wordBack t.line t.at') (t.at' - Ed.wordBack t.line t.at')) := Lib.hid (by simp [Wk.ctrl])
    have HW := Lib.hid (ref18_Word_back _ t.line (t.at' : Int) w H.out.line (by unfold maxLen; omega))
    rw [Ed.caret_in ha] at HW
    have hwb := Ed.wordBack_le t.line t.at'
    generalize Ed.wordBack t.line t.at' = x at *
    have HC := Lib.hid (ref18_kill H.out (by omega) (by omega) (f := x) (c := t.at' - x) (tt := t.at') (by omega) (by omega))

    go_enter Try.func26, Try.ntmps26
    go_wp2_with fail
    refine HW.out.mono ?_
    rintro e w1 ⟨rfl, h1⟩
    subst h1
    go_wp2_with fail
    refine HC.out.mono ?_
    rintro e W2 ⟨⟨u, rfl⟩, hS⟩
    have HS := Lib.hid hS
    clear hS
    go_wp2
    first | go_end0 | refine bodyPost_ret (results_none rfl _ _ _) rfl ?_
    rw [HE.out]
    exact ⟨⟨_, rfl⟩, HS.out⟩
  by_cases q116 : c = 116
  · subst q116
    have HE : Hid (t.ctrl 116 = t.swp) := Lib.hid (by simp [Wk.ctrl])
    have HC := Lib.hid (ref18_swap H.out (by omega) (by omega) ha)
    go_enter Try.func26, Try.ntmps26
    go_wp2_with fail
    refine HC.out.mono ?_
    rintro e W2 ⟨⟨u, rfl⟩, hS⟩
    have HS := Lib.hid hS
    clear hS
    go_wp2
    first | go_end0 | refine bodyPost_ret (results_none rfl _ _ _) rfl ?_
    rw [HE.out]
    exact ⟨⟨_, rfl⟩, HS.out⟩
  by_cases q121 : c = 121
  · subst q121
    have HE : Hid (t.ctrl 121 = t.yank t.kill) := Lib.hid (by simp [Wk.ctrl])
    go_enter Try.func26, Try.ntmps26
    go_wp2
    go_loopw [7] (fun i wr => ∃ (k : Nat) (tk : Wk), k ≤ t.kill.length ∧ i = .int .i64 (k : Int) ∧ WkStep w0 wr g tk ∧ t.yank t.kill = tk.yank (t.kill.drop k) ∧ tk.line.length ≤ 20000 + k ∧ tk.at' ≤ 20000 + k ∧ tk.acts.length ≤ 20000 + k) (fun i _ => t.kill.length - (intOf i).toNat)
    case atStart => exact ⟨0, t, by omega, rfl, ⟨_, _, _, H.out⟩, by rw [List.drop_zero], by have := HQ.out; omega, by have := HQ.out; omega, by have := HQ.out; omega⟩
    case round =>
      obtain ⟨k, tk, hkk, rfl, hS, hY, b1, b2, b3⟩ := hrel
      obtain ⟨LV1, KV1, AV1, hW⟩ := hS
      have HW := Lib.hid hW
      have HY := Lib.hid hY
      have HBD := Lib.hid (And.intro b1 (And.intro b2 b3))
      clear hW hY b1 b2 b3
      by_cases hlt : k < t.kill.length
      · have d1 : decide ((k : Int) < (t.kill.length : Int)) = true := decide_eq_true (by omega)
        have d2 : decide (k < t.kill.length) = true := decide_eq_true hlt
        have hia : (k : Int) < (t.kill.length : Int) := by omega
        obtain ⟨b, o, e, hb, hcell⟩ := slice_cell HK0.out hlt
        subst e
        have ck := (HW.out.bel.cell (p := ⟨b, o + k, none⟩) hb).trans hcell
        have HD : Hid (t.kill.drop k = t.kill[k] :: t.kill.drop (k + 1)) := Lib.hid (List.drop_eq_getElem_cons hlt)
        generalize t.kill[k] = r at ck HD hcell
        have HP := Lib.hid (ref18_put HW.out (by have := HBD.out; omega) (by have := HBD.out; omega) (by have := HBD.out; omega) r)
        have HPL := Lib.hid (tk.put_le r)
        clear hcell
        go_wp2_with fail
        refine HP.out.mono ?_
        rintro e w3 ⟨rfl, hS3⟩
        have HS3 := Lib.hid hS3
        clear hS3 HP
        cases hp : (tk.put r).2 with
        | true =>
          have HYN : Hid (t.yank t.kill = (tk.put r).1.yank (t.kill.drop (k + 1))) := Lib.hid (by rw [HY.out, HD.out, Wk.yank, hp, if_pos rfl])
          clear hp
          go_wp2
          go_roundw
          case rel => exact ⟨k + 1, _, by omega, by go_num, HS3.out, HYN.out, by have := HPL.out; have := HBD.out; omega, by have := HPL.out; have := HBD.out; omega, by have := HPL.out; have := HBD.out; omega⟩
          case measure => simp [intOf]; omega
        | false =>
          have HYN : Hid (t.yank t.kill = (tk.put r).1) := Lib.hid (by rw [HY.out, HD.out, Wk.yank, hp, if_neg (by simp)])
          clear hp
          go_wp2
          first | go_end0 | refine bodyPost_ret (results_none rfl _ _ _) rfl ?_
          rw [HE.out, HYN.out]
          exact ⟨⟨_, rfl⟩, HS3.out⟩
      · have d1 : decide ((k : Int) < (t.kill.length : Int)) = false := decide_eq_false (by omega)
        have d2 : decide (k < t.kill.length) = false := decide_eq_false hlt
        have HYN : Hid (t.yank t.kill = tk) := Lib.hid (by rw [HY.out, List.drop_eq_nil_of_le (by omega), Wk.yank])
        go_wp2
        first | go_end0 | refine bodyPost_ret (results_none rfl _ _ _) rfl ?_
        rw [HE.out, HYN.out]
        exact ⟨⟨_, rfl⟩, _, _, _, HW.out⟩
  have HE : Hid (t.ctrl c = t) := Lib.hid (by unfold Wk.ctrl; rw [if_neg q97, if_neg q101, if_neg q98, if_neg q102, if_neg q104, if_neg q100, if_neg q107, if_neg q117, if_neg q119, if_neg q121, if_neg q116])
  have d97 : (c == 97) = false := beq_eq_false_iff_ne.2 q97
  have e97 : decide (c = 97) = false := decide_eq_false q97
  have d101 : (c == 101) = false := beq_eq_false_iff_ne.2 q101
  have e101 : decide (c = 101) = false := decide_eq_false q101
  have d98 : (c == 98) = false := beq_eq_false_iff_ne.2 q98
  have e98 : decide (c = 98) = false := decide_eq_false q98
  have d102 : (c == 102) = false := beq_eq_false_iff_ne.2 q102
  have e102 : decide (c = 102) = false := decide_eq_false q102
  have d104 : (c == 104) = false := beq_eq_false_iff_ne.2 q104
  have e104 : decide (c = 104) = false := decide_eq_false q104
  have d100 : (c == 100) = false := beq_eq_false_iff_ne.2 q100
  have e100 : decide (c = 100) = false := decide_eq_false q100
  have d107 : (c == 107) = false := beq_eq_false_iff_ne.2 q107
  have e107 : decide (c = 107) = false := decide_eq_false q107
  have d117 : (c == 117) = false := beq_eq_false_iff_ne.2 q117
  have e117 : decide (c = 117) = false := decide_eq_false q117
  have d119 : (c == 119) = false := beq_eq_false_iff_ne.2 q119
  have e119 : decide (c = 119) = false := decide_eq_false q119
  have d121 : (c == 121) = false := beq_eq_false_iff_ne.2 q121
  have e121 : decide (c = 121) = false := decide_eq_false q121
  have d116 : (c == 116) = false := beq_eq_false_iff_ne.2 q116
  have e116 : decide (c = 116) = false := decide_eq_false q116
  clear q97 q101 q98 q102 q104 q100 q107 q117 q119 q121 q116
  go_enter Try.func26, Try.ntmps26
  go_wp2
  first | go_end0 | refine bodyPost_ret (results_none rfl _ _ _) rfl ?_
  rw [HE.out]
  exact ⟨⟨_, rfl⟩, _, _, _, H.out⟩
end Go.Proofs.Ytakjoodlediemaa
