/- A place in a line; letters; words. -/
import Derived.Test.YtakjoodlediemaaEdMem
import Derived.Deep.Cut
import Derived.Deep.CutRange
import Derived.Deep.CutBlock
namespace Go.Proofs.Ytakjoodlediemaa
open Go.RowKit
set_option linter.unusedVariables false

theorem ret_int {a b : Int} (h : a = b) : Ending.returned (.int .i64 a) = Ending.returned (.int .i64 b) := by rw [h]
theorem edit_caret (a : Option Addr) (cap : Nat) (l : List Int) (z : Int) (w : World) : Calls Try.prog 20 #[.slice a l.length cap, .int .i64 z] w fun e w' => e = .returned (.int .i64 (Ed.caret l z : Nat)) ∧ w = w' := by
  have HR : Hid (((Ed.caret l z : Nat) : Int) = min (max z 0) (l.length : Int)) := Lib.hid (by unfold Ed.caret; omega)
  generalize Ed.caret l z = c at HR ⊢
  go_enter Try.func20, Try.ntmps20
  go_wp2
  all_goals go_ret
  all_goals exact ⟨ret_int (by have h1 := HR.out; (repeat split at *) <;> omega), rfl⟩

theorem edit_isLetter (r : Int) (w : World) : Calls Try.prog 31 #[.int .i64 r] w fun e w' => e = .returned (.bool (Ed.letter r)) ∧ w = w' := by
  by_cases h95 : r = 95
  · subst h95
    go_enter Try.func31, Try.ntmps31
    go_wp2
    all_goals go_ret
    all_goals exact ⟨rfl, rfl⟩
  · have d95 : (r == 95) = false := by simpa using h95
    go_enter Try.func31, Try.ntmps31
    go_wp2
    all_goals go_ret
    all_goals exact ⟨ret_bool (by rw [Bool.eq_iff_iff]; simp [Ed.letter]; try omega), rfl⟩

theorem slice_cell {w : World} {a : Option Addr} {cap : Nat} {zs : List Int} (h : SliceI w (.slice a zs.length cap) zs) {k : Nat} (hk : k < zs.length) : ∃ b off, a = some ⟨b, off, none⟩ ∧ b < w.heap.size ∧ w.cell? ⟨b, off + k, none⟩ = some (.int .i64 zs[k]) := by
  obtain ⟨a', cap', e, _, h⟩ := h
  injection e with e1 _ _
  subst e1
  rcases h with h | ⟨b, off, rfl, hlt, hc⟩
  · subst h; simp at hk
  · exact ⟨b, off, rfl, hlt, hc k hk⟩

set_option maxRecDepth 100000 in
set_option maxHeartbeats 4000000 in
theorem edit_Word_on (v : Value) (l : List Int) (z : Int) (w : World) (hv : SliceI w v l) (hm : l.length ≤ maxLen) : Calls Try.prog 17 #[v, .int .i64 z, .bool false] w fun e w' => e = .returned (.int .i64 (Ed.wordOn l (Ed.caret l z) : Nat)) ∧ w = w' := by
  have HV := Lib.hid hv
  obtain ⟨va, vc, rfl⟩ := hv.shape
  have HM := Lib.hid hm
  clear hv hm
  have HCL := Lib.hid (Ed.caret_le l z)
  have HC := Lib.hid (edit_caret va vc l z w)
  unfold Ed.wordOn
  generalize Ed.caret l z = c at HC HCL ⊢
  generalize hN : Ed.on Ed.letter l (Ed.on (fun r => !Ed.letter r) l c) = N
  have HN := Lib.hid hN
  clear hN
  go_enter Try.func17, Try.ntmps17
  go_wp2_with fail
  refine HC.out.mono ?_
  rintro e w1 ⟨rfl, rfl⟩
  go_upto_block 4 with fail
  go_cut [1] from 37 to 50 (fun i wx => ∃ k : Nat, k ≤ l.length ∧ i = .int .i64 k ∧ Ed.on (fun r => !Ed.letter r) l c = k ∧ wx = w)
  case first =>
    go_wp2_with fail
    go_loopw [1] (fun i wr => ∃ k : Nat, k ≤ l.length ∧ i = .int .i64 k ∧ Ed.on (fun r => !Ed.letter r) l k = Ed.on (fun r => !Ed.letter r) l c ∧ wr = w) (fun i _ => l.length - (intOf i).toNat)
    case atStart => exact ⟨c, HCL.out, rfl, rfl, rfl⟩
    case round =>
      obtain ⟨k, hk, rfl, hon, rfl⟩ := hrel
      have HON := Lib.hid hon
      clear hon
      by_cases hlt : k < l.length
      · have d1 : decide ((k : Int) < (l.length : Int)) = true := decide_eq_true (by omega)
        have hia : (k : Int) < (l.length : Int) := by omega
        have hmm := HM.out
        unfold maxLen at hmm
        obtain ⟨b, off, e3, hb, hc⟩ := slice_cell HV.out hlt
        cases e3
        have HL := Lib.hid (edit_isLetter l[k] wr)
        cases hp : Ed.letter l[k] with
        | false =>
          have HON2 := Lib.hid (Ed.on_yes (p := (fun r => !Ed.letter r)) hlt (by simp [hp]))
          rw [hp] at HL
          generalize l[k] = y at hc HL
          go_wp2_with fail
          refine HL.out.mono ?_
          rintro e w2 ⟨rfl, rfl⟩
          go_wp2
          go_roundw
          case rel => exact ⟨k + 1, by omega, by go_num, by rw [← HON2.out]; exact HON.out, by first | rfl | trivial⟩
          case measure => simp [intOf]; omega
        | true =>
          have HON2 := Lib.hid (Ed.on_no (p := (fun r => !Ed.letter r)) hlt (by simp [hp]))
          rw [hp] at HL
          generalize l[k] = y at hc HL
          go_wp2_with fail
          refine HL.out.mono ?_
          rintro e w2 ⟨rfl, rfl⟩
          go_wp2
          (go_meet; exact ⟨k, by omega, rfl, by rw [← HON.out, HON2.out], by first | rfl | trivial⟩)
      · have d1 : decide ((k : Int) < (l.length : Int)) = false := decide_eq_false (by omega)
        have HON2 := Lib.hid (Ed.on_stop (p := (fun r => !Ed.letter r)) (l := l) (i := k) (by omega))
        go_wp2
        (go_meet; exact ⟨k, by omega, rfl, by rw [← HON.out, HON2.out], by first | rfl | trivial⟩)

  case rest =>
    obtain ⟨k0, hk0, rfl, h0, rfl⟩ := hcut
    have HN2 := Lib.hid (h0 ▸ HN.out)
    clear h0 HC HN
    go_wp2_with fail
    go_loopw [1] (fun i wr => ∃ k : Nat, k ≤ l.length ∧ i = .int .i64 k ∧ Ed.on Ed.letter l k = Ed.on Ed.letter l k0 ∧ wr = wc) (fun i _ => l.length - (intOf i).toNat)
    case atStart => exact ⟨k0, hk0, rfl, rfl, rfl⟩
    case round =>
      obtain ⟨k, hk, rfl, hon, rfl⟩ := hrel
      have HON := Lib.hid hon
      clear hon
      by_cases hlt : k < l.length
      · have d1 : decide ((k : Int) < (l.length : Int)) = true := decide_eq_true (by omega)
        have hia : (k : Int) < (l.length : Int) := by omega
        have hmm := HM.out
        unfold maxLen at hmm
        obtain ⟨b, off, e3, hb, hc⟩ := slice_cell HV.out hlt
        cases e3
        have HL := Lib.hid (edit_isLetter l[k] wr)
        cases hp : Ed.letter l[k] with
        | true =>
          have HON2 := Lib.hid (Ed.on_yes (p := Ed.letter) hlt (by simp [hp]))
          rw [hp] at HL
          generalize l[k] = y at hc HL
          go_wp2_with fail
          refine HL.out.mono ?_
          rintro e w2 ⟨rfl, rfl⟩
          go_wp2
          go_roundw
          case rel => exact ⟨k + 1, by omega, by go_num, by rw [← HON2.out]; exact HON.out, by first | rfl | trivial⟩
          case measure => simp [intOf]; omega
        | false =>
          have HON2 := Lib.hid (Ed.on_no (p := Ed.letter) hlt (by simp [hp]))
          rw [hp] at HL
          generalize l[k] = y at hc HL
          go_wp2_with fail
          refine HL.out.mono ?_
          rintro e w2 ⟨rfl, rfl⟩
          go_wp2
          (go_ret; exact ⟨ret_int (by have h1 := HON.out; have h2 := HON2.out; have h3 := HN2.out; omega), by first | rfl | trivial⟩)
      · have d1 : decide ((k : Int) < (l.length : Int)) = false := decide_eq_false (by omega)
        have HON2 := Lib.hid (Ed.on_stop (p := Ed.letter) (l := l) (i := k) (by omega))
        go_wp2
        (go_ret; exact ⟨ret_int (by have h1 := HON.out; have h2 := HON2.out; have h3 := HN2.out; omega), by first | rfl | trivial⟩)

set_option maxRecDepth 100000 in
set_option maxHeartbeats 4000000 in
theorem edit_Word_back (v : Value) (l : List Int) (z : Int) (w : World) (hv : SliceI w v l) (hm : l.length ≤ maxLen) : Calls Try.prog 17 #[v, .int .i64 z, .bool true] w fun e w' => e = .returned (.int .i64 (Ed.wordBack l (Ed.caret l z) : Nat)) ∧ w = w' := by
  have HV := Lib.hid hv
  obtain ⟨va, vc, rfl⟩ := hv.shape
  have HM := Lib.hid hm
  clear hv hm
  have HCL := Lib.hid (Ed.caret_le l z)
  have HC := Lib.hid (edit_caret va vc l z w)
  unfold Ed.wordBack
  generalize Ed.caret l z = c at HC HCL ⊢
  generalize hN : Ed.back Ed.letter l (Ed.back (fun r => !Ed.letter r) l c) = N
  have HN := Lib.hid hN
  clear hN
  go_enter Try.func17, Try.ntmps17
  go_wp2_with fail
  refine HC.out.mono ?_
  rintro e w1 ⟨rfl, rfl⟩
  go_upto_block 0 with fail
  go_cut [1] from 11 to 23 (fun i wx => ∃ k : Nat, k ≤ l.length ∧ i = .int .i64 k ∧ Ed.back (fun r => !Ed.letter r) l c = k ∧ wx = w)
  case first =>
    go_wp2_with fail
    go_loopw [1] (fun i wr => ∃ k : Nat, k ≤ l.length ∧ i = .int .i64 k ∧ Ed.back (fun r => !Ed.letter r) l k = Ed.back (fun r => !Ed.letter r) l c ∧ wr = w) (fun i _ => (intOf i).toNat)
    case atStart => exact ⟨c, HCL.out, rfl, rfl, rfl⟩
    case round =>
      obtain ⟨k, hk, rfl, hon, rfl⟩ := hrel
      have HON := Lib.hid hon
      clear hon
      cases k with
      | succ k =>
        have hlt : k < l.length := by omega
        have d1 : decide ((0 : Int) < ((k + 1 : Nat) : Int)) = true := decide_eq_true (by omega)
        have hmm := HM.out
        unfold maxLen at hmm
        have e2 : wrap64 (k : Int) = (k : Int) := IntWalk.wrap64_in _ ⟨by omega, by omega⟩
        have e1 : wrap64 (((k + 1 : Nat) : Int) - 1) = (k : Int) := by rw [show ((k + 1 : Nat) : Int) - 1 = (k : Int) from by omega]; exact e2
        have hia : (k : Int) < (l.length : Int) := by omega
        have hi0 : (0 : Int) ≤ (k : Int) := by omega
        have htn : ((k : Int)).toNat = k := by omega
        obtain ⟨b, off, e3, hb, hc⟩ := slice_cell HV.out hlt
        cases e3
        have HL := Lib.hid (edit_isLetter l[k] wr)
        cases hp : Ed.letter l[k] with
        | false =>
          have HON2 := Lib.hid (Ed.back_yes (p := (fun r => !Ed.letter r)) hlt (by simp [hp]))
          rw [hp] at HL
          generalize l[k] = y at hc HL
          go_wp2_with fail
          refine HL.out.mono ?_
          rintro e w2 ⟨rfl, rfl⟩
          go_wp2
          go_roundw
          case rel => exact ⟨k, by omega, by first | rfl | rw [e1] | rw [e2] | go_num, by rw [← HON2.out]; exact HON.out, by first | rfl | trivial⟩
          case measure => first | (simp [intOf]; done) | (simp [intOf, e2]; done) | (simp only [intOf, e2]; omega)
        | true =>
          have HON2 := Lib.hid (Ed.back_no (p := (fun r => !Ed.letter r)) hlt (by simp [hp]))
          rw [hp] at HL
          generalize l[k] = y at hc HL
          go_wp2_with fail
          refine HL.out.mono ?_
          rintro e w2 ⟨rfl, rfl⟩
          go_wp2
          (go_meet; exact ⟨_, by omega, rfl, by rw [← HON.out, HON2.out], by first | rfl | trivial⟩)
      | zero =>
        have d1 : decide ((0 : Int) < ((0 : Nat) : Int)) = false := by decide
        have HON2 := Lib.hid (Ed.back_zero ((fun r => !Ed.letter r)) l)
        go_wp2
        (go_meet; exact ⟨_, by omega, rfl, by rw [← HON.out, HON2.out], by first | rfl | trivial⟩)

  case rest =>
    obtain ⟨k0, hk0, rfl, h0, rfl⟩ := hcut
    have HN2 := Lib.hid (h0 ▸ HN.out)
    clear h0 HC HN
    go_wp2_with fail
    go_loopw [1] (fun i wr => ∃ k : Nat, k ≤ l.length ∧ i = .int .i64 k ∧ Ed.back Ed.letter l k = Ed.back Ed.letter l k0 ∧ wr = wc) (fun i _ => (intOf i).toNat)
    case atStart => exact ⟨k0, hk0, rfl, rfl, rfl⟩
    case round =>
      obtain ⟨k, hk, rfl, hon, rfl⟩ := hrel
      have HON := Lib.hid hon
      clear hon
      cases k with
      | succ k =>
        have hlt : k < l.length := by omega
        have d1 : decide ((0 : Int) < ((k + 1 : Nat) : Int)) = true := decide_eq_true (by omega)
        have hmm := HM.out
        unfold maxLen at hmm
        have e2 : wrap64 (k : Int) = (k : Int) := IntWalk.wrap64_in _ ⟨by omega, by omega⟩
        have e1 : wrap64 (((k + 1 : Nat) : Int) - 1) = (k : Int) := by rw [show ((k + 1 : Nat) : Int) - 1 = (k : Int) from by omega]; exact e2
        have hia : (k : Int) < (l.length : Int) := by omega
        have hi0 : (0 : Int) ≤ (k : Int) := by omega
        have htn : ((k : Int)).toNat = k := by omega
        obtain ⟨b, off, e3, hb, hc⟩ := slice_cell HV.out hlt
        cases e3
        have HL := Lib.hid (edit_isLetter l[k] wr)
        cases hp : Ed.letter l[k] with
        | true =>
          have HON2 := Lib.hid (Ed.back_yes (p := Ed.letter) hlt (by simp [hp]))
          rw [hp] at HL
          generalize l[k] = y at hc HL
          go_wp2_with fail
          refine HL.out.mono ?_
          rintro e w2 ⟨rfl, rfl⟩
          go_wp2
          go_roundw
          case rel => exact ⟨k, by omega, by first | rfl | rw [e1] | rw [e2] | go_num, by rw [← HON2.out]; exact HON.out, by first | rfl | trivial⟩
          case measure => first | (simp [intOf]; done) | (simp [intOf, e2]; done) | (simp only [intOf, e2]; omega)
        | false =>
          have HON2 := Lib.hid (Ed.back_no (p := Ed.letter) hlt (by simp [hp]))
          rw [hp] at HL
          generalize l[k] = y at hc HL
          go_wp2_with fail
          refine HL.out.mono ?_
          rintro e w2 ⟨rfl, rfl⟩
          go_wp2
          (go_ret; exact ⟨ret_int (by have h1 := HON.out; have h2 := HON2.out; have h3 := HN2.out; omega), by first | rfl | trivial⟩)
      | zero =>
        have d1 : decide ((0 : Int) < ((0 : Nat) : Int)) = false := by decide
        have HON2 := Lib.hid (Ed.back_zero (Ed.letter) l)
        go_wp2
        (go_ret; exact ⟨ret_int (by have h1 := HON.out; have h2 := HON2.out; have h3 := HN2.out; omega), by first | rfl | trivial⟩)
end Go.Proofs.Ytakjoodlediemaa
