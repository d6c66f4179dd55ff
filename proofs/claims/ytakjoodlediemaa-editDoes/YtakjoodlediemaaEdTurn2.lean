/- What each key's method does to a turn: what is killed, yanked, swapped. -/
import Derived.Test.YtakjoodlediemaaEdTurn
namespace Go.Proofs.Ytakjoodlediemaa
open Go.RowKit
set_option linter.unusedVariables false

/-- A part of a slice of numbers. -/
theorem SliceI.part {w : World} {va : Option Addr} {vc : Nat} {l : List Int} (h : SliceI w (.slice va l.length vc) l) {a b : Nat} (h1 : a < b) (h2 : b ≤ l.length) : SliceI w (.slice (Option.map (fun x : Addr => x.add a) va) (b - a) (vc - a)) ((l.take b).drop a) := by
  have hL : ((l.take b).drop a).length = b - a := Ed.slice_length (by omega) h2
  obtain ⟨b0, off, e, hb0, _⟩ := slice_cell h (k := a) (by omega)
  have hcap : l.length ≤ vc := by
    obtain ⟨_, _, e, hc, _⟩ := h
    injection e with _ _ e
    omega
  refine ⟨_, vc - a, by rw [hL], by omega, .inr ⟨b0, off + a, ?_, hb0, fun i hi => ?_⟩⟩
  · rw [e, Option.map_some]
    congr 1
    unfold Addr.add
    split <;> simp_all
  · obtain ⟨b1, off1, e1, _, hc⟩ := slice_cell h (k := a + i) (by omega)
    rw [e] at e1
    injection e1 with e1
    injection e1 with e1 e2
    subst e1
    subst e2
    rw [Nat.add_assoc, hc]
    congr 2
    rw [List.getElem_drop, List.getElem_take]

set_option maxRecDepth 100000 in
set_option maxHeartbeats 4000000 in
theorem turn_killed {w0 w : World} {g : Nat} {t : Tn} {lv kv av : Value} (h : IsTn w0 w g t lv kv av) (a b : Nat) (h1 : a ≤ b) (h2 : b ≤ t.line.length) (hb : b - a ≤ t.long) (hl : t.line.length ≤ 1000000) (hlo : t.long ≤ 1000000) (hn : t.acts.length ≤ 1000000) :
    Calls Try.prog 54 #[.pointer (some ⟨g, 0, none⟩), .int .i64 a, .int .i64 b] w fun e w' => e = .returned (.tuple #[]) ∧ TnStep w0 w' g (Ed.killed t a b) lv := by
  have HT := Lib.hid h
  clear h
  obtain ⟨va, vc, hlv⟩ := HT.out.line.shape
  subst hlv
  have hcap : t.line.length ≤ vc := by
    obtain ⟨_, _, e, hc, _⟩ := HT.out.line
    injection e with _ _ e
    omega
  obtain ⟨c0, c1, c2, c3, c4, c5⟩ := HT.out.cells
  have f3 := HT.out.frozen 3
  by_cases hab : a = b
  · have HE : Hid (Ed.killed t a b = t) := Lib.hid (by unfold Ed.killed; rw [if_pos hab])
    rw [HE.out]
    have d1 : decide ((a : Int) = (b : Int)) = true := decide_eq_true (by omega)
    have d2 : ((a : Int) == (b : Int)) = true := by rw [beq_iff_eq]; omega
    clear hab
    go_enter Try.func54, Try.ntmps54
    go_wp2
    refine bodyPost_ret (results_none rfl _ _ _) rfl ?_
    exact ⟨rfl, _, _, HT.out⟩
  · have HE : Hid (Ed.killed t a b = Ed.cut { t with kill := (t.line.take b).drop a } a b) := Lib.hid (by unfold Ed.killed; rw [if_neg hab]; rfl)
    rw [HE.out]
    have d1 : decide ((a : Int) = (b : Int)) = false := decide_eq_false (by omega)
    have d2 : ((a : Int) == (b : Int)) = false := by rw [beq_eq_false_iff_ne]; omega
    have hva : ¬ vc = a := by omega
    have HT3 := Lib.hid (HT.out.set (t' := { t with kill := (t.line.take b).drop a }) (kv' := .slice (Option.map (fun x : Addr => x.add a) va) (b - a) (vc - a)) 3 (.slice (Option.map (fun x : Addr => x.add a) va) (b - a) (vc - a)) (by omega) (by simp [tnL]) rfl (HT.out.line.part (by omega) h2) rfl)
    clear hab
    go_enter Try.func54, Try.ntmps54
    go_wp2_with fail
    refine (turn_cut HT3.out a b h1 h2 hb hl hlo hn).mono ?_
    rintro e w1 ⟨rfl, av1, hT1⟩
    have HT1 := Lib.hid hT1
    clear hT1 c0 c1 c2 c3 c4 c5 f3
    go_wp2
    go_end0
    exact ⟨rfl, _, _, HT1.out⟩

set_option maxRecDepth 100000 in
set_option maxHeartbeats 4000000 in
theorem turn_killToEnd {w0 w : World} {g : Nat} {t : Tn} {lv kv av : Value} (h : IsTn w0 w g t lv kv av) (ha : t.at' ≤ t.line.length) (hl : t.line.length ≤ 1000000) (hlo : t.long = t.line.length) (hn : t.acts.length ≤ 1000000) :
    Calls Try.prog 42 #[.pointer (some ⟨g, 0, none⟩)] w fun e w' => e = .returned (.tuple #[]) ∧ TnStep w0 w' g (Ed.Deed.run .killToEnd t) lv := by
  have HT := Lib.hid h
  clear h
  obtain ⟨va, vc, hlv⟩ := HT.out.line.shape
  subst hlv
  obtain ⟨c0, c1, c2, c3, c4, c5⟩ := HT.out.cells
  have HV : Hid (SliceI w (.slice va t.line.length vc) t.line) := Lib.hid (HT.out.line.below HT.out.bel)
  have HR : Hid (Ed.Deed.run .killToEnd t = Ed.killed t (t.at') (t.line.length)) := Lib.hid (by simp only [Ed.Deed.run])
  rw [HR.out]
  have f1 := HT.out.frozen 1
  go_enter Try.func42, Try.ntmps42
  go_wp2_with fail
  first
  | (go_region_with (first
      | (go_at_call 54; refine (turn_killed (HT.out.grew (grew_drew _)) (t.at') (t.line.length) (by omega) (by omega) (by omega) hl (by omega) hn).mono ?_; rintro e w1 ⟨rfl, hT1⟩; have HT1 := Lib.hid hT1; clear hT1))
     all_goals
       go_wp2
       go_end0
       exact ⟨rfl, HT1.out⟩)
  | (refine (turn_killed HT.out (t.at') (t.line.length) (by omega) (by omega) (by omega) hl (by omega) hn).mono ?_
     rintro e w1 ⟨rfl, hT1⟩
     go_wp2
     go_end0
     exact ⟨rfl, hT1⟩)

set_option maxRecDepth 100000 in
set_option maxHeartbeats 4000000 in
theorem turn_killToBegin {w0 w : World} {g : Nat} {t : Tn} {lv kv av : Value} (h : IsTn w0 w g t lv kv av) (ha : t.at' ≤ t.line.length) (hl : t.line.length ≤ 1000000) (hlo : t.long = t.line.length) (hn : t.acts.length ≤ 1000000) :
    Calls Try.prog 43 #[.pointer (some ⟨g, 0, none⟩)] w fun e w' => e = .returned (.tuple #[]) ∧ TnStep w0 w' g (Ed.Deed.run .killToBegin t) lv := by
  have HT := Lib.hid h
  clear h
  obtain ⟨va, vc, hlv⟩ := HT.out.line.shape
  subst hlv
  obtain ⟨c0, c1, c2, c3, c4, c5⟩ := HT.out.cells
  have HV : Hid (SliceI w (.slice va t.line.length vc) t.line) := Lib.hid (HT.out.line.below HT.out.bel)
  have HR : Hid (Ed.Deed.run .killToBegin t = Ed.killed t (0) (t.at')) := Lib.hid (by simp only [Ed.Deed.run])
  rw [HR.out]
  have f1 := HT.out.frozen 1
  go_enter Try.func43, Try.ntmps43
  go_wp2_with fail
  first
  | (go_region_with (first
      | (go_at_call 54; refine (turn_killed (HT.out.grew (grew_drew _)) (0) (t.at') (by omega) (by omega) (by omega) hl (by omega) hn).mono ?_; rintro e w1 ⟨rfl, hT1⟩; have HT1 := Lib.hid hT1; clear hT1))
     all_goals
       go_wp2
       go_end0
       exact ⟨rfl, HT1.out⟩)
  | (refine (turn_killed HT.out (0) (t.at') (by omega) (by omega) (by omega) hl (by omega) hn).mono ?_
     rintro e w1 ⟨rfl, hT1⟩
     go_wp2
     go_end0
     exact ⟨rfl, hT1⟩)

set_option maxRecDepth 100000 in
set_option maxHeartbeats 4000000 in
theorem turn_killWordBack {w0 w : World} {g : Nat} {t : Tn} {lv kv av : Value} (h : IsTn w0 w g t lv kv av) (ha : t.at' ≤ t.line.length) (hl : t.line.length ≤ 1000000) (hlo : t.long = t.line.length) (hn : t.acts.length ≤ 1000000) :
    Calls Try.prog 44 #[.pointer (some ⟨g, 0, none⟩)] w fun e w' => e = .returned (.tuple #[]) ∧ TnStep w0 w' g (Ed.Deed.run .killWordBack t) lv := by
  have HT := Lib.hid h
  clear h
  obtain ⟨va, vc, hlv⟩ := HT.out.line.shape
  subst hlv
  obtain ⟨c0, c1, c2, c3, c4, c5⟩ := HT.out.cells
  have HV : Hid (SliceI w (.slice va t.line.length vc) t.line) := Lib.hid (HT.out.line.below HT.out.bel)
  have HCa : Hid (∀ W, Below w.heap.size w W → Calls Try.prog 17 #[.slice va t.line.length vc, .int .i64 (t.at' : Int), .bool true] W fun e w' => e = .returned (.int .i64 (Ed.wordBack t.line (Ed.caret t.line t.at') : Nat)) ∧ W = w') := Lib.hid (fun W hb => edit_Word_back _ t.line _ W (HV.out.below hb) (by unfold maxLen; omega))
  have HCL := Lib.hid (show Ed.wordBack t.line (Ed.caret t.line t.at') ≤ t.at' from by have := Ed.wordBack_le t.line (Ed.caret t.line t.at'); unfold Ed.caret at this ⊢; omega)
  obtain ⟨N, hN⟩ : ∃ N, Ed.wordBack t.line (Ed.caret t.line t.at') = N := ⟨_, rfl⟩
  rw [hN] at HCa HCL
  have hcl := HCL.out
  have HN := Lib.hid hN
  clear hN
  have HR : Hid (Ed.Deed.run .killWordBack t = Ed.killed t (N) (t.at')) := Lib.hid (by simp only [Ed.Deed.run, HN.out])
  rw [HR.out]
  have f1 := HT.out.frozen 1
  go_enter Try.func44, Try.ntmps44
  go_wp2_with fail
  first
  | (go_region_with (first
      | (go_at_call 17; refine (HCa.out _ (grew_drew _)).mono ?_; rintro e w1 ⟨rfl, rfl⟩)
      | (go_at_call 54; refine (turn_killed (HT.out.grew (grew_drew _)) (N) (t.at') (by omega) (by omega) (by omega) hl (by omega) hn).mono ?_; rintro e w1 ⟨rfl, hT1⟩; have HT1 := Lib.hid hT1; clear hT1))
     all_goals
       go_wp2
       go_end0
       exact ⟨rfl, HT1.out⟩)
  | (refine (turn_killed HT.out (N) (t.at') (by omega) (by omega) (by omega) hl (by omega) hn).mono ?_
     rintro e w1 ⟨rfl, hT1⟩
     go_wp2
     go_end0
     exact ⟨rfl, hT1⟩)

set_option maxRecDepth 100000 in
set_option maxHeartbeats 4000000 in
theorem turn_killWordOn {w0 w : World} {g : Nat} {t : Tn} {lv kv av : Value} (h : IsTn w0 w g t lv kv av) (ha : t.at' ≤ t.line.length) (hl : t.line.length ≤ 1000000) (hlo : t.long = t.line.length) (hn : t.acts.length ≤ 1000000) :
    Calls Try.prog 45 #[.pointer (some ⟨g, 0, none⟩)] w fun e w' => e = .returned (.tuple #[]) ∧ TnStep w0 w' g (Ed.Deed.run .killWordOn t) lv := by
  have HT := Lib.hid h
  clear h
  obtain ⟨va, vc, hlv⟩ := HT.out.line.shape
  subst hlv
  obtain ⟨c0, c1, c2, c3, c4, c5⟩ := HT.out.cells
  have HV : Hid (SliceI w (.slice va t.line.length vc) t.line) := Lib.hid (HT.out.line.below HT.out.bel)
  have HCa : Hid (∀ W, Below w.heap.size w W → Calls Try.prog 17 #[.slice va t.line.length vc, .int .i64 (t.at' : Int), .bool false] W fun e w' => e = .returned (.int .i64 (Ed.wordOn t.line (Ed.caret t.line t.at') : Nat)) ∧ W = w') := Lib.hid (fun W hb => edit_Word_on _ t.line _ W (HV.out.below hb) (by unfold maxLen; omega))
  have HCL := Lib.hid (show t.at' ≤ Ed.wordOn t.line (Ed.caret t.line t.at') ∧ Ed.wordOn t.line (Ed.caret t.line t.at') ≤ t.line.length from ⟨by have := Ed.wordOn_ge t.line (Ed.caret t.line t.at'); unfold Ed.caret at this ⊢; omega, Ed.wordOn_le _ _ (Ed.caret_le _ _)⟩)
  obtain ⟨N, hN⟩ : ∃ N, Ed.wordOn t.line (Ed.caret t.line t.at') = N := ⟨_, rfl⟩
  rw [hN] at HCa HCL
  have hcl := HCL.out
  have HN := Lib.hid hN
  clear hN
  have HR : Hid (Ed.Deed.run .killWordOn t = Ed.killed t (t.at') (N)) := Lib.hid (by simp only [Ed.Deed.run, HN.out])
  rw [HR.out]
  have f1 := HT.out.frozen 1
  go_enter Try.func45, Try.ntmps45
  go_wp2_with fail
  first
  | (go_region_with (first
      | (go_at_call 17; refine (HCa.out _ (grew_drew _)).mono ?_; rintro e w1 ⟨rfl, rfl⟩)
      | (go_at_call 54; refine (turn_killed (HT.out.grew (grew_drew _)) (t.at') (N) (by omega) (by omega) (by omega) hl (by omega) hn).mono ?_; rintro e w1 ⟨rfl, hT1⟩; have HT1 := Lib.hid hT1; clear hT1))
     all_goals
       go_wp2
       go_end0
       exact ⟨rfl, HT1.out⟩)
  | (refine (turn_killed HT.out (t.at') (N) (by omega) (by omega) (by omega) hl (by omega) hn).mono ?_
     rintro e w1 ⟨rfl, hT1⟩
     go_wp2
     go_end0
     exact ⟨rfl, hT1⟩)

set_option maxRecDepth 100000 in
set_option maxHeartbeats 4000000 in
theorem turn_typeRune {w0 w : World} {g : Nat} {t : Tn} {lv kv av : Value} (h : IsTn w0 w g t lv kv av) (ha : t.at' ≤ t.line.length) (hl : t.line.length ≤ 1000000) (hlo : t.long = t.line.length) (hn : t.acts.length ≤ 1000000) :
    Calls Try.prog 33 #[.pointer (some ⟨g, 0, none⟩)] w fun e w' => e = .returned (.tuple #[]) ∧ TnStep w0 w' g (Ed.Deed.run .typeRune t) lv := by
  have HT := Lib.hid h
  clear h
  obtain ⟨va, vc, hlv⟩ := HT.out.line.shape
  subst hlv
  obtain ⟨c0, c1, c2, c3, c4, c5⟩ := HT.out.cells
  have HV : Hid (SliceI w (.slice va t.line.length vc) t.line) := Lib.hid (HT.out.line.below HT.out.bel)
  have f1 := HT.out.frozen 1
  go_enter Try.func33, Try.ntmps33
  go_wp2_with fail
  refine (turn_put HT.out (by omega) (by omega) hn _).mono ?_
  rintro e w1 ⟨rfl, av1, hT1⟩
  have HT1 := Lib.hid hT1
  clear hT1
  go_wp2
  go_end0
  exact ⟨rfl, _, _, HT1.out⟩

end Go.Proofs.Ytakjoodlediemaa
