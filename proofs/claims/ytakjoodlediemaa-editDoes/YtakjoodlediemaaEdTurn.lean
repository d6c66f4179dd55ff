/- What each key's method does to a turn. -/
import Derived.Test.YtakjoodlediemaaEdCut
namespace Go.Proofs.Ytakjoodlediemaa
open Go.RowKit
set_option linter.unusedVariables false

set_option maxRecDepth 100000 in
set_option maxHeartbeats 4000000 in
theorem turn_toBegin {w0 w : World} {g : Nat} {t : Tn} {lv kv av : Value} (h : IsTn w0 w g t lv kv av) (ha : t.at' ≤ t.line.length) (hl : t.line.length ≤ 1000000) (hlo : t.long = t.line.length) (hn : t.acts.length ≤ 1000000) :
    Calls Try.prog 34 #[.pointer (some ⟨g, 0, none⟩)] w fun e w' => e = .returned (.tuple #[]) ∧ TnStep w0 w' g (Ed.Deed.run .toBegin t) lv := by
  have HT := Lib.hid h
  clear h
  obtain ⟨va, vc, hlv⟩ := HT.out.line.shape
  subst hlv
  obtain ⟨c0, c1, c2, c3, c4, c5⟩ := HT.out.cells
  have HV : Hid (SliceI w (.slice va t.line.length vc) t.line) := Lib.hid (HT.out.line.below HT.out.bel)
  have HT8 := Lib.hid (HT.out.set (t' := { t with at' := 0 }) (kv' := kv) 1 (.int .i64 0) (by omega) (by simp [tnL]) rfl HT.out.kill rfl)
  have f1 := HT.out.frozen 1
  go_enter Try.func34, Try.ntmps34
  go_wp2
  go_end0
  exact ⟨rfl, _, _, HT8.out⟩

set_option maxRecDepth 100000 in
set_option maxHeartbeats 4000000 in
theorem turn_toEnd {w0 w : World} {g : Nat} {t : Tn} {lv kv av : Value} (h : IsTn w0 w g t lv kv av) (ha : t.at' ≤ t.line.length) (hl : t.line.length ≤ 1000000) (hlo : t.long = t.line.length) (hn : t.acts.length ≤ 1000000) :
    Calls Try.prog 35 #[.pointer (some ⟨g, 0, none⟩)] w fun e w' => e = .returned (.tuple #[]) ∧ TnStep w0 w' g (Ed.Deed.run .toEnd t) lv := by
  have HT := Lib.hid h
  clear h
  obtain ⟨va, vc, hlv⟩ := HT.out.line.shape
  subst hlv
  obtain ⟨c0, c1, c2, c3, c4, c5⟩ := HT.out.cells
  have HV : Hid (SliceI w (.slice va t.line.length vc) t.line) := Lib.hid (HT.out.line.below HT.out.bel)
  have HT8 := Lib.hid (HT.out.set (t' := { t with at' := t.line.length }) (kv' := kv) 1 (.int .i64 (t.line.length : Nat)) (by omega) (by simp [tnL]) rfl HT.out.kill rfl)
  have f1 := HT.out.frozen 1
  go_enter Try.func35, Try.ntmps35
  go_wp2
  go_end0
  exact ⟨rfl, _, _, HT8.out⟩

set_option maxRecDepth 100000 in
set_option maxHeartbeats 4000000 in
theorem turn_oneBack {w0 w : World} {g : Nat} {t : Tn} {lv kv av : Value} (h : IsTn w0 w g t lv kv av) (ha : t.at' ≤ t.line.length) (hl : t.line.length ≤ 1000000) (hlo : t.long = t.line.length) (hn : t.acts.length ≤ 1000000) :
    Calls Try.prog 36 #[.pointer (some ⟨g, 0, none⟩)] w fun e w' => e = .returned (.tuple #[]) ∧ TnStep w0 w' g (Ed.Deed.run .oneBack t) lv := by
  have HT := Lib.hid h
  clear h
  obtain ⟨va, vc, hlv⟩ := HT.out.line.shape
  subst hlv
  obtain ⟨c0, c1, c2, c3, c4, c5⟩ := HT.out.cells
  have HV : Hid (SliceI w (.slice va t.line.length vc) t.line) := Lib.hid (HT.out.line.below HT.out.bel)
  have HCa : Hid (∀ W, Below w.heap.size w W → Calls Try.prog 20 #[.slice va t.line.length vc, .int .i64 ((t.at' : Int) - 1)] W fun e w' => e = .returned (.int .i64 (Ed.caret t.line ((t.at' : Int) - 1) : Nat)) ∧ W = w') := Lib.hid (fun W _ => edit_caret va vc t.line _ W)
  obtain ⟨N, hN⟩ : ∃ N, Ed.caret t.line ((t.at' : Int) - 1) = N := ⟨_, rfl⟩
  have HN := Lib.hid hN
  rw [hN] at HCa
  clear hN
  have HT8 := Lib.hid (HT.out.set (t' := { t with at' := N }) (kv' := kv) 1 (.int .i64 (N : Nat)) (by omega) (by simp [tnL]) rfl HT.out.kill rfl)
  have s1 : IntKind.i64.wrap ((t.at' : Int) - 1) = (t.at' : Int) - 1 := IntWalk.i64_in _ (by omega)
  have s2 : IntKind.i64.wrap ((t.at' : Int) + 1) = (t.at' : Int) + 1 := IntWalk.i64_in _ (by omega)
  have f1 := HT.out.frozen 1
  go_enter Try.func36, Try.ntmps36
  go_wp2_with fail
  go_region_with ((go_at_call 20; refine (HCa.out _ (grew_drew _)).mono ?_; rintro e w1 ⟨rfl, rfl⟩))
  all_goals
    go_wp2
    go_end0
    exact ⟨rfl, kv, _, by have := HT8.out.grew (grew_drew _); simp only [Ed.Deed.run]; rw [HN.out]; exact this⟩

set_option maxRecDepth 100000 in
set_option maxHeartbeats 4000000 in
theorem turn_oneOn {w0 w : World} {g : Nat} {t : Tn} {lv kv av : Value} (h : IsTn w0 w g t lv kv av) (ha : t.at' ≤ t.line.length) (hl : t.line.length ≤ 1000000) (hlo : t.long = t.line.length) (hn : t.acts.length ≤ 1000000) :
    Calls Try.prog 37 #[.pointer (some ⟨g, 0, none⟩)] w fun e w' => e = .returned (.tuple #[]) ∧ TnStep w0 w' g (Ed.Deed.run .oneOn t) lv := by
  have HT := Lib.hid h
  clear h
  obtain ⟨va, vc, hlv⟩ := HT.out.line.shape
  subst hlv
  obtain ⟨c0, c1, c2, c3, c4, c5⟩ := HT.out.cells
  have HV : Hid (SliceI w (.slice va t.line.length vc) t.line) := Lib.hid (HT.out.line.below HT.out.bel)
  have HCa : Hid (∀ W, Below w.heap.size w W → Calls Try.prog 20 #[.slice va t.line.length vc, .int .i64 ((t.at' : Int) + 1)] W fun e w' => e = .returned (.int .i64 (Ed.caret t.line ((t.at' : Int) + 1) : Nat)) ∧ W = w') := Lib.hid (fun W _ => edit_caret va vc t.line _ W)
  obtain ⟨N, hN⟩ : ∃ N, Ed.caret t.line ((t.at' : Int) + 1) = N := ⟨_, rfl⟩
  have HN := Lib.hid hN
  rw [hN] at HCa
  clear hN
  have HT8 := Lib.hid (HT.out.set (t' := { t with at' := N }) (kv' := kv) 1 (.int .i64 (N : Nat)) (by omega) (by simp [tnL]) rfl HT.out.kill rfl)
  have s1 : IntKind.i64.wrap ((t.at' : Int) - 1) = (t.at' : Int) - 1 := IntWalk.i64_in _ (by omega)
  have s2 : IntKind.i64.wrap ((t.at' : Int) + 1) = (t.at' : Int) + 1 := IntWalk.i64_in _ (by omega)
  have f1 := HT.out.frozen 1
  go_enter Try.func37, Try.ntmps37
  go_wp2_with fail
  go_region_with ((go_at_call 20; refine (HCa.out _ (grew_drew _)).mono ?_; rintro e w1 ⟨rfl, rfl⟩))
  all_goals
    go_wp2
    go_end0
    exact ⟨rfl, kv, _, by have := HT8.out.grew (grew_drew _); simp only [Ed.Deed.run]; rw [HN.out]; exact this⟩

set_option maxRecDepth 100000 in
set_option maxHeartbeats 4000000 in
theorem turn_wordBack {w0 w : World} {g : Nat} {t : Tn} {lv kv av : Value} (h : IsTn w0 w g t lv kv av) (ha : t.at' ≤ t.line.length) (hl : t.line.length ≤ 1000000) (hlo : t.long = t.line.length) (hn : t.acts.length ≤ 1000000) :
    Calls Try.prog 38 #[.pointer (some ⟨g, 0, none⟩)] w fun e w' => e = .returned (.tuple #[]) ∧ TnStep w0 w' g (Ed.Deed.run .wordBack t) lv := by
  have HT := Lib.hid h
  clear h
  obtain ⟨va, vc, hlv⟩ := HT.out.line.shape
  subst hlv
  obtain ⟨c0, c1, c2, c3, c4, c5⟩ := HT.out.cells
  have HV : Hid (SliceI w (.slice va t.line.length vc) t.line) := Lib.hid (HT.out.line.below HT.out.bel)
  have HCa : Hid (∀ W, Below w.heap.size w W → Calls Try.prog 17 #[.slice va t.line.length vc, .int .i64 (t.at' : Int), .bool true] W fun e w' => e = .returned (.int .i64 (Ed.wordBack t.line (Ed.caret t.line t.at') : Nat)) ∧ W = w') := Lib.hid (fun W hb => edit_Word_back _ t.line _ W (HV.out.below hb) (by unfold maxLen; omega))
  obtain ⟨N, hN⟩ : ∃ N, Ed.wordBack t.line (Ed.caret t.line t.at') = N := ⟨_, rfl⟩
  have HN := Lib.hid hN
  rw [hN] at HCa
  clear hN
  have HT8 := Lib.hid (HT.out.set (t' := { t with at' := N }) (kv' := kv) 1 (.int .i64 (N : Nat)) (by omega) (by simp [tnL]) rfl HT.out.kill rfl)
  have s1 : IntKind.i64.wrap ((t.at' : Int) - 1) = (t.at' : Int) - 1 := IntWalk.i64_in _ (by omega)
  have s2 : IntKind.i64.wrap ((t.at' : Int) + 1) = (t.at' : Int) + 1 := IntWalk.i64_in _ (by omega)
  have f1 := HT.out.frozen 1
  go_enter Try.func38, Try.ntmps38
  go_wp2_with fail
  go_region_with ((go_at_call 17; refine (HCa.out _ (grew_drew _)).mono ?_; rintro e w1 ⟨rfl, rfl⟩))
  all_goals
    go_wp2
    go_end0
    exact ⟨rfl, kv, _, by have := HT8.out.grew (grew_drew _); simp only [Ed.Deed.run]; rw [HN.out]; exact this⟩

set_option maxRecDepth 100000 in
set_option maxHeartbeats 4000000 in
theorem turn_wordOn {w0 w : World} {g : Nat} {t : Tn} {lv kv av : Value} (h : IsTn w0 w g t lv kv av) (ha : t.at' ≤ t.line.length) (hl : t.line.length ≤ 1000000) (hlo : t.long = t.line.length) (hn : t.acts.length ≤ 1000000) :
    Calls Try.prog 39 #[.pointer (some ⟨g, 0, none⟩)] w fun e w' => e = .returned (.tuple #[]) ∧ TnStep w0 w' g (Ed.Deed.run .wordOn t) lv := by
  have HT := Lib.hid h
  clear h
  obtain ⟨va, vc, hlv⟩ := HT.out.line.shape
  subst hlv
  obtain ⟨c0, c1, c2, c3, c4, c5⟩ := HT.out.cells
  have HV : Hid (SliceI w (.slice va t.line.length vc) t.line) := Lib.hid (HT.out.line.below HT.out.bel)
  have HCa : Hid (∀ W, Below w.heap.size w W → Calls Try.prog 17 #[.slice va t.line.length vc, .int .i64 (t.at' : Int), .bool false] W fun e w' => e = .returned (.int .i64 (Ed.wordOn t.line (Ed.caret t.line t.at') : Nat)) ∧ W = w') := Lib.hid (fun W hb => edit_Word_on _ t.line _ W (HV.out.below hb) (by unfold maxLen; omega))
  obtain ⟨N, hN⟩ : ∃ N, Ed.wordOn t.line (Ed.caret t.line t.at') = N := ⟨_, rfl⟩
  have HN := Lib.hid hN
  rw [hN] at HCa
  clear hN
  have HT8 := Lib.hid (HT.out.set (t' := { t with at' := N }) (kv' := kv) 1 (.int .i64 (N : Nat)) (by omega) (by simp [tnL]) rfl HT.out.kill rfl)
  have s1 : IntKind.i64.wrap ((t.at' : Int) - 1) = (t.at' : Int) - 1 := IntWalk.i64_in _ (by omega)
  have s2 : IntKind.i64.wrap ((t.at' : Int) + 1) = (t.at' : Int) + 1 := IntWalk.i64_in _ (by omega)
  have f1 := HT.out.frozen 1
  go_enter Try.func39, Try.ntmps39
  go_wp2_with fail
  go_region_with ((go_at_call 17; refine (HCa.out _ (grew_drew _)).mono ?_; rintro e w1 ⟨rfl, rfl⟩))
  all_goals
    go_wp2
    go_end0
    exact ⟨rfl, kv, _, by have := HT8.out.grew (grew_drew _); simp only [Ed.Deed.run]; rw [HN.out]; exact this⟩

set_option maxRecDepth 100000 in
set_option maxHeartbeats 4000000 in
theorem turn_cutAhead {w0 w : World} {g : Nat} {t : Tn} {lv kv av : Value} (h : IsTn w0 w g t lv kv av) (ha : t.at' ≤ t.line.length) (hl : t.line.length ≤ 1000000) (hlo : t.long = t.line.length) (hn : t.acts.length ≤ 1000000) :
    Calls Try.prog 40 #[.pointer (some ⟨g, 0, none⟩)] w fun e w' => e = .returned (.tuple #[]) ∧ TnStep w0 w' g (Ed.Deed.run .cutAhead t) lv := by
  have HT := Lib.hid h
  clear h
  obtain ⟨va, vc, hlv⟩ := HT.out.line.shape
  subst hlv
  obtain ⟨c0, c1, c2, c3, c4, c5⟩ := HT.out.cells
  have HV : Hid (SliceI w (.slice va t.line.length vc) t.line) := Lib.hid (HT.out.line.below HT.out.bel)
  have HCa : Hid (∀ W, Below w.heap.size w W → Calls Try.prog 20 #[.slice va t.line.length vc, .int .i64 ((t.at' : Int) - 1)] W fun e w' => e = .returned (.int .i64 (Ed.caret t.line ((t.at' : Int) - 1) : Nat)) ∧ W = w') := Lib.hid (fun W _ => edit_caret va vc t.line _ W)
  have HCL := Lib.hid (show Ed.caret t.line ((t.at' : Int) - 1) = t.at' - 1 from by unfold Ed.caret; omega)
  have HR : Hid (Ed.Deed.run .cutAhead t = Ed.cut t (Ed.caret t.line ((t.at' : Int) - 1)) (t.at')) := Lib.hid rfl
  rw [HR.out]
  rw [HCL.out] at HCa ⊢
  have s1 : IntKind.i64.wrap ((t.at' : Int) - 1) = (t.at' : Int) - 1 := IntWalk.i64_in _ (by omega)
  have s2 : IntKind.i64.wrap ((t.at' : Int) + 1) = (t.at' : Int) + 1 := IntWalk.i64_in _ (by omega)
  have f1 := HT.out.frozen 1
  go_enter Try.func40, Try.ntmps40
  go_wp2_with fail
  go_region_with (first
    | (go_at_call 20; refine (HCa.out _ (grew_drew _)).mono ?_; rintro e w1 ⟨rfl, rfl⟩)
    | (go_at_call 53; refine (turn_cut (HT.out.grew (grew_drew _)) _ _ (by omega) (by omega) (by omega) hl (by omega) hn).mono ?_; rintro e w1 ⟨rfl, av1, hT1⟩; have HT1 := Lib.hid hT1; clear hT1))
  all_goals
    go_wp2
    go_end0
    exact ⟨rfl, kv, _, HT1.out⟩

set_option maxRecDepth 100000 in
set_option maxHeartbeats 4000000 in
theorem turn_cutHere {w0 w : World} {g : Nat} {t : Tn} {lv kv av : Value} (h : IsTn w0 w g t lv kv av) (ha : t.at' ≤ t.line.length) (hl : t.line.length ≤ 1000000) (hlo : t.long = t.line.length) (hn : t.acts.length ≤ 1000000) :
    Calls Try.prog 41 #[.pointer (some ⟨g, 0, none⟩)] w fun e w' => e = .returned (.tuple #[]) ∧ TnStep w0 w' g (Ed.Deed.run .cutHere t) lv := by
  have HT := Lib.hid h
  clear h
  obtain ⟨va, vc, hlv⟩ := HT.out.line.shape
  subst hlv
  obtain ⟨c0, c1, c2, c3, c4, c5⟩ := HT.out.cells
  have HV : Hid (SliceI w (.slice va t.line.length vc) t.line) := Lib.hid (HT.out.line.below HT.out.bel)
  have HCa : Hid (∀ W, Below w.heap.size w W → Calls Try.prog 20 #[.slice va t.line.length vc, .int .i64 ((t.at' : Int) + 1)] W fun e w' => e = .returned (.int .i64 (Ed.caret t.line ((t.at' : Int) + 1) : Nat)) ∧ W = w') := Lib.hid (fun W _ => edit_caret va vc t.line _ W)
  have HCL := Lib.hid (show Ed.caret t.line ((t.at' : Int) + 1) = min (t.at' + 1) t.line.length from by unfold Ed.caret; omega)
  have HR : Hid (Ed.Deed.run .cutHere t = Ed.cut t (t.at') (Ed.caret t.line ((t.at' : Int) + 1))) := Lib.hid rfl
  rw [HR.out]
  rw [HCL.out] at HCa ⊢
  have s1 : IntKind.i64.wrap ((t.at' : Int) - 1) = (t.at' : Int) - 1 := IntWalk.i64_in _ (by omega)
  have s2 : IntKind.i64.wrap ((t.at' : Int) + 1) = (t.at' : Int) + 1 := IntWalk.i64_in _ (by omega)
  have f1 := HT.out.frozen 1
  go_enter Try.func41, Try.ntmps41
  go_wp2_with fail
  go_region_with (first
    | (go_at_call 20; refine (HCa.out _ (grew_drew _)).mono ?_; rintro e w1 ⟨rfl, rfl⟩)
    | (go_at_call 53; refine (turn_cut (HT.out.grew (grew_drew _)) _ _ (by omega) (by omega) (by omega) hl (by omega) hn).mono ?_; rintro e w1 ⟨rfl, av1, hT1⟩; have HT1 := Lib.hid hT1; clear hT1))
  all_goals
    go_wp2
    go_end0
    exact ⟨rfl, kv, _, HT1.out⟩

end Go.Proofs.Ytakjoodlediemaa
