/- A site's maker of Ids. -/
import Derived.Test.YteooganpnmfkbaaIdRank
namespace Go.Proofs.Yteooganpnmfkbaa
open Go.RowKit
set_option linter.unusedVariables false

/-- The maker at g: its site and its time. -/
def IsMaker (w : World) (g : Nat) (s t : Int) : Prop := Holds w g [.int .i64 s, .int .i64 t] 95

theorem ident_New_yes (s : Int) (w : World) (h : 0 ≤ s ∧ s ≤ 15) : Calls Try.prog 41 #[.int .i64 s] w fun e w' => e = .returned (.tuple #[.pointer (some ⟨w.heap.size, 0, none⟩), .int .i64 0]) ∧ IsMaker w' w.heap.size s 0 ∧ Below w.heap.size w w' := by
  have hd : decide (0 ≤ s ∧ s ≤ 15) = true := decide_eq_true h
  clear h
  go_enter Try.func41, Try.ntmps41
  go_wp2_with fail
  refine (ident_isSite s _).mono ?_
  rintro e _ ⟨rfl, rfl⟩
  rw [hd]
  go_wp2
  go_ret2
  exact ⟨rfl, Holds.new _ [.int .i64 s, .int .i64 0] 95, grew_alloc _ _⟩
theorem ident_New_no (s : Int) (w : World) (h : ¬ (0 ≤ s ∧ s ≤ 15)) : Calls Try.prog 41 #[.int .i64 s] w fun e w' => e = .returned (.tuple #[.pointer none, .int .i64 1]) ∧ w' = w := by
  have hd : decide (0 ≤ s ∧ s ≤ 15) = false := decide_eq_false h
  clear h
  go_enter Try.func41, Try.ntmps41
  go_wp2_with fail
  refine (ident_isSite s _).mono ?_
  rintro e _ ⟨rfl, rfl⟩
  rw [hd]
  go_wp2
  go_ret2
  exact ⟨rfl, rfl⟩

theorem ident_Time {w : World} {g : Nat} {s t : Int} (h : IsMaker w g s t) : Calls Try.prog 45 #[.pointer (some ⟨g, 0, none⟩)] w fun e w' => e = .returned (.int .i64 t) ∧ w' = w := by
  obtain ⟨c0, c1⟩ := Holds.two h
  clear h
  go_enter Try.func45, Try.ntmps45
  go_wp2
  go_ret
  exact ⟨rfl, rfl⟩
theorem ident_Time_nil (w : World) : Calls Try.prog 45 #[.pointer none] w fun e w' => e = .returned (.int .i64 0) ∧ w' = w := by
  go_enter Try.func45, Try.ntmps45
  go_wp2
  go_ret
  exact ⟨rfl, rfl⟩

/-- The time behind See. -/
def Idn.seen (t : Int) (x : Int × Int) : Int := if Idn.may x then max t x.1 else t

theorem ident_See_nil (x : Int × Int) (w : World) : Calls Try.prog 43 #[.pointer none, idV x] w fun e w' => e = .returned (.int .i64 1) ∧ Below w.heap.size w w' := by
  unfold idV
  go_enter Try.func43, Try.ntmps43
  go_wp2
  go_ret
  exact ⟨rfl, grew_alloc _ _⟩
set_option maxRecDepth 100000 in
set_option maxHeartbeats 1000000 in
theorem ident_See {w : World} {g : Nat} {s t : Int} (h : IsMaker w g s t) (x : Int × Int) : Calls Try.prog 43 #[.pointer (some ⟨g, 0, none⟩), idV x] w fun e w' => e = .returned (.int .i64 (Idn.chk x)) ∧ IsMaker w' g s (Idn.seen t x) ∧ Keep (Just g) w w' := by
  have HH := Lib.hid h
  clear h
  have HC := Lib.hid (fun W => ident_Check x W)
  cases hm : Idn.may x with
  | false =>
    have HE : Hid (Idn.chk x = 1 ∧ Idn.seen t x = t) := Lib.hid ⟨by unfold Idn.chk; rw [hm]; rfl, by unfold Idn.seen; rw [hm]; rfl⟩
    rw [HE.out.1] at HC
    rw [HE.out.1, HE.out.2]
    clear hm
    unfold idV at HC ⊢
    go_enter Try.func43, Try.ntmps43
    go_wp2_with fail
    refine (HC.out _).mono ?_
    rintro e w1 ⟨rfl, hg⟩
    have HB := Lib.hid (grew (grew_alloc w (.cells #[.int .i64 x.1, .int .i64 x.2] 49)) hg.below)
    clear hg
    go_wp2
    go_ret
    exact ⟨rfl, HH.out.keep (Keep.of_grew HB.out Non) (fun h => h), Keep.of_grew HB.out _⟩
  | true =>
    have HE : Hid (Idn.chk x = 0 ∧ Idn.seen t x = max t x.1) := Lib.hid ⟨by unfold Idn.chk; rw [hm]; rfl, by unfold Idn.seen; rw [hm]; rfl⟩
    rw [HE.out.1] at HC
    rw [HE.out.1, HE.out.2]
    clear hm HE
    unfold idV at HC ⊢
    obtain ⟨x1, x2⟩ := x
    simp only at HC ⊢
    go_enter Try.func43, Try.ntmps43
    go_wp2_with fail
    refine (HC.out _).mono ?_
    rintro e w1 ⟨rfl, hg⟩
    have HB := Lib.hid (grew (grew_alloc w (.cells #[.int .i64 x1, .int .i64 x2] 49)) hg.below)
    have HX := Lib.hid ((Holds.new w [.int .i64 x1, .int .i64 x2] 49).keep (S := Non) (Keep.of_grew hg.below Non) (fun h => h))
    have HM := Lib.hid (Holds.keep HH.out (Keep.of_grew HB.out Non) (fun h => h))
    have HLT := Lib.hid (Holds.lt HH.out)
    clear hg
    obtain ⟨c0, c1⟩ := HX.out.two
    obtain ⟨d0, d1⟩ := HM.out.two
    have f1 := HM.out.frozen 1
    go_wp2_with fail
    go_still_tail 10, (by kernel_rfl)
    change wpList _ _ _ _ _ (World.drew _)
    go_wp2
    go_ret
    have hs : Holds (w1.drew.setCell ⟨g, 1, none⟩ (.int .i64 (max t x1))) g [.int .i64 s, .int .i64 (max t x1)] 95 := Holds.set (w := w1.drew) HM.out 1 (.int .i64 (max t x1)) (by simp)
    exact ⟨rfl, hs, ((Keep.of_grew HB.out (Just g)).trans (Keep.of_grew (grew_drew w1) (Just g)) (fun _ _ h => h)).trans (Keep.setCell _ g 1 _) (fun _ _ h => h)⟩

theorem ident_Make_nil (w : World) : Calls Try.prog 46 #[.pointer none] w fun e w' => e = .returned (.tuple #[idV (0, 0), .int .i64 1]) ∧ Below w.heap.size w w' := by
  go_enter Try.func46, Try.ntmps46
  go_wp2
  refine bodyPost_ret (v := .tuple #[idV (0, 0), .int .i64 1]) (by simp [results, Try.results46, go_sem, idV]) rfl ?_
  exact ⟨rfl, grew_alloc _ _⟩
set_option maxRecDepth 100000 in
set_option maxHeartbeats 1000000 in
theorem ident_Make_full {w : World} {g : Nat} {s t : Int} (h : IsMaker w g s t) (ht : 4294967295 ≤ t) : Calls Try.prog 46 #[.pointer (some ⟨g, 0, none⟩)] w fun e w' => e = .returned (.tuple #[idV (0, 0), .int .i64 5]) ∧ Below w.heap.size w w' := by
  have hd : decide (4294967295 ≤ t) = true := decide_eq_true ht
  have HH := Lib.hid h
  obtain ⟨d0, d1⟩ := Holds.two (Holds.keep h (Keep.alloc Non w (.cells #[.int .i64 0, .int .i64 0] 49)) (fun h => h))
  clear h ht
  go_enter Try.func46, Try.ntmps46
  go_wp2
  refine bodyPost_ret (v := .tuple #[idV (0, 0), .int .i64 5]) (by simp [results, Try.results46, go_sem, idV]) rfl ?_
  exact ⟨rfl, grew_alloc _ _⟩
set_option maxRecDepth 100000 in
set_option maxHeartbeats 1000000 in
theorem ident_Make {w : World} {g : Nat} {s t : Int} (h : IsMaker w g s t) (ht : 0 ≤ t ∧ t < 4294967295) : Calls Try.prog 46 #[.pointer (some ⟨g, 0, none⟩)] w fun e w' => e = .returned (.tuple #[idV (t + 1, s), .int .i64 0]) ∧ IsMaker w' g s (t + 1) ∧ Keep (Just g) w w' := by
  have hd : decide (4294967295 ≤ t) = false := decide_eq_false (by omega)
  have HH := Lib.hid h
  have HM := Lib.hid (Holds.keep h (Keep.alloc Non w (.cells #[.int .i64 0, .int .i64 0] 49)) (fun h => h))
  have HR := Lib.hid (Holds.new w [.int .i64 0, .int .i64 0] 49)
  have HLT := Lib.hid (Holds.lt h)
  obtain ⟨d0, d1⟩ := Holds.two HM.out
  have f1 := HM.out.frozen 1
  have hw : IntKind.i64.wrap (t + 1) = t + 1 := by rw [IntKind.wrap_i64]; omega
  clear h
  go_enter Try.func46, Try.ntmps46
  go_wp2_with fail
  have HM2 : Hid (Holds ((w.alloc (.cells #[.int .i64 0, .int .i64 0] 49)).setCell ⟨g, 1, none⟩ (.int .i64 (t + 1))) g [.int .i64 s, .int .i64 (t + 1)] 95) := Lib.hid (Holds.set HM.out 1 (.int .i64 (t + 1)) (by simp))
  have HR2 : Hid (Holds ((w.alloc (.cells #[.int .i64 0, .int .i64 0] 49)).setCell ⟨g, 1, none⟩ (.int .i64 (t + 1))) w.heap.size [.int .i64 0, .int .i64 0] 49) := Lib.hid (HR.out.keep (Keep.setCell _ g 1 _) (fun e => by have e : w.heap.size = g := e; have := HLT.out; omega))
  have HK : Hid (Keep (Just g) w ((w.alloc (.cells #[.int .i64 0, .int .i64 0] 49)).setCell ⟨g, 1, none⟩ (.int .i64 (t + 1)))) := Lib.hid ((Keep.alloc (Just g) w _).trans (Keep.setCell _ g 1 _) (fun _ _ h => h))
  clear d0 d1 f1
  generalize (w.alloc (.cells #[.int .i64 0, .int .i64 0] 49)).setCell ⟨g, 1, none⟩ (.int .i64 (t + 1)) = W at *
  obtain ⟨d0, d1⟩ := HM2.out.two
  obtain ⟨r0, r1⟩ := HR2.out.two
  have f0 := HR2.out.frozen 0
  have f1 := HR2.out.frozen 1
  go_still_tail 9, (by kernel_rfl)
  change wpList _ _ _ _ _ (World.drew _)
  go_wp2
  have hF0 : Holds (W.setCell ⟨w.heap.size, 0, none⟩ (.int .i64 (t + 1))) w.heap.size [.int .i64 (t + 1), .int .i64 0] 49 := Holds.set HR2.out 0 (.int .i64 (t + 1)) (by simp)
  have hF : Holds ((W.setCell ⟨w.heap.size, 0, none⟩ (.int .i64 (t + 1))).setCell ⟨w.heap.size, 1, none⟩ (.int .i64 s)) w.heap.size [.int .i64 (t + 1), .int .i64 s] 49 := Holds.set hF0 1 (.int .i64 s) (by simp)
  obtain ⟨q0, q1⟩ := hF.two
  have k1 : Keep (Just w.heap.size) W ((W.setCell ⟨w.heap.size, 0, none⟩ (.int .i64 (t + 1))).setCell ⟨w.heap.size, 1, none⟩ (.int .i64 s)) := (Keep.setCell _ _ 0 _).trans (Keep.setCell _ _ 1 _) (fun _ _ h => h)
  have k2 := k1.trans (Keep.of_grew (grew_drew _) (Just w.heap.size)) (fun _ _ h => h)
  refine bodyPost_ret (v := .tuple #[idV (t + 1, s), .int .i64 0]) (by simp [results, Try.results46, go_sem, idV, q0, q1]) rfl ?_
  refine ⟨rfl, HM2.out.keep k2 (fun e => by have e : g = w.heap.size := e; have := HLT.out; omega), HK.out.trans k2 (fun i hi e => by have e : i = w.heap.size := e; omega)⟩
end Go.Proofs.Yteooganpnmfkbaa
