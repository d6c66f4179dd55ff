/- The walks of CellsWidths, CellsBlocks. -/
import Derived.Test.YtepddieblankpaaDoorCelLive
import Derived.Test.YtepddieblankpaaDoorCelRef
namespace Go.Proofs.YtepddieblankpaaDoor
open Go.RowKit
set_option linter.unusedVariables false

set_option maxHeartbeats 1000000 in
theorem walk_CellsWidths (n : Int) (w : World) (hn : (Lit.int .i64 n).wf = true) (ht : Tab w) :
    Calls Tryd.prog 8 #[.int .i64 n] w fun e w' => e = .returned (.bool true) ∧ Below w.heap.size w w' := by
  have L := Lib.hid (Liv.refl ht)
  have hw : (Cel.wid n == Cel.wid n) = true := by simp
  clear ht hn
  generalize hx : Cel.wid n = x at hw
  have HX := Lib.hid hx
  clear hx
  go_enter Tryd.func8, Tryd.ntmps8
  go_wp2_with fail
  refine (cells_Width n _ L.out.1).mono ?_
  rintro e w1 ⟨rfl, hb⟩
  have L1 := Lib.hid (L.out.next hb)
  clear hb L
  rw [HX.out]
  go_wp2_with fail
  refine (ref20_Width n _).mono ?_
  rintro e w2 ⟨rfl, rfl⟩
  rw [HX.out]
  go_wp2_with fail
  refine (law20_live _ L1.out.1).mono ?_
  rintro e w2 ⟨rfl, hb⟩
  have L2 := Lib.hid (L1.out.next hb)
  clear hb L1
  go_wp2
  go_ret
  exact ⟨rfl, L2.out.2⟩

set_option maxHeartbeats 2000000 in
theorem walk_CellsBlocks (n : Int) (w : World) (hn : (Lit.int .i64 n).wf = true) (ht : Tab w) :
    Calls Tryd.prog 9 #[.int .i64 n] w fun e w' => e = .returned (.bool true) ∧ Below w.heap.size w w' := by
  have L := Lib.hid (Liv.refl ht)
  clear ht hn
  by_cases h1 : n < -10
  · have d1 : decide (n < -10) = true := decide_eq_true h1
    clear h1
    go_enter Tryd.func9, Tryd.ntmps9
    go_wp2_with fail
    refine (law20_live _ L.out.1).mono ?_
    rintro e w2 ⟨rfl, hb⟩
    go_wp2
    go_ret
    exact ⟨rfl, hb⟩
  have d1 : decide (n < -10) = false := decide_eq_false h1
  by_cases h2 : 4608 < n
  · have d2 : decide (4608 < n) = true := decide_eq_true h2
    clear h1 h2
    go_enter Tryd.func9, Tryd.ntmps9
    go_wp2_with fail
    refine (law20_live _ L.out.1).mono ?_
    rintro e w2 ⟨rfl, hb⟩
    go_wp2
    go_ret
    exact ⟨rfl, hb⟩
  have d2 : decide (4608 < n) = false := decide_eq_false h2
  have hlo : -10 ≤ n := by omega
  have hhi : n ≤ 4608 := by omega
  clear h1 h2
  go_enter Tryd.func9, Tryd.ntmps9
  go_wp2
  go_loopw [3] (fun i wr => ∃ k : Nat, k ≤ 256 ∧ i = .int .i64 k ∧ Hid (Liv w wr)) (fun i _ => 256 - (intOf i).toNat)
  case atStart => exact ⟨0, by omega, rfl, L⟩
  case round =>
    obtain ⟨k, hk, rfl, HL⟩ := hrel
    by_cases hlt : k < 256
    · have hdk : decide ((k : Int) < 256) = true := decide_eq_true (by omega)
      have hw1 : wrap64 (256 * n) = 256 * n := IntWalk.wrap64_in _ ⟨by omega, by omega⟩
      have hw2 : wrap64 (256 * n + (k : Int)) = 256 * n + (k : Int) := IntWalk.wrap64_in _ ⟨by omega, by omega⟩
      have hr := Cel.wid_range (256 * n + (k : Int))
      have HO := Lib.hid (@Cel.wid_out (256 * n + (k : Int)))
      have HC := Lib.hid (cells_Width (256 * n + (k : Int)) wr HL.out.1)
      have HD : Hid (∀ w, Calls Tryd.prog 39 #[.int .i64 (256 * n + (k : Int))] w fun e w' => e = .returned (.int .i64 (Cel.wid (256 * n + (k : Int)))) ∧ w = w') := Lib.hid (fun w => ref20_Width _ w)
      generalize Cel.wid (256 * n + (k : Int)) = x at *
      obtain ⟨m, hm⟩ : ∃ m, m = 256 * n + (k : Int) := ⟨_, rfl⟩
      have HM := Lib.hid hm
      rw [← hm] at HO HC HD
      clear hm
      have e1 : (x != x) = false := by simp
      have e2 : decide (x < 0) = false := decide_eq_false (by omega)
      have e3 : decide (2 < x) = false := decide_eq_false (by omega)
      have fin : (decide (m < 32) = true ∧ (x != 0) = false) ∨ (decide (m < 32) = false ∧ decide (1114111 < m) = true ∧ (x != 0) = false) ∨ (decide (m < 32) = false ∧ decide (1114111 < m) = false) := by
        by_cases g1 : m < 32
        · exact .inl ⟨decide_eq_true g1, by rw [HO.out (.inl g1)]; rfl⟩
        · by_cases g2 : 1114111 < m
          · exact .inr (.inl ⟨decide_eq_false g1, decide_eq_true g2, by rw [HO.out (.inr g2)]; rfl⟩)
          · exact .inr (.inr ⟨decide_eq_false g1, decide_eq_false g2⟩)
      clear hr
      rcases fin with ⟨f1, f2⟩ | ⟨f1, f2, f3⟩ | ⟨f1, f2⟩
      all_goals
        go_wp2_with fail
        rw [← HM.out]
        refine HC.out.mono ?_
        rintro e w1 ⟨rfl, hb⟩
        have HL1 := Lib.hid (HL.out.next hb)
        clear hb HC
        go_wp2_with fail
        refine (HD.out _).mono ?_
        rintro e w2 ⟨rfl, rfl⟩
        clear HD
        go_wp2
        go_roundw
        case rel => exact ⟨k + 1, by omega, by go_num, HL1⟩
        case measure => simp [intOf]; omega
    · have hdk : decide ((k : Int) < 256) = false := decide_eq_false (by omega)
      go_wp2_with fail
      refine (law20_live _ HL.out.1).mono ?_
      rintro e w2 ⟨rfl, hb⟩
      go_wp2
      go_ret
      exact ⟨rfl, (HL.out.next hb).2⟩
end Go.Proofs.YtepddieblankpaaDoor
