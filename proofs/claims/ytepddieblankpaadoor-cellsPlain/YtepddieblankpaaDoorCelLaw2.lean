/- The walks of CellsFits, CellsMost. -/
import Derived.Test.YtepddieblankpaaDoorCelFit
namespace Go.Proofs.YtepddieblankpaaDoor
open Go.RowKit
set_option linter.unusedVariables false

set_option maxHeartbeats 2000000 in
theorem walk_CellsFits (a : Option Addr) (len cap : Nat) (zs : List Int) (n : Int) (w : World) (hr : IsRow .i64 w a len cap zs) (hn : (Lit.int .i64 n).wf = true) (ht : Tab w) :
    Calls Tryd.prog 10 #[.slice a len cap, .int .i64 n] w fun e w' => e = .returned (.bool true) ∧ Below w.heap.size w w' := by
  obtain ⟨ys, hs, rfl, hmx, _⟩ := hr.slice
  unfold maxLen at hmx
  have hcap : ys.length ≤ cap := by
    obtain ⟨_, _, e, hc, _⟩ := hs
    injection e with _ _ e
    omega
  have L := Lib.hid (Liv.refl ht)
  have HV := Lib.hid hs
  clear hr hs ht hn
  by_cases h1 : 200 < ys.length
  · have d1 : decide ((200 : Int) < (ys.length : Int)) = true := decide_eq_true (by omega)
    clear h1
    go_enter Tryd.func10, Tryd.ntmps10
    go_wp2_with fail
    refine (law20_live _ L.out.1).mono ?_
    rintro e w2 ⟨rfl, hb⟩
    go_wp2
    go_ret
    exact ⟨rfl, hb⟩
  have d1 : decide ((200 : Int) < (ys.length : Int)) = false := decide_eq_false (by omega)
  have hlen : ys.length ≤ 1000000000 := by omega
  have HF := Lib.hid (cells_Fit _ ys n w L.out.1 HV.out hlen)
  generalize hp : ((Cel.fit ys n 0 : Nat) : Int) = p at HF
  generalize hq : Cel.total (ys.take (Cel.fit ys n 0)) = q at HF
  have HP := Lib.hid hp
  have HQ := Lib.hid hq
  have e1 : (p == p) = true := by simp
  have e2 : (q == q) = true := by simp
  generalize ht : Cel.total ys = t
  have HT := Lib.hid ht
  have e3 : (t == t) = true := by simp
  clear h1 hp hq ht
  go_enter Tryd.func10, Tryd.ntmps10
  go_wp2_with fail
  refine HF.out.mono ?_
  rintro e w1 ⟨rfl, hb⟩
  have L1 := Lib.hid (L.out.next hb)
  have HV1 := Lib.hid (HV.out.below hb)
  clear hb HF
  go_wp2_with fail
  refine (ref20_Fit _ ys n _ HV1.out hlen).mono ?_
  rintro e w2 ⟨rfl, rfl⟩
  rw [HP.out, HQ.out]
  go_wp2_with fail
  refine (cells_Total _ ys _ L1.out.1 HV1.out hlen).mono ?_
  rintro e w2 ⟨rfl, hb⟩
  have L2 := Lib.hid (L1.out.next hb)
  have HV2 := Lib.hid (HV1.out.below hb)
  clear hb
  rw [HT.out]
  go_wp2_with fail
  refine (ref20_Total _ ys _ HV2.out hlen).mono ?_
  rintro e w3 ⟨rfl, rfl⟩
  rw [HT.out]
  go_wp2_with fail
  refine (law20_live _ L2.out.1).mono ?_
  rintro e wl ⟨rfl, hb⟩
  have LL := Lib.hid (L2.out.next hb)
  clear hb
  go_wp2
  go_ret
  exact ⟨rfl, LL.out.2⟩

set_option maxHeartbeats 4000000 in
theorem walk_CellsMost (a : Option Addr) (len cap : Nat) (zs : List Int) (n : Int) (w : World) (hr : IsRow .i64 w a len cap zs) (hn : (Lit.int .i64 n).wf = true) (ht : Tab w) :
    Calls Tryd.prog 11 #[.slice a len cap, .int .i64 n] w fun e w' => e = .returned (.bool true) ∧ Below w.heap.size w w' := by
  obtain ⟨ys, hs, rfl, hmx, _⟩ := hr.slice
  unfold maxLen at hmx
  have hcap : ys.length ≤ cap := by
    obtain ⟨_, _, e, hc, _⟩ := hs
    injection e with _ _ e
    omega
  have L := Lib.hid (Liv.refl ht)
  have HV := Lib.hid hs
  clear hr hs ht hn
  by_cases h1 : 200 < ys.length
  · have d1 : decide ((200 : Int) < (ys.length : Int)) = true := decide_eq_true (by omega)
    clear h1
    go_enter Tryd.func11, Tryd.ntmps11
    go_wp2_with fail
    refine (law20_live _ L.out.1).mono ?_
    rintro e w2 ⟨rfl, hb⟩
    go_wp2
    go_ret
    exact ⟨rfl, hb⟩
  have d1 : decide ((200 : Int) < (ys.length : Int)) = false := decide_eq_false (by omega)
  have hlen : ys.length ≤ 1000000000 := by omega
  have HF := Lib.hid (cells_Fit _ ys n w L.out.1 HV.out hlen)
  have hfl := (Cel.fit_le ys n 0 (by omega)).2
  have HM : Hid (0 ≤ n → Cel.total (ys.take (Cel.fit ys n 0)) ≤ n) := Lib.hid (fun h => Cel.fit_most ys n 0 (by simpa [Cel.total_nil] using h))
  have HL : Hid (∀ h : Cel.fit ys n 0 < ys.length, n < Cel.total (ys.take (Cel.fit ys n 0 + 1))) := Lib.hid (fun h => Cel.fit_more ys n 0 h)
  generalize Cel.fit ys n 0 = f at *
  have HS := Lib.hid (nums_front HV.out (n := f) hfl)
  have hle : (ys.take f).length ≤ 1000000000 := by rw [List.length_take]; omega
  generalize hq : Cel.total (ys.take f) = q at *
  have HQ := Lib.hid hq
  have e0 : decide ((f : Int) < 0) = false := decide_eq_false (by omega)
  have e1 : decide ((ys.length : Int) < (f : Int)) = false := decide_eq_false (by omega)
  have e2 : (q != q) = false := by simp
  have hfc : f ≤ cap := by omega
  clear h1 hq
  go_enter Tryd.func11, Tryd.ntmps11
  go_wp2_with fail
  refine HF.out.mono ?_
  rintro e w1 ⟨rfl, hb⟩
  have L1 := Lib.hid (L.out.next hb)
  have HV1 := Lib.hid (HV.out.below hb)
  have HS1 := Lib.hid (HS.out.below hb)
  clear hb HF
  go_wp2_with fail
  refine (cells_Total _ _ _ L1.out.1 HS1.out hle).mono ?_
  rintro e w2 ⟨rfl, hb⟩
  have L2 := Lib.hid (L1.out.next hb)
  have HV2 := Lib.hid (HV1.out.below hb)
  clear hb hle HS HS1
  rw [HQ.out]
  by_cases hneg : n < 0
  · have g1 : decide (0 ≤ n) = false := decide_eq_false (by omega)
    have g2 : decide (n < 0) = true := decide_eq_true hneg
    clear hneg
    by_cases hfe : f < ys.length
    · have g3 : decide ((f : Int) < (ys.length : Int)) = true := decide_eq_true (by omega)
      go_wp2_with fail
      refine (law20_live _ L2.out.1).mono ?_
      rintro e wl ⟨rfl, hb⟩
      have LL := Lib.hid (L2.out.next hb)
      clear hb
      go_wp2
      go_ret
      exact ⟨rfl, LL.out.2⟩
    · have g3 : decide ((f : Int) < (ys.length : Int)) = false := decide_eq_false (by omega)
      go_wp2_with fail
      refine (law20_live _ L2.out.1).mono ?_
      rintro e wl ⟨rfl, hb⟩
      have LL := Lib.hid (L2.out.next hb)
      clear hb
      go_wp2
      go_ret
      exact ⟨rfl, LL.out.2⟩
  · have g1 : decide (0 ≤ n) = true := decide_eq_true (by omega)
    have g2 : decide (n < 0) = false := decide_eq_false hneg
    have hqn := HM.out (by omega)
    have g4 : decide (n < q) = false := decide_eq_false (by omega)
    by_cases hfe : f < ys.length
    · have g3 : decide ((f : Int) < (ys.length : Int)) = true := decide_eq_true (by omega)
      have HS := Lib.hid (nums_front HV2.out (n := f + 1) hfe)
      have hle : (ys.take (f + 1)).length ≤ 1000000000 := by rw [List.length_take]; omega
      have hmo := HL.out hfe
      have HC := Lib.hid (cells_Total _ _ _ L2.out.1 HS.out hle)
      generalize Cel.total (ys.take (f + 1)) = t at *
      have g5 : decide (n < t) = true := decide_eq_true hmo
      have hwr : wrap64 ((f : Int) + 1) = ((f + 1 : Nat) : Int) := by rw [IntWalk.wrap64_in _ ⟨by omega, by omega⟩]; omega
      have hf1 : f + 1 ≤ cap := by omega
      clear hmo hqn hneg hle
      go_wp2_with fail
      refine HC.out.mono ?_
      rintro e w3 ⟨rfl, hb⟩
      have L3 := Lib.hid (L2.out.next hb)
      clear hb
      go_wp2_with fail
      refine (law20_live _ L3.out.1).mono ?_
      rintro e wl ⟨rfl, hb⟩
      have LL := Lib.hid (L3.out.next hb)
      clear hb
      go_wp2
      go_ret
      exact ⟨rfl, LL.out.2⟩
    · have g3 : decide ((f : Int) < (ys.length : Int)) = false := decide_eq_false (by omega)
      have HQ2 : Hid (Cel.total ys = q) := Lib.hid (by rw [← HQ.out, List.take_of_length_le (by omega)])
      have g5 : decide (q ≤ n) = true := decide_eq_true hqn
      clear hqn hneg
      go_wp2_with fail
      refine (cells_Total _ ys _ L2.out.1 HV2.out hlen).mono ?_
      rintro e w3 ⟨rfl, hb⟩
      have L3 := Lib.hid (L2.out.next hb)
      clear hb
      rw [HQ2.out]
      go_wp2_with fail
      refine (law20_live _ L3.out.1).mono ?_
      rintro e wl ⟨rfl, hb⟩
      have LL := Lib.hid (L3.out.next hb)
      clear hb
      go_wp2
      go_ret
      exact ⟨rfl, LL.out.2⟩
end Go.Proofs.YtepddieblankpaaDoor
