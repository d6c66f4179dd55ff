/- What fits, as the document's answer says it; the walks of CellsFits, CellsMost. -/
import Derived.Test.YtepddieblankpaaDoorCelLive
import Derived.Test.YtepddieblankpaaDoorCelRef
namespace Go.Proofs.YtepddieblankpaaDoor
open Go.RowKit
set_option linter.unusedVariables false

set_option maxHeartbeats 2000000 in
theorem ref20_Fit (v : Value) (zs : List Int) (most : Int) (w : World) (hv : SliceI w v zs) (hm : zs.length ≤ 1000000000) :
    Calls Tryd.prog 42 #[v, .int .i64 most] w fun e w' => e = .returned (.tuple #[.int .i64 (Cel.fit zs most 0 : Nat), .int .i64 (Cel.total (zs.take (Cel.fit zs most 0)))]) ∧ w = w' := by
  by_cases h0 : most < 0
  · have hd : decide (most < 0) = true := decide_eq_true h0
    have HR := Lib.hid (Cel.fit_neg zs h0)
    clear hv h0
    go_enter Tryd.func42, Tryd.ntmps42
    go_wp2
    go_ret2
    exact ⟨by rw [HR.out]; rfl, rfl⟩
  have hd : decide (most < 0) = false := decide_eq_false h0
  have HV := Lib.hid hv
  have HI : Hid (∀ i, i ≤ zs.length → (Cel.total (zs.take i) ≤ most ↔ i ≤ Cel.fit zs most 0)) := Lib.hid (fun i hi => Cel.fit_iff zs (by omega) hi)
  have hf := (Cel.fit_le zs most 0 (by omega)).2
  obtain ⟨a, cap, rfl⟩ := hv.shape
  have hcap : zs.length ≤ cap := by
    obtain ⟨_, _, e, hc, _⟩ := hv
    injection e with _ _ e
    omega
  generalize hF : Cel.fit zs most 0 = f at *
  have HF := Lib.hid hF
  clear hv h0 hF
  go_enter Tryd.func42, Tryd.ntmps42
  go_wp2
  go_loopw [6, 7] (fun s i wr => ∃ m : Nat, m ≤ zs.length ∧ i = .int .i64 ((m + 1 : Nat) : Int) ∧ s = .int .i64 (min m f : Nat) ∧ w = wr) (fun _ i _ => zs.length + 1 - (intOf i).toNat)
  case atStart => exact ⟨0, by omega, rfl, by simp, rfl⟩
  case round =>
    obtain ⟨m, hm2, rfl, rfl, rfl⟩ := hrel
    by_cases hlt : m < zs.length
    · have hdk : decide (((m + 1 : Nat) : Int) ≤ (zs.length : Int)) = true := decide_eq_true (by omega)
      have hmc : m + 1 ≤ cap := by omega
      have HS := Lib.hid (nums_front HV.out (n := m + 1) hlt)
      have hle : (zs.take (m + 1)).length ≤ 1000000000 := by rw [List.length_take]; omega
      have HC := Lib.hid (ref20_Total _ _ w HS.out hle)
      have HI2 := Lib.hid (HI.out (m + 1) hlt)
      generalize Cel.total (zs.take (m + 1)) = t at HC HI2
      have hwr : wrap64 (((m + 1 : Nat) : Int) + 1) = ((m + 1 + 1 : Nat) : Int) := by rw [IntWalk.wrap64_in _ ⟨by omega, by omega⟩]; omega
      obtain ⟨n, hn⟩ : ∃ n, n = m + 1 := ⟨_, rfl⟩
      have HN := Lib.hid hn
      rw [← hn] at hdk hmc HC hwr
      have hnl : n ≤ zs.length := by omega
      rw [← hn]
      clear hle
      by_cases ht : t ≤ most
      · have e1 : decide (t ≤ most) = true := decide_eq_true ht
        have HR : Hid ((n : Int) = ((min n f : Nat) : Int)) := Lib.hid (by have := HI2.out.1 ht; omega)
        clear ht hn
        go_wp2_with (go_at_call 44; refine HC.out.mono ?_; rintro e w1 ⟨rfl, rfl⟩)
        go_roundw
        case rel => exact ⟨n, by omega, by first | rfl | (rw [hwr]; rfl), by rw [HR.out], trivial⟩
        case measure => simp [intOf]; omega
      · have e1 : decide (t ≤ most) = false := decide_eq_false ht
        have HR : Hid (((min m f : Nat) : Int) = ((min n f : Nat) : Int)) := Lib.hid (by
          have : ¬ m + 1 ≤ f := fun g => ht (HI2.out.2 g)
          omega)
        clear ht hn
        go_wp2_with (go_at_call 44; refine HC.out.mono ?_; rintro e w1 ⟨rfl, rfl⟩)
        go_roundw
        case rel => exact ⟨n, by omega, by first | rfl | (rw [hwr]; rfl), by rw [HR.out], trivial⟩
        case measure => simp [intOf]; omega
    · have hdk : decide (((m + 1 : Nat) : Int) ≤ (zs.length : Int)) = false := decide_eq_false (by omega)
      have hmf : min m f = f := by omega
      rw [hmf]
      have HS := Lib.hid (nums_front HV.out (n := f) hf)
      have hle : (zs.take f).length ≤ 1000000000 := by rw [List.length_take]; omega
      have HC := Lib.hid (ref20_Total _ _ w HS.out hle)
      have hfc : f ≤ cap := by omega
      have HX : Hid (Cel.total (zs.take f) = Cel.total (zs.take (Cel.fit zs most 0))) := Lib.hid (by rw [HF.out])
      clear hle hmf
      go_wp2_with (go_at_call 44; refine HC.out.mono ?_; rintro e w1 ⟨rfl, rfl⟩)
      go_ret2
      exact ⟨by first | rfl | (rw [HF.out]; rfl), rfl⟩
end Go.Proofs.YtepddieblankpaaDoor
