/- How wide runes are, as the document's answers say it. -/
import Derived.Test.YtepddieblankpaaDoorCelWid
namespace Go.Proofs.YtepddieblankpaaDoor
open Go.RowKit
set_option linter.unusedVariables false

theorem ref20_in (n a b : Int) (w : World) :
    Calls Tryd.prog 59 #[.int .i64 n, .int .i64 a, .int .i64 b] w fun e w' => e = .returned (.bool (Cel.inb n a b)) ∧ w = w' := by
  go_enter Tryd.func59, Tryd.ntmps59
  by_cases h : a ≤ n
  · have hd : decide (a ≤ n) = true := decide_eq_true h
    have HR : Hid (Cel.inb n a b = decide (n ≤ b)) := Lib.hid (by unfold Cel.inb; rw [hd]; rfl)
    clear h
    go_wp2
    go_ret
    exact ⟨by rw [HR.out]; rfl, rfl⟩
  · have hd : decide (a ≤ n) = false := decide_eq_false h
    have HR : Hid (Cel.inb n a b = false) := Lib.hid (by unfold Cel.inb; rw [hd]; rfl)
    clear h
    go_wp2
    go_ret
    exact ⟨by rw [HR.out]; rfl, rfl⟩

set_option maxHeartbeats 4000000 in
theorem ref20_Width (n : Int) (w : World) :
    Calls Tryd.prog 39 #[.int .i64 n] w fun e w' => e = .returned (.int .i64 (Cel.wid n)) ∧ w = w' := by
  have HR := Lib.hid (Cel.wid_ref n)
  have HC : Hid (∀ (a b : Int) (w : World), Calls Tryd.prog 59 #[.int .i64 n, .int .i64 a, .int .i64 b] w fun e w' => e = .returned (.bool (Cel.inb n a b)) ∧ w = w') := Lib.hid (fun a b w => ref20_in n a b w)
  rw [HR.out]
  clear HR
  unfold Cel.ref Cel.none' Cel.two'
  generalize Cel.inb n = p at *
  generalize hp0 : decide (n < 32) = q0
  generalize hp1 : decide (1114111 < n) = q1
  generalize h0 : p 127 159 = x0
  generalize h1 : p 768 879 = x1
  generalize h2 : p 8203 8207 = x2
  generalize h3 : p 8400 8447 = x3
  generalize h4 : p 55296 57343 = x4
  generalize h5 : p 65024 65039 = x5
  generalize h6 : p 65056 65071 = x6
  go_enter Tryd.func39, Tryd.ntmps39
  go_wp2_with (go_at_call 59; refine (HC.out _ _ _).mono ?_; rintro e w' ⟨rfl, rfl⟩)
  all_goals (go_ret; first | exact ⟨rfl, rfl⟩ | (simp_all; done))

set_option maxHeartbeats 1000000 in
theorem ref20_Total (v : Value) (zs : List Int) (w : World) (hv : SliceI w v zs) (hm : zs.length ≤ 1000000000) :
    Calls Tryd.prog 44 #[v] w fun e w' => e = .returned (.int .i64 (Cel.total zs)) ∧ w = w' := by
  have HV := Lib.hid hv
  obtain ⟨a, cap, rfl⟩ := hv.shape
  clear hv
  go_enter Tryd.func44, Tryd.ntmps44
  go_wp2
  go_loopw [3, 4] (fun s i wr => ∃ k : Nat, k ≤ zs.length ∧ i = .int .i64 k ∧ s = .int .i64 (Cel.total (zs.take k)) ∧ w = wr) (fun _ i _ => zs.length - (intOf i).toNat)
  case atStart => exact ⟨0, by omega, rfl, rfl, rfl⟩
  case round =>
    obtain ⟨k, hk, rfl, rfl, rfl⟩ := hrel
    by_cases hlt : k < zs.length
    · have hdk : decide ((k : Int) < (zs.length : Int)) = true := decide_eq_true (by omega)
      have hdn : decide (k < zs.length) = true := by simpa using hlt
      have hik : (k : Int) < (zs.length : Int) := by omega
      obtain ⟨b, off, rfl, hcell⟩ := SliceI.row HV.out hlt
      have HC := Lib.hid (ref20_Width zs[k] w)
      have hr := Cel.wid_range zs[k]
      have hr2 := Cel.total_range (zs.take k)
      have hr3 : (zs.take k).length ≤ zs.length := by rw [List.length_take]; omega
      have HS := Lib.hid (Cel.total_snoc zs hlt)
      generalize Cel.total (zs.take k) = t at *
      generalize Cel.wid zs[k] = wd at *
      generalize zs[k] = x at *
      have hw : wrap64 (t + wd) = t + wd := IntWalk.wrap64_in _ ⟨by omega, by omega⟩
      go_wp2_with (go_at_call 39; refine HC.out.mono ?_; rintro e w' ⟨rfl, rfl⟩)
      go_roundw
      case rel => exact ⟨k + 1, by omega, by go_num, by rw [HS.out], trivial⟩
      case measure => simp [intOf]; omega
    · have hdn : decide (k < zs.length) = false := by simpa using hlt
      have hdk : decide ((k : Int) < (zs.length : Int)) = false := decide_eq_false (by omega)
      have HE : Hid (zs.take k = zs) := Lib.hid (List.take_of_length_le (by omega))
      go_wp2
      go_ret
      exact ⟨by rw [HE.out]; rfl, rfl⟩
end Go.Proofs.YtepddieblankpaaDoor
