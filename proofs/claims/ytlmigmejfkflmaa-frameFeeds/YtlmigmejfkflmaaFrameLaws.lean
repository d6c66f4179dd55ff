/- The walks of FrameNil, FramePlain and FrameShared. -/
import Derived.Test.YtlmigmejfkflmaaFrameLive
namespace Go.Proofs.Ytlmigmejfkflmaa
open Go.RowKit
set_option linter.unusedVariables false

theorem frame_Feed_nil (s : ByteArray) (w : World) : Calls Try.prog 16 #[.pointer none, .string s] w fun e w' => e = .returned (.slice none 0 0) ∧ w = w' := by
  go_enter Try.func16, Try.ntmps16
  go_wp2
  go_ret
  exact ⟨rfl, rfl⟩
theorem frame_Bad_nil (w : World) : Calls Try.prog 18 #[.pointer none] w fun e w' => e = .returned (.int .i64 0) ∧ w = w' := by
  go_enter Try.func18, Try.ntmps18
  go_wp2
  go_ret
  exact ⟨rfl, rfl⟩

set_option maxHeartbeats 1000000 in
theorem walk_FrameNil (s : ByteArray) (w : World) (hs : s.size ≤ maxLen) :
    Calls Try.prog 5 #[.string s] w fun e w' => e = .returned (.bool true) ∧ Below w.heap.size w w' := by
  unfold maxLen at hs
  by_cases h : s.size ≤ 3000
  · have hd : decide ((3000 : Int) < (s.size : Int)) = false := by simp; omega
    go_enter Try.func5, Try.ntmps5
    go_wp2_with fail
    refine (frame_Feed_nil s _).mono ?_
    rintro e w' ⟨rfl, rfl⟩
    go_wp2_with fail
    refine (frame_Bad_nil _).mono ?_
    rintro e w' ⟨rfl, rfl⟩
    go_wp2_with fail
    refine (law03_live _).mono ?_
    rintro e w3 ⟨rfl, hb3⟩
    go_wp2
    go_ret
    exact ⟨rfl, hb3⟩
  · have hd : decide ((3000 : Int) < (s.size : Int)) = true := by simp; omega
    go_enter Try.func5, Try.ntmps5
    go_wp2_with fail
    refine (law03_live _).mono ?_
    rintro e w3 ⟨rfl, hb3⟩
    go_wp2
    go_ret
    exact ⟨rfl, hb3⟩

theorem frameS_size (s : ByteArray) : (frameS s).size = (Frame.frame s.data.toList).length := by rw [← size_list, frameS_data]
theorem frameS_len (s : ByteArray) : s.size + 5 ≤ (frameS s).size ∧ (frameS s).size ≤ 2 * s.size + 8 := by
  have h1 := Frame.frame_len s.data.toList
  have h2 := Frame.stuff_len (Frame.sealed s.data.toList)
  have h3 := Frame.sealed_len s.data.toList
  rw [frameS_size]
  rw [size_list] at h3
  omega
theorem frameS_at (s : ByteArray) (i : Nat) (h : i < (frameS s).size) : (frameS s)[i] = (Frame.frame s.data.toList)[i]'(by rw [← frameS_size]; exact h) := by
  rw [← data_at _ _ h]
  simp only [frameS_data]

set_option maxHeartbeats 1000000 in
theorem walk_FramePlain (s : ByteArray) (w : World) (hs : s.size ≤ maxLen) :
    Calls Try.prog 8 #[.string s] w fun e w' => e = .returned (.bool true) ∧ Below w.heap.size w w' := by
  unfold maxLen at hs
  by_cases h : s.size ≤ 2000
  · have hd : decide ((2000 : Int) < (s.size : Int)) = false := by simp; omega
    obtain ⟨hl1, hl2⟩ := frameS_len s
    have hfirst : (frameS s)[0] = 126 := by rw [frameS_at]; rfl
    have hlast : (frameS s)[(frameS s).size - 1] = 126 := by
      rw [frameS_at]
      have e : Frame.frame s.data.toList = (126 :: Frame.stuff (Frame.sealed s.data.toList)) ++ [126] := rfl
      have hz := frameS_size s
      simp only [hz, e]
      simp
    have HBT : Hid (∀ i (h0 : 1 ≤ i) (h1 : i + 1 < (frameS s).size), (frameS s)[i] ≠ 126) := Lib.hid (fun i h0 h1 => by
      rw [frameS_at]
      exact Frame.frame_between _ i h0 (by rw [← frameS_size]; exact h1))
    have d1 : decide (((frameS s).size : Int) < (s.size : Int) + 5) = false := by simp; omega
    have d2 : decide (2 * (s.size : Int) + 8 < ((frameS s).size : Int)) = false := by simp; omega
    have d3 : (((frameS s)[0].toNat : Int) != 126) = false := by have := byte_is hfirst; simpa [bne] using this
    have d4 : (((frameS s)[(frameS s).size - 1].toNat : Int) != 126) = false := by have := byte_is hlast; simpa [bne] using this
    clear hfirst hlast
    go_enter Try.func8, Try.ntmps8
    go_wp2_with fail
    refine (frame_Pack_yes s _ h).mono ?_
    rintro e w1 ⟨rfl, hb1⟩
    go_wp2
    go_loop [5] (fun i => ∃ k : Nat, 1 ≤ k ∧ k + 1 ≤ (frameS s).size ∧ i = .int .i64 k) (fun i => (frameS s).size - (intOf i).toNat)
    case atStart => exact ⟨1, by omega, by omega, rfl⟩
    case round =>
      obtain ⟨k, hk0, hk1, rfl⟩ := hrel
      by_cases hlt : k + 1 < (frameS s).size
      · have hdk : decide ((k : Int) + 1 < ((frameS s).size : Int)) = true := by simp; omega
        have hne := HBT.out k hk0 hlt
        have dne : (((frameS s)[k].toNat : Int) == 126) = false := byte_not hne
        clear hne
        go_wp2
        go_round
        case rel => exact ⟨k + 1, by omega, by omega, by go_num⟩
        case measure => simp [intOf]; omega
      · have hdk : decide ((k : Int) + 1 < ((frameS s).size : Int)) = false := by simp; omega
        go_wp2_with fail
        refine (law03_live _).mono ?_
        rintro e w3 ⟨rfl, hb3⟩
        go_wp2
        go_ret
        exact ⟨rfl, grew hb1 hb3⟩
  · have hd : decide ((2000 : Int) < (s.size : Int)) = true := by simp; omega
    go_enter Try.func8, Try.ntmps8
    go_wp2_with fail
    refine (law03_live _).mono ?_
    rintro e w3 ⟨rfl, hb3⟩
    go_wp2
    go_ret
    exact ⟨rfl, hb3⟩
end Go.Proofs.Ytlmigmejfkflmaa
