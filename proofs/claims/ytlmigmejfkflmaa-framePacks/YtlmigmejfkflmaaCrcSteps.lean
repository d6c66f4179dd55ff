/- What the table of crcs comes to. -/
import Derived.Test.YtlmigmejfkflmaaCrcStep
namespace Go.Proofs.Ytlmigmejfkflmaa
open Go.RowKit
set_option linter.unusedVariables false

/-- A table's row: four steps of the sum whose highest bits are k. -/
def tabV (k : Nat) : BitVec 24 := Crc.iter 4 (BitVec.ofNat 24 (k * 1048576))

def tabRow (k i : Nat) : Int := if i < k then ((tabV i).toNat : Int) else 0
def tabArr (k : Nat) : Array Value := Array.ofFn fun i : Fin 16 => Value.int .i64 (tabRow k i.val)

theorem iter_succ (n : Nat) (x : BitVec 24) : Crc.iter (n + 1) x = Crc.step0 (Crc.iter n x) := by
  induction n generalizing x with
  | zero => rfl
  | succ n ih => show Crc.iter (n + 1) (Crc.step0 x) = _; rw [ih]; rfl

theorem tab_start (k : Nat) (h : k < 16) : Value.int .i64 ((k : Int) * 1048576) = .int .i64 ((Crc.iter 0 (BitVec.ofNat 24 (k * 1048576))).toNat : Int) := by
  show _ = Value.int .i64 ((BitVec.ofNat 24 (k * 1048576)).toNat : Int)
  rw [BitVec.toNat_ofNat, Nat.mod_eq_of_lt (by omega)]
  simp

theorem tab_size (k : Nat) : (tabArr k).size = 16 := by simp [tabArr]

theorem tab_set (k : Nat) (h : k < 16) : (tabArr k).setIfInBounds k (Value.int .i64 ((Crc.iter 4 (BitVec.ofNat 24 (k * 1048576))).toNat : Int)) = tabArr (k + 1) := by
  apply Array.ext
  · simp [tabArr]
  · intro i h1 h2
    have hi : i < 16 := by simpa [tabArr] using h2
    rw [Array.getElem_setIfInBounds (by simp [tabArr]; omega)]
    by_cases e : k = i
    · subst e
      simp [tabArr, tabRow, tabV]
    · rw [if_neg e]
      have e2 : (i < k + 1) = (i < k) := by simp; omega
      simp [tabArr, tabRow, e2]

theorem setRow_two (w : World) (old cs : Array Value) (t : TypeId) (B : Obj) : ((w.alloc (.cells old t)).alloc B).setRow w.heap.size cs = (w.alloc (.cells cs t)).alloc B := by
  unfold World.setRow World.alloc
  simp only [World.mk.injEq, and_true]
  apply Array.ext
  · simp
  · intro i h1 h2
    rw [Array.getElem_modify]
    simp only [Array.size_modify, Array.size_push] at h1
    by_cases e : w.heap.size = i
    · subst e; simp [Array.getElem_push]
    · rw [if_neg e]
      simp only [Array.getElem_push, Array.size_push]
      by_cases e2 : i < w.heap.size + 1
      · rw [dif_pos e2, dif_pos e2, dif_pos (by omega), dif_pos (by omega)]
      · rw [dif_neg e2, dif_neg e2]

theorem tab_one : (tabArr 16).all (·.oneCell') = true := by kernel_rfl

set_option maxHeartbeats 1000000 in
theorem crcs_steps (w : World) :
    Calls Try.prog 35 #[] w fun e w' => e = .returned (.agg (tabArr 16)) ∧ w' = (w.alloc (.cells (tabArr 16) 56)).alloc (.cells (tabArr 16) 56) := by
  go_enter Try.func35, Try.ntmps35
  go_wp2
  go_loopw [4] (fun v4 wr => ∃ k : Nat, k ≤ 16 ∧ v4 = .int .i64 k ∧ wr = (w.alloc (.cells (tabArr 0) 56)).alloc (.cells (tabArr k) 56))
    (fun v4 _ => 16 - (intOf v4).toNat)
  case atStart => exact ⟨0, by omega, rfl, rfl⟩
  case round =>
    obtain ⟨k, hk, rfl, rfl⟩ := hrel
    have hsz := tab_size k
    by_cases hlt : k < 16
    · have hd : decide ((k : Int) < 16) = true := by simp; omega
      go_wp2
      go_loop [3, 9] (fun s j => ∃ m : Nat, m ≤ 4 ∧ j = .int .i64 m ∧ s = .int .i64 ((Crc.iter m (BitVec.ofNat 24 (k * 1048576))).toNat : Int)) (fun _ j => 4 - (intOf j).toNat)
      case atStart => exact ⟨0, by omega, rfl, tab_start k hlt⟩
      case round =>
        obtain ⟨m, hm, rfl, rfl⟩ := hrel
        by_cases hlt4 : m < 4
        · have hd4 : decide ((m : Int) < 4) = true := by simp; omega
          go_wp2_with (go_at_call 41; refine (crcs_step _ _).mono ?_; rintro e w' ⟨rfl, rfl⟩)
          go_round
          case rel => exact ⟨m + 1, by omega, by go_num, by rw [iter_succ]⟩
          case measure => simp [intOf]; omega
        · have hm4 : m = 4 := by omega
          subst hm4
          clear hlt4
          go_wp2
          go_roundw
          case rel => exact ⟨k + 1, by omega, by go_num, by rw [tab_set k hlt]⟩
          case measure => simp [intOf]; omega
    · have h16 : k = 16 := by omega
      subst h16
      clear hlt
      go_wp2_with (first | (refine wpList_load_row rfl 56 _ rfl (w.heap.size + 1) rfl 56 (tabArr 16) (0, 0) _ (heap_alloc2_new _ _ _) Try.underlying56 rfl (by rw [tab_size]; kernel_rfl) ?_) | (refine wpList_store_row rfl 56 _ _ rfl w.heap.size (tabArr 16) rfl rfl 56 (tabArr 0) (heap_alloc2_old _ _ _) (by rw [tab_size]; kernel_rfl) (by rw [tab_size, tab_size]) tab_one ?_) | fail)
      rw [setRow_two]
      exact bodyPost_ret (results_cell_row rfl _ _ w.heap.size 56 (tabArr 16) (0, 0) _ rfl (heap_alloc2_old _ _ _) Try.underlying56 rfl (by rw [tab_size]; kernel_rfl)) rfl ⟨rfl, rfl⟩
end Go.Proofs.Ytlmigmejfkflmaa
