/- The document's sign of a rune that may stand in a text. -/
import Derived.Test.YtepddieblankpaaDoorSeSk
import Derived.Laws.Cover4
namespace Go.Proofs.YtepddieblankpaaDoor
open Go.RowKit
set_option linter.unusedVariables false

theorem conv_litv (W : World) (g cap : Nat) (cs : Array Value) (l : List UInt8) (hg : W.heap[g]? = some (.cells cs 5 (0, 0))) (h : ∀ j (hj : j < l.length), cs[j]? = some (.int .u8 (l[j].toNat : Int))) :
    (convert 80 9 (.slice (some ⟨g, 0, none⟩) l.length cap)).run Tryd.prog W = .ok (.string ⟨l.toArray⟩) W :=
  run_convert_bytes_back (P := Tryd.prog) W 80 9 5 ⟨g, 0, none⟩ cap l Tryd.underlying80 Tryd.underlying5 Tryd.underlying9 (fun j hj => by
    rw [show (⟨g, 0, none⟩ : Addr).add j = ⟨g, j, none⟩ from by unfold Addr.add; split <;> simp_all, cell_of_row _ _ _ _ _ _ hg]
    exact h j hj)
theorem u8n (n : Nat) (h : n < 256) : ((UInt8.ofNat n).toNat : Int) = n := by
  rw [UInt8.toNat_ofNat']
  omega
theorem Srch.valid_nat {n : Nat} (h : n < 55296 ∨ (57344 ≤ n ∧ n ≤ 1114111)) : Utf8.valid (n : Int) = true := by
  unfold Utf8.valid
  simp
  omega
theorem sign_1 (w : World) (n : Nat) (h : n < 128) : (convert 80 9 (.slice (some ⟨w.heap.size, 0, none⟩) 1 1)).run Tryd.prog (w.alloc (.cells #[.int .u8 (n : Int)] 5)) = .ok (.string (Utf8.encode n)) (w.alloc (.cells #[.int .u8 (n : Int)] 5)) := by
  have e : Utf8.encode (n : Int) = ⟨[UInt8.ofNat n].toArray⟩ := by
    unfold Utf8.encode
    simp only [Srch.valid_nat (.inl (show n < 55296 by omega)), if_true, Int.toNat_natCast]
    rw [if_pos (by omega)]
  rw [e]
  refine conv_litv _ _ 1 _ [UInt8.ofNat n] (heap_alloc_new _ _) (fun j hj => ?_)
  match j, hj with
  | 0, _ => show some _ = some _; rw [List.getElem_cons_zero, u8n n (by omega)]; rfl
theorem sign_2 (w : World) (n : Nat) (h : 128 ≤ n ∧ n < 2048) : (convert 80 9 (.slice (some ⟨w.heap.size, 0, none⟩) 2 2)).run Tryd.prog (w.alloc (.cells #[.int .u8 (192 + (n : Int) / 64), .int .u8 (128 + (n : Int) % 64)] 5)) = .ok (.string (Utf8.encode n)) (w.alloc (.cells #[.int .u8 (192 + (n : Int) / 64), .int .u8 (128 + (n : Int) % 64)] 5)) := by
  have e : Utf8.encode (n : Int) = ⟨[UInt8.ofNat (192 + n / 64), UInt8.ofNat (128 + n % 64)].toArray⟩ := by
    unfold Utf8.encode
    simp only [Srch.valid_nat (.inl (show n < 55296 by omega)), if_true, Int.toNat_natCast]
    rw [if_neg (by omega), if_pos (by omega)]
  rw [e]
  refine conv_litv _ _ 2 _ [UInt8.ofNat (192 + n / 64), UInt8.ofNat (128 + n % 64)] (heap_alloc_new _ _) (fun j hj => ?_)
  match j, hj with
  | 0, _ => show some _ = some _; rw [List.getElem_cons_zero, u8n _ (by omega)]; rfl
  | 1, _ => show some _ = some _; rw [List.getElem_cons_succ, List.getElem_cons_zero, u8n _ (by omega)]; rfl
theorem sign_3 (w : World) (n : Nat) (h : 2048 ≤ n ∧ n < 65536) (hv : n < 55296 ∨ 57344 ≤ n) : (convert 80 9 (.slice (some ⟨w.heap.size, 0, none⟩) 3 3)).run Tryd.prog (w.alloc (.cells #[.int .u8 (224 + (n : Int) / 4096), .int .u8 (128 + (n : Int) / 64 % 64), .int .u8 (128 + (n : Int) % 64)] 5)) = .ok (.string (Utf8.encode n)) (w.alloc (.cells #[.int .u8 (224 + (n : Int) / 4096), .int .u8 (128 + (n : Int) / 64 % 64), .int .u8 (128 + (n : Int) % 64)] 5)) := by
  have e : Utf8.encode (n : Int) = ⟨[UInt8.ofNat (224 + n / 4096), UInt8.ofNat (128 + n / 64 % 64), UInt8.ofNat (128 + n % 64)].toArray⟩ := by
    unfold Utf8.encode
    simp only [Srch.valid_nat (show n < 55296 ∨ (57344 ≤ n ∧ n ≤ 1114111) by omega), if_true, Int.toNat_natCast]
    rw [if_neg (by omega), if_neg (by omega), if_pos (by omega)]
  rw [e]
  refine conv_litv _ _ 3 _ [UInt8.ofNat (224 + n / 4096), UInt8.ofNat (128 + n / 64 % 64), UInt8.ofNat (128 + n % 64)] (heap_alloc_new _ _) (fun j hj => ?_)
  match j, hj with
  | 0, _ => show some _ = some _; rw [List.getElem_cons_zero, u8n _ (by omega)]; rfl
  | 1, _ => show some _ = some _; rw [List.getElem_cons_succ, List.getElem_cons_zero, u8n _ (by omega)]; rfl
  | 2, _ => show some _ = some _; rw [List.getElem_cons_succ, List.getElem_cons_succ, List.getElem_cons_zero, u8n _ (by omega)]; rfl
theorem sign_4 (w : World) (n : Nat) (h : 65536 ≤ n ∧ n ≤ 1114111) : (convert 80 9 (.slice (some ⟨w.heap.size, 0, none⟩) 4 4)).run Tryd.prog (w.alloc (.cells #[.int .u8 (240 + (n : Int) / 262144), .int .u8 (128 + (n : Int) / 4096 % 64), .int .u8 (128 + (n : Int) / 64 % 64), .int .u8 (128 + (n : Int) % 64)] 5)) = .ok (.string (Utf8.encode n)) (w.alloc (.cells #[.int .u8 (240 + (n : Int) / 262144), .int .u8 (128 + (n : Int) / 4096 % 64), .int .u8 (128 + (n : Int) / 64 % 64), .int .u8 (128 + (n : Int) % 64)] 5)) := by
  have e : Utf8.encode (n : Int) = ⟨[UInt8.ofNat (240 + n / 262144), UInt8.ofNat (128 + n / 4096 % 64), UInt8.ofNat (128 + n / 64 % 64), UInt8.ofNat (128 + n % 64)].toArray⟩ := by
    unfold Utf8.encode
    simp only [Srch.valid_nat (show n < 55296 ∨ (57344 ≤ n ∧ n ≤ 1114111) by omega), if_true, Int.toNat_natCast]
    rw [if_neg (by omega), if_neg (by omega), if_neg (by omega)]
  rw [e]
  refine conv_litv _ _ 4 _ [UInt8.ofNat (240 + n / 262144), UInt8.ofNat (128 + n / 4096 % 64), UInt8.ofNat (128 + n / 64 % 64), UInt8.ofNat (128 + n % 64)] (heap_alloc_new _ _) (fun j hj => ?_)
  match j, hj with
  | 0, _ => show some _ = some _; rw [List.getElem_cons_zero, u8n _ (by omega)]; rfl
  | 1, _ => show some _ = some _; rw [List.getElem_cons_succ, List.getElem_cons_zero, u8n _ (by omega)]; rfl
  | 2, _ => show some _ = some _; rw [List.getElem_cons_succ, List.getElem_cons_succ, List.getElem_cons_zero, u8n _ (by omega)]; rfl
  | 3, _ => show some _ = some _; rw [List.getElem_cons_succ, List.getElem_cons_succ, List.getElem_cons_succ, List.getElem_cons_zero, u8n _ (by omega)]; rfl
set_option maxRecDepth 100000 in
set_option maxHeartbeats 1000000 in
theorem ref12_Sign (m : Nat) (hok : Ut.Ok m) (w : World) : Calls Tryd.prog 57 #[.int .i64 (m : Int)] w fun e w' => e = .returned (.string (Utf8.encode m)) ∧ Below w.heap.size w w' := by
  unfold Ut.Ok at hok
  have d0 : decide ((m : Int) < 0) = false := decide_eq_false (by omega)
  have d1 : decide ((1114111 : Int) < (m : Int)) = false := decide_eq_false (by omega)
  by_cases h2 : 55296 ≤ m
  · have d2 : decide ((55296 : Int) ≤ (m : Int)) = true := decide_eq_true (by omega)
    have d3 : decide ((m : Int) ≤ 57343) = false := decide_eq_false (by omega)
    have d4 : decide ((m : Int) < 128) = false := decide_eq_false (by omega)
    have d5 : decide ((m : Int) < 2048) = false := decide_eq_false (by omega)
    by_cases h4 : m < 65536
    · have d6 : decide ((m : Int) < 65536) = true := decide_eq_true (by omega)
      have hcv := sign_3 w m (by omega) (by omega)
      go_enter Tryd.func57, Tryd.ntmps57
      go_wp2
      go_ret
      exact ⟨rfl, grew_alloc _ _⟩
    · have d6 : decide ((m : Int) < 65536) = false := decide_eq_false (by omega)
      have hcv := sign_4 w m (by omega)
      go_enter Tryd.func57, Tryd.ntmps57
      go_wp2
      go_ret
      exact ⟨rfl, grew_alloc _ _⟩
  · have d2 : decide ((55296 : Int) ≤ (m : Int)) = false := decide_eq_false (by omega)
    by_cases h4 : m < 128
    · have d4 : decide ((m : Int) < 128) = true := decide_eq_true (by omega)
      have hcv := sign_1 w m h4
      go_enter Tryd.func57, Tryd.ntmps57
      go_wp2
      go_ret
      exact ⟨rfl, grew_alloc _ _⟩
    · have d4 : decide ((m : Int) < 128) = false := decide_eq_false (by omega)
      by_cases h5 : m < 2048
      · have d5 : decide ((m : Int) < 2048) = true := decide_eq_true (by omega)
        have hcv := sign_2 w m (by omega)
        go_enter Tryd.func57, Tryd.ntmps57
        go_wp2
        go_ret
        exact ⟨rfl, grew_alloc _ _⟩
      · have d5 : decide ((m : Int) < 2048) = false := decide_eq_false (by omega)
        have d6 : decide ((m : Int) < 65536) = true := decide_eq_true (by omega)
        have hcv := sign_3 w m (by omega) (by omega)
        go_enter Tryd.func57, Tryd.ntmps57
        go_wp2
        go_ret
        exact ⟨rfl, grew_alloc _ _⟩
theorem ref04_Rune (n : Int) (w : World) : Calls Tryd.prog 50 #[.int .i64 n] w fun e w' => e = .returned (.bool (Mesg.rune n)) ∧ w = w' := by
  go_enter Tryd.func50, Tryd.ntmps50
  go_wp2
  all_goals go_ret
  all_goals exact ⟨ret_bool (by rw [Bool.eq_iff_iff]; simp [Mesg.rune]; try omega), rfl⟩
end Go.Proofs.YtepddieblankpaaDoor
