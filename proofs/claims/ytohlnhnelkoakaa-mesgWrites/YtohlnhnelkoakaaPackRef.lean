/- What the document's own answers of layer 1 come to: Num. -/
import Derived.Test.YtohlnhnelkoakaaPackList
namespace Go.Proofs.Ytohlnhnelkoakaa
open Go.RowKit
set_option linter.unusedVariables false

theorem conv_lit (W : World) (g off cap : Nat) (cs : Array Value) (l : List UInt8) (hg : W.heap[g]? = some (.cells cs 5 (0, 0))) (h : ∀ j (hj : j < l.length), cs[off + j]? = some (.int .u8 (l[j].toNat : Int))) :
    (convert 44 9 (.slice (some ⟨g, off, none⟩) l.length cap)).run Try.prog W = .ok (.string (str l)) W :=
  run_convert_bytes_back (P := Try.prog) W 44 9 5 ⟨g, off, none⟩ cap l Try.underlying44 Try.underlying5 Try.underlying9 (fun j hj => by
    rw [show (⟨g, off, none⟩ : Addr).add j = ⟨g, off + j, none⟩ from by unfold Addr.add; split <;> simp_all, cell_of_row _ _ _ _ _ _ hg]
    exact h j hj)

theorem ref01_Num_no (n : Int) (w : World) (h : n < 0 ∨ 4294967295 < n) :
    Calls Try.prog 46 #[.int .i64 n] w fun e w' => e = .returned (.tuple #[.string ⟨#[]⟩, .int .i64 1]) ∧ Below w.heap.size w w' := by
  by_cases h0 : n < 0
  · have hd0 : decide (n < 0) = true := by simpa using h0
    clear h
    go_enter Try.func46, Try.ntmps46
    go_wp2
    go_ret2
    exact ⟨rfl, Below.refl _ _⟩
  · have hd0 : decide (n < 0) = false := by simpa using h0
    have hd1 : decide (4294967295 < n) = true := by simp; omega
    clear h
    go_enter Try.func46, Try.ntmps46
    go_wp2
    go_ret2
    exact ⟨rfl, Below.refl _ _⟩

theorem one_byte (n : Nat) (h : n < 256) (w : World) : (convert 44 9 (.slice (some ⟨w.heap.size, 0, none⟩) 1 1)).run Try.prog (w.alloc (.cells #[.int .u8 (n : Int)] 5)) = .ok (.string (str [Pack.by1 n])) (w.alloc (.cells #[.int .u8 (n : Int)] 5)) :=
  conv_lit _ _ 0 1 _ [Pack.by1 n] (heap_alloc_new _ _) (fun j hj => by
    have : j = 0 := by simpa using hj
    subst this
    simp [Pack.by1_toNat]; omega)

set_option maxHeartbeats 1000000 in
theorem ref01_Num_small (n : Nat) (w : World) (hn : n < 248) :
    Calls Try.prog 46 #[.int .i64 (n : Int)] w fun e w' => e = .returned (.tuple #[.string (str (Pack.num n)), .int .i64 0]) ∧ Below w.heap.size w w' := by
  have hd0 : decide ((n : Int) < 0) = false := by simp
  have hd1 : decide ((4294967295 : Int) < (n : Int)) = false := by simp; omega
  have hd2 : decide ((n : Int) < 248) = true := by simp; omega
  have hcv := one_byte n (by omega) w
  have HN : Hid (Pack.num n = [Pack.by1 n]) := Lib.hid (by unfold Pack.num; rw [if_pos hn])
  go_enter Try.func46, Try.ntmps46
  go_wp2
  go_ret2
  exact ⟨by rw [HN.out]; rfl, grew_alloc _ _⟩

theorem lead_conv (w : World) (A : Obj) (L : Nat) (h : L < 256) :
    (convert 44 9 (.slice (some ⟨w.heap.size + 1, 0, none⟩) 1 1)).run Try.prog ((w.alloc A).alloc (.cells #[.int .u8 (L : Int)] 5)) = .ok (.string (str [Pack.by1 L])) ((w.alloc A).alloc (.cells #[.int .u8 (L : Int)] 5)) :=
  conv_lit _ _ 0 1 _ [Pack.by1 L] (heap_alloc2_new _ _ _) (fun j hj => by
    have : j = 0 := by simpa using hj
    subst this
    simp [Pack.by1_toNat]; omega)

def fourCells (n : Nat) : Array Value := #[.int .u8 ((n : Int) / 16777216), .int .u8 ((n : Int) / 65536 % 256), .int .u8 ((n : Int) / 256 % 256), .int .u8 ((n : Int) % 256)]

theorem four_at (n : Nat) (hn : n < 4294967296) : ∀ j, j < 4 → (fourCells n)[j]? = some (.int .u8 ((([Pack.by1 (n / 16777216), Pack.by1 (n / 65536), Pack.by1 (n / 256), Pack.by1 n].getD j 0).toNat : Nat) : Int)) := by
  intro j hj
  rcases (by omega : j = 0 ∨ j = 1 ∨ j = 2 ∨ j = 3) with rfl | rfl | rfl | rfl
  · simp [fourCells, Pack.by1_toNat]; omega
  · simp [fourCells, Pack.by1_toNat]
  · simp [fourCells, Pack.by1_toNat]
  · simp [fourCells, Pack.by1_toNat]

theorem four_conv (w : World) (B : Obj) (n off : Nat) (hn : n < 4294967296) (hoff : off < 4) (l : List UInt8) (hl : l = [Pack.by1 (n / 16777216), Pack.by1 (n / 65536), Pack.by1 (n / 256), Pack.by1 n].drop off) :
    (convert 44 9 (.slice (some ⟨w.heap.size, off, none⟩) l.length (4 - off))).run Try.prog ((w.alloc (.cells (fourCells n) 5)).alloc B) = .ok (.string (str l)) ((w.alloc (.cells (fourCells n) 5)).alloc B) :=
  conv_lit _ _ off _ _ l (heap_alloc2_old _ _ _) (fun j hj => by
    have hll : l.length = 4 - off := by rw [hl, List.length_drop]; rfl
    have hj4 : off + j < 4 := by omega
    rw [four_at n hn (off + j) hj4]
    subst hl
    rw [List.getElem_drop, List.getD_eq_getElem?_getD, List.getElem?_eq_getElem hj4]
    rfl)

set_option maxHeartbeats 1000000 in
theorem ref01_Num_five (n : Nat) (w : World) (h0 : 16777216 ≤ n) (hn : n < 4294967296) :
    Calls Try.prog 46 #[.int .i64 (n : Int)] w fun e w' => e = .returned (.tuple #[.string (str (Pack.num n)), .int .i64 0]) ∧ Below w.heap.size w w' := by
  have hd0 : decide ((n : Int) < 0) = false := by simp
  have hd1 : decide ((4294967295 : Int) < (n : Int)) = false := by simp; omega
  have hd2 : decide ((n : Int) < 248) = false := by simp; omega
  have hz0 : ((n : Int) / 16777216 == 0) = false := by simp; omega
  have HN : Hid (str [Pack.by1 251] ++ str [Pack.by1 (n / 16777216), Pack.by1 (n / 65536), Pack.by1 (n / 256), Pack.by1 n] = str (Pack.num n)) := Lib.hid (by unfold Pack.num; rw [if_neg (by omega), if_neg (by omega), if_neg (by omega), if_neg (by omega), str_append]; rfl)
  have hc1 : (convert 44 9 (.slice (some ⟨w.heap.size + 1, 0, none⟩) 1 1)).run Try.prog ((w.alloc (.cells (fourCells n) 5)).alloc (.cells #[.int .u8 251] 5)) = .ok (.string (str [Pack.by1 251])) ((w.alloc (.cells (fourCells n) 5)).alloc (.cells #[.int .u8 251] 5)) :=
    lead_conv w (.cells (fourCells n) 5) 251 (by omega)
  have hc2 : (convert 44 9 (.slice (some ⟨w.heap.size, 0, none⟩) 4 4)).run Try.prog ((w.alloc (.cells (fourCells n) 5)).alloc (.cells #[.int .u8 251] 5)) = .ok (.string (str [Pack.by1 (n / 16777216), Pack.by1 (n / 65536), Pack.by1 (n / 256), Pack.by1 n])) ((w.alloc (.cells (fourCells n) 5)).alloc (.cells #[.int .u8 251] 5)) :=
    four_conv w (.cells #[.int .u8 251] 5) n 0 (by omega) (by omega) [Pack.by1 (n / 16777216), Pack.by1 (n / 65536), Pack.by1 (n / 256), Pack.by1 n] rfl
  have hs1 : (str [Pack.by1 251]).size = 1 := str_size _
  have hs2 : (str [Pack.by1 (n / 16777216), Pack.by1 (n / 65536), Pack.by1 (n / 256), Pack.by1 n]).size = 4 := str_size _
  unfold fourCells at hc1 hc2
  generalize hS1 : str [Pack.by1 251] = S1 at *
  generalize hS2 : str [Pack.by1 (n / 16777216), Pack.by1 (n / 65536), Pack.by1 (n / 256), Pack.by1 n] = S2 at *
  clear hS1 hS2
  go_enter Try.func46, Try.ntmps46
  go_wp2
  go_rounds 1
  go_ret2
  exact ⟨by rw [← HN.out]; rfl, grew (grew_alloc _ _) (grew_alloc _ _)⟩

set_option maxHeartbeats 1000000 in
theorem ref01_Num_four (n : Nat) (w : World) (h0 : 65536 ≤ n) (hn : n < 16777216) :
    Calls Try.prog 46 #[.int .i64 (n : Int)] w fun e w' => e = .returned (.tuple #[.string (str (Pack.num n)), .int .i64 0]) ∧ Below w.heap.size w w' := by
  have hd0 : decide ((n : Int) < 0) = false := by simp
  have hd1 : decide ((4294967295 : Int) < (n : Int)) = false := by simp; omega
  have hd2 : decide ((n : Int) < 248) = false := by simp; omega
  have hz0 : ((n : Int) / 16777216 == 0) = true := by simp; omega
  have hz1 : ((n : Int) / 65536 % 256 == 0) = false := by simp; omega
  have HN : Hid (str [Pack.by1 250] ++ str [Pack.by1 (n / 65536), Pack.by1 (n / 256), Pack.by1 n] = str (Pack.num n)) := Lib.hid (by unfold Pack.num; rw [if_neg (by omega), if_neg (by omega), if_neg (by omega), if_pos hn, str_append]; rfl)
  have hc1 : (convert 44 9 (.slice (some ⟨w.heap.size + 1, 0, none⟩) 1 1)).run Try.prog ((w.alloc (.cells (fourCells n) 5)).alloc (.cells #[.int .u8 250] 5)) = .ok (.string (str [Pack.by1 250])) ((w.alloc (.cells (fourCells n) 5)).alloc (.cells #[.int .u8 250] 5)) :=
    lead_conv w (.cells (fourCells n) 5) 250 (by omega)
  have hc2 : (convert 44 9 (.slice (some ⟨w.heap.size, 1, none⟩) 3 3)).run Try.prog ((w.alloc (.cells (fourCells n) 5)).alloc (.cells #[.int .u8 250] 5)) = .ok (.string (str [Pack.by1 (n / 65536), Pack.by1 (n / 256), Pack.by1 n])) ((w.alloc (.cells (fourCells n) 5)).alloc (.cells #[.int .u8 250] 5)) :=
    four_conv w (.cells #[.int .u8 250] 5) n 1 (by omega) (by omega) [Pack.by1 (n / 65536), Pack.by1 (n / 256), Pack.by1 n] rfl
  have hs1 : (str [Pack.by1 250]).size = 1 := str_size _
  have hs2 : (str [Pack.by1 (n / 65536), Pack.by1 (n / 256), Pack.by1 n]).size = 3 := str_size _
  unfold fourCells at hc1 hc2
  generalize hS1 : str [Pack.by1 250] = S1 at *
  generalize hS2 : str [Pack.by1 (n / 65536), Pack.by1 (n / 256), Pack.by1 n] = S2 at *
  clear hS1 hS2
  go_enter Try.func46, Try.ntmps46
  go_wp2
  go_rounds 2
  go_ret2
  exact ⟨by rw [← HN.out]; rfl, grew (grew_alloc _ _) (grew_alloc _ _)⟩

set_option maxHeartbeats 1000000 in
theorem ref01_Num_three (n : Nat) (w : World) (h0 : 256 ≤ n) (hn : n < 65536) :
    Calls Try.prog 46 #[.int .i64 (n : Int)] w fun e w' => e = .returned (.tuple #[.string (str (Pack.num n)), .int .i64 0]) ∧ Below w.heap.size w w' := by
  have hd0 : decide ((n : Int) < 0) = false := by simp
  have hd1 : decide ((4294967295 : Int) < (n : Int)) = false := by simp; omega
  have hd2 : decide ((n : Int) < 248) = false := by simp; omega
  have hz0 : ((n : Int) / 16777216 == 0) = true := by simp; omega
  have hz1 : ((n : Int) / 65536 % 256 == 0) = true := by simp; omega
  have hz2 : ((n : Int) / 256 % 256 == 0) = false := by simp; omega
  have HN : Hid (str [Pack.by1 249] ++ str [Pack.by1 (n / 256), Pack.by1 n] = str (Pack.num n)) := Lib.hid (by unfold Pack.num; rw [if_neg (by omega), if_neg (by omega), if_pos hn, str_append]; rfl)
  have hc1 : (convert 44 9 (.slice (some ⟨w.heap.size + 1, 0, none⟩) 1 1)).run Try.prog ((w.alloc (.cells (fourCells n) 5)).alloc (.cells #[.int .u8 249] 5)) = .ok (.string (str [Pack.by1 249])) ((w.alloc (.cells (fourCells n) 5)).alloc (.cells #[.int .u8 249] 5)) :=
    lead_conv w (.cells (fourCells n) 5) 249 (by omega)
  have hc2 : (convert 44 9 (.slice (some ⟨w.heap.size, 2, none⟩) 2 2)).run Try.prog ((w.alloc (.cells (fourCells n) 5)).alloc (.cells #[.int .u8 249] 5)) = .ok (.string (str [Pack.by1 (n / 256), Pack.by1 n])) ((w.alloc (.cells (fourCells n) 5)).alloc (.cells #[.int .u8 249] 5)) :=
    four_conv w (.cells #[.int .u8 249] 5) n 2 (by omega) (by omega) [Pack.by1 (n / 256), Pack.by1 n] rfl
  have hs1 : (str [Pack.by1 249]).size = 1 := str_size _
  have hs2 : (str [Pack.by1 (n / 256), Pack.by1 n]).size = 2 := str_size _
  unfold fourCells at hc1 hc2
  generalize hS1 : str [Pack.by1 249] = S1 at *
  generalize hS2 : str [Pack.by1 (n / 256), Pack.by1 n] = S2 at *
  clear hS1 hS2
  go_enter Try.func46, Try.ntmps46
  go_wp2
  go_rounds 3
  go_ret2
  exact ⟨by rw [← HN.out]; rfl, grew (grew_alloc _ _) (grew_alloc _ _)⟩

set_option maxHeartbeats 1000000 in
theorem ref01_Num_two (n : Nat) (w : World) (h0 : 248 ≤ n) (hn : n < 256) :
    Calls Try.prog 46 #[.int .i64 (n : Int)] w fun e w' => e = .returned (.tuple #[.string (str (Pack.num n)), .int .i64 0]) ∧ Below w.heap.size w w' := by
  have hd0 : decide ((n : Int) < 0) = false := by simp
  have hd1 : decide ((4294967295 : Int) < (n : Int)) = false := by simp; omega
  have hd2 : decide ((n : Int) < 248) = false := by simp; omega
  have hz0 : ((n : Int) / 16777216 == 0) = true := by simp; omega
  have hz1 : ((n : Int) / 65536 % 256 == 0) = true := by simp; omega
  have hz2 : ((n : Int) / 256 % 256 == 0) = true := by simp; omega
  have hz3 : ((n : Int) % 256 == 0) = false := by simp; omega
  have HN : Hid (str [Pack.by1 248] ++ str [Pack.by1 n] = str (Pack.num n)) := Lib.hid (by unfold Pack.num; rw [if_neg (by omega), if_pos hn, str_append]; rfl)
  have hc1 : (convert 44 9 (.slice (some ⟨w.heap.size + 1, 0, none⟩) 1 1)).run Try.prog ((w.alloc (.cells (fourCells n) 5)).alloc (.cells #[.int .u8 248] 5)) = .ok (.string (str [Pack.by1 248])) ((w.alloc (.cells (fourCells n) 5)).alloc (.cells #[.int .u8 248] 5)) :=
    lead_conv w (.cells (fourCells n) 5) 248 (by omega)
  have hc2 : (convert 44 9 (.slice (some ⟨w.heap.size, 3, none⟩) 1 1)).run Try.prog ((w.alloc (.cells (fourCells n) 5)).alloc (.cells #[.int .u8 248] 5)) = .ok (.string (str [Pack.by1 n])) ((w.alloc (.cells (fourCells n) 5)).alloc (.cells #[.int .u8 248] 5)) :=
    four_conv w (.cells #[.int .u8 248] 5) n 3 (by omega) (by omega) [Pack.by1 n] rfl
  have hs1 : (str [Pack.by1 248]).size = 1 := str_size _
  have hs2 : (str [Pack.by1 n]).size = 1 := str_size _
  unfold fourCells at hc1 hc2
  generalize hS1 : str [Pack.by1 248] = S1 at *
  generalize hS2 : str [Pack.by1 n] = S2 at *
  clear hS1 hS2
  go_enter Try.func46, Try.ntmps46
  go_wp2
  go_rounds 4
  go_ret2
  exact ⟨by rw [← HN.out]; rfl, grew (grew_alloc _ _) (grew_alloc _ _)⟩

theorem ref01_Num_yes (n : Nat) (w : World) (hn : n < 4294967296) :
    Calls Try.prog 46 #[.int .i64 (n : Int)] w fun e w' => e = .returned (.tuple #[.string (str (Pack.num n)), .int .i64 0]) ∧ Below w.heap.size w w' := by
  by_cases h0 : n < 248
  · exact ref01_Num_small n w h0
  · by_cases h1 : n < 256
    · exact ref01_Num_two n w (by omega) h1
    · by_cases h2 : n < 65536
      · exact ref01_Num_three n w (by omega) h2
      · by_cases h3 : n < 16777216
        · exact ref01_Num_four n w (by omega) h3
        · exact ref01_Num_five n w (by omega) hn
end Go.Proofs.Ytohlnhnelkoakaa
