/- Some answers that the document gives of views. -/
import Derived.Test.YtmelaidbicaagaaViR4
namespace Go.Proofs.Ytmelaidbicaagaa
open Go.RowKit
set_option linter.unusedVariables false

def elsCells : List El → List Value
  | [] => []
  | x :: xs => x.cells ++ elsCells xs
theorem elsCells_at : ∀ (es : List El) (i : Nat) (hi : i < es.length) (j : Nat) (u : Value), (El.cells es[i])[j]? = some u → (elsCells es)[i * 6 + j]? = some u
  | [], i, hi, _, _, _ => by simp at hi
  | x :: xs, 0, _, j, u, hu => by
    have hj : j < 6 := (List.getElem?_eq_some_iff.1 hu).1
    unfold elsCells
    rw [Nat.zero_mul, Nat.zero_add, List.getElem?_append_left hj]
    exact hu
  | x :: xs, i + 1, hi, j, u, hu => by
    have := elsCells_at xs i (by simpa using hi) j u (by simpa using hu)
    unfold elsCells
    rw [List.getElem?_append_right (by show 6 ≤ _; omega)]
    rw [show (i + 1) * 6 + j - x.cells.length = i * 6 + j by show (i + 1) * 6 + j - 6 = _; omega]
    exact this
/-- Elements in a row just made. -/
theorem els_new (W : World) (es : List El) (cs : Array Value) (hcs : cs = (elsCells es).toArray) : SliceG 6 El.cells (W.alloc (.cells cs 44)) (.slice (some ⟨W.heap.size, 0, none⟩) es.length es.length) es := by
  subst hcs
  refine ⟨_, es.length, rfl, Nat.le_refl _, .inr ⟨W.heap.size, 0, rfl, by simp, fun i hi j u hu => ?_⟩⟩
  rw [show 0 + i * 6 + j = i * 6 + j by omega, cell_of_row _ _ _ _ _ _ (heap_alloc_new _ _)]
  simpa using elsCells_at es i hi j u hu

theorem law12_one (t r : Int) (a : Option Addr) (n c : Nat) (w : World) : Calls Try.prog 23 #[.int .i64 t, .int .i64 r, .slice a n c] w fun e w' => e = .returned (.agg #[.int .i64 t, .int .i64 0, .int .i64 0, .int .i64 0, .int .i64 r, .slice a n c]) ∧ Below w.heap.size w w' := by
  have HB := Lib.hid (grew_alloc w (.cells #[.int .i64 t, .int .i64 0, .int .i64 0, .int .i64 0, .int .i64 r, .slice a n c] 44))
  have HX := Lib.hid (Holds.new w [.int .i64 t, .int .i64 0, .int .i64 0, .int .i64 0, .int .i64 r, .slice a n c] 44)
  go_enter Try.func23, Try.ntmps23
  go_wp2
  have q0 := HX.out.cell 0 (by simp)
  have q1 := HX.out.cell 1 (by simp)
  have q2 := HX.out.cell 2 (by simp)
  have q3 := HX.out.cell 3 (by simp)
  have q4 := HX.out.cell 4 (by simp)
  have q5 := HX.out.cell 5 (by simp)
  simp only [List.getElem_cons_zero, List.getElem_cons_succ] at q0 q1 q2 q3 q4 q5
  refine bodyPost_ret (v := .agg #[.int .i64 t, .int .i64 0, .int .i64 0, .int .i64 0, .int .i64 r, .slice a n c]) ?_ rfl ⟨rfl, HB.out⟩
  simp [results, Try.results23, go_sem, q0, q1, q2, q3, q4, q5]

theorem two_intsv (w : World) (a b : Int) : SliceI (w.alloc (.cells #[.int .i64 a, .int .i64 b] 3)) (.slice (some ⟨w.heap.size, 0, none⟩) 2 2) [a, b] := ⟨_, 2, rfl, by simp, .inr ⟨w.heap.size, 0, rfl, by simp, fun i hi => by
  rw [show 0 + i = i by omega, cell_of_row _ _ _ _ _ _ (heap_alloc_new _ _)]
  match i, hi with
  | 0, _ => rfl
  | 1, _ => rfl⟩⟩

def liveEls (g : Nat) : List El := [⟨1, 0, 0, 0, 97, none, 0, 0⟩, ⟨2, 0, 0, 0, 98, some ⟨g, 0, none⟩, 1, 1⟩, ⟨3, 0, 0, 0, 8364, none, 0, 0⟩]
theorem vlive1 (g : Nat) : View.refT (liveEls g) 2 = (3, 0) ∧ View.refE (liveEls g) 2 = 0 := ⟨rfl, rfl⟩
theorem vlive2 (g : Nat) : View.refT (liveEls g) 3 = (0, 0) ∧ View.refE (liveEls g) 3 = 1 := ⟨rfl, rfl⟩
theorem vlive3 (g : Nat) : View.idx (liveEls g) (2, 0) = (1, 0) := View.idx_at (k := 1) (by decide) ⟨by show 1 < 3; omega, rfl, fun j hj => by
  obtain rfl : j = 0 := by omega
  show ((1 : Int), (0 : Int)) ≠ (2, 0)
  decide⟩
theorem vlive4 (g : Nat) : View.idx (liveEls g) (9, 0) = (0, 6) := View.idx_none (by decide) (fun j hj => by
  match j, hj with
  | 0, _ => show ((1 : Int), (0 : Int)) ≠ (9, 0); decide
  | 1, _ => show ((2 : Int), (0 : Int)) ≠ (9, 0); decide
  | 2, _ => show ((3 : Int), (0 : Int)) ≠ (9, 0); decide
  | j + 3, hj => exact absurd hj (by show ¬ j + 3 < 3; omega))
theorem vlive5 (g : Nat) : View.rangeE (liveEls g) 0 2 = 0 ∧ (View.rangeL (liveEls g) 0 2).length = 2 := ⟨rfl, rfl⟩
theorem vlive6 (g : Nat) : View.text (liveEls g) = ⟨#[97, 226, 130, 172]⟩ := by kernel_rfl
theorem vlive7 (g : Nat) : View.nums (liveEls g) = [0, 2] := rfl

set_option maxRecDepth 100000 in
set_option maxHeartbeats 4000000 in
theorem law12_live (w : World) : Calls Try.prog 9 #[] w fun e w' => e = .returned (.bool true) ∧ Below w.heap.size w w' := by
  go_enter Try.func9, Try.ntmps9
  go_wp2_with fail
  refine (law12_one 1 97 none 0 0 _).mono ?_
  rintro e w1 ⟨rfl, hb⟩
  have HB := Lib.hid hb
  clear hb
  go_wp2_with fail
  refine (law12_one 2 98 _ 1 1 _).mono ?_
  rintro e w2 ⟨rfl, hb⟩
  have HB := Lib.hid (grew HB.out (grew (grew_alloc w1 _) hb))
  clear hb
  go_wp2_with fail
  refine (law12_one 3 8364 none 0 0 _).mono ?_
  rintro e w3 ⟨rfl, hb⟩
  have HB := Lib.hid (grew HB.out hb)
  clear hb
  have HS := Lib.hid (els_new w3 (liveEls w1.heap.size) _ rfl)
  have HB := Lib.hid (grew HB.out (grew_alloc w3 (.cells (elsCells (liveEls w1.heap.size)).toArray 44)))
  simp only [liveEls, elsCells, El.cells, List.cons_append, List.nil_append, List.append_nil, List.length_cons, List.length_nil, Nat.zero_add, Nat.reduceAdd] at HS HB
  change Hid (SliceG 6 El.cells _ _ (liveEls w1.heap.size)) at HS
  generalize w1.heap.size = g at *
  go_wp2_with fail
  generalize w3.alloc _ = W at *
  generalize w3.heap.size = g3 at *
  have hl3 : (liveEls g).length ≤ 1000 := by show 3 ≤ 1000; omega
  have HL3 := Lib.hid hl3
  clear hl3
  refine (view_Ref _ (liveEls g) 2 _ HS.out (by have := HL3.out; unfold maxLen; omega)).mono ?_
  rintro e w4 ⟨rfl, hb⟩
  rw [(vlive1 g).1, (vlive1 g).2]
  have HB := Lib.hid (grew HB.out (grew hb (grew_alloc w4 (.cells #[.int .i64 3, .int .i64 0] 24))))
  have HS := Lib.hid (HS.out.below (grew hb (grew_alloc w4 (.cells #[.int .i64 3, .int .i64 0] 24))))
  have HX := Lib.hid (Holds.new w4 [.int .i64 3, .int .i64 0] 24)
  clear hb
  go_wp2_with fail
  generalize w4.alloc (.cells #[.int .i64 3, .int .i64 0] 24) = W4 at *
  generalize w4.heap.size = g4 at *
  refine (view_Ref _ (liveEls g) 3 _ HS.out (by have := HL3.out; unfold maxLen; omega)).mono ?_
  rintro e w5 ⟨rfl, hb⟩
  rw [(vlive2 g).1, (vlive2 g).2]
  have HB := Lib.hid (grew HB.out (grew hb (grew_alloc w5 (.cells #[.int .i64 0, .int .i64 0] 24))))
  have HS := Lib.hid (HS.out.below (grew hb (grew_alloc w5 (.cells #[.int .i64 0, .int .i64 0] 24))))
  have HX := Lib.hid (HX.out.keep (Keep.of_grew (grew hb (grew_alloc w5 (.cells #[.int .i64 0, .int .i64 0] 24))) Non) (fun h => h))
  clear hb
  go_wp2_with fail
  generalize w5.alloc (.cells #[.int .i64 0, .int .i64 0] 24) = W5 at *
  refine (view_Index _ (liveEls g) 2 0 _ HS.out (by have := HL3.out; omega)).mono ?_
  rintro e w6 ⟨rfl, hb⟩
  rw [vlive3 g]
  have HB := Lib.hid (grew HB.out hb)
  have HS := Lib.hid (HS.out.below hb)
  have HX := Lib.hid (HX.out.keep (Keep.of_grew hb Non) (fun h => h))
  clear hb
  go_wp2_with fail
  refine (view_Index _ (liveEls g) 9 0 _ HS.out (by have := HL3.out; omega)).mono ?_
  rintro e w7 ⟨rfl, hb⟩
  rw [vlive4 g]
  have HB := Lib.hid (grew HB.out hb)
  have HS := Lib.hid (HS.out.below hb)
  have HX := Lib.hid (HX.out.keep (Keep.of_grew hb Non) (fun h => h))
  clear hb
  go_wp2_with fail
  refine (view_Range _ (liveEls g) 0 2 _ HS.out (by have := HL3.out; omega)).mono ?_
  rintro e w8 ⟨r8, rfl, ho, hb⟩
  rw [(vlive5 g).1]
  obtain ⟨ra, rc, e⟩ := (OwnE.slice (show OwnE _ _ _ _ from ho)).shape
  have hrl : (View.ids (View.rangeL (liveEls g) 0 2)).length = 2 := by unfold View.ids; rw [List.length_map]; exact (vlive5 g).2
  rw [hrl] at e
  subst e
  have HB := Lib.hid (grew HB.out hb)
  have HS := Lib.hid (HS.out.below hb)
  have HX := Lib.hid (HX.out.keep (Keep.of_grew hb Non) (fun h => h))
  clear hb ho hrl
  go_wp2_with fail
  refine (view_Text _ (liveEls g) _ HS.out (by have := HL3.out; omega)).mono ?_
  rintro e w9 ⟨rfl, hb⟩
  rw [vlive6 g]
  have HB := Lib.hid (grew HB.out hb)
  have HS := Lib.hid (HS.out.below hb)
  have HX := Lib.hid (HX.out.keep (Keep.of_grew hb Non) (fun h => h))
  clear hb
  go_wp2_with fail
  refine (view_Seen _ (liveEls g) _ HS.out (by have := HL3.out; omega)).mono ?_
  rintro e w10 ⟨r10, rfl, ho, hb⟩
  rw [vlive7 g] at ho
  have HS10 := Lib.hid ho.slice
  obtain ⟨sa, sc, e⟩ := ho.slice.shape
  subst e
  have HB := Lib.hid (grew HB.out (grew hb (grew_alloc w10 (.cells #[.int .i64 0, .int .i64 2] 3))))
  have HX := Lib.hid (HX.out.keep (Keep.of_grew (grew hb (grew_alloc w10 (.cells #[.int .i64 0, .int .i64 2] 3))) Non) (fun h => h))
  have HS10 := Lib.hid (HS10.out.below (grew_alloc w10 (.cells #[.int .i64 0, .int .i64 2] 3)))
  have HT := Lib.hid (two_intsv w10 0 2)
  clear hb ho
  go_wp2_with fail
  generalize w10.alloc (.cells #[.int .i64 0, .int .i64 2] 3) = W10 at *
  refine (ref01_Same _ _ [0, 2] [0, 2] _ HS10.out HT.out (by decide) (by decide)).mono ?_
  rintro e w11 ⟨rfl, hb⟩
  rw [show decide (([0, 2] : List Int) = [0, 2]) = true from rfl]
  have HB := Lib.hid (grew HB.out hb)
  have HX := Lib.hid (HX.out.keep (Keep.of_grew hb Non) (fun h => h))
  clear hb
  have q0 := HX.out.cell 0 (by simp)
  have q1 := HX.out.cell 1 (by simp)
  simp only [List.getElem_cons_zero, List.getElem_cons_succ] at q0 q1
  go_wp2
  go_ret
  exact ⟨rfl, HB.out⟩
end Go.Proofs.Ytmelaidbicaagaa
