/- What the statements of layer 6 ask of some answers that the document gives holds. -/
import Derived.Test.YtbbjoaennnopoaaVecRef2
namespace Go.Proofs.Ytbbjoaennnopoaa
open Go.RowKit
set_option linter.unusedVariables false

theorem lit_ints (w : World) (l : List Int) : SliceI (w.alloc (.cells (intCells l).toArray 3)) (.slice (some ⟨w.heap.size, 0, none⟩) l.length l.length) l :=
  ⟨_, l.length, rfl, Nat.le_refl _, .inr ⟨w.heap.size, 0, rfl, by simp, fun i hi => by
    rw [cell_of_row _ _ _ _ _ _ (heap_alloc_new _ _)]
    simp [intCells, hi]⟩⟩
theorem lit_one (w : World) (x : Int) : SliceI (w.alloc (.cells #[.int .i64 x] 3)) (.slice (some ⟨w.heap.size, 0, none⟩) 1 1) [x] := lit_ints w [x]
theorem lit_two (w : World) (x y : Int) : SliceI (w.alloc (.cells #[.int .i64 x, .int .i64 y] 3)) (.slice (some ⟨w.heap.size, 0, none⟩) 2 2) [x, y] := lit_ints w [x, y]
theorem lit_pair (w : World) (x y p q : Int) :
    SliceI ((w.alloc (.cells #[.int .i64 x, .int .i64 y] 3)).alloc (.cells #[.int .i64 p, .int .i64 q] 3)) (.slice (some ⟨w.heap.size, 0, none⟩) 2 2) [x, y]
    ∧ SliceI ((w.alloc (.cells #[.int .i64 x, .int .i64 y] 3)).alloc (.cells #[.int .i64 p, .int .i64 q] 3)) (.slice (some ⟨w.heap.size + 1, 0, none⟩) 2 2) [p, q]
    ∧ Below w.heap.size w ((w.alloc (.cells #[.int .i64 x, .int .i64 y] 3)).alloc (.cells #[.int .i64 p, .int .i64 q] 3)) := by
  refine ⟨(lit_two w x y).below (grew_alloc _ _), ?_, grew (grew_alloc _ _) (grew_alloc _ _)⟩
  have := lit_two (w.alloc (.cells #[.int .i64 x, .int .i64 y] 3)) p q
  have e : (w.alloc (.cells #[.int .i64 x, .int .i64 y] 3)).heap.size = w.heap.size + 1 := by simp
  rw [e] at this
  exact this

set_option maxRecDepth 100000 in
set_option maxHeartbeats 4000000 in
theorem law06_live (w : World) :
    Calls Try.prog 9 #[] w fun e w' => e = .returned (.bool true) ∧ Below w.heap.size w w' := by
  go_enter Try.func9, Try.ntmps9
  go_wp2_with fail
  refine (vec_New 2 _).mono ?_
  rintro e w1 ⟨r, rfl, ho, hb1⟩
  rw [show newR 2 = ([0, 0], 0) from by decide +kernel] at ho
  obtain ⟨v1, rfl, hs1⟩ := ho
  have H1 := Lib.hid hs1
  have HB1 := Lib.hid hb1
  clear hs1 hb1
  go_wp2_with fail
  refine (vec_New 0 _).mono ?_
  rintro e w2 ⟨r, rfl, ho, hb2⟩
  rw [show newR 0 = ([], 1) from by decide +kernel] at ho
  obtain ⟨v2, rfl, hs2⟩ := ho
  have HB2 := Lib.hid (grew HB1.out hb2)
  have H2 := Lib.hid (H1.out.below hb2)
  clear hs2 hb2 H1 HB1
  go_wp2_with fail
  refine (vec_Tick v1 [0, 0] 0 _ H2.out (by decide)).mono ?_
  rintro e w3 ⟨r, rfl, ho, hb3⟩
  rw [show tickR [0, 0] 0 = ([1, 0], 0) from by decide +kernel] at ho
  obtain ⟨v3, rfl, hs3⟩ := ho
  have HB3 := Lib.hid (grew HB2.out hb3)
  have H3 := Lib.hid (H2.out.below hb3)
  have K3 := Lib.hid hs3
  clear hs3 hb3 H2 HB2
  go_wp2_with fail
  have hp4 := lit_pair w3 1 2 2 1
  refine (vec_Join _ _ [1, 2] [2, 1] _ hp4.1 hp4.2.1 (by decide) (by decide)).mono ?_
  rintro e w4 ⟨r, rfl, ho, hb4⟩
  rw [show joinR [1, 2] [2, 1] = ([2, 2], 0) from by decide +kernel] at ho
  obtain ⟨v4, rfl, hs4⟩ := ho
  have hb4' := grew hp4.2.2 hb4
  clear hp4
  have HB4 := Lib.hid (grew HB3.out hb4')
  have H4 := Lib.hid (H3.out.below hb4')
  have K4 := Lib.hid (K3.out.below hb4')
  have J4 := Lib.hid hs4
  clear hs4 hb4 hb4' H3 K3 HB3
  go_wp2_with fail
  have hp5 := lit_pair w4 1 2 2 1
  refine (vec_Meet _ _ [1, 2] [2, 1] _ hp5.1 hp5.2.1 (by decide) (by decide)).mono ?_
  rintro e w5 ⟨r, rfl, ho, hb5⟩
  rw [show meetR [1, 2] [2, 1] = ([1, 1], 0) from by decide +kernel] at ho
  obtain ⟨v5, rfl, hs5⟩ := ho
  have hb5' := grew hp5.2.2 hb5
  clear hp5
  have HB5 := Lib.hid (grew HB4.out hb5')
  have H5 := Lib.hid (H4.out.below hb5')
  have K5 := Lib.hid (K4.out.below hb5')
  have J5 := Lib.hid (J4.out.below hb5')
  have M5 := Lib.hid hs5
  clear hs5 hb5 hb5' H4 K4 J4 HB4
  go_wp2_with fail
  have hp6 := lit_pair w5 1 2 2 1
  refine (vec_Compare _ _ [1, 2] [2, 1] _ hp6.1 hp6.2.1 (by decide) (by decide)).mono ?_
  rintro e w6 ⟨rfl, n6, rfl⟩
  rw [show cmpV [1, 2] [2, 1] = .tuple #[.int .i64 3, .int .i64 0] from by rw [cmpV_yes (by decide)]; rfl]
  have hb6' := grew hp6.2.2 (grew_drewN _ n6)
  clear hp6
  have HB6 := Lib.hid (grew HB5.out hb6')
  have H6 := Lib.hid (H5.out.below hb6')
  have K6 := Lib.hid (K5.out.below hb6')
  have J6 := Lib.hid (J5.out.below hb6')
  have M6 := Lib.hid (M5.out.below hb6')
  clear hb6' H5 K5 J5 M5 HB5
  generalize hW : World.drewN _ n6 = w6 at *
  clear hW
  go_wp2_with fail
  refine (vec_Compare v1 v3 [0, 0] [1, 0] _ H6.out K6.out (by decide) (by decide)).mono ?_
  rintro e w7 ⟨rfl, n7, rfl⟩
  rw [show cmpV [0, 0] [1, 0] = .tuple #[.int .i64 1, .int .i64 0] from by rw [cmpV_yes (by decide)]; rfl]
  have hb7' := grew_drewN w6 n7
  have HB7 := Lib.hid (grew HB6.out hb7')
  have H7 := Lib.hid (H6.out.below hb7')
  have K7 := Lib.hid (K6.out.below hb7')
  have J7 := Lib.hid (J6.out.below hb7')
  have M7 := Lib.hid (M6.out.below hb7')
  clear hb7' H6 K6 J6 M6 HB6
  generalize hW : World.drewN _ n7 = w7 at *
  clear hW
  go_wp2_with fail
  refine (vec_Tick _ [4294967295] 0 _ (lit_one _ 4294967295) (by decide)).mono ?_
  rintro e w8 ⟨r, rfl, ho, hb8⟩
  rw [show tickR [4294967295] 0 = ([], 5) from by decide +kernel] at ho
  obtain ⟨v8, rfl, hs8⟩ := ho
  have hb8' := grew (grew_alloc _ _) hb8
  have HB8 := Lib.hid (grew HB7.out hb8')
  have H8 := Lib.hid (H7.out.below hb8')
  have K8 := Lib.hid (K7.out.below hb8')
  have J8 := Lib.hid (J7.out.below hb8')
  have M8 := Lib.hid (M7.out.below hb8')
  clear hs8 hb8 hb8' H7 K7 J7 M7 HB7
  go_wp2_with fail
  refine (ref01_Same v1 _ [0, 0] [0, 0] _ (H8.out.below (grew_alloc _ _)) (lit_two _ 0 0) (by decide) (by decide)).mono ?_
  rintro e w9 ⟨rfl, hb9⟩
  rw [show decide ([(0 : Int), 0] = [0, 0]) = true from by decide +kernel]
  have hb9' := grew (grew_alloc _ _) hb9
  have HB9 := Lib.hid (grew HB8.out hb9')
  have K9 := Lib.hid (K8.out.below hb9')
  have J9 := Lib.hid (J8.out.below hb9')
  have M9 := Lib.hid (M8.out.below hb9')
  clear hb9 hb9' H8 K8 J8 M8 HB8
  go_wp2_with fail
  refine (ref01_Same v3 _ [1, 0] [1, 0] _ (K9.out.below (grew_alloc _ _)) (lit_two _ 1 0) (by decide) (by decide)).mono ?_
  rintro e w10 ⟨rfl, hb10⟩
  rw [show decide ([(1 : Int), 0] = [1, 0]) = true from by decide +kernel]
  have hb10' := grew (grew_alloc _ _) hb10
  have HB10 := Lib.hid (grew HB9.out hb10')
  have K10 := Lib.hid (K9.out.below hb10')
  have J10 := Lib.hid (J9.out.below hb10')
  have M10 := Lib.hid (M9.out.below hb10')
  clear hb10 hb10' K9 J9 M9 HB9
  go_wp2_with fail
  refine (ref01_Same v4 _ [2, 2] [2, 2] _ (J10.out.below (grew_alloc _ _)) (lit_two _ 2 2) (by decide) (by decide)).mono ?_
  rintro e w11 ⟨rfl, hb11⟩
  rw [show decide ([(2 : Int), 2] = [2, 2]) = true from by decide +kernel]
  have hb11' := grew (grew_alloc _ _) hb11
  have HB11 := Lib.hid (grew HB10.out hb11')
  have K11 := Lib.hid (K10.out.below hb11')
  have M11 := Lib.hid (M10.out.below hb11')
  clear hb11 hb11' K10 J10 M10 HB10
  go_wp2_with fail
  refine (ref01_Same v5 _ [1, 1] [1, 1] _ (M11.out.below (grew_alloc _ _)) (lit_two _ 1 1) (by decide) (by decide)).mono ?_
  rintro e w12 ⟨rfl, hb12⟩
  rw [show decide ([(1 : Int), 1] = [1, 1]) = true from by decide +kernel]
  have hb12' := grew (grew_alloc _ _) hb12
  have HB12 := Lib.hid (grew HB11.out hb12')
  have K12 := Lib.hid (K11.out.below hb12')
  clear hb12 hb12' K11 M11 HB11
  go_wp2_with fail
  refine (vec_Covers v3 [1, 0] 0 1 _ K12.out (by decide)).mono ?_
  rintro e w13 ⟨rfl, rfl⟩
  rw [show Vecs.covers [1, 0] 0 1 = true from by decide +kernel]
  go_wp2_with fail
  refine (vec_Covers v3 [1, 0] 0 2 _ K12.out (by decide)).mono ?_
  rintro e w13 ⟨rfl, rfl⟩
  rw [show Vecs.covers [1, 0] 0 2 = false from by decide +kernel]
  go_wp2_with fail
  refine (vec_Check v3 [1, 0] _ K12.out (by decide)).mono ?_
  rintro e w13 ⟨rfl, rfl⟩
  rw [show chkN [1, 0] = 0 from by decide +kernel]
  go_wp2
  go_ret
  exact ⟨rfl, HB12.out⟩
end Go.Proofs.Ytbbjoaennnopoaa
