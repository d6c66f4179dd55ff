/- Which of any elements are seen, what they say, and where: the walk. -/
import Derived.Test.YtmelaidbicaagaaViOpen
import Derived.Test.YtmelaidbicaagaaViR5
namespace Go.Proofs.Ytmelaidbicaagaa
open Go.RowKit
set_option linter.unusedVariables false

set_option maxRecDepth 100000 in
set_option maxHeartbeats 8000000 in
theorem walk_ViewAnswers (u : Value) (es : List El) (i x1 x2 t : Int) (w : World) (hw : SliceG 6 El.cells w u es ∧ es.length ≤ maxLen ∧ ∀ e ∈ es, e.un ≤ maxLen) :
    Calls Try.prog 3 #[.agg #[u, .int .i64 i, .int .i64 x1, .int .i64 x2, .int .i64 t]] w fun e w' => e = .returned (.bool true) ∧ Below w.heap.size w w' := by
  obtain ⟨hv, hm, hu⟩ := hw
  have HV := Lib.hid hv
  have HU := Lib.hid hu
  have HM := Lib.hid hm
  obtain ⟨va, vc, rfl⟩ := hv.shape
  clear hv hu
  have HB := Lib.hid (grew (grew (grew_alloc w (.cells #[.slice va es.length vc, .int .i64 i, .int .i64 x1, .int .i64 x2, .int .i64 t] 26)) (grew_alloc (w.alloc (.cells #[.slice va es.length vc, .int .i64 i, .int .i64 x1, .int .i64 x2, .int .i64 t] 26)) (.cells #[.int .i64 x1, .int .i64 x2] 24))) (grew_drew _))
  have HX : Hid (Holds ((w.alloc (.cells #[.slice va es.length vc, .int .i64 i, .int .i64 x1, .int .i64 x2, .int .i64 t] 26)).alloc (.cells #[.int .i64 x1, .int .i64 x2] 24)).drew (w.heap.size + 1) [.int .i64 x1, .int .i64 x2] 24) := Lib.hid (by
    have := (Holds.new (w.alloc (.cells #[.slice va es.length vc, .int .i64 i, .int .i64 x1, .int .i64 x2, .int .i64 t] 26)) [.int .i64 x1, .int .i64 x2] 24).keep (Keep.of_grew (grew_drew _) Non) (fun h => h)
    rwa [World.size_alloc] at this)
  have HS := Lib.hid (HV.out.below HB.out)
  have HFEW := Lib.hid (fun W h => ref12_Few (.slice va es.length vc) es W h HM.out HU.out)
  go_enter Try.func3, Try.ntmps3
  go_wp2_with fail
  go_region
  generalize ((w.alloc (.cells #[.slice va es.length vc, .int .i64 i, .int .i64 x1, .int .i64 x2, .int .i64 t] 26)).alloc (.cells #[.int .i64 x1, .int .i64 x2] 24)).drew = W0 at *
  by_cases hfew : es.length ≤ 60 ∧ ∀ e ∈ es, e.un ≤ 20
  · rw [decide_eq_true hfew] at HFEW
    have h60 := hfew.1
    clear hfew hm
    go_wp2_with fail
    refine (HFEW.out _ HS.out).mono ?_
    rintro e w1 ⟨rfl, rfl⟩
    go_wp2_with fail
    refine (view_Ref _ es i _ HS.out (by unfold maxLen; omega)).mono ?_
    rintro e w2 ⟨rfl, hb⟩
    have hb := grew hb (grew_alloc w2 (.cells #[.int .i64 (View.refT es i).1, .int .i64 (View.refT es i).2] 24))
    have HB := Lib.hid (grew HB.out hb)
    have HS := Lib.hid (HS.out.below hb)
    have HX := Lib.hid (HX.out.keep (Keep.of_grew hb Non) (fun h => h))
    have HA := Lib.hid (Holds.new w2 [.int .i64 (View.refT es i).1, .int .i64 (View.refT es i).2] 24)
    clear hb
    go_wp2_with fail
    generalize w2.alloc (.cells #[.int .i64 (View.refT es i).1, .int .i64 (View.refT es i).2] 24) = W2 at *
    generalize w2.heap.size = g2 at *
    refine (ref12_Ref _ es i _ HS.out (by omega)).mono ?_
    rintro e w3 ⟨rfl, hb⟩
    have hb := grew hb (grew_alloc w3 (.cells #[.int .i64 (View.refT es i).1, .int .i64 (View.refT es i).2] 24))
    have HB := Lib.hid (grew HB.out hb)
    have HS := Lib.hid (HS.out.below hb)
    have HX := Lib.hid (HX.out.keep (Keep.of_grew hb Non) (fun h => h))
    have HA := Lib.hid (HA.out.keep (Keep.of_grew hb Non) (fun h => h))
    have HBB := Lib.hid (Holds.new w3 [.int .i64 (View.refT es i).1, .int .i64 (View.refT es i).2] 24)
    clear hb
    have y0 := HX.out.cell 0 (by simp)
    have y1 := HX.out.cell 1 (by simp)
    simp only [List.getElem_cons_zero, List.getElem_cons_succ] at y0 y1
    go_wp2_with fail
    generalize w3.alloc (.cells #[.int .i64 (View.refT es i).1, .int .i64 (View.refT es i).2] 24) = W3 at *
    generalize w3.heap.size = g3 at *
    refine (view_Index _ es x1 x2 _ HS.out (by omega)).mono ?_
    rintro e w4 ⟨rfl, hb⟩
    have HB := Lib.hid (grew HB.out hb)
    have HS := Lib.hid (HS.out.below hb)
    have HX := Lib.hid (HX.out.keep (Keep.of_grew hb Non) (fun h => h))
    have HA := Lib.hid (HA.out.keep (Keep.of_grew hb Non) (fun h => h))
    have HBB := Lib.hid (HBB.out.keep (Keep.of_grew hb Non) (fun h => h))
    clear hb y0 y1
    have y0 := HX.out.cell 0 (by simp)
    have y1 := HX.out.cell 1 (by simp)
    simp only [List.getElem_cons_zero, List.getElem_cons_succ] at y0 y1
    go_wp2_with fail
    refine (ref12_Index _ es x1 x2 _ HS.out (by omega)).mono ?_
    rintro e w5 ⟨rfl, hb⟩
    have HB := Lib.hid (grew HB.out hb)
    have HS := Lib.hid (HS.out.below hb)
    have HX := Lib.hid (HX.out.keep (Keep.of_grew hb Non) (fun h => h))
    have HA := Lib.hid (HA.out.keep (Keep.of_grew hb Non) (fun h => h))
    have HBB := Lib.hid (HBB.out.keep (Keep.of_grew hb Non) (fun h => h))
    clear hb y0 y1
    go_wp2_with fail
    refine (view_Range _ es i t _ HS.out (by omega)).mono ?_
    rintro e w6 ⟨r, rfl, ho, hb⟩
    have ho : OwnE w6 _ r _ := ho
    have HB := Lib.hid (grew HB.out hb)
    have HS := Lib.hid (HS.out.below hb)
    have HX := Lib.hid (HX.out.keep (Keep.of_grew hb Non) (fun h => h))
    have HA := Lib.hid (HA.out.keep (Keep.of_grew hb Non) (fun h => h))
    have HBB := Lib.hid (HBB.out.keep (Keep.of_grew hb Non) (fun h => h))
    have Hr := Lib.hid ho.slice
    obtain ⟨ra, rc, e⟩ := ho.slice.shape
    subst e
    clear hb ho
    go_wp2_with fail
    refine (ref12_Range _ es i t _ HS.out (by omega)).mono ?_
    rintro e w7 ⟨s, rfl, ho, hb⟩
    have ho : OwnE w7 _ s _ := ho
    have HB := Lib.hid (grew HB.out hb)
    have HS := Lib.hid (HS.out.below hb)
    have HX := Lib.hid (HX.out.keep (Keep.of_grew hb Non) (fun h => h))
    have HA := Lib.hid (HA.out.keep (Keep.of_grew hb Non) (fun h => h))
    have HBB := Lib.hid (HBB.out.keep (Keep.of_grew hb Non) (fun h => h))
    have Hr := Lib.hid (Hr.out.below hb)
    have Hs := Lib.hid ho.slice
    obtain ⟨sa, sc, e⟩ := ho.slice.shape
    subst e
    clear hb ho
    have HIL : Hid ((View.ids (View.rangeL es i t)).length ≤ 1000) := Lib.hid (by unfold View.ids View.rangeL; rw [List.length_map]; have := View.seen_len es; split; (have := View.cut_len (View.seen es) i.toNat t.toNat; omega); simp)
    generalize View.ids (View.rangeL es i t) = ids at *
    generalize View.rangeE es i t = rE at *
    generalize View.refE es i = fE at *
    generalize (View.refT es i).1 = f1 at *
    generalize (View.refT es i).2 = f2 at *
    generalize (View.idx es (x1, x2)).1 = n1 at *
    generalize (View.idx es (x1, x2)).2 = n2 at *
    go_wp2_with fail
    refine (view_Seen _ es _ HS.out (by omega)).mono ?_
    rintro e w8 ⟨p, rfl, ho, hb⟩
    have HB := Lib.hid (grew HB.out hb)
    have HS := Lib.hid (HS.out.below hb)
    have HX := Lib.hid (HX.out.keep (Keep.of_grew hb Non) (fun h => h))
    have HA := Lib.hid (HA.out.keep (Keep.of_grew hb Non) (fun h => h))
    have HBB := Lib.hid (HBB.out.keep (Keep.of_grew hb Non) (fun h => h))
    have Hr := Lib.hid (Hr.out.below hb)
    have Hs := Lib.hid (Hs.out.below hb)
    have HP := Lib.hid ho.slice
    obtain ⟨pa, pc, e⟩ := ho.slice.shape
    subst e
    clear hb ho
    go_wp2_with fail
    refine (ref12_Seen _ es _ HS.out (by omega)).mono ?_
    rintro e w9 ⟨q, rfl, ho, hb⟩
    have HB := Lib.hid (grew HB.out hb)
    have HS := Lib.hid (HS.out.below hb)
    have HX := Lib.hid (HX.out.keep (Keep.of_grew hb Non) (fun h => h))
    have HA := Lib.hid (HA.out.keep (Keep.of_grew hb Non) (fun h => h))
    have HBB := Lib.hid (HBB.out.keep (Keep.of_grew hb Non) (fun h => h))
    have Hr := Lib.hid (Hr.out.below hb)
    have Hs := Lib.hid (Hs.out.below hb)
    have HP := Lib.hid (HP.out.below hb)
    have HQ := Lib.hid ho.slice
    obtain ⟨qa, qc, e⟩ := ho.slice.shape
    subst e
    clear hb ho
    have HNL : Hid ((View.nums es).length ≤ 1000) := Lib.hid (by rw [View.nums_len]; have := View.seen_len es; omega)
    generalize View.nums es = ns at *
    go_wp2_with fail
    refine (ref01_Same _ _ ns ns _ HP.out HQ.out (by have := HNL.out; omega) (by have := HNL.out; omega)).mono ?_
    rintro e w10 ⟨rfl, hb⟩
    rw [decide_eq_true (Eq.refl ns)]
    have HB := Lib.hid (grew HB.out hb)
    have HS := Lib.hid (HS.out.below hb)
    have HX := Lib.hid (HX.out.keep (Keep.of_grew hb Non) (fun h => h))
    have HA := Lib.hid (HA.out.keep (Keep.of_grew hb Non) (fun h => h))
    have HBB := Lib.hid (HBB.out.keep (Keep.of_grew hb Non) (fun h => h))
    have Hr := Lib.hid (Hr.out.below hb)
    have Hs := Lib.hid (Hs.out.below hb)
    clear hb HP HQ HNL
    go_wp2_with fail
    refine (view_Text _ es _ HS.out (by omega)).mono ?_
    rintro e w11 ⟨rfl, hb⟩
    have HB := Lib.hid (grew HB.out hb)
    have HS := Lib.hid (HS.out.below hb)
    have HX := Lib.hid (HX.out.keep (Keep.of_grew hb Non) (fun h => h))
    have HA := Lib.hid (HA.out.keep (Keep.of_grew hb Non) (fun h => h))
    have HBB := Lib.hid (HBB.out.keep (Keep.of_grew hb Non) (fun h => h))
    have Hr := Lib.hid (Hr.out.below hb)
    have Hs := Lib.hid (Hs.out.below hb)
    clear hb
    go_wp2_with fail
    refine (ref12_Text _ es _ HS.out (by omega)).mono ?_
    rintro e w12 ⟨rfl, hb⟩
    have HB := Lib.hid (grew HB.out hb)
    have HS := Lib.hid (HS.out.below hb)
    have HX := Lib.hid (HX.out.keep (Keep.of_grew hb Non) (fun h => h))
    have HA := Lib.hid (HA.out.keep (Keep.of_grew hb Non) (fun h => h))
    have HBB := Lib.hid (HBB.out.keep (Keep.of_grew hb Non) (fun h => h))
    have Hr := Lib.hid (Hr.out.below hb)
    have Hs := Lib.hid (Hs.out.below hb)
    clear hb
    generalize View.text es = T at *
    have a0 := HA.out.cell 0 (by simp)
    have a1 := HA.out.cell 1 (by simp)
    have b0 := HBB.out.cell 0 (by simp)
    have b1 := HBB.out.cell 1 (by simp)
    simp only [List.getElem_cons_zero, List.getElem_cons_succ] at a0 a1 b0 b1
    have hq : ∀ W, (binOp .eql 24 (.agg #[.int .i64 f1, .int .i64 f2]) (.agg #[.int .i64 f1, .int .i64 f2])).run Try.prog W = .ok (.bool true) W := fun W => by rw [eql_el]; exact congrArg (fun b => Result.ok (Value.bool b) W) (decide_eq_true rfl)
    go_wp2_with fail
    refine (ref10_SameV _ _ ids ids _ Hr.out Hs.out (by have := HIL.out; omega) (by have := HIL.out; omega)).mono ?_
    rintro e w13 ⟨rfl, hb⟩
    rw [decide_eq_true (Eq.refl ids)]
    have HB := Lib.hid (grew HB.out hb)
    clear hb a0 a1 b0 b1 hq
    go_wp2_with fail
    refine (law12_live _).mono ?_
    rintro e w14 ⟨rfl, hb⟩
    have HB := Lib.hid (grew HB.out hb)
    clear hb
    go_wp2
    go_ret
    exact ⟨rfl, HB.out⟩
  · rw [decide_eq_false hfew] at HFEW
    clear hfew hm
    go_wp2_with fail
    refine (HFEW.out _ HS.out).mono ?_
    rintro e w1 ⟨rfl, rfl⟩
    go_wp2_with fail
    refine (law12_live _).mono ?_
    rintro e w14 ⟨rfl, hb⟩
    have HB := Lib.hid (grew HB.out hb)
    clear hb
    go_wp2
    go_ret
    exact ⟨rfl, HB.out⟩
end Go.Proofs.Ytmelaidbicaagaa
