/- An element that is not seen changes nothing of what is said: the walk. -/
import Derived.Test.YtmelaidbicaagaaViMore
namespace Go.Proofs.Ytmelaidbicaagaa
open Go.RowKit
set_option linter.unusedVariables false

theorem View.hid_els {es : List El} {x : El} {k : Nat} (hx : 1 ≤ x.un) : (es.take k ++ [x] ++ es.drop k).filter (fun e => e.un == 0) = es.filter (fun e => e.un == 0) := by
  rw [List.filter_append, List.filter_append, List.filter_cons, if_neg (by simp; omega)]
  simp only [List.filter_nil, List.append_nil]
  rw [← List.filter_append, List.take_append_drop]
theorem View.hid_text {es : List El} {x : El} {k : Nat} (hx : 1 ≤ x.un) : View.text (es.take k ++ [x] ++ es.drop k) = View.text es := by rw [View.text_els, View.text_els, View.hid_els hx]
theorem View.hid_len {es : List El} {x : El} {k : Nat} (hx : 1 ≤ x.un) : (View.seen (es.take k ++ [x] ++ es.drop k)).length = (View.seen es).length := by rw [View.seen_flen, View.seen_flen, View.hid_els hx]

set_option maxRecDepth 100000 in
set_option maxHeartbeats 8000000 in
theorem walk_ViewHidden (v : Value) (es : List El) (i : Int) (x : El) (w : World) (hw : SliceG 6 El.cells w v es ∧ es.length ≤ maxLen ∧ ∀ e ∈ es, e.un ≤ maxLen) (hi : (Lit.int .i64 i).wf = true) (hx : x.un ≤ maxLen) :
    Calls Try.prog 6 #[v, .int .i64 i, x.val] w fun e w' => e = .returned (.bool true) ∧ Below w.heap.size w w' := by
  obtain ⟨hv, hm, hu⟩ := hw
  have HV := Lib.hid hv
  obtain ⟨va, vc, rfl⟩ := hv.shape
  obtain ⟨t, s, rt, rs, rune, ua, un, uc⟩ := x
  simp only at hx
  have HB0 := Lib.hid (grew_alloc w (.cells #[.int .i64 t, .int .i64 s, .int .i64 rt, .int .i64 rs, .int .i64 rune, .slice ua un uc] 44))
  have HX0 := Lib.hid (Holds.new w [.int .i64 t, .int .i64 s, .int .i64 rt, .int .i64 rs, .int .i64 rune, .slice ua un uc] 44)
  have HFEW := Lib.hid (fun W h => ref12_Few (.slice va es.length vc) es W h hm hu)
  have HU := Lib.hid hu
  clear hv hu hi
  unfold El.val
  simp only
  unfold maxLen at hx
  go_enter Try.func6, Try.ntmps6
  go_wp2_with fail
  generalize w.alloc (.cells #[.int .i64 t, .int .i64 s, .int .i64 rt, .int .i64 rs, .int .i64 rune, .slice ua un uc] 44) = W0 at *
  have HS := Lib.hid (HV.out.below HB0.out)
  refine (HFEW.out _ HS.out).mono ?_
  have p5 := HX0.out.cell 5 (by simp)
  simp only [List.getElem_cons_zero, List.getElem_cons_succ] at p5
  by_cases hfew : es.length ≤ 60 ∧ ∀ e ∈ es, e.un ≤ 20
  · rintro e w1 ⟨rfl, rfl⟩
    rw [decide_eq_true hfew]
    have h60 := hfew.1
    clear hfew hm HFEW HU
    by_cases hr : (0 ≤ i ∧ i ≤ es.length) ∧ (1 ≤ un ∧ un ≤ 20)
    · obtain ⟨k, rfl⟩ : ∃ k : Nat, i = k := ⟨i.toNat, by omega⟩
      have hke : k ≤ es.length := by omega
      have hun := hr.2
      have d1 : decide ((k : Int) < 0) = false := decide_eq_false (by omega)
      have d2 : decide ((es.length : Int) < (k : Int)) = false := decide_eq_false (by omega)
      have d2' : decide (es.length < k) = false := decide_eq_false (by omega)
      have d3 : decide ((un : Int) < 1) = false := decide_eq_false (by omega)
      have d3' : decide (un < 1) = false := decide_eq_false (by omega)
      have d4 : decide ((20 : Int) < (un : Int)) = false := decide_eq_false (by omega)
      have d4' : decide (20 < un) = false := decide_eq_false (by omega)
      have hkc : k ≤ vc := by
        obtain ⟨_, c', e, hc, _⟩ := HV.out
        injection e with _ _ e3
        subst e3
        omega
      have hkc' : (k : Int) ≤ (vc : Int) := by omega
      have hke' : (k : Int) ≤ (es.length : Int) := by omega
      clear hr
      have HTA := Lib.hid (HS.out.take hke)
      have HLA : Hid ((es.take k).length = k) := Lib.hid (by rw [List.length_take]; omega)
      have HLD : Hid ((es.drop k).length = es.length - k) := Lib.hid (by rw [List.length_drop])
      have HTX := Lib.hid (View.hid_text (es := es) (x := ⟨t, s, rt, rs, rune, ua, un, uc⟩) (k := k) hun.1)
      have HTL := Lib.hid (View.hid_len (es := es) (x := ⟨t, s, rt, rs, rune, ua, un, uc⟩) (k := k) hun.1)
      have HKE : Hid (k = es.length → ∀ W AD c', Below w1.heap.size w1 W → SliceG 6 El.cells W (.slice AD (es.length - k) c') (es.drop k)) := Lib.hid (fun h W AD c' _ => SliceG.none_left h AD c')
      have HKL : Hid (k < es.length → ∀ b off, va = some ⟨b, off, none⟩ → ∀ W, Below w1.heap.size w1 W → SliceG 6 El.cells W (.slice (some ⟨b, off + k * 6, none⟩) (es.length - k) (vc - k)) (es.drop k)) := Lib.hid (fun h b off e W hb => by
        have := HS.out.below hb
        rw [e] at this
        exact this.rest h)
      have HAT : Hid (k < es.length → (∃ b off, va = some ⟨b, off, none⟩) ∧ vc ≠ k) := Lib.hid (fun h => by
        obtain ⟨b, off, e, _⟩ := HV.out.at h
        obtain ⟨_, c', e', hc, _⟩ := HV.out
        injection e' with _ _ e3
        subst e3
        exact ⟨⟨b, off, e⟩, by omega⟩)
      generalize es.take k = A at *
      generalize es.drop k = D at *
      by_cases hlt : k < es.length
      · obtain ⟨⟨b, off, e⟩, hvk⟩ := HAT.out hlt
        subst e
        have HDW := Lib.hid (HKL.out hlt b off rfl)
        clear hlt HKE HKL HAT
        go_wp2_with (first
          | (at_builtin; refine wp_append_els rfl (.tmp 34) (.tmp 37) rfl w1.heap.size _ [] rfl (OwnL.nil _ _) (Nat.le_refl _) _ A rfl HTA.out (by rw [HLA.out]; simp; omega) ?_; intro v2 w2 ho2 hb2; obtain ⟨a2, c2, e2⟩ := ho2.slice.shape; rw [List.nil_append, HLA.out] at e2; subst e2; have HO2 := Lib.hid (show OwnL _ _ _ A from ho2); have HB2 := Lib.hid hb2; have HX2 := Lib.hid (HX0.out.keep (Keep.of_grew hb2 Non) (fun h => h)); have q0 := HX2.out.cell 0 (by simp); have q1 := HX2.out.cell 1 (by simp); have q2 := HX2.out.cell 2 (by simp); have q3 := HX2.out.cell 3 (by simp); have q4 := HX2.out.cell 4 (by simp); have q5 := HX2.out.cell 5 (by simp); simp only [List.getElem_cons_zero, List.getElem_cons_succ] at q0 q1 q2 q3 q4 q5; clear ho2 hb2)
          | (at_builtin; refine wp_append_els rfl (.tmp 39) (.tmp 41) rfl w1.heap.size _ A rfl (World.ownsRow.alloc HO2.out _) (Nat.le_trans HB2.out.size (grew_alloc w2 _).size) _ [(⟨t, s, rt, rs, rune, ua, un, uc⟩ : El)] rfl (els_new w2 [(⟨t, s, rt, rs, rune, ua, un, uc⟩ : El)] _ rfl) (by rw [HLA.out]; simp; omega) ?_; intro v4 w4 ho4 hb4; obtain ⟨a4, c4, e4⟩ := ho4.slice.shape; rw [show (A ++ [(⟨t, s, rt, rs, rune, ua, un, uc⟩ : El)]).length = k + 1 by rw [List.length_append, HLA.out]; rfl] at e4; subst e4; have HO4 := Lib.hid ho4; have HB4 := Lib.hid ((grew HB2.out (grew_alloc w2 (.cells #[.int .i64 t, .int .i64 s, .int .i64 rt, .int .i64 rs, .int .i64 rune, .slice ua un uc] 44))).trans hb4); clear ho4 hb4 q0 q1 q2 q3 q4 q5)
          | (at_builtin; refine wp_append_els rfl (.tmp 43) (.tmp 46) rfl w1.heap.size _ (A ++ [(⟨t, s, rt, rs, rune, ua, un, uc⟩ : El)]) rfl HO4.out HB4.out.size _ D rfl (by first | exact HDW.out _ HB4.out | exact HDW.out _ _ _ HB4.out) (by rw [List.length_append, HLA.out, HLD.out]; simp; omega) ?_; intro v5 w5 ho5 hb5; obtain ⟨a5, c5, e5⟩ := ho5.slice.shape; rw [show (A ++ [(⟨t, s, rt, rs, rune, ua, un, uc⟩ : El)] ++ D).length = k + 1 + (es.length - k) by rw [List.length_append, List.length_append, HLA.out, HLD.out]; rfl] at e5; subst e5; have HO5 := Lib.hid ho5; have HB5 := Lib.hid (HB4.out.trans hb5); clear ho5 hb5))
        have HLM : Hid ((A ++ [(⟨t, s, rt, rs, rune, ua, un, uc⟩ : El)] ++ D).length ≤ 1000) := Lib.hid (by rw [List.length_append, List.length_append, HLA.out, HLD.out]; simp; omega)
        have HM5 := Lib.hid HO5.out.slice
        generalize A ++ [(⟨t, s, rt, rs, rune, ua, un, uc⟩ : El)] ++ D = M at *
        refine (view_Text _ M _ HM5.out (by have := HLM.out; omega)).mono ?_
        rintro e w6 ⟨rfl, hb⟩
        rw [HTX.out]
        have HB6 := Lib.hid (grew HB5.out hb)
        have HM6 := Lib.hid (HM5.out.below hb)
        clear hb
        go_wp2_with fail
        refine (view_Text _ es _ (HS.out.below HB6.out) (by omega)).mono ?_
        rintro e w7 ⟨rfl, hb⟩
        have HB7 := Lib.hid (grew HB6.out hb)
        have HM7 := Lib.hid (HM6.out.below hb)
        clear hb
        generalize View.text es = T at *
        go_wp2_with fail
        refine (view_Seen _ M _ HM7.out (by have := HLM.out; omega)).mono ?_
        rintro e w8 ⟨p, rfl, ho, hb⟩
        obtain ⟨pa, pc, e⟩ := ho.slice.shape
        rw [View.nums_len, HTL.out] at e
        subst e
        have HB8 := Lib.hid (grew HB7.out hb)
        clear hb ho
        go_wp2_with fail
        refine (view_Seen _ es _ (HS.out.below HB8.out) (by omega)).mono ?_
        rintro e w9 ⟨p, rfl, ho, hb⟩
        obtain ⟨qa, qc, e⟩ := ho.slice.shape
        rw [View.nums_len] at e
        subst e
        have HB9 := Lib.hid (grew HB8.out hb)
        clear hb ho
        go_wp2_with fail
        refine (law12_live _).mono ?_
        rintro e w10 ⟨rfl, hb⟩
        have HBE := Lib.hid (grew HB0.out (grew HB9.out hb))
        clear hb
        go_wp2
        go_ret
        exact ⟨rfl, HBE.out⟩
      · have HDW := Lib.hid (HKE.out (by omega))
        clear HKE HKL HAT
        by_cases hvk : vc = k
        · have hkv : k = vc := hvk.symm
          clear hvk
          subst hkv
          rcases va with _ | va
          all_goals
            go_wp2_with (first
              | (at_builtin; refine wp_append_els rfl (.tmp 34) (.tmp 37) rfl w1.heap.size _ [] rfl (OwnL.nil _ _) (Nat.le_refl _) _ A rfl HTA.out (by rw [HLA.out]; simp; omega) ?_; intro v2 w2 ho2 hb2; obtain ⟨a2, c2, e2⟩ := ho2.slice.shape; rw [List.nil_append, HLA.out] at e2; subst e2; have HO2 := Lib.hid (show OwnL _ _ _ A from ho2); have HB2 := Lib.hid hb2; have HX2 := Lib.hid (HX0.out.keep (Keep.of_grew hb2 Non) (fun h => h)); have q0 := HX2.out.cell 0 (by simp); have q1 := HX2.out.cell 1 (by simp); have q2 := HX2.out.cell 2 (by simp); have q3 := HX2.out.cell 3 (by simp); have q4 := HX2.out.cell 4 (by simp); have q5 := HX2.out.cell 5 (by simp); simp only [List.getElem_cons_zero, List.getElem_cons_succ] at q0 q1 q2 q3 q4 q5; clear ho2 hb2)
              | (at_builtin; refine wp_append_els rfl (.tmp 39) (.tmp 41) rfl w1.heap.size _ A rfl (World.ownsRow.alloc HO2.out _) (Nat.le_trans HB2.out.size (grew_alloc w2 _).size) _ [(⟨t, s, rt, rs, rune, ua, un, uc⟩ : El)] rfl (els_new w2 [(⟨t, s, rt, rs, rune, ua, un, uc⟩ : El)] _ rfl) (by rw [HLA.out]; simp; omega) ?_; intro v4 w4 ho4 hb4; obtain ⟨a4, c4, e4⟩ := ho4.slice.shape; rw [show (A ++ [(⟨t, s, rt, rs, rune, ua, un, uc⟩ : El)]).length = k + 1 by rw [List.length_append, HLA.out]; rfl] at e4; subst e4; have HO4 := Lib.hid ho4; have HB4 := Lib.hid ((grew HB2.out (grew_alloc w2 (.cells #[.int .i64 t, .int .i64 s, .int .i64 rt, .int .i64 rs, .int .i64 rune, .slice ua un uc] 44))).trans hb4); clear ho4 hb4 q0 q1 q2 q3 q4 q5)
              | (at_builtin; refine wp_append_els rfl (.tmp 43) (.tmp 46) rfl w1.heap.size _ (A ++ [(⟨t, s, rt, rs, rune, ua, un, uc⟩ : El)]) rfl HO4.out HB4.out.size _ D rfl (by first | exact HDW.out _ HB4.out | exact HDW.out _ _ _ HB4.out) (by rw [List.length_append, HLA.out, HLD.out]; simp; omega) ?_; intro v5 w5 ho5 hb5; obtain ⟨a5, c5, e5⟩ := ho5.slice.shape; rw [show (A ++ [(⟨t, s, rt, rs, rune, ua, un, uc⟩ : El)] ++ D).length = k + 1 + (es.length - k) by rw [List.length_append, List.length_append, HLA.out, HLD.out]; rfl] at e5; subst e5; have HO5 := Lib.hid ho5; have HB5 := Lib.hid (HB4.out.trans hb5); clear ho5 hb5))
            have HLM : Hid ((A ++ [(⟨t, s, rt, rs, rune, ua, un, uc⟩ : El)] ++ D).length ≤ 1000) := Lib.hid (by rw [List.length_append, List.length_append, HLA.out, HLD.out]; simp; omega)
            have HM5 := Lib.hid HO5.out.slice
            generalize A ++ [(⟨t, s, rt, rs, rune, ua, un, uc⟩ : El)] ++ D = M at *
            refine (view_Text _ M _ HM5.out (by have := HLM.out; omega)).mono ?_
            rintro e w6 ⟨rfl, hb⟩
            rw [HTX.out]
            have HB6 := Lib.hid (grew HB5.out hb)
            have HM6 := Lib.hid (HM5.out.below hb)
            clear hb
            go_wp2_with fail
            refine (view_Text _ es _ (HS.out.below HB6.out) (by omega)).mono ?_
            rintro e w7 ⟨rfl, hb⟩
            have HB7 := Lib.hid (grew HB6.out hb)
            have HM7 := Lib.hid (HM6.out.below hb)
            clear hb
            generalize View.text es = T at *
            go_wp2_with fail
            refine (view_Seen _ M _ HM7.out (by have := HLM.out; omega)).mono ?_
            rintro e w8 ⟨p, rfl, ho, hb⟩
            obtain ⟨pa, pc, e⟩ := ho.slice.shape
            rw [View.nums_len, HTL.out] at e
            subst e
            have HB8 := Lib.hid (grew HB7.out hb)
            clear hb ho
            go_wp2_with fail
            refine (view_Seen _ es _ (HS.out.below HB8.out) (by omega)).mono ?_
            rintro e w9 ⟨p, rfl, ho, hb⟩
            obtain ⟨qa, qc, e⟩ := ho.slice.shape
            rw [View.nums_len] at e
            subst e
            have HB9 := Lib.hid (grew HB8.out hb)
            clear hb ho
            go_wp2_with fail
            refine (law12_live _).mono ?_
            rintro e w10 ⟨rfl, hb⟩
            have HBE := Lib.hid (grew HB0.out (grew HB9.out hb))
            clear hb
            go_wp2
            go_ret
            exact ⟨rfl, HBE.out⟩
        · rcases va with _ | va
          all_goals
            go_wp2_with (first
              | (at_builtin; refine wp_append_els rfl (.tmp 34) (.tmp 37) rfl w1.heap.size _ [] rfl (OwnL.nil _ _) (Nat.le_refl _) _ A rfl HTA.out (by rw [HLA.out]; simp; omega) ?_; intro v2 w2 ho2 hb2; obtain ⟨a2, c2, e2⟩ := ho2.slice.shape; rw [List.nil_append, HLA.out] at e2; subst e2; have HO2 := Lib.hid (show OwnL _ _ _ A from ho2); have HB2 := Lib.hid hb2; have HX2 := Lib.hid (HX0.out.keep (Keep.of_grew hb2 Non) (fun h => h)); have q0 := HX2.out.cell 0 (by simp); have q1 := HX2.out.cell 1 (by simp); have q2 := HX2.out.cell 2 (by simp); have q3 := HX2.out.cell 3 (by simp); have q4 := HX2.out.cell 4 (by simp); have q5 := HX2.out.cell 5 (by simp); simp only [List.getElem_cons_zero, List.getElem_cons_succ] at q0 q1 q2 q3 q4 q5; clear ho2 hb2)
              | (at_builtin; refine wp_append_els rfl (.tmp 39) (.tmp 41) rfl w1.heap.size _ A rfl (World.ownsRow.alloc HO2.out _) (Nat.le_trans HB2.out.size (grew_alloc w2 _).size) _ [(⟨t, s, rt, rs, rune, ua, un, uc⟩ : El)] rfl (els_new w2 [(⟨t, s, rt, rs, rune, ua, un, uc⟩ : El)] _ rfl) (by rw [HLA.out]; simp; omega) ?_; intro v4 w4 ho4 hb4; obtain ⟨a4, c4, e4⟩ := ho4.slice.shape; rw [show (A ++ [(⟨t, s, rt, rs, rune, ua, un, uc⟩ : El)]).length = k + 1 by rw [List.length_append, HLA.out]; rfl] at e4; subst e4; have HO4 := Lib.hid ho4; have HB4 := Lib.hid ((grew HB2.out (grew_alloc w2 (.cells #[.int .i64 t, .int .i64 s, .int .i64 rt, .int .i64 rs, .int .i64 rune, .slice ua un uc] 44))).trans hb4); clear ho4 hb4 q0 q1 q2 q3 q4 q5)
              | (at_builtin; refine wp_append_els rfl (.tmp 43) (.tmp 46) rfl w1.heap.size _ (A ++ [(⟨t, s, rt, rs, rune, ua, un, uc⟩ : El)]) rfl HO4.out HB4.out.size _ D rfl (by first | exact HDW.out _ HB4.out | exact HDW.out _ _ _ HB4.out) (by rw [List.length_append, HLA.out, HLD.out]; simp; omega) ?_; intro v5 w5 ho5 hb5; obtain ⟨a5, c5, e5⟩ := ho5.slice.shape; rw [show (A ++ [(⟨t, s, rt, rs, rune, ua, un, uc⟩ : El)] ++ D).length = k + 1 + (es.length - k) by rw [List.length_append, List.length_append, HLA.out, HLD.out]; rfl] at e5; subst e5; have HO5 := Lib.hid ho5; have HB5 := Lib.hid (HB4.out.trans hb5); clear ho5 hb5))
            have HLM : Hid ((A ++ [(⟨t, s, rt, rs, rune, ua, un, uc⟩ : El)] ++ D).length ≤ 1000) := Lib.hid (by rw [List.length_append, List.length_append, HLA.out, HLD.out]; simp; omega)
            have HM5 := Lib.hid HO5.out.slice
            generalize A ++ [(⟨t, s, rt, rs, rune, ua, un, uc⟩ : El)] ++ D = M at *
            refine (view_Text _ M _ HM5.out (by have := HLM.out; omega)).mono ?_
            rintro e w6 ⟨rfl, hb⟩
            rw [HTX.out]
            have HB6 := Lib.hid (grew HB5.out hb)
            have HM6 := Lib.hid (HM5.out.below hb)
            clear hb
            go_wp2_with fail
            refine (view_Text _ es _ (HS.out.below HB6.out) (by omega)).mono ?_
            rintro e w7 ⟨rfl, hb⟩
            have HB7 := Lib.hid (grew HB6.out hb)
            have HM7 := Lib.hid (HM6.out.below hb)
            clear hb
            generalize View.text es = T at *
            go_wp2_with fail
            refine (view_Seen _ M _ HM7.out (by have := HLM.out; omega)).mono ?_
            rintro e w8 ⟨p, rfl, ho, hb⟩
            obtain ⟨pa, pc, e⟩ := ho.slice.shape
            rw [View.nums_len, HTL.out] at e
            subst e
            have HB8 := Lib.hid (grew HB7.out hb)
            clear hb ho
            go_wp2_with fail
            refine (view_Seen _ es _ (HS.out.below HB8.out) (by omega)).mono ?_
            rintro e w9 ⟨p, rfl, ho, hb⟩
            obtain ⟨qa, qc, e⟩ := ho.slice.shape
            rw [View.nums_len] at e
            subst e
            have HB9 := Lib.hid (grew HB8.out hb)
            clear hb ho
            go_wp2_with fail
            refine (law12_live _).mono ?_
            rintro e w10 ⟨rfl, hb⟩
            have HBE := Lib.hid (grew HB0.out (grew HB9.out hb))
            clear hb
            go_wp2
            go_ret
            exact ⟨rfl, HBE.out⟩
    · have live : Calls Try.prog 9 #[] w1 fun e w' => e = .returned (.bool true) ∧ Below w1.heap.size w1 w' := law12_live _
      have HLV := Lib.hid live
      clear live
      by_cases h0 : i < 0
      · have d1 : decide (i < 0) = true := decide_eq_true h0
        clear hr
        go_wp2_with fail
        refine HLV.out.mono ?_
        rintro e w10 ⟨rfl, hb⟩
        have HBE := Lib.hid (grew HB0.out hb)
        clear hb
        go_wp2
        go_ret
        exact ⟨rfl, HBE.out⟩
      · have d1 : decide (i < 0) = false := decide_eq_false h0
        by_cases h1 : (es.length : Int) < i
        · have d2 : decide ((es.length : Int) < i) = true := decide_eq_true h1
          clear hr
          go_wp2_with fail
          refine HLV.out.mono ?_
          rintro e w10 ⟨rfl, hb⟩
          have HBE := Lib.hid (grew HB0.out hb)
          clear hb
          go_wp2
          go_ret
          exact ⟨rfl, HBE.out⟩
        · have d2 : decide ((es.length : Int) < i) = false := decide_eq_false h1
          by_cases h2 : un < 1
          · have d3 : decide ((un : Int) < 1) = true := decide_eq_true (by omega)
            have d3' : decide (un < 1) = true := decide_eq_true h2
            obtain rfl : un = 0 := by omega
            clear hr
            go_wp2_with fail
            refine HLV.out.mono ?_
            rintro e w10 ⟨rfl, hb⟩
            have HBE := Lib.hid (grew HB0.out hb)
            clear hb
            go_wp2
            go_ret
            exact ⟨rfl, HBE.out⟩
          · have d3 : decide ((un : Int) < 1) = false := decide_eq_false (by omega)
            have d3' : decide (un < 1) = false := decide_eq_false h2
            have d4 : decide ((20 : Int) < (un : Int)) = true := decide_eq_true (by omega)
            have d4' : decide (20 < un) = true := decide_eq_true (by omega)
            clear hr
            go_wp2_with fail
            refine HLV.out.mono ?_
            rintro e w10 ⟨rfl, hb⟩
            have HBE := Lib.hid (grew HB0.out hb)
            clear hb
            go_wp2
            go_ret
            exact ⟨rfl, HBE.out⟩
  · rintro e w1 ⟨rfl, rfl⟩
    rw [decide_eq_false hfew]
    clear hfew hm HFEW
    go_wp2_with fail
    refine (law12_live _).mono ?_
    rintro e w9 ⟨rfl, hb⟩
    have HBE := Lib.hid (grew HB0.out hb)
    clear hb
    go_wp2
    go_ret
    exact ⟨rfl, HBE.out⟩
end Go.Proofs.Ytmelaidbicaagaa
