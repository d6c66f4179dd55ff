/- What two rows of elements say is what both say: the walk. -/
import Derived.Test.YtmelaidbicaagaaViHalf0
import Derived.Deep.RegionHeld3
namespace Go.Proofs.Ytmelaidbicaagaa
open Go.RowKit
set_option linter.unusedVariables false

set_option maxRecDepth 100000 in
set_option maxHeartbeats 16000000 in
theorem walk_ViewHalves (u : Value) (es : List El) (i f t : Int) (w : World) (hw : SliceG 6 El.cells w u es ∧ es.length ≤ maxLen ∧ ∀ e ∈ es, e.un ≤ maxLen) :
    Calls Try.prog 5 #[.agg #[u, .int .i64 i, .int .i64 f, .int .i64 t]] w fun e w' => e = .returned (.bool true) ∧ Below w.heap.size w w' := by
  obtain ⟨hv, hm, hu⟩ := hw
  have HV := Lib.hid hv
  obtain ⟨va, vc, rfl⟩ := hv.shape
  have HB0 := Lib.hid (grew_alloc w (.cells #[.slice va es.length vc, .int .i64 i, .int .i64 f, .int .i64 t] 47))
  have HX0 := Lib.hid (Holds.new w [.slice va es.length vc, .int .i64 i, .int .i64 f, .int .i64 t] 47)
  have HFEW := Lib.hid (fun W h => ref12_Few (.slice va es.length vc) es W h hm hu)
  clear hv hu
  have x0 := HX0.out.cell 0 (by simp)
  have x1 := HX0.out.cell 1 (by simp)
  have x2 := HX0.out.cell 2 (by simp)
  have x3 := HX0.out.cell 3 (by simp)
  simp only [List.getElem_cons_zero, List.getElem_cons_succ] at x0 x1 x2 x3
  go_enter Try.func5, Try.ntmps5
  go_wp2_with fail
  generalize w.alloc (.cells #[.slice va es.length vc, .int .i64 i, .int .i64 f, .int .i64 t] 47) = W0 at *
  go_quiet (fail)
  have HB0 := Lib.hid (grew HB0.out (grew_drewN W0 nq))
  generalize W0.drewN nq = W1 at *
  have HS := Lib.hid (HV.out.below HB0.out)
  clear x0 x1 x2 x3 HX0
  go_wp2_with fail
  refine (HFEW.out _ HS.out).mono ?_
  by_cases hfew : es.length ≤ 60 ∧ ∀ e ∈ es, e.un ≤ 20
  · rintro e w1 ⟨rfl, rfl⟩
    rw [decide_eq_true hfew]
    have h60 := hfew.1
    clear hfew hm HFEW
    by_cases hr : 0 ≤ i ∧ i ≤ es.length
    · obtain ⟨k, rfl⟩ : ∃ k : Nat, i = k := ⟨i.toNat, by omega⟩
      have hke : k ≤ es.length := by omega
      have d1 : decide ((k : Int) < 0) = false := decide_eq_false (by omega)
      have d2 : decide ((es.length : Int) < (k : Int)) = false := decide_eq_false (by omega)
      have d2' : decide (es.length < k) = false := decide_eq_false (by omega)
      have hkc : k ≤ vc := by
        obtain ⟨_, c', e, hc, _⟩ := HV.out
        injection e with _ _ e3
        subst e3
        omega
      have hkc' : (k : Int) ≤ (vc : Int) := by omega
      have hke' : (k : Int) ≤ (es.length : Int) := by omega
      clear hr
      have HKE : Hid (k = es.length → ∀ W AD c', Below w1.heap.size w1 W → SliceG 6 El.cells W (.slice AD (es.length - k) c') (es.drop k)) := Lib.hid (fun h W AD c' _ => SliceG.none_left h AD c')
      have HKL : Hid (k < es.length → ∀ b off, va = some ⟨b, off, none⟩ → ∀ W, Below w1.heap.size w1 W → SliceG 6 El.cells W (.slice (some ⟨b, off + k * 6, none⟩) (es.length - k) (vc - k)) (es.drop k)) := Lib.hid (fun h b off e W hb => by
        have := HS.out.below hb
        rw [e] at this
        exact this.rest h)
      have HAT : Hid (k < es.length → (∃ b off, va = some ⟨b, off, none⟩) ∧ vc ≠ k) := Lib.hid (fun h => by
        obtain ⟨b, off, e, _⟩ := HV.out.at h
        obtain ⟨_, c', e', hc, _⟩ := HV.out
        injection e' with _ _ e3
        subst e3
        exact ⟨⟨b, off, e⟩, by omega⟩)
      have HTA := Lib.hid (HS.out.take hke)
      have HLA : Hid ((es.take k).length = k) := Lib.hid (by rw [List.length_take]; omega)
      have HLD : Hid ((es.drop k).length = es.length - k) := Lib.hid (by rw [List.length_drop])
      have HTX := Lib.hid (View.half_text es k)
      have HTL := Lib.hid (View.half_len es k)
      have hz1 := View.text_size (es.take k)
      have hz2 := View.text_size (es.drop k)
      have hz3 := View.seen_len (es.take k)
      have hz4 := View.seen_len (es.drop k)
      rw [HLA.out] at hz1 hz3
      rw [HLD.out] at hz2 hz4
      generalize es.take k = A at *
      generalize es.drop k = D at *
      by_cases hlt : k < es.length
      · obtain ⟨⟨b, off, e⟩, hvk⟩ := HAT.out hlt
        subst e
        have HDW := Lib.hid (HKL.out hlt b off rfl)
        clear hlt HKE HKL HAT
        have HT0 := Lib.hid (fun W (h : Below w1.heap.size w1 W) => view_Text _ es W (HS.out.below h) (by omega))
        have HTA2 := Lib.hid (fun W (h : Below w1.heap.size w1 W) => view_Text _ A W (HTA.out.below h) (by rw [HLA.out]; omega))
        have HTD2 := Lib.hid (fun W v (h : SliceG 6 El.cells W v D) => view_Text v D W h (by rw [HLD.out]; omega))
        have HS0 := Lib.hid (fun W (h : Below w1.heap.size w1 W) => view_Seen _ es W (HS.out.below h) (by omega))
        have HSA2 := Lib.hid (fun W (h : Below w1.heap.size w1 W) => view_Seen _ A W (HTA.out.below h) (by rw [HLA.out]; omega))
        have HSD2 := Lib.hid (fun W v (h : SliceG 6 El.cells W v D) => view_Seen v D W h (by rw [HLD.out]; omega))
        have HN0 := Lib.hid (View.nums_len es)
        have HNA := Lib.hid (View.nums_len A)
        have HND := Lib.hid (View.nums_len D)
        rw [HTL.out] at HN0
        rw [HTX.out] at HT0
        generalize View.text A = TA at *
        generalize View.text D = TD at *
        generalize hnA : (View.seen A).length = nA at *
        generalize hnD : (View.seen D).length = nD at *
        have HNN := Lib.hid HTL.out
        clear hnA hnD HTL HTX
        have hsz : ∀ W : World, (Op.stringOp .add TA TD).run Try.prog W = .ok (.string (TA ++ TD)) W := fun W => run_string_add_sum W TA TD (by omega)
        have hss : ((TA ++ TD).toList == (TA ++ TD).toList) = true := str_same rfl
        have hwr : IntKind.i64.wrap ((nA : Int) + (nD : Int)) = (nA : Int) + (nD : Int) := by rw [IntKind.wrap_i64]; omega
        have hne1 : (((nA : Int) + (nD : Int)) != ((nA : Int) + (nD : Int))) = false := by simp
        have hne2 : ((((nA + nD : Nat)) : Int) != ((nA : Int) + (nD : Int))) = false := by simp
        go_wp2_with fail
        go_region_held3 (fun W => True)
          (first | trivial)
          (first
            | (go_at_call 19; refine (HT0.out _ (grew_drew _)).mono ?_; rintro e wa ⟨rfl, hb⟩; have HB1 := Lib.hid (grew (grew_drew w1) hb); clear hb HT0)
            | (go_at_call 19; refine (HTA2.out _ HB1.out).mono ?_; rintro e wb ⟨rfl, hb⟩; have HB2 := Lib.hid (grew HB1.out hb); clear hb HTA2)
            | (go_at_call 19; refine (HTD2.out _ _ (by first | exact HDW.out _ HB2.out | exact HDW.out _ _ _ HB2.out)).mono ?_; rintro e wc ⟨rfl, hb⟩; have HB3 := Lib.hid (grew HB2.out hb); clear hb HTD2)
            | (go_at_call 17; refine (HS0.out _ HB3.out).mono ?_; rintro e wd ⟨rp, rfl, ho, hb⟩; have HB4 := Lib.hid (grew HB3.out hb); obtain ⟨pa, pc, e5⟩ := ho.slice.shape; rw [HN0.out] at e5; subst e5; clear hb ho HS0)
            | (go_at_call 17; refine (HSA2.out _ HB4.out).mono ?_; rintro e we ⟨rp, rfl, ho, hb⟩; have HB5 := Lib.hid (grew HB4.out hb); obtain ⟨pa, pc, e5⟩ := ho.slice.shape; rw [HNA.out] at e5; subst e5; clear hb ho HSA2)
            | (go_at_call 17; refine (HSD2.out _ _ (by first | exact HDW.out _ HB5.out | exact HDW.out _ _ _ HB5.out)).mono ?_; rintro e wf ⟨rp, rfl, ho, hb⟩; have HB6 := Lib.hid (grew HB5.out hb); obtain ⟨pa, pc, e5⟩ := ho.slice.shape; rw [HND.out] at e5; subst e5; clear hb ho HSD2))
        go_wp2_with fail
        refine (view_Seen _ es _ (HS.out.below HB6.out) (by omega)).mono ?_
        rintro e wg ⟨rp, rfl, ho, hb⟩
        have HB7 := Lib.hid (grew HB6.out hb)
        obtain ⟨pa, pc, e5⟩ := ho.slice.shape
        rw [HN0.out] at e5
        subst e5
        clear hb ho
        have HNI : Hid (((nA + nD : Nat) : Int) = (nA : Int) + (nD : Int)) := Lib.hid (by omega)
        go_wp2_with fail
        refine (view_Range _ es 0 f _ (HS.out.below HB7.out) (by omega)).mono ?_
        rintro e wh ⟨ra, rfl, ho, hb⟩
        have ho : OwnE wh _ ra _ := ho
        have HB8 := Lib.hid (grew HB7.out hb)
        have HA1 := Lib.hid ho.slice
        obtain ⟨aa, ac, e5⟩ := ho.slice.shape
        subst e5
        clear hb ho
        go_wp2_with fail
        refine (view_Range _ es f t _ (HS.out.below HB8.out) (by omega)).mono ?_
        rintro e wi ⟨rb, rfl, ho, hb⟩
        have ho : OwnE wi _ rb _ := ho
        have HB9 := Lib.hid (grew HB8.out hb)
        have HA1 := Lib.hid (HA1.out.below hb)
        have HA2 := Lib.hid ho.slice
        obtain ⟨ba, bc, e5⟩ := ho.slice.shape
        subst e5
        clear hb ho
        go_wp2_with fail
        refine (view_Range _ es t ((nA : Int) + (nD : Int)) _ (HS.out.below HB9.out) (by omega)).mono ?_
        rintro e wj ⟨rc, rfl, ho, hb⟩
        have ho : OwnE wj _ rc _ := ho
        have HB10 := Lib.hid (grew HB9.out hb)
        have HA1 := Lib.hid (HA1.out.below hb)
        have HA2 := Lib.hid (HA2.out.below hb)
        have HA3 := Lib.hid ho.slice
        obtain ⟨ca, cc, e5⟩ := ho.slice.shape
        subst e5
        clear hb ho
        by_cases hok : 0 ≤ f ∧ f ≤ t ∧ t ≤ (View.seen es).length
        · have HE : Hid ((View.rangeE es 0 f = 0 ∧ View.rangeE es f t = 0 ∧ View.rangeE es t ((nA : Int) + (nD : Int)) = 0 ∧ View.rangeE es 0 ((nA : Int) + (nD : Int)) = 0) ∧ View.rangeL es 0 f ++ View.rangeL es f t ++ View.rangeL es t ((nA : Int) + (nD : Int)) = View.rangeL es 0 ((nA : Int) + (nD : Int)) ∧ (View.rangeL es f t).length = (t - f).toNat ∧ (View.rangeL es 0 f).length ≤ 1000 ∧ (View.rangeL es t ((nA : Int) + (nD : Int))).length ≤ 1000) := Lib.hid (by
            have hN : ((View.seen es).length : Int) = (nA : Int) + (nD : Int) := by rw [HNN.out]; omega
            have e1 : View.rangeL es 0 f = View.cut (View.seen es) 0 f.toNat := if_pos (by omega)
            have e2 : View.rangeL es f t = View.cut (View.seen es) f.toNat t.toNat := if_pos (by omega)
            have e3 : View.rangeL es t ((nA : Int) + (nD : Int)) = View.cut (View.seen es) t.toNat (View.seen es).length := by unfold View.rangeL; rw [if_pos (by omega), ← hN, Int.toNat_natCast]
            have e4 : View.rangeL es 0 ((nA : Int) + (nD : Int)) = View.cut (View.seen es) 0 (View.seen es).length := by unfold View.rangeL; rw [if_pos (by omega), ← hN, Int.toNat_natCast]; rfl
            have hsl := View.seen_len es
            refine ⟨⟨if_pos (by omega), if_pos (by omega), if_pos (by omega), if_pos (by omega)⟩, ?_, ?_, ?_, ?_⟩
            · rw [e1, e2, e3, e4]; exact View.cut_three (by omega) (by omega)
            · rw [e2, View.cut_len2 (by omega) (by omega)]; omega
            · rw [e1]; have := View.cut_len (View.seen es) 0 f.toNat; omega
            · rw [e3]; have := View.cut_len (View.seen es) t.toNat (View.seen es).length; omega)
          have hft : 0 ≤ f ∧ f ≤ t ∧ t ≤ 1000 := by have := View.seen_len es; omega
          clear hok
          have HI1 : Hid ((View.ids (View.rangeL es f t)).length = (t - f).toNat) := Lib.hid (by unfold View.ids; rw [List.length_map]; exact HE.out.2.2.1)
          rw [HE.out.1.1, HE.out.1.2.1, HE.out.1.2.2.1]
          have HD4 := Lib.hid (fun W (h : Below w1.heap.size w1 W) => view_Range _ es 0 ((nA : Int) + (nD : Int)) W (HS.out.below h) (by omega))
          rw [HE.out.1.2.2.2] at HD4
          have HCAT := Lib.hid HE.out.2.1
          have HLN : Hid ((View.rangeL es 0 f).length ≤ 1000 ∧ (View.rangeL es f t).length ≤ 1000 ∧ (View.rangeL es t ((nA : Int) + (nD : Int))).length ≤ 1000) := Lib.hid ⟨HE.out.2.2.2.1, by rw [HE.out.2.2.1]; omega, HE.out.2.2.2.2⟩
          clear HE
          generalize View.rangeL es 0 f = L1 at *
          generalize View.rangeL es f t = L2 at *
          generalize View.rangeL es t ((nA : Int) + (nD : Int)) = L3 at *
          generalize View.rangeL es 0 ((nA : Int) + (nD : Int)) = L4 at *
          go_wp2_with (first
            | (at_builtin; refine wp_append_ide rfl (.tmp 102) (.tmp 103) rfl wj.heap.size _ [] rfl (OwnE.nil _ _) (Nat.le_refl _) _ L1 rfl HA1.out (by have := HLN.out; simp; omega) ?_; intro v1 z1 ho1 hb1; have HP1 := Lib.hid (show OwnE _ _ _ L1 from ho1); have HQ1 := Lib.hid hb1; obtain ⟨p1, c1, e5⟩ := ho1.slice.shape; generalize (View.ids _).length = n1 at e5; subst e5; clear ho1 hb1)
            | (at_builtin; refine wp_append_ide rfl (.tmp 105) (.tmp 106) rfl wj.heap.size _ L1 rfl HP1.out HQ1.out.size _ L2 rfl (HA2.out.below HQ1.out) (by have := HLN.out; omega) ?_; intro v2 z2 ho2 hb2; have HP2 := Lib.hid ho2; have HQ2 := Lib.hid (HQ1.out.trans hb2); obtain ⟨p2, c2, e5⟩ := ho2.slice.shape; generalize (View.ids _).length = n2 at e5; subst e5; clear ho2 hb2)
            | (at_builtin; refine wp_append_ide rfl (.tmp 108) (.tmp 109) rfl wj.heap.size _ (L1 ++ L2) rfl HP2.out HQ2.out.size _ L3 rfl (HA3.out.below HQ2.out) (by have := HLN.out; rw [List.length_append]; omega) ?_; intro v3 z3 ho3 hb3; have HP3 := Lib.hid ho3; have HQ3 := Lib.hid (HQ2.out.trans hb3); obtain ⟨p3, c3, e5⟩ := ho3.slice.shape; generalize (View.ids _).length = n3 at e5; subst e5; clear ho3 hb3))
          rw [HCAT.out] at HP3
          refine (HD4.out _ (grew HB10.out HQ3.out)).mono ?_
          rintro e wk ⟨rd, rfl, ho, hb⟩
          have ho : OwnE wk _ rd _ := ho
          have HB11 := Lib.hid (grew (grew HB10.out HQ3.out) hb)
          have HW := Lib.hid (HP3.out.slice.below hb)
          have HA4 := Lib.hid ho.slice
          obtain ⟨da, dc, e5⟩ := ho.slice.shape
          subst e5
          clear hb ho
          have HL4 : Hid ((View.ids L4).length ≤ 10000) := Lib.hid (by unfold View.ids; rw [List.length_map, ← HCAT.out, List.length_append, List.length_append]; have := HLN.out; omega)
          have hd1 : IntKind.i64.wrap (t - f) = t - f := by rw [IntKind.wrap_i64]; omega
          have hd2 : ((((t - f).toNat : Nat) : Int) == t - f) = true := by simp; omega
          have hd3 : ((((View.ids L2).length : Nat) : Int) == t - f) = true := by rw [HI1.out]; exact hd2
          have hd4 : decide ((((View.ids L2).length : Nat) : Int) = t - f) = true := by rw [HI1.out]; exact decide_eq_true (by omega)
          go_wp2_with fail
          refine (ref10_SameV _ _ (View.ids L4) (View.ids L4) _ HA4.out HW.out (by have := HL4.out; omega) (by have := HL4.out; omega)).mono ?_
          rintro e wl ⟨rfl, hb⟩
          rw [decide_eq_true (Eq.refl (View.ids L4))]
          have HB12 := Lib.hid (grew HB11.out hb)
          clear hb
          go_wp2_with fail
          refine (law12_live _).mono ?_
          rintro e wm ⟨rfl, hb⟩
          have HBE := Lib.hid (grew HB0.out (grew HB12.out hb))
          clear hb
          go_wp2
          go_ret
          exact ⟨rfl, HBE.out⟩
        · have HE : Hid (∀ z1 z2 z3 : Int, View.rangeE es 0 f = z1 → View.rangeE es f t = z2 → View.rangeE es t ((nA : Int) + (nD : Int)) = z3 → z1 ≠ 0 ∨ z2 ≠ 0 ∨ z3 ≠ 0) := Lib.hid (fun z1 z2 z3 h1 h2 h3 => by
            by_cases hh : z2 = 0
            · exfalso
              rw [hh] at h2
              have : 0 ≤ f ∧ f ≤ t ∧ t ≤ (View.seen es).length := by
                unfold View.rangeE at h2
                split at h2
                · assumption
                · cases h2
              exact hok this
            · exact .inr (.inl hh))
          clear hok
          generalize hz1 : View.rangeE es 0 f = z1
          generalize hz2 : View.rangeE es f t = z2
          generalize hz3 : View.rangeE es t ((nA : Int) + (nD : Int)) = z3
          have hE := HE.out z1 z2 z3 hz1 hz2 hz3
          clear HE hz1 hz2 hz3
          by_cases g1 : z1 = 0
          · subst g1
            by_cases g2 : z2 = 0
            · subst g2
              have g3 : z3 ≠ 0 := by omega
              have m3 : (z3 != 0) = true := by simp [g3]
              have m4 : (z3 == 0) = false := by simp [g3]
              clear hE g3
              go_wp2_with fail
              refine (law12_live _).mono ?_
              rintro e wm ⟨rfl, hb⟩
              have HBE := Lib.hid (grew HB0.out (grew HB10.out hb))
              clear hb
              go_wp2
              go_ret
              exact ⟨rfl, HBE.out⟩
            · have m3 : (z2 != 0) = true := by simp [g2]
              have m4 : (z2 == 0) = false := by simp [g2]
              clear hE g2
              go_wp2_with fail
              refine (law12_live _).mono ?_
              rintro e wm ⟨rfl, hb⟩
              have HBE := Lib.hid (grew HB0.out (grew HB10.out hb))
              clear hb
              go_wp2
              go_ret
              exact ⟨rfl, HBE.out⟩
          · have m3 : (z1 != 0) = true := by simp [g1]
            have m4 : (z1 == 0) = false := by simp [g1]
            clear hE g1
            go_wp2_with fail
            refine (law12_live _).mono ?_
            rintro e wm ⟨rfl, hb⟩
            have HBE := Lib.hid (grew HB0.out (grew HB10.out hb))
            clear hb
            go_wp2
            go_ret
            exact ⟨rfl, HBE.out⟩
      · have HDW := Lib.hid (HKE.out (by omega))
        clear HKE HKL HAT
        by_cases hvk : vc = k
        · have hkv : k = vc := hvk.symm
          clear hvk
          subst hkv
          rcases va with _ | va
          all_goals
            have HT0 := Lib.hid (fun W (h : Below w1.heap.size w1 W) => view_Text _ es W (HS.out.below h) (by omega))
            have HTA2 := Lib.hid (fun W (h : Below w1.heap.size w1 W) => view_Text _ A W (HTA.out.below h) (by rw [HLA.out]; omega))
            have HTD2 := Lib.hid (fun W v (h : SliceG 6 El.cells W v D) => view_Text v D W h (by rw [HLD.out]; omega))
            have HS0 := Lib.hid (fun W (h : Below w1.heap.size w1 W) => view_Seen _ es W (HS.out.below h) (by omega))
            have HSA2 := Lib.hid (fun W (h : Below w1.heap.size w1 W) => view_Seen _ A W (HTA.out.below h) (by rw [HLA.out]; omega))
            have HSD2 := Lib.hid (fun W v (h : SliceG 6 El.cells W v D) => view_Seen v D W h (by rw [HLD.out]; omega))
            have HN0 := Lib.hid (View.nums_len es)
            have HNA := Lib.hid (View.nums_len A)
            have HND := Lib.hid (View.nums_len D)
            rw [HTL.out] at HN0
            rw [HTX.out] at HT0
            generalize View.text A = TA at *
            generalize View.text D = TD at *
            generalize hnA : (View.seen A).length = nA at *
            generalize hnD : (View.seen D).length = nD at *
            have HNN := Lib.hid HTL.out
            clear hnA hnD HTL HTX
            have hsz : ∀ W : World, (Op.stringOp .add TA TD).run Try.prog W = .ok (.string (TA ++ TD)) W := fun W => run_string_add_sum W TA TD (by omega)
            have hss : ((TA ++ TD).toList == (TA ++ TD).toList) = true := str_same rfl
            have hwr : IntKind.i64.wrap ((nA : Int) + (nD : Int)) = (nA : Int) + (nD : Int) := by rw [IntKind.wrap_i64]; omega
            have hne1 : (((nA : Int) + (nD : Int)) != ((nA : Int) + (nD : Int))) = false := by simp
            have hne2 : ((((nA + nD : Nat)) : Int) != ((nA : Int) + (nD : Int))) = false := by simp
            go_wp2_with fail
            go_region_held3 (fun W => True)
              (first | trivial)
              (first
                | (go_at_call 19; refine (HT0.out _ (grew_drew _)).mono ?_; rintro e wa ⟨rfl, hb⟩; have HB1 := Lib.hid (grew (grew_drew w1) hb); clear hb HT0)
                | (go_at_call 19; refine (HTA2.out _ HB1.out).mono ?_; rintro e wb ⟨rfl, hb⟩; have HB2 := Lib.hid (grew HB1.out hb); clear hb HTA2)
                | (go_at_call 19; refine (HTD2.out _ _ (by first | exact HDW.out _ HB2.out | exact HDW.out _ _ _ HB2.out)).mono ?_; rintro e wc ⟨rfl, hb⟩; have HB3 := Lib.hid (grew HB2.out hb); clear hb HTD2)
                | (go_at_call 17; refine (HS0.out _ HB3.out).mono ?_; rintro e wd ⟨rp, rfl, ho, hb⟩; have HB4 := Lib.hid (grew HB3.out hb); obtain ⟨pa, pc, e5⟩ := ho.slice.shape; rw [HN0.out] at e5; subst e5; clear hb ho HS0)
                | (go_at_call 17; refine (HSA2.out _ HB4.out).mono ?_; rintro e we ⟨rp, rfl, ho, hb⟩; have HB5 := Lib.hid (grew HB4.out hb); obtain ⟨pa, pc, e5⟩ := ho.slice.shape; rw [HNA.out] at e5; subst e5; clear hb ho HSA2)
                | (go_at_call 17; refine (HSD2.out _ _ (by first | exact HDW.out _ HB5.out | exact HDW.out _ _ _ HB5.out)).mono ?_; rintro e wf ⟨rp, rfl, ho, hb⟩; have HB6 := Lib.hid (grew HB5.out hb); obtain ⟨pa, pc, e5⟩ := ho.slice.shape; rw [HND.out] at e5; subst e5; clear hb ho HSD2))
            go_wp2_with fail
            refine (view_Seen _ es _ (HS.out.below HB6.out) (by omega)).mono ?_
            rintro e wg ⟨rp, rfl, ho, hb⟩
            have HB7 := Lib.hid (grew HB6.out hb)
            obtain ⟨pa, pc, e5⟩ := ho.slice.shape
            rw [HN0.out] at e5
            subst e5
            clear hb ho
            have HNI : Hid (((nA + nD : Nat) : Int) = (nA : Int) + (nD : Int)) := Lib.hid (by omega)
            go_wp2_with fail
            refine (view_Range _ es 0 f _ (HS.out.below HB7.out) (by omega)).mono ?_
            rintro e wh ⟨ra, rfl, ho, hb⟩
            have ho : OwnE wh _ ra _ := ho
            have HB8 := Lib.hid (grew HB7.out hb)
            have HA1 := Lib.hid ho.slice
            obtain ⟨aa, ac, e5⟩ := ho.slice.shape
            subst e5
            clear hb ho
            go_wp2_with fail
            refine (view_Range _ es f t _ (HS.out.below HB8.out) (by omega)).mono ?_
            rintro e wi ⟨rb, rfl, ho, hb⟩
            have ho : OwnE wi _ rb _ := ho
            have HB9 := Lib.hid (grew HB8.out hb)
            have HA1 := Lib.hid (HA1.out.below hb)
            have HA2 := Lib.hid ho.slice
            obtain ⟨ba, bc, e5⟩ := ho.slice.shape
            subst e5
            clear hb ho
            go_wp2_with fail
            refine (view_Range _ es t ((nA : Int) + (nD : Int)) _ (HS.out.below HB9.out) (by omega)).mono ?_
            rintro e wj ⟨rc, rfl, ho, hb⟩
            have ho : OwnE wj _ rc _ := ho
            have HB10 := Lib.hid (grew HB9.out hb)
            have HA1 := Lib.hid (HA1.out.below hb)
            have HA2 := Lib.hid (HA2.out.below hb)
            have HA3 := Lib.hid ho.slice
            obtain ⟨ca, cc, e5⟩ := ho.slice.shape
            subst e5
            clear hb ho
            by_cases hok : 0 ≤ f ∧ f ≤ t ∧ t ≤ (View.seen es).length
            · have HE : Hid ((View.rangeE es 0 f = 0 ∧ View.rangeE es f t = 0 ∧ View.rangeE es t ((nA : Int) + (nD : Int)) = 0 ∧ View.rangeE es 0 ((nA : Int) + (nD : Int)) = 0) ∧ View.rangeL es 0 f ++ View.rangeL es f t ++ View.rangeL es t ((nA : Int) + (nD : Int)) = View.rangeL es 0 ((nA : Int) + (nD : Int)) ∧ (View.rangeL es f t).length = (t - f).toNat ∧ (View.rangeL es 0 f).length ≤ 1000 ∧ (View.rangeL es t ((nA : Int) + (nD : Int))).length ≤ 1000) := Lib.hid (by
                have hN : ((View.seen es).length : Int) = (nA : Int) + (nD : Int) := by rw [HNN.out]; omega
                have e1 : View.rangeL es 0 f = View.cut (View.seen es) 0 f.toNat := if_pos (by omega)
                have e2 : View.rangeL es f t = View.cut (View.seen es) f.toNat t.toNat := if_pos (by omega)
                have e3 : View.rangeL es t ((nA : Int) + (nD : Int)) = View.cut (View.seen es) t.toNat (View.seen es).length := by unfold View.rangeL; rw [if_pos (by omega), ← hN, Int.toNat_natCast]
                have e4 : View.rangeL es 0 ((nA : Int) + (nD : Int)) = View.cut (View.seen es) 0 (View.seen es).length := by unfold View.rangeL; rw [if_pos (by omega), ← hN, Int.toNat_natCast]; rfl
                have hsl := View.seen_len es
                refine ⟨⟨if_pos (by omega), if_pos (by omega), if_pos (by omega), if_pos (by omega)⟩, ?_, ?_, ?_, ?_⟩
                · rw [e1, e2, e3, e4]; exact View.cut_three (by omega) (by omega)
                · rw [e2, View.cut_len2 (by omega) (by omega)]; omega
                · rw [e1]; have := View.cut_len (View.seen es) 0 f.toNat; omega
                · rw [e3]; have := View.cut_len (View.seen es) t.toNat (View.seen es).length; omega)
              have hft : 0 ≤ f ∧ f ≤ t ∧ t ≤ 1000 := by have := View.seen_len es; omega
              clear hok
              have HI1 : Hid ((View.ids (View.rangeL es f t)).length = (t - f).toNat) := Lib.hid (by unfold View.ids; rw [List.length_map]; exact HE.out.2.2.1)
              rw [HE.out.1.1, HE.out.1.2.1, HE.out.1.2.2.1]
              have HD4 := Lib.hid (fun W (h : Below w1.heap.size w1 W) => view_Range _ es 0 ((nA : Int) + (nD : Int)) W (HS.out.below h) (by omega))
              rw [HE.out.1.2.2.2] at HD4
              have HCAT := Lib.hid HE.out.2.1
              have HLN : Hid ((View.rangeL es 0 f).length ≤ 1000 ∧ (View.rangeL es f t).length ≤ 1000 ∧ (View.rangeL es t ((nA : Int) + (nD : Int))).length ≤ 1000) := Lib.hid ⟨HE.out.2.2.2.1, by rw [HE.out.2.2.1]; omega, HE.out.2.2.2.2⟩
              clear HE
              generalize View.rangeL es 0 f = L1 at *
              generalize View.rangeL es f t = L2 at *
              generalize View.rangeL es t ((nA : Int) + (nD : Int)) = L3 at *
              generalize View.rangeL es 0 ((nA : Int) + (nD : Int)) = L4 at *
              go_wp2_with (first
                | (at_builtin; refine wp_append_ide rfl (.tmp 102) (.tmp 103) rfl wj.heap.size _ [] rfl (OwnE.nil _ _) (Nat.le_refl _) _ L1 rfl HA1.out (by have := HLN.out; simp; omega) ?_; intro v1 z1 ho1 hb1; have HP1 := Lib.hid (show OwnE _ _ _ L1 from ho1); have HQ1 := Lib.hid hb1; obtain ⟨p1, c1, e5⟩ := ho1.slice.shape; generalize (View.ids _).length = n1 at e5; subst e5; clear ho1 hb1)
                | (at_builtin; refine wp_append_ide rfl (.tmp 105) (.tmp 106) rfl wj.heap.size _ L1 rfl HP1.out HQ1.out.size _ L2 rfl (HA2.out.below HQ1.out) (by have := HLN.out; omega) ?_; intro v2 z2 ho2 hb2; have HP2 := Lib.hid ho2; have HQ2 := Lib.hid (HQ1.out.trans hb2); obtain ⟨p2, c2, e5⟩ := ho2.slice.shape; generalize (View.ids _).length = n2 at e5; subst e5; clear ho2 hb2)
                | (at_builtin; refine wp_append_ide rfl (.tmp 108) (.tmp 109) rfl wj.heap.size _ (L1 ++ L2) rfl HP2.out HQ2.out.size _ L3 rfl (HA3.out.below HQ2.out) (by have := HLN.out; rw [List.length_append]; omega) ?_; intro v3 z3 ho3 hb3; have HP3 := Lib.hid ho3; have HQ3 := Lib.hid (HQ2.out.trans hb3); obtain ⟨p3, c3, e5⟩ := ho3.slice.shape; generalize (View.ids _).length = n3 at e5; subst e5; clear ho3 hb3))
              rw [HCAT.out] at HP3
              refine (HD4.out _ (grew HB10.out HQ3.out)).mono ?_
              rintro e wk ⟨rd, rfl, ho, hb⟩
              have ho : OwnE wk _ rd _ := ho
              have HB11 := Lib.hid (grew (grew HB10.out HQ3.out) hb)
              have HW := Lib.hid (HP3.out.slice.below hb)
              have HA4 := Lib.hid ho.slice
              obtain ⟨da, dc, e5⟩ := ho.slice.shape
              subst e5
              clear hb ho
              have HL4 : Hid ((View.ids L4).length ≤ 10000) := Lib.hid (by unfold View.ids; rw [List.length_map, ← HCAT.out, List.length_append, List.length_append]; have := HLN.out; omega)
              have hd1 : IntKind.i64.wrap (t - f) = t - f := by rw [IntKind.wrap_i64]; omega
              have hd2 : ((((t - f).toNat : Nat) : Int) == t - f) = true := by simp; omega
              have hd3 : ((((View.ids L2).length : Nat) : Int) == t - f) = true := by rw [HI1.out]; exact hd2
              have hd4 : decide ((((View.ids L2).length : Nat) : Int) = t - f) = true := by rw [HI1.out]; exact decide_eq_true (by omega)
              go_wp2_with fail
              refine (ref10_SameV _ _ (View.ids L4) (View.ids L4) _ HA4.out HW.out (by have := HL4.out; omega) (by have := HL4.out; omega)).mono ?_
              rintro e wl ⟨rfl, hb⟩
              rw [decide_eq_true (Eq.refl (View.ids L4))]
              have HB12 := Lib.hid (grew HB11.out hb)
              clear hb
              go_wp2_with fail
              refine (law12_live _).mono ?_
              rintro e wm ⟨rfl, hb⟩
              have HBE := Lib.hid (grew HB0.out (grew HB12.out hb))
              clear hb
              go_wp2
              go_ret
              exact ⟨rfl, HBE.out⟩
            · have HE : Hid (∀ z1 z2 z3 : Int, View.rangeE es 0 f = z1 → View.rangeE es f t = z2 → View.rangeE es t ((nA : Int) + (nD : Int)) = z3 → z1 ≠ 0 ∨ z2 ≠ 0 ∨ z3 ≠ 0) := Lib.hid (fun z1 z2 z3 h1 h2 h3 => by
                by_cases hh : z2 = 0
                · exfalso
                  rw [hh] at h2
                  have : 0 ≤ f ∧ f ≤ t ∧ t ≤ (View.seen es).length := by
                    unfold View.rangeE at h2
                    split at h2
                    · assumption
                    · cases h2
                  exact hok this
                · exact .inr (.inl hh))
              clear hok
              generalize hz1 : View.rangeE es 0 f = z1
              generalize hz2 : View.rangeE es f t = z2
              generalize hz3 : View.rangeE es t ((nA : Int) + (nD : Int)) = z3
              have hE := HE.out z1 z2 z3 hz1 hz2 hz3
              clear HE hz1 hz2 hz3
              by_cases g1 : z1 = 0
              · subst g1
                by_cases g2 : z2 = 0
                · subst g2
                  have g3 : z3 ≠ 0 := by omega
                  have m3 : (z3 != 0) = true := by simp [g3]
                  have m4 : (z3 == 0) = false := by simp [g3]
                  clear hE g3
                  go_wp2_with fail
                  refine (law12_live _).mono ?_
                  rintro e wm ⟨rfl, hb⟩
                  have HBE := Lib.hid (grew HB0.out (grew HB10.out hb))
                  clear hb
                  go_wp2
                  go_ret
                  exact ⟨rfl, HBE.out⟩
                · have m3 : (z2 != 0) = true := by simp [g2]
                  have m4 : (z2 == 0) = false := by simp [g2]
                  clear hE g2
                  go_wp2_with fail
                  refine (law12_live _).mono ?_
                  rintro e wm ⟨rfl, hb⟩
                  have HBE := Lib.hid (grew HB0.out (grew HB10.out hb))
                  clear hb
                  go_wp2
                  go_ret
                  exact ⟨rfl, HBE.out⟩
              · have m3 : (z1 != 0) = true := by simp [g1]
                have m4 : (z1 == 0) = false := by simp [g1]
                clear hE g1
                go_wp2_with fail
                refine (law12_live _).mono ?_
                rintro e wm ⟨rfl, hb⟩
                have HBE := Lib.hid (grew HB0.out (grew HB10.out hb))
                clear hb
                go_wp2
                go_ret
                exact ⟨rfl, HBE.out⟩
        · rcases va with _ | va
          all_goals
            have HT0 := Lib.hid (fun W (h : Below w1.heap.size w1 W) => view_Text _ es W (HS.out.below h) (by omega))
            have HTA2 := Lib.hid (fun W (h : Below w1.heap.size w1 W) => view_Text _ A W (HTA.out.below h) (by rw [HLA.out]; omega))
            have HTD2 := Lib.hid (fun W v (h : SliceG 6 El.cells W v D) => view_Text v D W h (by rw [HLD.out]; omega))
            have HS0 := Lib.hid (fun W (h : Below w1.heap.size w1 W) => view_Seen _ es W (HS.out.below h) (by omega))
            have HSA2 := Lib.hid (fun W (h : Below w1.heap.size w1 W) => view_Seen _ A W (HTA.out.below h) (by rw [HLA.out]; omega))
            have HSD2 := Lib.hid (fun W v (h : SliceG 6 El.cells W v D) => view_Seen v D W h (by rw [HLD.out]; omega))
            have HN0 := Lib.hid (View.nums_len es)
            have HNA := Lib.hid (View.nums_len A)
            have HND := Lib.hid (View.nums_len D)
            rw [HTL.out] at HN0
            rw [HTX.out] at HT0
            generalize View.text A = TA at *
            generalize View.text D = TD at *
            generalize hnA : (View.seen A).length = nA at *
            generalize hnD : (View.seen D).length = nD at *
            have HNN := Lib.hid HTL.out
            clear hnA hnD HTL HTX
            have hsz : ∀ W : World, (Op.stringOp .add TA TD).run Try.prog W = .ok (.string (TA ++ TD)) W := fun W => run_string_add_sum W TA TD (by omega)
            have hss : ((TA ++ TD).toList == (TA ++ TD).toList) = true := str_same rfl
            have hwr : IntKind.i64.wrap ((nA : Int) + (nD : Int)) = (nA : Int) + (nD : Int) := by rw [IntKind.wrap_i64]; omega
            have hne1 : (((nA : Int) + (nD : Int)) != ((nA : Int) + (nD : Int))) = false := by simp
            have hne2 : ((((nA + nD : Nat)) : Int) != ((nA : Int) + (nD : Int))) = false := by simp
            go_wp2_with fail
            go_region_held3 (fun W => True)
              (first | trivial)
              (first
                | (go_at_call 19; refine (HT0.out _ (grew_drew _)).mono ?_; rintro e wa ⟨rfl, hb⟩; have HB1 := Lib.hid (grew (grew_drew w1) hb); clear hb HT0)
                | (go_at_call 19; refine (HTA2.out _ HB1.out).mono ?_; rintro e wb ⟨rfl, hb⟩; have HB2 := Lib.hid (grew HB1.out hb); clear hb HTA2)
                | (go_at_call 19; refine (HTD2.out _ _ (by first | exact HDW.out _ HB2.out | exact HDW.out _ _ _ HB2.out)).mono ?_; rintro e wc ⟨rfl, hb⟩; have HB3 := Lib.hid (grew HB2.out hb); clear hb HTD2)
                | (go_at_call 17; refine (HS0.out _ HB3.out).mono ?_; rintro e wd ⟨rp, rfl, ho, hb⟩; have HB4 := Lib.hid (grew HB3.out hb); obtain ⟨pa, pc, e5⟩ := ho.slice.shape; rw [HN0.out] at e5; subst e5; clear hb ho HS0)
                | (go_at_call 17; refine (HSA2.out _ HB4.out).mono ?_; rintro e we ⟨rp, rfl, ho, hb⟩; have HB5 := Lib.hid (grew HB4.out hb); obtain ⟨pa, pc, e5⟩ := ho.slice.shape; rw [HNA.out] at e5; subst e5; clear hb ho HSA2)
                | (go_at_call 17; refine (HSD2.out _ _ (by first | exact HDW.out _ HB5.out | exact HDW.out _ _ _ HB5.out)).mono ?_; rintro e wf ⟨rp, rfl, ho, hb⟩; have HB6 := Lib.hid (grew HB5.out hb); obtain ⟨pa, pc, e5⟩ := ho.slice.shape; rw [HND.out] at e5; subst e5; clear hb ho HSD2))
            go_wp2_with fail
            refine (view_Seen _ es _ (HS.out.below HB6.out) (by omega)).mono ?_
            rintro e wg ⟨rp, rfl, ho, hb⟩
            have HB7 := Lib.hid (grew HB6.out hb)
            obtain ⟨pa, pc, e5⟩ := ho.slice.shape
            rw [HN0.out] at e5
            subst e5
            clear hb ho
            have HNI : Hid (((nA + nD : Nat) : Int) = (nA : Int) + (nD : Int)) := Lib.hid (by omega)
            go_wp2_with fail
            refine (view_Range _ es 0 f _ (HS.out.below HB7.out) (by omega)).mono ?_
            rintro e wh ⟨ra, rfl, ho, hb⟩
            have ho : OwnE wh _ ra _ := ho
            have HB8 := Lib.hid (grew HB7.out hb)
            have HA1 := Lib.hid ho.slice
            obtain ⟨aa, ac, e5⟩ := ho.slice.shape
            subst e5
            clear hb ho
            go_wp2_with fail
            refine (view_Range _ es f t _ (HS.out.below HB8.out) (by omega)).mono ?_
            rintro e wi ⟨rb, rfl, ho, hb⟩
            have ho : OwnE wi _ rb _ := ho
            have HB9 := Lib.hid (grew HB8.out hb)
            have HA1 := Lib.hid (HA1.out.below hb)
            have HA2 := Lib.hid ho.slice
            obtain ⟨ba, bc, e5⟩ := ho.slice.shape
            subst e5
            clear hb ho
            go_wp2_with fail
            refine (view_Range _ es t ((nA : Int) + (nD : Int)) _ (HS.out.below HB9.out) (by omega)).mono ?_
            rintro e wj ⟨rc, rfl, ho, hb⟩
            have ho : OwnE wj _ rc _ := ho
            have HB10 := Lib.hid (grew HB9.out hb)
            have HA1 := Lib.hid (HA1.out.below hb)
            have HA2 := Lib.hid (HA2.out.below hb)
            have HA3 := Lib.hid ho.slice
            obtain ⟨ca, cc, e5⟩ := ho.slice.shape
            subst e5
            clear hb ho
            by_cases hok : 0 ≤ f ∧ f ≤ t ∧ t ≤ (View.seen es).length
            · have HE : Hid ((View.rangeE es 0 f = 0 ∧ View.rangeE es f t = 0 ∧ View.rangeE es t ((nA : Int) + (nD : Int)) = 0 ∧ View.rangeE es 0 ((nA : Int) + (nD : Int)) = 0) ∧ View.rangeL es 0 f ++ View.rangeL es f t ++ View.rangeL es t ((nA : Int) + (nD : Int)) = View.rangeL es 0 ((nA : Int) + (nD : Int)) ∧ (View.rangeL es f t).length = (t - f).toNat ∧ (View.rangeL es 0 f).length ≤ 1000 ∧ (View.rangeL es t ((nA : Int) + (nD : Int))).length ≤ 1000) := Lib.hid (by
                have hN : ((View.seen es).length : Int) = (nA : Int) + (nD : Int) := by rw [HNN.out]; omega
                have e1 : View.rangeL es 0 f = View.cut (View.seen es) 0 f.toNat := if_pos (by omega)
                have e2 : View.rangeL es f t = View.cut (View.seen es) f.toNat t.toNat := if_pos (by omega)
                have e3 : View.rangeL es t ((nA : Int) + (nD : Int)) = View.cut (View.seen es) t.toNat (View.seen es).length := by unfold View.rangeL; rw [if_pos (by omega), ← hN, Int.toNat_natCast]
                have e4 : View.rangeL es 0 ((nA : Int) + (nD : Int)) = View.cut (View.seen es) 0 (View.seen es).length := by unfold View.rangeL; rw [if_pos (by omega), ← hN, Int.toNat_natCast]; rfl
                have hsl := View.seen_len es
                refine ⟨⟨if_pos (by omega), if_pos (by omega), if_pos (by omega), if_pos (by omega)⟩, ?_, ?_, ?_, ?_⟩
                · rw [e1, e2, e3, e4]; exact View.cut_three (by omega) (by omega)
                · rw [e2, View.cut_len2 (by omega) (by omega)]; omega
                · rw [e1]; have := View.cut_len (View.seen es) 0 f.toNat; omega
                · rw [e3]; have := View.cut_len (View.seen es) t.toNat (View.seen es).length; omega)
              have hft : 0 ≤ f ∧ f ≤ t ∧ t ≤ 1000 := by have := View.seen_len es; omega
              clear hok
              have HI1 : Hid ((View.ids (View.rangeL es f t)).length = (t - f).toNat) := Lib.hid (by unfold View.ids; rw [List.length_map]; exact HE.out.2.2.1)
              rw [HE.out.1.1, HE.out.1.2.1, HE.out.1.2.2.1]
              have HD4 := Lib.hid (fun W (h : Below w1.heap.size w1 W) => view_Range _ es 0 ((nA : Int) + (nD : Int)) W (HS.out.below h) (by omega))
              rw [HE.out.1.2.2.2] at HD4
              have HCAT := Lib.hid HE.out.2.1
              have HLN : Hid ((View.rangeL es 0 f).length ≤ 1000 ∧ (View.rangeL es f t).length ≤ 1000 ∧ (View.rangeL es t ((nA : Int) + (nD : Int))).length ≤ 1000) := Lib.hid ⟨HE.out.2.2.2.1, by rw [HE.out.2.2.1]; omega, HE.out.2.2.2.2⟩
              clear HE
              generalize View.rangeL es 0 f = L1 at *
              generalize View.rangeL es f t = L2 at *
              generalize View.rangeL es t ((nA : Int) + (nD : Int)) = L3 at *
              generalize View.rangeL es 0 ((nA : Int) + (nD : Int)) = L4 at *
              go_wp2_with (first
                | (at_builtin; refine wp_append_ide rfl (.tmp 102) (.tmp 103) rfl wj.heap.size _ [] rfl (OwnE.nil _ _) (Nat.le_refl _) _ L1 rfl HA1.out (by have := HLN.out; simp; omega) ?_; intro v1 z1 ho1 hb1; have HP1 := Lib.hid (show OwnE _ _ _ L1 from ho1); have HQ1 := Lib.hid hb1; obtain ⟨p1, c1, e5⟩ := ho1.slice.shape; generalize (View.ids _).length = n1 at e5; subst e5; clear ho1 hb1)
                | (at_builtin; refine wp_append_ide rfl (.tmp 105) (.tmp 106) rfl wj.heap.size _ L1 rfl HP1.out HQ1.out.size _ L2 rfl (HA2.out.below HQ1.out) (by have := HLN.out; omega) ?_; intro v2 z2 ho2 hb2; have HP2 := Lib.hid ho2; have HQ2 := Lib.hid (HQ1.out.trans hb2); obtain ⟨p2, c2, e5⟩ := ho2.slice.shape; generalize (View.ids _).length = n2 at e5; subst e5; clear ho2 hb2)
                | (at_builtin; refine wp_append_ide rfl (.tmp 108) (.tmp 109) rfl wj.heap.size _ (L1 ++ L2) rfl HP2.out HQ2.out.size _ L3 rfl (HA3.out.below HQ2.out) (by have := HLN.out; rw [List.length_append]; omega) ?_; intro v3 z3 ho3 hb3; have HP3 := Lib.hid ho3; have HQ3 := Lib.hid (HQ2.out.trans hb3); obtain ⟨p3, c3, e5⟩ := ho3.slice.shape; generalize (View.ids _).length = n3 at e5; subst e5; clear ho3 hb3))
              rw [HCAT.out] at HP3
              refine (HD4.out _ (grew HB10.out HQ3.out)).mono ?_
              rintro e wk ⟨rd, rfl, ho, hb⟩
              have ho : OwnE wk _ rd _ := ho
              have HB11 := Lib.hid (grew (grew HB10.out HQ3.out) hb)
              have HW := Lib.hid (HP3.out.slice.below hb)
              have HA4 := Lib.hid ho.slice
              obtain ⟨da, dc, e5⟩ := ho.slice.shape
              subst e5
              clear hb ho
              have HL4 : Hid ((View.ids L4).length ≤ 10000) := Lib.hid (by unfold View.ids; rw [List.length_map, ← HCAT.out, List.length_append, List.length_append]; have := HLN.out; omega)
              have hd1 : IntKind.i64.wrap (t - f) = t - f := by rw [IntKind.wrap_i64]; omega
              have hd2 : ((((t - f).toNat : Nat) : Int) == t - f) = true := by simp; omega
              have hd3 : ((((View.ids L2).length : Nat) : Int) == t - f) = true := by rw [HI1.out]; exact hd2
              have hd4 : decide ((((View.ids L2).length : Nat) : Int) = t - f) = true := by rw [HI1.out]; exact decide_eq_true (by omega)
              go_wp2_with fail
              refine (ref10_SameV _ _ (View.ids L4) (View.ids L4) _ HA4.out HW.out (by have := HL4.out; omega) (by have := HL4.out; omega)).mono ?_
              rintro e wl ⟨rfl, hb⟩
              rw [decide_eq_true (Eq.refl (View.ids L4))]
              have HB12 := Lib.hid (grew HB11.out hb)
              clear hb
              go_wp2_with fail
              refine (law12_live _).mono ?_
              rintro e wm ⟨rfl, hb⟩
              have HBE := Lib.hid (grew HB0.out (grew HB12.out hb))
              clear hb
              go_wp2
              go_ret
              exact ⟨rfl, HBE.out⟩
            · have HE : Hid (∀ z1 z2 z3 : Int, View.rangeE es 0 f = z1 → View.rangeE es f t = z2 → View.rangeE es t ((nA : Int) + (nD : Int)) = z3 → z1 ≠ 0 ∨ z2 ≠ 0 ∨ z3 ≠ 0) := Lib.hid (fun z1 z2 z3 h1 h2 h3 => by
                by_cases hh : z2 = 0
                · exfalso
                  rw [hh] at h2
                  have : 0 ≤ f ∧ f ≤ t ∧ t ≤ (View.seen es).length := by
                    unfold View.rangeE at h2
                    split at h2
                    · assumption
                    · cases h2
                  exact hok this
                · exact .inr (.inl hh))
              clear hok
              generalize hz1 : View.rangeE es 0 f = z1
              generalize hz2 : View.rangeE es f t = z2
              generalize hz3 : View.rangeE es t ((nA : Int) + (nD : Int)) = z3
              have hE := HE.out z1 z2 z3 hz1 hz2 hz3
              clear HE hz1 hz2 hz3
              by_cases g1 : z1 = 0
              · subst g1
                by_cases g2 : z2 = 0
                · subst g2
                  have g3 : z3 ≠ 0 := by omega
                  have m3 : (z3 != 0) = true := by simp [g3]
                  have m4 : (z3 == 0) = false := by simp [g3]
                  clear hE g3
                  go_wp2_with fail
                  refine (law12_live _).mono ?_
                  rintro e wm ⟨rfl, hb⟩
                  have HBE := Lib.hid (grew HB0.out (grew HB10.out hb))
                  clear hb
                  go_wp2
                  go_ret
                  exact ⟨rfl, HBE.out⟩
                · have m3 : (z2 != 0) = true := by simp [g2]
                  have m4 : (z2 == 0) = false := by simp [g2]
                  clear hE g2
                  go_wp2_with fail
                  refine (law12_live _).mono ?_
                  rintro e wm ⟨rfl, hb⟩
                  have HBE := Lib.hid (grew HB0.out (grew HB10.out hb))
                  clear hb
                  go_wp2
                  go_ret
                  exact ⟨rfl, HBE.out⟩
              · have m3 : (z1 != 0) = true := by simp [g1]
                have m4 : (z1 == 0) = false := by simp [g1]
                clear hE g1
                go_wp2_with fail
                refine (law12_live _).mono ?_
                rintro e wm ⟨rfl, hb⟩
                have HBE := Lib.hid (grew HB0.out (grew HB10.out hb))
                clear hb
                go_wp2
                go_ret
                exact ⟨rfl, HBE.out⟩
    · by_cases h0 : i < 0
      · have d1 : decide (i < 0) = true := decide_eq_true h0
        clear hr
        go_wp2_with fail
        refine (law12_live _).mono ?_
        rintro e w10 ⟨rfl, hb⟩
        have HBE := Lib.hid (grew HB0.out hb)
        clear hb
        go_wp2
        go_ret
        exact ⟨rfl, HBE.out⟩
      · have d1 : decide (i < 0) = false := decide_eq_false h0
        have d2 : decide ((es.length : Int) < i) = true := decide_eq_true (by omega)
        clear hr
        go_wp2_with fail
        refine (law12_live _).mono ?_
        rintro e w10 ⟨rfl, hb⟩
        have HBE := Lib.hid (grew HB0.out hb)
        clear hb
        go_wp2
        go_ret
        exact ⟨rfl, HBE.out⟩
  · rintro e w1 ⟨rfl, rfl⟩
    rw [decide_eq_false hfew]
    clear hfew hm HFEW
    go_wp2_with fail
    refine (law12_live _).mono ?_
    rintro e w9 ⟨rfl, hb⟩
    have HBE := Lib.hid (grew HB0.out hb)
    clear hb
    go_wp2
    go_ret
    exact ⟨rfl, HBE.out⟩
end Go.Proofs.Ytmelaidbicaagaa
