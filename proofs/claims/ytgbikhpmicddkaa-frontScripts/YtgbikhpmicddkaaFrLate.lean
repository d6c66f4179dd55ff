/- The sites that are late. -/
import Derived.Test.YtgbikhpmicddkaaFrNew2
namespace Go.Proofs.Ytgbikhpmicddkaa
open Go.RowKit
set_option linter.unusedVariables false

/-- Of the first k sites those whose row is not the most. -/
def Front.lateK (rows : List (List Int)) (k : Nat) : List Int := ((List.range k).filter (fun i => Vecs.cmp (rows.getD i []) (Front.all Vecs.join rows) != 0)).map (fun i : Nat => (i : Int))
def Front.late (rows : List (List Int)) : List Int := Front.lateK rows rows.length
theorem Front.late_yes {rows : List (List Int)} {k : Nat} (hk : k < rows.length) (h : Vecs.cmp rows[k] (Front.all Vecs.join rows) ≠ 0) : Front.lateK rows (k + 1) = Front.lateK rows k ++ [(k : Int)] := by
  have h2 : (Vecs.cmp (rows.getD k []) (Front.all Vecs.join rows) != 0) = true := by rw [List.getD_eq_getElem?_getD, List.getElem?_eq_getElem hk]; simpa using h
  unfold Front.lateK
  rw [List.range_succ, List.filter_append, List.map_append]
  rw [List.filter_cons_of_pos (p := fun i => Vecs.cmp (rows.getD i []) (Front.all Vecs.join rows) != 0) h2]
  rfl
theorem Front.late_no {rows : List (List Int)} {k : Nat} (hk : k < rows.length) (h : Vecs.cmp rows[k] (Front.all Vecs.join rows) = 0) : Front.lateK rows (k + 1) = Front.lateK rows k := by
  have h2 : (Vecs.cmp (rows.getD k []) (Front.all Vecs.join rows) != 0) = false := by rw [List.getD_eq_getElem?_getD, List.getElem?_eq_getElem hk]; simpa using h
  unfold Front.lateK
  rw [List.range_succ, List.filter_append, List.map_append]
  rw [List.filter_cons_of_neg (p := fun i => Vecs.cmp (rows.getD i []) (Front.all Vecs.join rows) != 0) (by rw [h2]; simp)]
  simp
theorem Front.late_len (rows : List (List Int)) (k : Nat) : (Front.lateK rows k).length ≤ k := by
  unfold Front.lateK
  rw [List.length_map]
  have := List.length_filter_le (fun i => Vecs.cmp (rows.getD i []) (Front.all Vecs.join rows) != 0) (List.range k)
  rwa [List.length_range] at this
theorem Front.all_may {rows : List (List Int)} (hm : ∀ r ∈ rows, Vecs.may r = true ∧ r.length = rows.length) (h1 : 1 ≤ rows.length) : Vecs.may (Front.all Vecs.join rows) = true ∧ (Front.all Vecs.join rows).length = rows.length := by
  rw [← Front.upto_all]
  exact Front.upto_may (fun a b ha hb hab => Front.join_ok ha hb hab) hm h1 (Nat.le_refl _)

/-- Where Late's loop stands, since w1. -/
def LateW (w1 : World) (l : List Int) (v : Value) (wr : World) : Prop := OwnI wr v l ∧ (∀ g, v.ownBlock = some g → w1.heap.size ≤ g) ∧ Below w1.heap.size w1 wr

set_option maxRecDepth 100000 in
set_option maxHeartbeats 2000000 in
theorem front_Late {w : World} {p rb rc : Nat} {vs : List Value} {rows : List (List Int)} (h : IsFrontW w p rb rc vs rows) : Calls Try.prog 14 #[.pointer (some ⟨p, 0, none⟩)] w fun e w' => ∃ v, e = .returned v ∧ SliceI w' v (Front.late rows) ∧ Below w.heap.size w w' := by
  have HW := Lib.hid h
  have hs := h.sites
  have HAM := Lib.hid (Front.all_may h.may hs.1)
  clear h
  go_enter Try.func14, Try.ntmps14
  go_wp2_with fail
  refine (front_Most HW.out).mono ?_
  rintro e w1 ⟨v1, rfl, hv1, hb1⟩
  have HV1 := Lib.hid hv1
  have HB1 := Lib.hid hb1
  have HW1 := Lib.hid (HW.out.below hb1)
  obtain ⟨ma, mc, e⟩ := hv1.shape
  rw [HAM.out.2] at e
  subst e
  clear hv1 hb1
  go_wp2_with fail
  go_loopw [3, 5] (fun v i wr => ∃ k : Nat, k ≤ rows.length ∧ i = .int .i64 k ∧ LateW w1 (Front.lateK rows k) v wr) (fun _ i _ => rows.length - (intOf i).toNat)
  case atStart => exact ⟨0, by omega, rfl, by unfold Front.lateK; exact OwnI.nil _, fun g hg => (by cases hg), Below.refl _ _⟩
  case round =>
    obtain ⟨k, hk, rfl, hL⟩ := hrel
    have HL := Lib.hid hL
    obtain ⟨la, lc, e⟩ := hL.1.slice.shape
    subst e
    have HW2 := Lib.hid (HW1.out.below hL.2.2)
    have hll := Front.late_len rows k
    have HLL := Lib.hid (show (Front.lateK rows k).length + 1 ≤ 1000000000 by omega)
    clear hL hll
    by_cases hlt : k < rows.length
    · have HH := Lib.hid (front_has HW2.out k)
      rw [decide_eq_true (show (0 : Int) ≤ k ∧ (k : Int) < rows.length by omega)] at HH
      have c0 := HW2.out.box.cell 0 (by simp)
      simp only [List.getElem_cons_zero] at c0
      have c1 := HW2.out.cell hlt
      have hv2 := HW2.out.vec k hlt
      have hmr := HW.out.may _ (List.getElem_mem hlt)
      have HC := Lib.hid (vec_Compare _ _ _ _ wr hv2 (HV1.out.below HL.out.2.2) (by have := hmr.2; unfold maxLen; omega) (by have := HAM.out.2; unfold maxLen; omega))
      rw [cmpV_yes (Vecs.together_iff.2 ⟨hmr.1, HAM.out.1, by rw [hmr.2, HAM.out.2]⟩)] at HC
      obtain ⟨vb, vd, e⟩ := hv2.shape
      rw [hmr.2] at e
      rw [e] at c1 HC
      have hia : (k : Int) < (rows.length : Int) := by omega
      have HY := Lib.hid (Front.late_yes hlt)
      have HNO := Lib.hid (Front.late_no hlt)
      clear hv2 e hmr
      generalize Vecs.cmp rows[k] (Front.all Vecs.join rows) = c at HC HY HNO
      go_wp2_with fail
      refine HH.out.mono ?_
      rintro e _ ⟨rfl, rfl⟩
      go_wp2_with fail
      refine HC.out.mono ?_
      rintro e _ ⟨rfl, nd, rfl⟩
      clear c0 c1
      by_cases hc : c = 0
      · have dc : (c != 0) = false := by simp [hc]
        have HE := Lib.hid (HNO.out hc)
        clear hc
        have HL2 : Hid (LateW w1 (Front.lateK rows (k + 1)) (.slice la (Front.lateK rows k).length lc) (World.drewN _ nd)) := Lib.hid (by rw [HE.out]; exact ⟨HL.out.1.below (grew_drewN _ _), HL.out.2.1, HL.out.2.2.trans ((Keep.of_grew (grew_drewN _ nd) Non).below HL.out.2.2.size (fun _ h => h.elim))⟩)
        go_wp2
        go_roundw
        case rel => exact ⟨k + 1, by omega, by go_num, HL2.out⟩
        case measure => simp [intOf]; omega
      · have dc : (c != 0) = true := by simp [hc]
        have HE := Lib.hid (HY.out hc)
        clear hc
        go_wp2_with (at_builtin; refine wp_append_num rfl (.tmp 29) (.tmp 31) rfl _ (Front.lateK rows k) _ rfl rfl (HL.out.1.below (grew_drewN _ nd)) HLL.out ?_; intro v5 w5 ho5 hk5 hn5)
        refine ⟨⟨k + 1, by omega, by go_num, by rw [HE.out]; exact ho5, fun g hg => ?_, HL.out.2.2.trans (((Keep.of_grew (grew_drewN _ nd) (At (.slice la (Front.lateK rows k).length lc))).trans hk5 (fun _ _ h => h)).below HL.out.2.2.size (fun i e => HL.out.2.1 i e))⟩, by simp [intOf]; omega⟩
        rcases hn5 g hg with e | e
        · exact HL.out.2.1 g e
        · exact Nat.le_trans HL.out.2.2.size e
    · have HH := Lib.hid (front_has HW2.out k)
      rw [decide_eq_false (show ¬ ((0 : Int) ≤ k ∧ (k : Int) < rows.length) by omega)] at HH
      obtain rfl : k = rows.length := by omega
      go_wp2_with fail
      refine HH.out.mono ?_
      rintro e _ ⟨rfl, rfl⟩
      go_wp2
      go_ret
      exact ⟨_, rfl, HL.out.1.slice, grew HB1.out HL.out.2.2⟩
end Go.Proofs.Ytgbikhpmicddkaa
