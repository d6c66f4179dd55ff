/- The reference's answers: a row, what is stable, the most, who is late. -/
import Derived.Test.YtgbikhpmicddkaaFrRefNew
import Derived.Test.YtgbikhpmicddkaaFrLate
namespace Go.Proofs.Ytgbikhpmicddkaa
open Go.RowKit
set_option linter.unusedVariables false

theorem ref09_zeros (v : Value) (xs : List Int) (w : World) (hv : SliceI w v xs) (hm : xs.length ≤ 1000000) :
    Calls Try.prog 24 #[v] w fun e w' => e = .returned (.bool (decide (xs = List.replicate xs.length 0))) ∧ Below w.heap.size w w' := by
  have HV := Lib.hid hv
  obtain ⟨va, vc, rfl⟩ := hv.shape
  clear hv
  go_enter Try.func24, Try.ntmps24
  go_wp2_with fail
  refine (ref06_Zero xs.length _ hm).mono ?_
  rintro e w1 ⟨r, rfl, hs, hb⟩
  have HS := Lib.hid hs
  have HB := Lib.hid hb
  obtain ⟨ra, rc, e⟩ := hs.shape
  rw [List.length_replicate] at e
  subst e
  clear hs hb
  go_wp2_with fail
  refine (ref01_Same _ _ xs (List.replicate xs.length 0) _ (HV.out.below HB.out) HS.out (by omega) (by rw [List.length_replicate]; omega)).mono ?_
  rintro e w2 ⟨rfl, hb⟩
  have HB2 := Lib.hid (grew HB.out hb)
  clear hb
  go_wp2
  go_ret
  exact ⟨rfl, HB2.out⟩

/-- What Row tells. -/
def Front.row (rows : List (List Int)) (s : Int) : List Int := if 0 ≤ s ∧ s < rows.length then rows.getD s.toNat [] else []
theorem ref09_Row {w : World} {q g cap : Nat} {us : List Value} {rows : List (List Int)} (h : IsRefW w q g cap us rows) (s : Int) :
    Calls Try.prog 17 #[.pointer (some ⟨q, 0, none⟩), .int .i64 s] w fun e w' => ∃ v, e = .returned v ∧ SliceI w' v (Front.row rows s) ∧ w' = w := by
  have c0 := h.box.cell 0 (by simp)
  simp only [List.getElem_cons_zero] at c0
  by_cases hs : 0 ≤ s ∧ s < rows.length
  · obtain ⟨i, rfl⟩ : ∃ i : Nat, s = i := ⟨s.toNat, by omega⟩
    have hi : i < rows.length := by omega
    have d1 : decide ((i : Int) < 0) = false := decide_eq_false (by omega)
    have d2 : decide ((rows.length : Int) ≤ (i : Int)) = false := decide_eq_false (by omega)
    have d3 : decide (rows.length ≤ i) = false := decide_eq_false (by omega)
    have hia : (i : Int) < (rows.length : Int) := by omega
    have c1 := h.cell hi (by rw [h.len]; exact hi)
    have hv := h.vec i hi (by rw [h.len]; exact hi)
    have HE : Hid (Front.row rows (i : Int) = rows[i]) := Lib.hid (by unfold Front.row; rw [if_pos (by omega), Int.toNat_natCast, List.getD_eq_getElem?_getD, List.getElem?_eq_getElem hi]; rfl)
    rw [HE.out]
    have HV := Lib.hid hv
    obtain ⟨va, vc, e⟩ := hv.shape
    rw [e] at c1 HV
    clear h hv e hs HE
    go_enter Try.func17, Try.ntmps17
    go_wp2
    go_ret
    exact ⟨_, rfl, HV.out, rfl⟩
  · have HE : Hid (Front.row rows s = []) := Lib.hid (by unfold Front.row; rw [if_neg hs])
    rw [HE.out]
    by_cases h1 : s < 0
    · have d1 : decide (s < 0) = true := decide_eq_true h1
      clear h hs HE
      go_enter Try.func17, Try.ntmps17
      go_wp2
      go_ret
      exact ⟨_, rfl, ⟨none, 0, rfl, Nat.le_refl _, .inl rfl⟩, rfl⟩
    · obtain ⟨i, rfl⟩ : ∃ i : Nat, s = i := ⟨s.toNat, by omega⟩
      have d1 : decide ((i : Int) < 0) = false := decide_eq_false h1
      have d2 : decide ((rows.length : Int) ≤ (i : Int)) = true := decide_eq_true (by omega)
      have d3 : decide (rows.length ≤ i) = true := decide_eq_true (by omega)
      clear h hs HE
      go_enter Try.func17, Try.ntmps17
      go_wp2
      go_ret
      exact ⟨_, rfl, ⟨none, 0, rfl, Nat.le_refl _, .inl rfl⟩, rfl⟩

set_option maxRecDepth 100000 in
set_option maxHeartbeats 2000000 in
theorem ref09_Stable {w : World} {q g cap : Nat} {us : List Value} {rows : List (List Int)} (h : IsRefW w q g cap us rows) :
    Calls Try.prog 11 #[.pointer (some ⟨q, 0, none⟩)] w fun e w' => ∃ v, e = .returned v ∧ SliceI w' v (Front.all Vecs.meet rows) ∧ Below w.heap.size w w' := by
  have HW := Lib.hid h
  have hs := h.sites
  have c0 := h.box.cell 0 (by simp)
  simp only [List.getElem_cons_zero] at c0
  have hu0 : 0 < us.length := by rw [h.len]; omega
  have c1 := h.cell (i := 0) (by omega) hu0
  have hv := h.vec 0 (by omega) hu0
  have h00 : (0 : Int) < (rows.length : Int) := by omega
  have HV := Lib.hid hv
  obtain ⟨va, vc, e⟩ := hv.shape
  rw [e] at c1 HV
  have HT : Hid (SliceI w (.slice va rows[0].length vc) (Front.upto Vecs.meet rows 1)) := Lib.hid (by rw [Front.upto_one (by omega)]; exact HV.out)
  clear h hv e
  generalize rows[0].length = n0 at *
  go_enter Try.func11, Try.ntmps11
  go_wp2_with fail
  go_loopw [3, 4] (fun v i wr => ∃ k : Nat, 1 ≤ k ∧ k ≤ rows.length ∧ i = .int .i64 k ∧ SliceI wr v (Front.upto Vecs.meet rows k) ∧ Below w.heap.size w wr) (fun _ i _ => rows.length - (intOf i).toNat)
  case atStart => exact ⟨1, by omega, by omega, rfl, HT.out, Below.refl _ _⟩
  case round =>
    obtain ⟨k, hk1, hk, rfl, hT, hB⟩ := hrel
    have HT := Lib.hid hT
    have HB := Lib.hid hB
    obtain ⟨ta, tc, e⟩ := hT.shape
    subst e
    have HW2 := Lib.hid (HW.out.below hB)
    have HU := Lib.hid (Front.upto_may (op := Vecs.meet) (fun a b ha hb hab => Front.meet_ok ha hb hab) HW.out.may hk1 hk)
    clear hT hB c0 c1
    have c0 := HW2.out.box.cell 0 (by simp)
    simp only [List.getElem_cons_zero] at c0
    by_cases hlt : k < rows.length
    · have e1 : decide ((k : Int) < (rows.length : Int)) = true := decide_eq_true (by omega)
      have e2 : decide (k < rows.length) = true := decide_eq_true hlt
      have hul : k < us.length := by rw [HW2.out.len]; exact hlt
      have c1 := HW2.out.cell hlt hul
      have hv2 := HW2.out.vec k hlt hul
      have hmr := HW.out.may _ (List.getElem_mem hlt)
      have HC := Lib.hid (ref06_Meet _ _ _ _ wr HT.out hv2 (by have := HU.out.2; unfold maxLen; omega) (by have := hmr.2; unfold maxLen; omega))
      rw [show meetR (Front.upto Vecs.meet rows k) rows[k] = (Front.upto Vecs.meet rows (k + 1), 0) from by unfold meetR; rw [if_pos (Vecs.together_iff.2 ⟨HU.out.1, hmr.1, by rw [HU.out.2, hmr.2]⟩), Front.upto_succ hk1 hlt]] at HC
      obtain ⟨vb, vd, e⟩ := hv2.shape
      rw [hmr.2] at e
      rw [e] at c1 HC
      clear hmr
      have hia : (k : Int) < (rows.length : Int) := by omega
      clear hv2 e
      generalize (Front.upto Vecs.meet rows k).length = n at *
      go_wp2_with fail
      refine HC.out.mono ?_
      rintro e w2 ⟨r2, rfl, ⟨v2, rfl, hs2⟩, hb2⟩
      have HS2 := Lib.hid hs2
      have HB2 := Lib.hid (grew HB.out hb2)
      obtain ⟨xa, xc, e⟩ := hs2.shape
      subst e
      clear hs2 hb2
      go_wp2
      go_roundw
      case rel => exact ⟨k + 1, by omega, by omega, by go_num, HS2.out, HB2.out⟩
      case measure => simp [intOf]; omega
    · have e1 : decide ((k : Int) < (rows.length : Int)) = false := decide_eq_false (by omega)
      have e2 : decide (k < rows.length) = false := decide_eq_false hlt
      obtain rfl : k = rows.length := by omega
      go_wp2
      go_ret
      exact ⟨_, rfl, by rw [← Front.upto_all]; exact HT.out, HB.out⟩

set_option maxRecDepth 100000 in
set_option maxHeartbeats 2000000 in
theorem ref09_Most {w : World} {q g cap : Nat} {us : List Value} {rows : List (List Int)} (h : IsRefW w q g cap us rows) :
    Calls Try.prog 13 #[.pointer (some ⟨q, 0, none⟩)] w fun e w' => ∃ v, e = .returned v ∧ SliceI w' v (Front.all Vecs.join rows) ∧ Below w.heap.size w w' := by
  have HW := Lib.hid h
  have hs := h.sites
  have c0 := h.box.cell 0 (by simp)
  simp only [List.getElem_cons_zero] at c0
  have hu0 : 0 < us.length := by rw [h.len]; omega
  have c1 := h.cell (i := 0) (by omega) hu0
  have hv := h.vec 0 (by omega) hu0
  have h00 : (0 : Int) < (rows.length : Int) := by omega
  have HV := Lib.hid hv
  obtain ⟨va, vc, e⟩ := hv.shape
  rw [e] at c1 HV
  have HT : Hid (SliceI w (.slice va rows[0].length vc) (Front.upto Vecs.join rows 1)) := Lib.hid (by rw [Front.upto_one (by omega)]; exact HV.out)
  clear h hv e
  generalize rows[0].length = n0 at *
  go_enter Try.func13, Try.ntmps13
  go_wp2_with fail
  go_loopw [3, 4] (fun v i wr => ∃ k : Nat, 1 ≤ k ∧ k ≤ rows.length ∧ i = .int .i64 k ∧ SliceI wr v (Front.upto Vecs.join rows k) ∧ Below w.heap.size w wr) (fun _ i _ => rows.length - (intOf i).toNat)
  case atStart => exact ⟨1, by omega, by omega, rfl, HT.out, Below.refl _ _⟩
  case round =>
    obtain ⟨k, hk1, hk, rfl, hT, hB⟩ := hrel
    have HT := Lib.hid hT
    have HB := Lib.hid hB
    obtain ⟨ta, tc, e⟩ := hT.shape
    subst e
    have HW2 := Lib.hid (HW.out.below hB)
    have HU := Lib.hid (Front.upto_may (op := Vecs.join) (fun a b ha hb hab => Front.join_ok ha hb hab) HW.out.may hk1 hk)
    clear hT hB c0 c1
    have c0 := HW2.out.box.cell 0 (by simp)
    simp only [List.getElem_cons_zero] at c0
    by_cases hlt : k < rows.length
    · have e1 : decide ((k : Int) < (rows.length : Int)) = true := decide_eq_true (by omega)
      have e2 : decide (k < rows.length) = true := decide_eq_true hlt
      have hul : k < us.length := by rw [HW2.out.len]; exact hlt
      have c1 := HW2.out.cell hlt hul
      have hv2 := HW2.out.vec k hlt hul
      have hmr := HW.out.may _ (List.getElem_mem hlt)
      have HC := Lib.hid (ref06_Join _ _ _ _ wr HT.out hv2 (by have := HU.out.2; unfold maxLen; omega) (by have := hmr.2; unfold maxLen; omega))
      rw [show joinR (Front.upto Vecs.join rows k) rows[k] = (Front.upto Vecs.join rows (k + 1), 0) from by unfold joinR; rw [if_pos (Vecs.together_iff.2 ⟨HU.out.1, hmr.1, by rw [HU.out.2, hmr.2]⟩), Front.upto_succ hk1 hlt]] at HC
      obtain ⟨vb, vd, e⟩ := hv2.shape
      rw [hmr.2] at e
      rw [e] at c1 HC
      clear hmr
      have hia : (k : Int) < (rows.length : Int) := by omega
      clear hv2 e
      generalize (Front.upto Vecs.join rows k).length = n at *
      go_wp2_with fail
      refine HC.out.mono ?_
      rintro e w2 ⟨r2, rfl, ⟨v2, rfl, hs2⟩, hb2⟩
      have HS2 := Lib.hid hs2
      have HB2 := Lib.hid (grew HB.out hb2)
      obtain ⟨xa, xc, e⟩ := hs2.shape
      subst e
      clear hs2 hb2
      go_wp2
      go_roundw
      case rel => exact ⟨k + 1, by omega, by omega, by go_num, HS2.out, HB2.out⟩
      case measure => simp [intOf]; omega
    · have e1 : decide ((k : Int) < (rows.length : Int)) = false := decide_eq_false (by omega)
      have e2 : decide (k < rows.length) = false := decide_eq_false hlt
      obtain rfl : k = rows.length := by omega
      go_wp2
      go_ret
      exact ⟨_, rfl, by rw [← Front.upto_all]; exact HT.out, HB.out⟩

theorem Front.cmp_iff {a b : List Int} (hl : a.length = b.length) : Vecs.cmp a b = 0 ↔ a = b := by
  constructor
  · intro h
    unfold Vecs.cmp at h
    by_cases h1 : Vecs.below a b = true
    · by_cases h2 : Vecs.below b a = true
      · refine Vecs.ext_at hl fun k hk hk' => ?_
        have := Vecs.below_iff.1 h1 k hk hk'
        have := Vecs.below_iff.1 h2 k hk' hk
        omega
      · simp [h1, h2] at h
    · by_cases h2 : Vecs.below b a = true
      · simp [h1, h2] at h
      · simp [h1, h2] at h
  · rintro rfl
    have h : Vecs.below a a = true := Vecs.below_iff.2 fun k _ _ => Int.le_refl _
    unfold Vecs.cmp
    rw [if_pos h, if_pos h]

set_option maxRecDepth 100000 in
set_option maxHeartbeats 4000000 in
theorem ref09_Late {w : World} {q g cap : Nat} {us : List Value} {rows : List (List Int)} (h : IsRefW w q g cap us rows) :
    Calls Try.prog 15 #[.pointer (some ⟨q, 0, none⟩)] w fun e w' => ∃ v, e = .returned v ∧ SliceI w' v (Front.late rows) ∧ Below w.heap.size w w' := by
  have HW := Lib.hid h
  have hs := h.sites
  have HAM := Lib.hid (Front.all_may h.may hs.1)
  clear h
  go_enter Try.func15, Try.ntmps15
  go_wp2_with fail
  go_loopw [3, 4] (fun v i wr => ∃ k : Nat, k ≤ rows.length ∧ i = .int .i64 k ∧ LateW w (Front.lateK rows k) v wr) (fun _ i _ => rows.length - (intOf i).toNat)
  case atStart => exact ⟨0, by omega, rfl, by unfold Front.lateK; exact OwnI.nil _, fun g hg => (by cases hg), Below.refl _ _⟩
  case round =>
    obtain ⟨k, hk, rfl, hL⟩ := hrel
    have HL := Lib.hid hL
    obtain ⟨la, lc, e⟩ := hL.1.slice.shape
    subst e
    have HW2 := Lib.hid (HW.out.below hL.2.2)
    have hll := Front.late_len rows k
    have HLL := Lib.hid (show (Front.lateK rows k).length + 1 ≤ 1000000000 by omega)
    clear hL hll
    have c0 := HW2.out.box.cell 0 (by simp)
    simp only [List.getElem_cons_zero] at c0
    by_cases hlt : k < rows.length
    · have e1 : decide ((k : Int) < (rows.length : Int)) = true := decide_eq_true (by omega)
      have e2 : decide (k < rows.length) = true := decide_eq_true hlt
      have hia : (k : Int) < (rows.length : Int) := by omega
      have hul : k < us.length := by rw [HW2.out.len]; exact hlt
      have c1 := HW2.out.cell hlt hul
      have hv2 := HW2.out.vec k hlt hul
      have hmr := HW.out.may _ (List.getElem_mem hlt)
      have HCI := Lib.hid (Front.cmp_iff (a := rows[k]) (b := Front.all Vecs.join rows) (by rw [hmr.2, HAM.out.2]))
      have HY := Lib.hid (Front.late_yes hlt)
      have HNO := Lib.hid (Front.late_no hlt)
      have HV2 := Lib.hid hv2
      obtain ⟨vb, vd, e⟩ := hv2.shape
      rw [hmr.2] at e
      rw [e] at c1 HV2
      have HRL := Lib.hid hmr.2
      clear hv2 e hmr
      have qlt := HW2.out.box.lt
      have glt : g < wr.heap.size := by obtain ⟨cur, hh, _⟩ := HW2.out.row; exact hh.lt
      have HSM := Lib.hid (fun (W : World) (v : Value) (h1 : SliceI W (.slice vb rows.length vd) rows[k]) (h2 : SliceI W v (Front.all Vecs.join rows)) => ref01_Same (.slice vb rows.length vd) v rows[k] (Front.all Vecs.join rows) W h1 h2 (by rw [HRL.out]; omega) (by rw [HAM.out.2]; omega))
      by_cases hc : rows[k] = Front.all Vecs.join rows
      · have HE := Lib.hid (HNO.out (HCI.out.2 hc))
        rw [decide_eq_true hc] at HSM
        generalize rows[k] = row at HSM HV2
        clear hc HY HNO HCI
        go_wp2_with fail
        go_region_held3 (fun w' => w'.cell? ⟨q, 0, none⟩ = some (.slice (some ⟨g, 0, none⟩) rows.length cap) ∧ w'.cell? ⟨g, k, none⟩ = some (.slice vb rows.length vd))
          (first | exact ⟨c0, c1⟩ | exact ⟨y0, y1⟩ | exact ⟨z0, z1⟩)
          (first
            | (go_at_call 13; refine (ref09_Most (HW2.out.below (grew_drew _))).mono ?_; rintro e w3 ⟨v3, rfl, hs3, hb3⟩; have HB3 := Lib.hid (grew (grew_drew wr) hb3); have HS3 := Lib.hid hs3; have y0 := (HB3.out.cell (p := ⟨q, 0, none⟩) qlt).trans c0; have y1 := (HB3.out.cell (p := ⟨g, k, none⟩) glt).trans c1; clear hs3 hb3)
            | (go_at_call 9; refine (HSM.out _ _ (HV2.out.below HB3.out) HS3.out).mono ?_; rintro e w4 ⟨rfl, hb4⟩; have HB4 := Lib.hid (grew HB3.out hb4); have z0 := (HB4.out.cell (p := ⟨q, 0, none⟩) qlt).trans c0; have z1 := (HB4.out.cell (p := ⟨g, k, none⟩) glt).trans c1; clear hb4))
        have HL2 : Hid (LateW w (Front.lateK rows (k + 1)) (.slice la (Front.lateK rows k).length lc) w4) := Lib.hid (by rw [HE.out]; exact ⟨HL.out.1.below HB4.out, HL.out.2.1, grew HL.out.2.2 HB4.out⟩)
        go_wp2
        go_roundw
        case rel => exact ⟨k + 1, by omega, by go_num, HL2.out⟩
        case measure => simp [intOf]; omega
      · have HE := Lib.hid (HY.out (fun e => hc (HCI.out.1 e)))
        rw [decide_eq_false hc] at HSM
        generalize rows[k] = row at HSM HV2
        clear hc HY HNO HCI
        go_wp2_with fail
        go_region_held3 (fun w' => w'.cell? ⟨q, 0, none⟩ = some (.slice (some ⟨g, 0, none⟩) rows.length cap) ∧ w'.cell? ⟨g, k, none⟩ = some (.slice vb rows.length vd))
          (first | exact ⟨c0, c1⟩ | exact ⟨y0, y1⟩ | exact ⟨z0, z1⟩)
          (first
            | (go_at_call 13; refine (ref09_Most (HW2.out.below (grew_drew _))).mono ?_; rintro e w3 ⟨v3, rfl, hs3, hb3⟩; have HB3 := Lib.hid (grew (grew_drew wr) hb3); have HS3 := Lib.hid hs3; have y0 := (HB3.out.cell (p := ⟨q, 0, none⟩) qlt).trans c0; have y1 := (HB3.out.cell (p := ⟨g, k, none⟩) glt).trans c1; clear hs3 hb3)
            | (go_at_call 9; refine (HSM.out _ _ (HV2.out.below HB3.out) HS3.out).mono ?_; rintro e w4 ⟨rfl, hb4⟩; have HB4 := Lib.hid (grew HB3.out hb4); have z0 := (HB4.out.cell (p := ⟨q, 0, none⟩) qlt).trans c0; have z1 := (HB4.out.cell (p := ⟨g, k, none⟩) glt).trans c1; clear hb4))
        have HL2 : Hid (LateW w (Front.lateK rows k) (.slice la (Front.lateK rows k).length lc) w4) := Lib.hid ⟨HL.out.1.below HB4.out, HL.out.2.1, grew HL.out.2.2 HB4.out⟩
        go_wp2_with (at_builtin; refine wp_append_num rfl (.tmp 25) (.tmp 27) rfl _ (Front.lateK rows k) _ rfl rfl HL2.out.1 HLL.out ?_; intro v5 w5 ho5 hk5 hn5)
        go_roundw
        case rel => exact ⟨k + 1, by omega, by go_num, by rw [HE.out]; exact ⟨ho5, fun g hg => (hn5 g hg).elim (HL2.out.2.1 g) (fun e => Nat.le_trans HL2.out.2.2.size e), HL2.out.2.2.trans (hk5.below HL2.out.2.2.size (fun i e => HL2.out.2.1 i e))⟩⟩
        case measure => simp [intOf]; omega
    · have e1 : decide ((k : Int) < (rows.length : Int)) = false := decide_eq_false (by omega)
      have e2 : decide (k < rows.length) = false := decide_eq_false hlt
      obtain rfl : k = rows.length := by omega
      go_wp2
      go_ret
      exact ⟨_, rfl, HL.out.1.slice, HL.out.2.2⟩
end Go.Proofs.Ytgbikhpmicddkaa
