/- The walk of SearchScripts. -/
import Derived.Test.YtepddieblankpaaDoorSeRefV
import Derived.Test.YtepddieblankpaaDoorSeOpen
import Derived.BigQuiet
namespace Go.Proofs.YtepddieblankpaaDoor
open Go.RowKit
attribute [local go_sem] Oper.semAt_some
set_option linter.unusedVariables false

set_option maxRecDepth 100000 in
set_option maxHeartbeats 8000000 in
theorem walk_SearchScripts0 (v : Value) (ts : List ByteArray) (sv : Value) (ss : List (Int × Int)) (w : World) (hv : SliceS w v ts) (hn : ts.length ≤ maxLen) (hs : SliceG 2 sopL w sv ss) (hsn : ss.length ≤ maxLen) (hk : Kit w) :
    Calls Tryd.prog 3 #[v, sv] w fun e w' => e = .returned (.bool true) ∧ Below w.heap.size w w' := by
  have HV := Lib.hid hv
  have HS := Lib.hid hs
  have HK := Lib.hid hk
  have HF := Lib.hid (law19_few v ts w hv hn)
  have HLV : Hid (∀ w1, Below w.heap.size w w1 → Calls Tryd.prog 15 #[] w1 fun e w' => e = .returned (.bool true) ∧ Below w.heap.size w w') := Lib.hid (fun w1 hb => (law19_live w1 (hk.below hb)).mono fun e w' ⟨h1, h2⟩ => ⟨h1, grew hb h2⟩)
  obtain ⟨va, vc, rfl⟩ : ∃ a cap, v = .slice a ts.length cap := by obtain ⟨a, cap, e, _⟩ := hv; exact ⟨a, cap, e⟩
  obtain ⟨sa, sc, rfl⟩ := hs.shape
  unfold maxLen at hn hsn
  clear hv hs hk
  go_enter Tryd.func3, Tryd.ntmps3
  go_wp2_with fail
  refine HF.out.mono ?_
  rintro e w1 ⟨rfl, h1⟩
  subst h1
  cases hfew : Srch.few ts with
  | false =>
    go_wp2_with fail
    refine (HLV.out _ (Below.refl _ _)).mono ?_
    rintro e w1 ⟨rfl, hb⟩
    have HB := Lib.hid hb
    clear hb
    go_wp2
    go_ret
    exact ⟨rfl, HB.out⟩
  | true =>
    obtain ⟨hl40, HALL⟩ := Srch.few_spec hfew
    have HALL2 := Lib.hid HALL
    clear HALL
    have HALL := HALL2
    clear HALL2
    clear hfew HF
    go_wp2_with fail
    refine (sk_New (.slice va ts.length vc) ts w HV.out hl40 HALL.out HK.out).mono ?_
    rintro e w1 ⟨p, v', rfl, h1⟩
    have H1 := Lib.hid h1
    clear h1
    go_wp2_with fail
    refine (ref19_New (.slice va ts.length vc) ts w1 (HV.out.below H1.out.bel) hl40 HALL.out).mono ?_
    rintro e w2 ⟨p2, rfl, h1, h2⟩
    have HP : Hid (p < w1.heap.size ∧ ∀ g, v'.ownBlock = some g → g < w1.heap.size) := Lib.hid ⟨H1.out.sea.box.lt, H1.out.vlt⟩
    have HBS : Hid (w.heap.size ≤ w1.heap.size) := Lib.hid H1.out.bel.size
    have H2 := Lib.hid (H1.out.below h2)
    have R2 := Lib.hid h1
    clear h1 h2 H1
    obtain ⟨B, hB⟩ : ∃ B, w1.heap.size = B := ⟨_, rfl⟩
    rw [hB] at HP R2 HBS
    clear hB
    go_wp2_with fail
    have HCELL0 : ∀ (o2 : Option Nat) (W : World) (q2 : List Int), Sk w W p v' ts q2 o2 → ∀ x, o2 = some x → ∃ b off, va = some ⟨b, off, none⟩ ∧ b < w.heap.size ∧ W.cell? ⟨b, off + x, none⟩ = some (.string (ts.getD x ByteArray.empty)) ∧ x < ts.length := fun o2 W q2 hs x hx => by
      have hx := (hs.at' x hx).1
      obtain ⟨a', cap', e, _, hr⟩ := HV.out
      injection e with e1 _ e3
      subst e1 e3
      rcases hr with e | ⟨b, off, e, hb, hc⟩
      · subst e; simp at hx
      · exact ⟨b, off, e, hb, by rw [hs.bel.cell (p := ⟨b, off + x, none⟩) hb, hc x hx]; simp [List.getD, List.getElem?_eq_getElem hx], hx⟩
    have HCELL := Lib.hid HCELL0
    clear HCELL0
    go_loopw [7] (fun i wr => ∃ (r : Nat) (q : List Int) (o : Option Nat), r ≤ ss.length ∧ i = .int .i64 r ∧ Sk w wr p v' ts q o ∧ RS B wr p2 ts q o) (fun i _ => ss.length - (intOf i).toNat)
    case atStart => exact ⟨0, [], none, by omega, rfl, H2.out, R2.out⟩
    case round =>
      obtain ⟨r, q, o, hr, rfl, hSk, hRS⟩ := hrel
      have HB := Lib.hid hSk
      have R := Lib.hid hRS
      clear hSk hRS H2 R2
      by_cases hlt : r < ss.length
      · have e1 : decide ((r : Int) < (ss.length : Int)) = true := decide_eq_true (by omega)
        have e2 : decide (r < ss.length) = true := decide_eq_true hlt
        have hia : (r : Int) < (ss.length : Int) := by omega
        by_cases h100 : r < 250
        · have e3 : decide ((r : Int) < 250) = true := decide_eq_true (by omega)
          obtain ⟨b, o', e, hbl, hc⟩ := HS.out.at hlt
          cases e
          have c0 := (HB.out.bel.cell (p := ⟨b, o' + r * 2 + 0, none⟩) hbl).trans (hc 0 _ rfl)
          have c1 := (HB.out.bel.cell (p := ⟨b, o' + r * 2 + 1, none⟩) hbl).trans (hc 1 _ rfl)
          have HK2 : ∀ W, Below w.heap.size w W → W.cell? ⟨b, o' + r * 2 + 1, none⟩ = some (.int .i64 ss[r].2) := fun W hb => (hb.cell (p := ⟨b, o' + r * 2 + 1, none⟩) hbl).trans (hc 1 _ rfl)
          have HKK := Lib.hid HK2
          simp only [Nat.add_zero] at c0
          clear HK2
          generalize ss[r] = st at *
          obtain ⟨d, ru⟩ := st
          simp only at c0 c1 HKK
          clear hc h100
          by_cases hd0 : d = 0
          · subst hd0
            go_wp2_with fail
            refine (sk_Type HB.out ru).mono ?_
            rintro e w2 ⟨rfl, h1, h2⟩
            have H2 := Lib.hid h1
            have R2 := Lib.hid (R.out.keep h2 (fun i hi e => by have e' : i = p := e; have := HP.out.1; omega))
            clear c1
            have c1 := HKK.out w2 H2.out.bel
            clear h1 h2
            go_wp2_with fail
            refine (ref19_Type R2.out ru).mono ?_
            rintro e w3 ⟨rfl, h1, h2⟩
            have R3 := Lib.hid h1
            have H3 := Lib.hid (H2.out.keep (Keep.of_below h2) (fun e => by have := HP.out.1; omega) (fun g hg e => by have := HP.out.2 g hg; omega) (fun i e => Nat.le_trans HBS.out e))
            clear h1 h2 HB H2 R R2
            generalize (Srch.typeTo ts q o ru).2.1 = q2 at *
            generalize (Srch.typeTo ts q o ru).2.2 = o2 at *
            generalize (Srch.typeTo ts q o ru).1 = b2 at *
            go_wp2_with fail
            refine (sk_Found H3.out).mono ?_
            rintro e w4 ⟨rfl, h2⟩
            have H4 := Lib.hid (H3.out.below h2)
            have R4 := Lib.hid (R3.out.below h2)
            clear h2 H3 R3
            obtain ⟨VL, VQ, hrs, _⟩ := R4.out
            have HRS := Lib.hid hrs
            obtain ⟨_, _, k2, _, _, _⟩ := hrs.cells
            clear hrs
            have hcc := HCELL.out _ _ _ H4.out
            cases o2 with
            | none =>
              obtain ⟨z, hz1, hz⟩ : ∃ z, Srch.plR none = z ∧ z < 0 := ⟨_, rfl, by decide⟩
              have hz2 : decide ((0 : Int) ≤ z) = false := decide_eq_false (by omega)
              have hz3 : decide (z < 0) = true := decide_eq_true hz; have hz4 : max z 0 = 0 := by omega
              rw [hz1] at k2
              clear hz1
              obtain ⟨em, hem⟩ : ∃ em : ByteArray, em = ⟨#[]⟩ := ⟨_, rfl⟩
              have hf : foundV ts none = .tuple #[.int .i64 0, .string em, .bool false] := by rw [hem]; rfl
              have hee : em.toList.isEmpty = true := isEmpty_yes (by rw [hem]; rfl)
              rw [hf]
              clear hem hf
              go_wp2_with fail
              refine (sk_Query H4.out).mono ?_
              rintro e w5 ⟨rfl, h5⟩
              subst h5
              go_wp2_with fail
              refine (ref19_Query HRS.out).mono ?_
              rintro e w5 ⟨rfl, h5⟩
              have H5 := Lib.hid (H4.out.below h5)
              have R5 := Lib.hid (R4.out.below h5)
              have k5 : w5.cell? ⟨p2, 2, none⟩ = some (.int .i64 z) := by rw [h5.cell (p := ⟨p2, 2, none⟩) (block_lt_of_cell k2)]; exact k2
              clear h5 k2 R4 HRS hcc
              generalize Ut.text q2 = tq
              go_wp2
              go_roundw
              case rel => exact ⟨r + 1, q2, none, by omega, by go_num, H5.out, R5.out⟩
              case measure => simp [intOf]; omega
            | some x =>
              rw [show Srch.plR (some x) = (x : Int) from rfl] at k2
              obtain ⟨lb, lo, e, hlb, hcl, hx⟩ := hcc x rfl
              cases e
              have u2 : decide ((x : Int) < 0) = false := decide_eq_false (by omega)
              have u1 : decide ((0 : Int) ≤ (x : Int)) = true := decide_eq_true (by omega)
              have u3 : decide (x < ts.length) = true := decide_eq_true hx
              have u4 : (x : Int) < (ts.length : Int) := by omega
              simp only [foundV, Srch.placeOf, Option.isSome]
              generalize ts.getD x ByteArray.empty = t at hcl ⊢
              go_wp2_with fail
              refine (sk_Query H4.out).mono ?_
              rintro e w5 ⟨rfl, h5⟩
              subst h5
              go_wp2_with fail
              refine (ref19_Query HRS.out).mono ?_
              rintro e w5 ⟨rfl, h5⟩
              have H5 := Lib.hid (H4.out.below h5)
              have R5 := Lib.hid (R4.out.below h5)
              have k5 : w5.cell? ⟨p2, 2, none⟩ = some (.int .i64 (x : Int)) := by rw [h5.cell (p := ⟨p2, 2, none⟩) (block_lt_of_cell k2)]; exact k2
              have cl5 : w5.cell? ⟨lb, lo + x, none⟩ = some (.string t) := by rw [h5.cell (p := ⟨lb, lo + x, none⟩) (block_lt_of_cell hcl)]; exact hcl
              clear h5 k2 R4 HRS hcl
              generalize Ut.text q2 = tq
              go_wp2
              go_roundw
              case rel => exact ⟨r + 1, q2, some x, by omega, by go_num, H5.out, R5.out⟩
              case measure => simp [intOf]; omega
          by_cases hd1 : d = 1
          · subst hd1
            go_wp2_with fail
            refine (sk_Rub HB.out).mono ?_
            rintro e w2 ⟨rfl, h1, h2⟩
            have H2 := Lib.hid h1
            have R2 := Lib.hid (R.out.keep h2 (fun i hi e => by have e' : i = p := e; have := HP.out.1; omega))
            clear h1 h2
            go_wp2_with fail
            refine (ref19_Rub R2.out).mono ?_
            rintro e w3 ⟨rfl, h1, h2⟩
            have R3 := Lib.hid h1
            have H3 := Lib.hid (H2.out.keep (Keep.of_below h2) (fun e => by have := HP.out.1; omega) (fun g hg e => by have := HP.out.2 g hg; omega) (fun i e => Nat.le_trans HBS.out e))
            clear h1 h2 HB H2 R R2
            generalize (Srch.rubTo ts q o).2.1 = q2 at *
            generalize (Srch.rubTo ts q o).2.2 = o2 at *
            generalize (Srch.rubTo ts q o).1 = b2 at *
            go_wp2_with fail
            refine (sk_Found H3.out).mono ?_
            rintro e w4 ⟨rfl, h2⟩
            have H4 := Lib.hid (H3.out.below h2)
            have R4 := Lib.hid (R3.out.below h2)
            clear h2 H3 R3
            obtain ⟨VL, VQ, hrs, _⟩ := R4.out
            have HRS := Lib.hid hrs
            obtain ⟨_, _, k2, _, _, _⟩ := hrs.cells
            clear hrs
            have hcc := HCELL.out _ _ _ H4.out
            cases o2 with
            | none =>
              obtain ⟨z, hz1, hz⟩ : ∃ z, Srch.plR none = z ∧ z < 0 := ⟨_, rfl, by decide⟩
              have hz2 : decide ((0 : Int) ≤ z) = false := decide_eq_false (by omega)
              have hz3 : decide (z < 0) = true := decide_eq_true hz; have hz4 : max z 0 = 0 := by omega
              rw [hz1] at k2
              clear hz1
              obtain ⟨em, hem⟩ : ∃ em : ByteArray, em = ⟨#[]⟩ := ⟨_, rfl⟩
              have hf : foundV ts none = .tuple #[.int .i64 0, .string em, .bool false] := by rw [hem]; rfl
              have hee : em.toList.isEmpty = true := isEmpty_yes (by rw [hem]; rfl)
              rw [hf]
              clear hem hf
              go_wp2_with fail
              refine (sk_Query H4.out).mono ?_
              rintro e w5 ⟨rfl, h5⟩
              subst h5
              go_wp2_with fail
              refine (ref19_Query HRS.out).mono ?_
              rintro e w5 ⟨rfl, h5⟩
              have H5 := Lib.hid (H4.out.below h5)
              have R5 := Lib.hid (R4.out.below h5)
              have k5 : w5.cell? ⟨p2, 2, none⟩ = some (.int .i64 z) := by rw [h5.cell (p := ⟨p2, 2, none⟩) (block_lt_of_cell k2)]; exact k2
              clear h5 k2 R4 HRS hcc
              generalize Ut.text q2 = tq
              go_wp2
              go_roundw
              case rel => exact ⟨r + 1, q2, none, by omega, by go_num, H5.out, R5.out⟩
              case measure => simp [intOf]; omega
            | some x =>
              rw [show Srch.plR (some x) = (x : Int) from rfl] at k2
              obtain ⟨lb, lo, e, hlb, hcl, hx⟩ := hcc x rfl
              cases e
              have u2 : decide ((x : Int) < 0) = false := decide_eq_false (by omega)
              have u1 : decide ((0 : Int) ≤ (x : Int)) = true := decide_eq_true (by omega)
              have u3 : decide (x < ts.length) = true := decide_eq_true hx
              have u4 : (x : Int) < (ts.length : Int) := by omega
              simp only [foundV, Srch.placeOf, Option.isSome]
              generalize ts.getD x ByteArray.empty = t at hcl ⊢
              go_wp2_with fail
              refine (sk_Query H4.out).mono ?_
              rintro e w5 ⟨rfl, h5⟩
              subst h5
              go_wp2_with fail
              refine (ref19_Query HRS.out).mono ?_
              rintro e w5 ⟨rfl, h5⟩
              have H5 := Lib.hid (H4.out.below h5)
              have R5 := Lib.hid (R4.out.below h5)
              have k5 : w5.cell? ⟨p2, 2, none⟩ = some (.int .i64 (x : Int)) := by rw [h5.cell (p := ⟨p2, 2, none⟩) (block_lt_of_cell k2)]; exact k2
              have cl5 : w5.cell? ⟨lb, lo + x, none⟩ = some (.string t) := by rw [h5.cell (p := ⟨lb, lo + x, none⟩) (block_lt_of_cell hcl)]; exact hcl
              clear h5 k2 R4 HRS hcl
              generalize Ut.text q2 = tq
              go_wp2
              go_roundw
              case rel => exact ⟨r + 1, q2, some x, by omega, by go_num, H5.out, R5.out⟩
              case measure => simp [intOf]; omega
          by_cases hd2 : d = 2
          · subst hd2
            go_wp2_with fail
            refine (sk_Back HB.out).mono ?_
            rintro e w2 ⟨rfl, h1, h2⟩
            have H2 := Lib.hid h1
            have R2 := Lib.hid (R.out.keep h2 (fun i hi e => by have e' : i = p := e; have := HP.out.1; omega))
            clear h1 h2
            go_wp2_with fail
            refine (ref19_Back R2.out).mono ?_
            rintro e w3 ⟨rfl, h1, h2⟩
            have R3 := Lib.hid h1
            have H3 := Lib.hid (H2.out.keep (Keep.of_below h2) (fun e => by have := HP.out.1; omega) (fun g hg e => by have := HP.out.2 g hg; omega) (fun i e => Nat.le_trans HBS.out e))
            clear h1 h2 HB H2 R R2
            generalize (Srch.backTo ts q o).2.1 = q2 at *
            generalize (Srch.backTo ts q o).2.2 = o2 at *
            generalize (Srch.backTo ts q o).1 = b2 at *
            go_wp2_with fail
            refine (sk_Found H3.out).mono ?_
            rintro e w4 ⟨rfl, h2⟩
            have H4 := Lib.hid (H3.out.below h2)
            have R4 := Lib.hid (R3.out.below h2)
            clear h2 H3 R3
            obtain ⟨VL, VQ, hrs, _⟩ := R4.out
            have HRS := Lib.hid hrs
            obtain ⟨_, _, k2, _, _, _⟩ := hrs.cells
            clear hrs
            have hcc := HCELL.out _ _ _ H4.out
            cases o2 with
            | none =>
              obtain ⟨z, hz1, hz⟩ : ∃ z, Srch.plR none = z ∧ z < 0 := ⟨_, rfl, by decide⟩
              have hz2 : decide ((0 : Int) ≤ z) = false := decide_eq_false (by omega)
              have hz3 : decide (z < 0) = true := decide_eq_true hz; have hz4 : max z 0 = 0 := by omega
              rw [hz1] at k2
              clear hz1
              obtain ⟨em, hem⟩ : ∃ em : ByteArray, em = ⟨#[]⟩ := ⟨_, rfl⟩
              have hf : foundV ts none = .tuple #[.int .i64 0, .string em, .bool false] := by rw [hem]; rfl
              have hee : em.toList.isEmpty = true := isEmpty_yes (by rw [hem]; rfl)
              rw [hf]
              clear hem hf
              go_wp2_with fail
              refine (sk_Query H4.out).mono ?_
              rintro e w5 ⟨rfl, h5⟩
              subst h5
              go_wp2_with fail
              refine (ref19_Query HRS.out).mono ?_
              rintro e w5 ⟨rfl, h5⟩
              have H5 := Lib.hid (H4.out.below h5)
              have R5 := Lib.hid (R4.out.below h5)
              have k5 : w5.cell? ⟨p2, 2, none⟩ = some (.int .i64 z) := by rw [h5.cell (p := ⟨p2, 2, none⟩) (block_lt_of_cell k2)]; exact k2
              clear h5 k2 R4 HRS hcc
              generalize Ut.text q2 = tq
              go_wp2
              go_roundw
              case rel => exact ⟨r + 1, q2, none, by omega, by go_num, H5.out, R5.out⟩
              case measure => simp [intOf]; omega
            | some x =>
              rw [show Srch.plR (some x) = (x : Int) from rfl] at k2
              obtain ⟨lb, lo, e, hlb, hcl, hx⟩ := hcc x rfl
              cases e
              have u2 : decide ((x : Int) < 0) = false := decide_eq_false (by omega)
              have u1 : decide ((0 : Int) ≤ (x : Int)) = true := decide_eq_true (by omega)
              have u3 : decide (x < ts.length) = true := decide_eq_true hx
              have u4 : (x : Int) < (ts.length : Int) := by omega
              simp only [foundV, Srch.placeOf, Option.isSome]
              generalize ts.getD x ByteArray.empty = t at hcl ⊢
              go_wp2_with fail
              refine (sk_Query H4.out).mono ?_
              rintro e w5 ⟨rfl, h5⟩
              subst h5
              go_wp2_with fail
              refine (ref19_Query HRS.out).mono ?_
              rintro e w5 ⟨rfl, h5⟩
              have H5 := Lib.hid (H4.out.below h5)
              have R5 := Lib.hid (R4.out.below h5)
              have k5 : w5.cell? ⟨p2, 2, none⟩ = some (.int .i64 (x : Int)) := by rw [h5.cell (p := ⟨p2, 2, none⟩) (block_lt_of_cell k2)]; exact k2
              have cl5 : w5.cell? ⟨lb, lo + x, none⟩ = some (.string t) := by rw [h5.cell (p := ⟨lb, lo + x, none⟩) (block_lt_of_cell hcl)]; exact hcl
              clear h5 k2 R4 HRS hcl
              generalize Ut.text q2 = tq
              go_wp2
              go_roundw
              case rel => exact ⟨r + 1, q2, some x, by omega, by go_num, H5.out, R5.out⟩
              case measure => simp [intOf]; omega
          have g0 : (d == 0) = false := beq_eq_false_iff_ne.2 hd0
          have g1 : (d == 1) = false := beq_eq_false_iff_ne.2 hd1
          have g4 : (d == 2) = false := beq_eq_false_iff_ne.2 hd2
          have g2 : decide (d = 0) = false := decide_eq_false hd0
          have g3 : decide (d = 1) = false := decide_eq_false hd1
          have g5 : decide (d = 2) = false := decide_eq_false hd2
          clear hd0 hd1 hd2
          go_wp2_with fail
          refine (sk_On HB.out).mono ?_
          rintro e w2 ⟨rfl, h1, h2⟩
          have H2 := Lib.hid h1
          have R2 := Lib.hid (R.out.keep h2 (fun i hi e => by have e' : i = p := e; have := HP.out.1; omega))
          clear h1 h2
          go_wp2_with fail
          refine (ref19_On R2.out).mono ?_
          rintro e w3 ⟨rfl, h1, h2⟩
          have R3 := Lib.hid h1
          have H3 := Lib.hid (H2.out.keep (Keep.of_below h2) (fun e => by have := HP.out.1; omega) (fun g hg e => by have := HP.out.2 g hg; omega) (fun i e => Nat.le_trans HBS.out e))
          clear h1 h2 HB H2 R R2
          generalize (Srch.onTo ts q o).2.1 = q2 at *
          generalize (Srch.onTo ts q o).2.2 = o2 at *
          generalize (Srch.onTo ts q o).1 = b2 at *
          go_wp2_with fail
          refine (sk_Found H3.out).mono ?_
          rintro e w4 ⟨rfl, h2⟩
          have H4 := Lib.hid (H3.out.below h2)
          have R4 := Lib.hid (R3.out.below h2)
          clear h2 H3 R3
          obtain ⟨VL, VQ, hrs, _⟩ := R4.out
          have HRS := Lib.hid hrs
          obtain ⟨_, _, k2, _, _, _⟩ := hrs.cells
          clear hrs
          have hcc := HCELL.out _ _ _ H4.out
          cases o2 with
          | none =>
            obtain ⟨z, hz1, hz⟩ : ∃ z, Srch.plR none = z ∧ z < 0 := ⟨_, rfl, by decide⟩
            have hz2 : decide ((0 : Int) ≤ z) = false := decide_eq_false (by omega)
            have hz3 : decide (z < 0) = true := decide_eq_true hz; have hz4 : max z 0 = 0 := by omega
            rw [hz1] at k2
            clear hz1
            obtain ⟨em, hem⟩ : ∃ em : ByteArray, em = ⟨#[]⟩ := ⟨_, rfl⟩
            have hf : foundV ts none = .tuple #[.int .i64 0, .string em, .bool false] := by rw [hem]; rfl
            have hee : em.toList.isEmpty = true := isEmpty_yes (by rw [hem]; rfl)
            rw [hf]
            clear hem hf
            go_wp2_with fail
            refine (sk_Query H4.out).mono ?_
            rintro e w5 ⟨rfl, h5⟩
            subst h5
            go_wp2_with fail
            refine (ref19_Query HRS.out).mono ?_
            rintro e w5 ⟨rfl, h5⟩
            have H5 := Lib.hid (H4.out.below h5)
            have R5 := Lib.hid (R4.out.below h5)
            have k5 : w5.cell? ⟨p2, 2, none⟩ = some (.int .i64 z) := by rw [h5.cell (p := ⟨p2, 2, none⟩) (block_lt_of_cell k2)]; exact k2
            clear h5 k2 R4 HRS hcc
            generalize Ut.text q2 = tq
            go_wp2
            go_roundw
            case rel => exact ⟨r + 1, q2, none, by omega, by go_num, H5.out, R5.out⟩
            case measure => simp [intOf]; omega
          | some x =>
            rw [show Srch.plR (some x) = (x : Int) from rfl] at k2
            obtain ⟨lb, lo, e, hlb, hcl, hx⟩ := hcc x rfl
            cases e
            have u2 : decide ((x : Int) < 0) = false := decide_eq_false (by omega)
            have u1 : decide ((0 : Int) ≤ (x : Int)) = true := decide_eq_true (by omega)
            have u3 : decide (x < ts.length) = true := decide_eq_true hx
            have u4 : (x : Int) < (ts.length : Int) := by omega
            simp only [foundV, Srch.placeOf, Option.isSome]
            generalize ts.getD x ByteArray.empty = t at hcl ⊢
            go_wp2_with fail
            refine (sk_Query H4.out).mono ?_
            rintro e w5 ⟨rfl, h5⟩
            subst h5
            go_wp2_with fail
            refine (ref19_Query HRS.out).mono ?_
            rintro e w5 ⟨rfl, h5⟩
            have H5 := Lib.hid (H4.out.below h5)
            have R5 := Lib.hid (R4.out.below h5)
            have k5 : w5.cell? ⟨p2, 2, none⟩ = some (.int .i64 (x : Int)) := by rw [h5.cell (p := ⟨p2, 2, none⟩) (block_lt_of_cell k2)]; exact k2
            have cl5 : w5.cell? ⟨lb, lo + x, none⟩ = some (.string t) := by rw [h5.cell (p := ⟨lb, lo + x, none⟩) (block_lt_of_cell hcl)]; exact hcl
            clear h5 k2 R4 HRS hcl
            generalize Ut.text q2 = tq
            go_wp2
            go_roundw
            case rel => exact ⟨r + 1, q2, some x, by omega, by go_num, H5.out, R5.out⟩
            case measure => simp [intOf]; omega
        · have e3 : decide ((r : Int) < 250) = false := decide_eq_false (by omega)
          go_wp2_with fail
          refine (HLV.out _ HB.out.bel).mono ?_
          rintro e w4 ⟨rfl, hb⟩
          have HB4 := Lib.hid hb
          clear hb
          go_wp2
          go_ret
          exact ⟨rfl, HB4.out⟩
      · have e1 : decide ((r : Int) < (ss.length : Int)) = false := decide_eq_false (by omega)
        have e2 : decide (r < ss.length) = false := decide_eq_false hlt
        go_wp2_with fail
        refine (HLV.out _ HB.out.bel).mono ?_
        rintro e w4 ⟨rfl, hb⟩
        have HB4 := Lib.hid hb
        clear hb
        go_wp2
        go_ret
        exact ⟨rfl, HB4.out⟩

theorem walk_SearchScripts (a : Option Addr) (len cap : Nat) (zs : List ByteArray) (sv : Value) (ss : List (Int × Int)) (w : World) (hv : IsStrs w a len cap zs) (hs : SliceG 2 sopL w sv ss ∧ ss.length ≤ maxLen ∧ ∀ x ∈ ss, In64 x.1 ∧ In64 x.2) (hk : Kit w) :
    Calls Tryd.prog 3 #[.slice a len cap, sv] w fun e w' => e = .returned (.bool true) ∧ Below w.heap.size w w' := by
  obtain ⟨ts, h1, h2, h3⟩ := hv.slice
  exact walk_SearchScripts0 _ ts sv ss w h1 h2 hs.1 hs.2.1 hk
end Go.Proofs.YtepddieblankpaaDoor
