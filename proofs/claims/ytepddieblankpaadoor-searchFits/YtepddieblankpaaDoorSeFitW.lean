/- The walk of SearchFits. -/
import Derived.Test.YtepddieblankpaaDoorSeSk
import Derived.Test.YtepddieblankpaaDoorSeOpen
import Derived.BigQuiet
namespace Go.Proofs.YtepddieblankpaaDoor
open Go.RowKit
attribute [local go_sem] Oper.semAt_some
set_option linter.unusedVariables false

set_option maxRecDepth 100000 in
set_option maxHeartbeats 8000000 in
theorem walk_SearchFits0 (v : Value) (ts : List ByteArray) (sv : Value) (ss : List (Int × Int)) (w : World) (hv : SliceS w v ts) (hn : ts.length ≤ maxLen) (hs : SliceG 2 sopL w sv ss) (hsn : ss.length ≤ maxLen) (hk : Kit w) :
    Calls Tryd.prog 5 #[v, sv] w fun e w' => e = .returned (.bool true) ∧ Below w.heap.size w w' := by
  have HV := Lib.hid hv
  have HS := Lib.hid hs
  have HK := Lib.hid hk
  have HF := Lib.hid (law19_few v ts w hv hn)
  have HLV : Hid (∀ w1, Below w.heap.size w w1 → Calls Tryd.prog 15 #[] w1 fun e w' => e = .returned (.bool true) ∧ Below w.heap.size w w') := Lib.hid (fun w1 hb => (law19_live w1 (hk.below hb)).mono fun e w' ⟨h1, h2⟩ => ⟨h1, grew hb h2⟩)
  obtain ⟨va, vc, rfl⟩ : ∃ a cap, v = .slice a ts.length cap := by obtain ⟨a, cap, e, _⟩ := hv; exact ⟨a, cap, e⟩
  obtain ⟨sa, sc, rfl⟩ := hs.shape
  unfold maxLen at hn hsn
  clear hv hs hk
  go_enter Tryd.func5, Tryd.ntmps5
  go_wp2_with fail
  refine HF.out.mono ?_
  rintro e w1 ⟨rfl, h1⟩
  subst h1
  cases hfew : Srch.few ts with
  | false =>
    go_wp2_with fail
    refine (HLV.out _ (Below.refl _ _)).mono ?_
    rintro e w1 ⟨rfl, hb⟩
    have HB := Lib.hid hb
    clear hb
    go_wp2
    go_ret
    exact ⟨rfl, HB.out⟩
  | true =>
    obtain ⟨hl40, HALL⟩ := Srch.few_spec hfew
    have HALL2 := Lib.hid HALL
    clear HALL
    have HALL := HALL2
    clear HALL2
    clear hfew HF
    go_wp2_with fail
    refine (sk_New (.slice va ts.length vc) ts w HV.out hl40 HALL.out HK.out).mono ?_
    rintro e w1 ⟨p, v', rfl, h1⟩
    have H1 := Lib.hid h1
    clear h1
    go_wp2_with fail
    go_loopw [6] (fun i wr => ∃ (r : Nat) (q : List Int) (o : Option Nat), r ≤ ss.length ∧ i = .int .i64 r ∧ Sk w wr p v' ts q o) (fun i _ => ss.length - (intOf i).toNat)
    case atStart => exact ⟨0, [], none, by omega, rfl, H1.out⟩
    case round =>
      obtain ⟨r, q, o, hr, rfl, hSk⟩ := hrel
      have HB := Lib.hid hSk
      clear hSk H1
      by_cases hlt : r < ss.length
      · have e1 : decide ((r : Int) < (ss.length : Int)) = true := decide_eq_true (by omega)
        have e2 : decide (r < ss.length) = true := decide_eq_true hlt
        have hia : (r : Int) < (ss.length : Int) := by omega
        by_cases h100 : r < 250
        · have e3 : decide ((r : Int) < 250) = true := decide_eq_true (by omega)
          obtain ⟨b, o', e, hbl, hc⟩ := HS.out.at hlt
          cases e
          have c0 := (HB.out.bel.cell (p := ⟨b, o' + r * 2 + 0, none⟩) hbl).trans (hc 0 _ rfl)
          have c1 := (HB.out.bel.cell (p := ⟨b, o' + r * 2 + 1, none⟩) hbl).trans (hc 1 _ rfl)
          simp only [Nat.add_zero] at c0
          generalize ss[r] = st at *
          obtain ⟨d, ru⟩ := st
          simp only at c0 c1
          clear hc h100
          by_cases hd0 : d = 0
          · subst hd0
            go_wp2_with fail
            refine (sk_Type HB.out ru).mono ?_
            rintro e w3 ⟨rfl, h1, h2⟩
            have H3 := Lib.hid h1
            clear h1 h2 HB
            generalize (Srch.typeTo ts q o ru).2.1 = q2 at *
            generalize (Srch.typeTo ts q o ru).2.2 = o2 at *
            generalize (Srch.typeTo ts q o ru).1 = b2 at *
            go_wp2_with fail
            refine (sk_Found H3.out).mono ?_
            rintro e w4 ⟨rfl, h2⟩
            have H4 := Lib.hid (H3.out.below h2)
            clear h2 H3
            cases o2 with
            | none =>
              simp only [foundV, Srch.placeOf, Option.isSome]
              go_wp2
              go_roundw
              case rel => exact ⟨r + 1, q2, none, by omega, by go_num, H4.out⟩
              case measure => simp [intOf]; omega
            | some x =>
              obtain ⟨hx, hfit⟩ := H4.out.at' x rfl
              obtain ⟨lb, lo, e, hlb, hcl⟩ : ∃ b off, va = some ⟨b, off, none⟩ ∧ b < w.heap.size ∧ w4.cell? ⟨b, off + x, none⟩ = some (.string (ts.getD x ByteArray.empty)) := by
                obtain ⟨a', cap', e, _, hr⟩ := HV.out
                injection e with e1 _ e3
                subst e1 e3
                rcases hr with e | ⟨b, off, e, hb, hc⟩
                · subst e; simp at hx
                · exact ⟨b, off, e, hb, by rw [H4.out.bel.cell (p := ⟨b, off + x, none⟩) hb, hc x hx]; simp [List.getD, List.getElem?_eq_getElem hx]⟩
              cases e
              have u1 : decide ((x : Int) < 0) = false := decide_eq_false (by omega)
              have u2 : decide ((ts.length : Int) ≤ (x : Int)) = false := decide_eq_false (by omega)
              have u3 : decide (x < ts.length) = true := decide_eq_true hx
              have u4 : (x : Int) < (ts.length : Int) := by omega
              have u5 : decide (ts.length ≤ x) = false := decide_eq_false (by omega)
              have HTS : Hid ((ts.getD x ByteArray.empty).size ≤ 300) := Lib.hid (by
                simp only [List.getD, List.getElem?_eq_getElem hx, Option.getD_some]
                exact HALL.out _ (List.getElem_mem hx))
              have HFI := Lib.hid hfit
              have HX := Lib.hid hx
              clear hfit hx
              simp only [foundV, Srch.placeOf, Option.isSome]
              generalize ts.getD x ByteArray.empty = t at hcl HTS HFI ⊢
              go_wp2_with fail
              refine (sk_Query H4.out).mono ?_
              rintro e w5 ⟨rfl, h5⟩
              subst h5
              go_wp2_with fail
              refine (law19_has t (Ut.text q2) w4 (by have := HTS.out; omega) (by have := (Ut.text_size q2 H4.out.ok).2; have := H4.out.len; omega)).mono ?_
              rintro e w5 ⟨rfl, h5⟩
              subst h5
              rw [HFI.out]
              go_wp2_with fail
              refine (sk_Back H4.out).mono ?_
              rintro e w6 ⟨rfl, h1, h2⟩
              simp only [Srch.backTo] at h1 ⊢
              cases e0 : Srch.lastFit ts (Ut.text q2) x with
              | none =>
                rw [e0] at h1
                have H6 : Hid (Sk w w6 p v' ts q2 (some x)) := Lib.hid h1
                clear h1 h2
                simp only [Option.isSome]
                go_wp2
                go_roundw
                case rel => exact ⟨r + 1, q2, some x, by omega, by go_num, H6.out⟩
                case measure => simp [intOf]; omega
              | some y =>
                rw [e0] at h1
                have H6 : Hid (Sk w w6 p v' ts q2 (some y)) := Lib.hid h1
                have hyx := (Srch.lastFit_lt e0).1
                have HON : Hid (Srch.onTo ts q2 (some y) = (true, q2, some x)) := Lib.hid (by
                  have := Srch.back_on HX.out (H4.out.at' x rfl).2 e0
                  simp only [Srch.onTo, this, Srch.stays, Option.isSome])
                clear h1 h2 e0
                have z1 : decide ((x : Int) ≤ (y : Int)) = false := decide_eq_false (by omega)
                have z2 : decide (x ≤ y) = false := decide_eq_false (by omega)
                simp only [Option.isSome]
                go_wp2_with fail
                refine (sk_Found H6.out).mono ?_
                rintro e w7 ⟨rfl, h2⟩
                have H7 := Lib.hid (H6.out.below h2)
                clear h2 H6 H4
                simp only [foundV, Srch.placeOf, Option.isSome]
                generalize ts.getD y ByteArray.empty = ty
                go_wp2_with fail
                refine (sk_On H7.out).mono ?_
                rintro e w8 ⟨rfl, h1, h2⟩
                rw [HON.out] at h1 ⊢
                have H8 : Hid (Sk w w8 p v' ts q2 (some x)) := Lib.hid h1
                clear h1 h2 H7
                simp only
                go_wp2_with fail
                refine (sk_Found H8.out).mono ?_
                rintro e w9 ⟨rfl, h2⟩
                have H9 := Lib.hid (H8.out.below h2)
                clear h2 H8
                simp only [foundV, Srch.placeOf, Option.isSome]
                generalize ts.getD x ByteArray.empty = tx
                go_wp2
                go_roundw
                case rel => exact ⟨r + 1, q2, some x, by omega, by go_num, H9.out⟩
                case measure => simp [intOf]; omega
          by_cases hd1 : d = 1
          · subst hd1
            go_wp2_with fail
            refine (sk_Rub HB.out).mono ?_
            rintro e w3 ⟨rfl, h1, h2⟩
            have H3 := Lib.hid h1
            clear h1 h2 HB
            generalize (Srch.rubTo ts q o).2.1 = q2 at *
            generalize (Srch.rubTo ts q o).2.2 = o2 at *
            generalize (Srch.rubTo ts q o).1 = b2 at *
            go_wp2_with fail
            refine (sk_Found H3.out).mono ?_
            rintro e w4 ⟨rfl, h2⟩
            have H4 := Lib.hid (H3.out.below h2)
            clear h2 H3
            cases o2 with
            | none =>
              simp only [foundV, Srch.placeOf, Option.isSome]
              go_wp2
              go_roundw
              case rel => exact ⟨r + 1, q2, none, by omega, by go_num, H4.out⟩
              case measure => simp [intOf]; omega
            | some x =>
              obtain ⟨hx, hfit⟩ := H4.out.at' x rfl
              obtain ⟨lb, lo, e, hlb, hcl⟩ : ∃ b off, va = some ⟨b, off, none⟩ ∧ b < w.heap.size ∧ w4.cell? ⟨b, off + x, none⟩ = some (.string (ts.getD x ByteArray.empty)) := by
                obtain ⟨a', cap', e, _, hr⟩ := HV.out
                injection e with e1 _ e3
                subst e1 e3
                rcases hr with e | ⟨b, off, e, hb, hc⟩
                · subst e; simp at hx
                · exact ⟨b, off, e, hb, by rw [H4.out.bel.cell (p := ⟨b, off + x, none⟩) hb, hc x hx]; simp [List.getD, List.getElem?_eq_getElem hx]⟩
              cases e
              have u1 : decide ((x : Int) < 0) = false := decide_eq_false (by omega)
              have u2 : decide ((ts.length : Int) ≤ (x : Int)) = false := decide_eq_false (by omega)
              have u3 : decide (x < ts.length) = true := decide_eq_true hx
              have u4 : (x : Int) < (ts.length : Int) := by omega
              have u5 : decide (ts.length ≤ x) = false := decide_eq_false (by omega)
              have HTS : Hid ((ts.getD x ByteArray.empty).size ≤ 300) := Lib.hid (by
                simp only [List.getD, List.getElem?_eq_getElem hx, Option.getD_some]
                exact HALL.out _ (List.getElem_mem hx))
              have HFI := Lib.hid hfit
              have HX := Lib.hid hx
              clear hfit hx
              simp only [foundV, Srch.placeOf, Option.isSome]
              generalize ts.getD x ByteArray.empty = t at hcl HTS HFI ⊢
              go_wp2_with fail
              refine (sk_Query H4.out).mono ?_
              rintro e w5 ⟨rfl, h5⟩
              subst h5
              go_wp2_with fail
              refine (law19_has t (Ut.text q2) w4 (by have := HTS.out; omega) (by have := (Ut.text_size q2 H4.out.ok).2; have := H4.out.len; omega)).mono ?_
              rintro e w5 ⟨rfl, h5⟩
              subst h5
              rw [HFI.out]
              go_wp2_with fail
              refine (sk_Back H4.out).mono ?_
              rintro e w6 ⟨rfl, h1, h2⟩
              simp only [Srch.backTo] at h1 ⊢
              cases e0 : Srch.lastFit ts (Ut.text q2) x with
              | none =>
                rw [e0] at h1
                have H6 : Hid (Sk w w6 p v' ts q2 (some x)) := Lib.hid h1
                clear h1 h2
                simp only [Option.isSome]
                go_wp2
                go_roundw
                case rel => exact ⟨r + 1, q2, some x, by omega, by go_num, H6.out⟩
                case measure => simp [intOf]; omega
              | some y =>
                rw [e0] at h1
                have H6 : Hid (Sk w w6 p v' ts q2 (some y)) := Lib.hid h1
                have hyx := (Srch.lastFit_lt e0).1
                have HON : Hid (Srch.onTo ts q2 (some y) = (true, q2, some x)) := Lib.hid (by
                  have := Srch.back_on HX.out (H4.out.at' x rfl).2 e0
                  simp only [Srch.onTo, this, Srch.stays, Option.isSome])
                clear h1 h2 e0
                have z1 : decide ((x : Int) ≤ (y : Int)) = false := decide_eq_false (by omega)
                have z2 : decide (x ≤ y) = false := decide_eq_false (by omega)
                simp only [Option.isSome]
                go_wp2_with fail
                refine (sk_Found H6.out).mono ?_
                rintro e w7 ⟨rfl, h2⟩
                have H7 := Lib.hid (H6.out.below h2)
                clear h2 H6 H4
                simp only [foundV, Srch.placeOf, Option.isSome]
                generalize ts.getD y ByteArray.empty = ty
                go_wp2_with fail
                refine (sk_On H7.out).mono ?_
                rintro e w8 ⟨rfl, h1, h2⟩
                rw [HON.out] at h1 ⊢
                have H8 : Hid (Sk w w8 p v' ts q2 (some x)) := Lib.hid h1
                clear h1 h2 H7
                simp only
                go_wp2_with fail
                refine (sk_Found H8.out).mono ?_
                rintro e w9 ⟨rfl, h2⟩
                have H9 := Lib.hid (H8.out.below h2)
                clear h2 H8
                simp only [foundV, Srch.placeOf, Option.isSome]
                generalize ts.getD x ByteArray.empty = tx
                go_wp2
                go_roundw
                case rel => exact ⟨r + 1, q2, some x, by omega, by go_num, H9.out⟩
                case measure => simp [intOf]; omega
          have g0 : (d == 0) = false := beq_eq_false_iff_ne.2 hd0
          have g1 : (d == 1) = false := beq_eq_false_iff_ne.2 hd1
          have g2 : decide (d = 0) = false := decide_eq_false hd0
          have g3 : decide (d = 1) = false := decide_eq_false hd1
          clear hd0 hd1
          obtain ⟨q2, rfl⟩ : ∃ x, x = q := ⟨_, rfl⟩
          obtain ⟨o2, rfl⟩ : ∃ x, x = o := ⟨_, rfl⟩
          have H3 := Lib.hid HB.out
          clear HB
          go_wp2_with fail
          refine (sk_Found H3.out).mono ?_
          rintro e w4 ⟨rfl, h2⟩
          have H4 := Lib.hid (H3.out.below h2)
          clear h2 H3
          cases o2 with
          | none =>
            simp only [foundV, Srch.placeOf, Option.isSome]
            go_wp2
            go_roundw
            case rel => exact ⟨r + 1, q2, none, by omega, by go_num, H4.out⟩
            case measure => simp [intOf]; omega
          | some x =>
            obtain ⟨hx, hfit⟩ := H4.out.at' x rfl
            obtain ⟨lb, lo, e, hlb, hcl⟩ : ∃ b off, va = some ⟨b, off, none⟩ ∧ b < w.heap.size ∧ w4.cell? ⟨b, off + x, none⟩ = some (.string (ts.getD x ByteArray.empty)) := by
              obtain ⟨a', cap', e, _, hr⟩ := HV.out
              injection e with e1 _ e3
              subst e1 e3
              rcases hr with e | ⟨b, off, e, hb, hc⟩
              · subst e; simp at hx
              · exact ⟨b, off, e, hb, by rw [H4.out.bel.cell (p := ⟨b, off + x, none⟩) hb, hc x hx]; simp [List.getD, List.getElem?_eq_getElem hx]⟩
            cases e
            have u1 : decide ((x : Int) < 0) = false := decide_eq_false (by omega)
            have u2 : decide ((ts.length : Int) ≤ (x : Int)) = false := decide_eq_false (by omega)
            have u3 : decide (x < ts.length) = true := decide_eq_true hx
            have u4 : (x : Int) < (ts.length : Int) := by omega
            have u5 : decide (ts.length ≤ x) = false := decide_eq_false (by omega)
            have HTS : Hid ((ts.getD x ByteArray.empty).size ≤ 300) := Lib.hid (by
              simp only [List.getD, List.getElem?_eq_getElem hx, Option.getD_some]
              exact HALL.out _ (List.getElem_mem hx))
            have HFI := Lib.hid hfit
            have HX := Lib.hid hx
            clear hfit hx
            simp only [foundV, Srch.placeOf, Option.isSome]
            generalize ts.getD x ByteArray.empty = t at hcl HTS HFI ⊢
            go_wp2_with fail
            refine (sk_Query H4.out).mono ?_
            rintro e w5 ⟨rfl, h5⟩
            subst h5
            go_wp2_with fail
            refine (law19_has t (Ut.text q2) w4 (by have := HTS.out; omega) (by have := (Ut.text_size q2 H4.out.ok).2; have := H4.out.len; omega)).mono ?_
            rintro e w5 ⟨rfl, h5⟩
            subst h5
            rw [HFI.out]
            go_wp2_with fail
            refine (sk_Back H4.out).mono ?_
            rintro e w6 ⟨rfl, h1, h2⟩
            simp only [Srch.backTo] at h1 ⊢
            cases e0 : Srch.lastFit ts (Ut.text q2) x with
            | none =>
              rw [e0] at h1
              have H6 : Hid (Sk w w6 p v' ts q2 (some x)) := Lib.hid h1
              clear h1 h2
              simp only [Option.isSome]
              go_wp2
              go_roundw
              case rel => exact ⟨r + 1, q2, some x, by omega, by go_num, H6.out⟩
              case measure => simp [intOf]; omega
            | some y =>
              rw [e0] at h1
              have H6 : Hid (Sk w w6 p v' ts q2 (some y)) := Lib.hid h1
              have hyx := (Srch.lastFit_lt e0).1
              have HON : Hid (Srch.onTo ts q2 (some y) = (true, q2, some x)) := Lib.hid (by
                have := Srch.back_on HX.out (H4.out.at' x rfl).2 e0
                simp only [Srch.onTo, this, Srch.stays, Option.isSome])
              clear h1 h2 e0
              have z1 : decide ((x : Int) ≤ (y : Int)) = false := decide_eq_false (by omega)
              have z2 : decide (x ≤ y) = false := decide_eq_false (by omega)
              simp only [Option.isSome]
              go_wp2_with fail
              refine (sk_Found H6.out).mono ?_
              rintro e w7 ⟨rfl, h2⟩
              have H7 := Lib.hid (H6.out.below h2)
              clear h2 H6 H4
              simp only [foundV, Srch.placeOf, Option.isSome]
              generalize ts.getD y ByteArray.empty = ty
              go_wp2_with fail
              refine (sk_On H7.out).mono ?_
              rintro e w8 ⟨rfl, h1, h2⟩
              rw [HON.out] at h1 ⊢
              have H8 : Hid (Sk w w8 p v' ts q2 (some x)) := Lib.hid h1
              clear h1 h2 H7
              simp only
              go_wp2_with fail
              refine (sk_Found H8.out).mono ?_
              rintro e w9 ⟨rfl, h2⟩
              have H9 := Lib.hid (H8.out.below h2)
              clear h2 H8
              simp only [foundV, Srch.placeOf, Option.isSome]
              generalize ts.getD x ByteArray.empty = tx
              go_wp2
              go_roundw
              case rel => exact ⟨r + 1, q2, some x, by omega, by go_num, H9.out⟩
              case measure => simp [intOf]; omega
        · have e3 : decide ((r : Int) < 250) = false := decide_eq_false (by omega)
          go_wp2_with fail
          refine (HLV.out _ HB.out.bel).mono ?_
          rintro e w4 ⟨rfl, hb⟩
          have HB4 := Lib.hid hb
          clear hb
          go_wp2
          go_ret
          exact ⟨rfl, HB4.out⟩
      · have e1 : decide ((r : Int) < (ss.length : Int)) = false := decide_eq_false (by omega)
        have e2 : decide (r < ss.length) = false := decide_eq_false hlt
        go_wp2_with fail
        refine (HLV.out _ HB.out.bel).mono ?_
        rintro e w4 ⟨rfl, hb⟩
        have HB4 := Lib.hid hb
        clear hb
        go_wp2
        go_ret
        exact ⟨rfl, HB4.out⟩

theorem walk_SearchFits (a : Option Addr) (len cap : Nat) (zs : List ByteArray) (sv : Value) (ss : List (Int × Int)) (w : World) (hv : IsStrs w a len cap zs) (hs : SliceG 2 sopL w sv ss ∧ ss.length ≤ maxLen ∧ ∀ x ∈ ss, In64 x.1 ∧ In64 x.2) (hk : Kit w) :
    Calls Tryd.prog 5 #[.slice a len cap, sv] w fun e w' => e = .returned (.bool true) ∧ Below w.heap.size w w' := by
  obtain ⟨ts, h1, h2, h3⟩ := hv.slice
  exact walk_SearchFits0 _ ts sv ss w h1 h2 hs.1 hs.2.1 hk
end Go.Proofs.YtepddieblankpaaDoor
