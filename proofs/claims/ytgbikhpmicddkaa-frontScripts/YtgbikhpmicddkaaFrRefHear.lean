/- The reference's Hear. -/
import Derived.Test.YtgbikhpmicddkaaFrRefOps
import Derived.Test.YtgbikhpmicddkaaQLater
namespace Go.Proofs.Ytgbikhpmicddkaa
open Go.RowKit
set_option linter.unusedVariables false

theorem Front.told_zero {zs : List Int} (hm : Vecs.may zs = true) : decide (zs = List.replicate zs.length 0) = !Front.told zs := by
  unfold Front.told
  rw [Bool.eq_iff_iff, decide_eq_true_iff, Bool.not_eq_true', List.any_eq_false]
  constructor
  · intro e x hx
    rw [e] at hx
    rw [List.eq_of_mem_replicate hx]
    decide
  · intro h
    refine List.eq_replicate_iff.2 ⟨rfl, fun x hx => ?_⟩
    have h1 := h x hx
    have h2 := ((Vecs.may_iff.1 hm).2.2 x hx).1
    simp at h1
    omega

theorem SliceI.spot {w : World} {v : Value} {zs : List Int} (h : SliceI w v zs) {k : Nat} (hk : k < zs.length) : ∃ b off cap, v = .slice (some ⟨b, off, Option.none⟩) zs.length cap ∧ b < w.heap.size ∧ w.cell? ⟨b, off + k, Option.none⟩ = some (.int .i64 zs[k]) := by
  obtain ⟨a, cap, rfl, _, h⟩ := h
  rcases h with h | ⟨b, off, rfl, hlt, hc⟩
  · rw [h] at hk; simp at hk
  · exact ⟨b, off, cap, rfl, hlt, hc k hk⟩

/-- What Hear leaves of the reference's front. -/
def HearR (w : World) (q g cap : Nat) (r : Int × List (List Int)) (w' : World) : Prop := ∃ us, IsRefW w' q g cap us r.2 ∧ Over g w w'

set_option maxRecDepth 100000 in
set_option maxHeartbeats 8000000 in
theorem ref09_Hear {w : World} {q g cap : Nat} {us : List Value} {rows : List (List Int)} (h : IsRefW w q g cap us rows) (s : Int) (v : Value) (zs : List Int) (hv : SliceI w v zs) (hm : zs.length ≤ maxLen) :
    Calls Try.prog 8 #[.pointer (some ⟨q, 0, none⟩), .int .i64 s, v] w fun e w' => e = .returned (.int .i64 (Front.hear rows s zs).1) ∧ HearR w q g cap (Front.hear rows s zs) w' := by
  have HW := Lib.hid h
  have HV := Lib.hid hv
  have hst := h.sites
  have HMY := Lib.hid (ref06_May v zs w hv hm)
  have c0 := h.box.cell 0 (by simp)
  simp only [List.getElem_cons_zero] at c0
  obtain ⟨va, vc, e⟩ := hv.shape
  subst e
  clear hv
  by_cases hlo : s < 0
  · have d1 : decide (s < 0) = true := decide_eq_true hlo
    have HHE : Hid (Front.hear rows s zs = (1, rows)) := Lib.hid (by unfold Front.hear; rw [if_neg (fun e => by omega)])
    rw [HHE.out]
    clear h HHE
    go_enter Try.func8, Try.ntmps8
    go_wp2
    go_ret
    exact ⟨rfl, us, HW.out, Over.of (Below.refl _ _)⟩
  obtain ⟨i, rfl⟩ : ∃ i : Nat, s = i := ⟨s.toNat, by omega⟩
  have d1 : decide ((i : Int) < 0) = false := decide_eq_false hlo
  clear hlo
  by_cases hhi : rows.length ≤ i
  · have d2 : decide ((rows.length : Int) ≤ (i : Int)) = true := decide_eq_true (by omega)
    have d3 : decide (rows.length ≤ i) = true := decide_eq_true hhi
    have HHE : Hid (Front.hear rows (i : Int) zs = (1, rows)) := Lib.hid (by unfold Front.hear; rw [if_neg (fun e => by omega)])
    rw [HHE.out]
    clear h HHE
    go_enter Try.func8, Try.ntmps8
    go_wp2
    go_ret
    exact ⟨rfl, us, HW.out, Over.of (Below.refl _ _)⟩
  have d2 : decide ((rows.length : Int) ≤ (i : Int)) = false := decide_eq_false (by omega)
  have d3 : decide (rows.length ≤ i) = false := decide_eq_false hhi
  cases hmay : Vecs.may zs with
  | false =>
    rw [hmay] at HMY
    have HHE : Hid (Front.hear rows (i : Int) zs = (1, rows)) := Lib.hid (by unfold Front.hear; rw [if_neg (fun e => by rw [hmay] at e; exact absurd e.2.2.1 (by decide))])
    rw [HHE.out]
    clear h HHE hmay
    go_enter Try.func8, Try.ntmps8
    go_wp2_with (go_at_call 23; refine HMY.out.mono ?_; rintro e _ ⟨rfl, rfl⟩)
    go_ret
    exact ⟨rfl, us, HW.out, Over.of (Below.refl _ _)⟩
  | true =>
    rw [hmay] at HMY
    have HMAY := Lib.hid hmay
    clear hmay
    by_cases hzl : zs.length = rows.length
    · have d4 : ((zs.length : Int) != (rows.length : Int)) = false := by simp; omega
      have d5 : decide ((zs.length : Int) = (rows.length : Int)) = true := decide_eq_true (by omega)
      have hi : i < rows.length := by omega
      have hia : (i : Int) < (rows.length : Int) := by omega
      have hul : us.length = rows.length := h.len
      have hmr := h.may _ (List.getElem_mem hi)
      have HTG : Hid (Vecs.together rows[i] zs = true) := Lib.hid (Vecs.together_iff.2 ⟨hmr.1, HMAY.out, by rw [hmr.2, hzl]⟩)
      have HMR := Lib.hid hmr
      have HJM := Lib.hid (Front.join_ok hmr.1 HMAY.out (by rw [hmr.2, hzl]))
      have HHE : Hid (Front.hear rows (i : Int) zs = if Front.denyK rows zs i rows.length then (8, rows) else (0, rows.set i (Vecs.join rows[i] zs))) := Lib.hid (by
        unfold Front.hear
        rw [if_pos ⟨by omega, by omega, HMAY.out, hzl⟩, Int.toNat_natCast, List.getD_eq_getElem?_getD, List.getElem?_eq_getElem hi]
        rfl)
      generalize Front.hear rows (i : Int) zs = r at HHE ⊢
      have HZL := Lib.hid hzl
      have HUL := Lib.hid hul
      clear h hzl hul hmr
      go_enter Try.func8, Try.ntmps8
      go_wp2_with (go_at_call 23; refine HMY.out.mono ?_; rintro e _ ⟨rfl, rfl⟩)
      go_loopw [8] (fun x wr => ∃ k : Nat, k ≤ rows.length ∧ x = .int .i64 k ∧ Front.denyK rows zs i k = false ∧ Below w.heap.size w wr) (fun x _ => rows.length - (intOf x).toNat)
      case atStart => exact ⟨0, by omega, rfl, rfl, Below.refl _ _⟩
      case round =>
        obtain ⟨k, hk, rfl, hd, hb⟩ := hrel
        have HD := Lib.hid hd
        have HB3 := Lib.hid hb
        have HW3 := Lib.hid (HW.out.below hb)
        have HV3 := Lib.hid (HV.out.below hb)
        clear hd hb c0
        have c0 := HW3.out.box.cell 0 (by simp)
        simp only [List.getElem_cons_zero] at c0
        by_cases hlt : k < rows.length
        · have e1 : decide ((k : Int) < (rows.length : Int)) = true := decide_eq_true (by omega)
          have e2 : decide (k < rows.length) = true := decide_eq_true hlt
          have hka : (k : Int) < (rows.length : Int) := by omega
          have HS := Lib.hid (Front.deny_succ rows zs i k)
          have hne : Nonempty (Later wr) := ⟨⟨wr, Below.refl _ _⟩⟩
          have qlt := HW3.out.box.lt
          have f0 : ∀ p : Later wr, p.at'.cell? ⟨q, 0, none⟩ = some (.slice (some ⟨g, 0, none⟩) rows.length cap) := fun p => p.cell qlt c0
          by_cases hki : k = i
          · have dk : ((k : Int) != (i : Int)) = false := by simp [hki]
            have dk2 : decide ((k : Int) = (i : Int)) = true := decide_eq_true (by omega)
            have HS0 : Hid (Front.denyK rows zs i (k + 1) = false) := Lib.hid (by rw [HS.out, HD.out]; simp [hki])
            clear hki
            go_wp2_with fail
            refine wp_region_later (by kernel_rfl) (by kernel_rfl) ?_
            repeat (go_big_quiet_step (fail))
            refine wpQuiet_nil ?_
            intro _ hw'
            obtain ⟨⟨w8, hb8⟩, hw8⟩ := hw'
            subst hw8
            have HB8 := Lib.hid (grew HB3.out hb8)
            clear hb8
            go_wp2
            go_roundw
            case rel => exact ⟨k + 1, by omega, by go_num, HS0.out, HB8.out⟩
            case measure => simp [intOf]; omega
          · have dk : ((k : Int) != (i : Int)) = true := by simp; omega
            have dk2 : decide ((k : Int) = (i : Int)) = false := decide_eq_false (by omega)
            have HS1 : Hid (Front.denyK rows zs i (k + 1) = Front.much rows zs i k) := Lib.hid (by rw [HS.out, HD.out]; simp [hki])
            have hku : k < us.length := by rw [HUL.out]; exact hlt
            have hiu : i < us.length := by rw [HUL.out]; exact hi
            have glt : g < wr.heap.size := by obtain ⟨cur, hh, _⟩ := HW3.out.row; exact hh.lt
            have c1 := HW3.out.cell hlt hku
            have c2 := HW3.out.cell hi hiu
            have hvk := HW3.out.vec k hlt hku
            have hvi := HW3.out.vec i hi hiu
            have hmk := HW3.out.may _ (List.getElem_mem hlt)
            have hkz : k < zs.length := by rw [HZL.out]; exact hlt
            have hik : k < rows[i].length := by rw [HMR.out.2]; exact hlt
            have hkk : k < rows[k].length := by rw [hmk.2]; exact hlt
            obtain ⟨z0, z1, z2, ez, hz0, hzc⟩ := HV3.out.spot hkz
            obtain ⟨a0, a1, a2, ea, ha0, hac⟩ := hvk.spot hkk
            obtain ⟨b0, b1, b2, eb, hb0, hbc⟩ := hvi.spot hik
            obtain ⟨ka, kc, e⟩ := hvk.shape
            rw [hmk.2] at e
            rw [e] at c1 ea
            have HVK := Lib.hid hvk
            rw [e] at HVK
            clear e hvk
            obtain ⟨ia, ic, e⟩ := hvi.shape
            rw [HMR.out.2] at e
            rw [e] at c2 eb
            clear e hvi
            have HMU : Hid (Front.much rows zs i k = (Front.told rows[k] && decide (rows[k][k] < zs[k]) && decide (rows[i][k] < zs[k]))) := Lib.hid (by
              have q1 : rows.getD k [] = rows[k] := by rw [List.getD_eq_getElem?_getD, List.getElem?_eq_getElem hlt]; rfl
              have q2 : rows.getD i [] = rows[i] := by rw [List.getD_eq_getElem?_getD, List.getElem?_eq_getElem hi]; rfl
              have q3 : zs.getD k 0 = zs[k] := by rw [List.getD_eq_getElem?_getD, List.getElem?_eq_getElem hkz]; rfl
              have q4 : rows[k].getD k 0 = rows[k][k] := by rw [List.getD_eq_getElem?_getD, List.getElem?_eq_getElem hkk]; rfl
              have q5 : rows[i].getD k 0 = rows[i][k] := by rw [List.getD_eq_getElem?_getD, List.getElem?_eq_getElem hik]; rfl
              unfold Front.much
              simp only [q1, q2, q3, q4, q5])
            have HZR := Lib.hid (fun (p : Later wr) => Calls.later (ref09_zeros _ rows[k] p.at' (HVK.out.below p.bel) (by rw [hmk.2]; omega)))
            rw [Front.told_zero hmk.1] at HZR
            have f1 : ∀ p : Later wr, p.at'.cell? ⟨g, k, none⟩ = some (.slice ka rows.length kc) := fun p => p.cell glt c1
            have f2 : ∀ p : Later wr, p.at'.cell? ⟨g, i, none⟩ = some (.slice ia rows.length ic) := fun p => p.cell glt c2
            have f3 := fun (p : Later wr) => p.cell hz0 hzc
            have f4 := fun (p : Later wr) => p.cell ha0 hac
            have f5 := fun (p : Later wr) => p.cell hb0 hbc
            injection ea with ea ea1 ea2
            injection eb with eb eb1 eb2
            injection ez with ez ez1 ez2
            subst ea ea2 eb eb2 ez ez2
            clear ea1 eb1 ez1
            have hkz2 : (k : Int) < (zs.length : Int) := by omega
            clear c1 c2 hzc hac hbc hmk
            generalize Front.told rows[k] = td at HZR HMU
            generalize rows[k][k] = x1 at *
            generalize rows[i][k] = x2 at *
            generalize zs[k] = x3 at *
            generalize Front.much rows zs i k = mu at HS1 HMU
            clear hki
            have HFIN : Hid (mu = true → r = (8, rows)) := Lib.hid (fun e => by
              rw [HHE.out, Front.deny_up (k := k + 1) (m := rows.length) (by omega) (by rw [HS1.out, e])]
              rfl)
            cases td with
            | false =>
              obtain rfl : mu = false := by rw [HMU.out]; rfl
              go_wp2_with fail
              refine wp_region_later (by kernel_rfl) (by kernel_rfl) ?_
              repeat (go_big_quiet_step ((go_at_call 24; exact HZR.out _)))
              refine wpQuiet_nil ?_
              intro _ hw'
              obtain ⟨⟨w8, hb8⟩, hw8⟩ := hw'
              subst hw8
              have HB8 := Lib.hid (grew HB3.out hb8)
              clear hb8
              go_wp2
              go_roundw
              case rel => exact ⟨k + 1, by omega, by go_num, HS1.out, HB8.out⟩
              case measure => simp [intOf]; omega
            | true =>
              by_cases h1 : x1 < x3
              · have g1 : decide (x1 < x3) = true := decide_eq_true h1
                by_cases h2 : x2 < x3
                · have g2 : decide (x2 < x3) = true := decide_eq_true h2
                  have HX := HFIN.out (by rw [HMU.out, g1, g2]; rfl)
                  subst HX
                  clear h1 h2
                  go_wp2_with fail
                  refine wp_region_later (by kernel_rfl) (by kernel_rfl) ?_
                  repeat (go_big_quiet_step ((go_at_call 24; exact HZR.out _)))
                  refine wpQuiet_nil ?_
                  intro _ hw'
                  obtain ⟨⟨w8, hb8⟩, hw8⟩ := hw'
                  subst hw8
                  have HB8 := Lib.hid (grew HB3.out hb8)
                  clear hb8
                  go_wp2
                  go_ret
                  exact ⟨rfl, us, HW.out.below HB8.out, Over.of HB8.out⟩
                · have g2 : decide (x2 < x3) = false := decide_eq_false h2
                  obtain rfl : mu = false := by rw [HMU.out, g1, g2]; rfl
                  clear h1 h2
                  go_wp2_with fail
                  refine wp_region_later (by kernel_rfl) (by kernel_rfl) ?_
                  repeat (go_big_quiet_step ((go_at_call 24; exact HZR.out _)))
                  refine wpQuiet_nil ?_
                  intro _ hw'
                  obtain ⟨⟨w8, hb8⟩, hw8⟩ := hw'
                  subst hw8
                  have HB8 := Lib.hid (grew HB3.out hb8)
                  clear hb8
                  go_wp2
                  go_roundw
                  case rel => exact ⟨k + 1, by omega, by go_num, HS1.out, HB8.out⟩
                  case measure => simp [intOf]; omega
              · have g1 : decide (x1 < x3) = false := decide_eq_false h1
                obtain rfl : mu = false := by rw [HMU.out, g1]; rfl
                clear h1
                go_wp2_with fail
                refine wp_region_later (by kernel_rfl) (by kernel_rfl) ?_
                repeat (go_big_quiet_step ((go_at_call 24; exact HZR.out _)))
                refine wpQuiet_nil ?_
                intro _ hw'
                obtain ⟨⟨w8, hb8⟩, hw8⟩ := hw'
                subst hw8
                have HB8 := Lib.hid (grew HB3.out hb8)
                clear hb8
                go_wp2
                go_roundw
                case rel => exact ⟨k + 1, by omega, by go_num, HS1.out, HB8.out⟩
                case measure => simp [intOf]; omega
        · have e1 : decide ((k : Int) < (rows.length : Int)) = false := decide_eq_false (by omega)
          have e2 : decide (k < rows.length) = false := decide_eq_false hlt
          obtain rfl : k = rows.length := by omega
          obtain rfl : r = (0, rows.set i (Vecs.join rows[i] zs)) := by rw [HHE.out, HD.out]; rfl
          have hiu : i < us.length := by rw [HUL.out]; exact hi
          have c1 := HW3.out.cell hi hiu
          have hvi := HW3.out.vec i hi hiu
          have HJ := Lib.hid (ref06_Join _ _ rows[i] zs wr hvi HV3.out (by rw [HMR.out.2]; unfold maxLen; omega) (by rw [HZL.out]; unfold maxLen; omega))
          rw [show joinR rows[i] zs = (Vecs.join rows[i] zs, 0) from by unfold joinR; rw [if_pos HTG.out]] at HJ
          obtain ⟨ia, ic, e⟩ := hvi.shape
          rw [HMR.out.2] at e
          rw [e] at c1 HJ
          clear hvi e
          go_wp2_with fail
          refine HJ.out.mono ?_
          rintro e w4 ⟨r4, rfl, ⟨v4, rfl, hs4⟩, hb4⟩
          have HS4 := Lib.hid hs4
          have HB4 := Lib.hid hb4
          have HW4 := Lib.hid (HW3.out.below hb4)
          obtain ⟨ja, jc, e⟩ := hs4.shape
          rw [HJM.out.2, HMR.out.2] at e
          subst e
          clear hs4 hb4 c0 c1
          have c3 := HW4.out.box.cell 0 (by simp)
          simp only [List.getElem_cons_zero] at c3
          have c4 := HW4.out.cell hi hiu
          have f4 := HW4.out.frozen i
          have HF := Lib.hid (HW4.out.set hi HS4.out HJM.out.1 (by rw [HJM.out.2, HMR.out.2]))
          have HOV : Hid (Over g w (w4.setCell ⟨g, i, none⟩ (.slice ja rows.length jc))) := Lib.hid (by
            obtain ⟨a5, c5, e5⟩ := (HW4.out.vec i hi hiu).shape
            obtain ⟨cur, hh, _⟩ := HW4.out.row
            refine ⟨w4, grew HB3.out HB4.out, .inr ⟨i, _, a5, rows[i].length, c5, cur, ?_, hh, rfl⟩⟩
            rw [c4, e5])
          go_wp2
          go_ret
          exact ⟨rfl, _, HF.out, HOV.out⟩
    · have d4 : ((zs.length : Int) != (rows.length : Int)) = true := by simp; omega
      have d5 : decide ((zs.length : Int) = (rows.length : Int)) = false := decide_eq_false (by omega)
      have HHE : Hid (Front.hear rows (i : Int) zs = (1, rows)) := Lib.hid (by unfold Front.hear; rw [if_neg (fun e => hzl e.2.2.2)])
      rw [HHE.out]
      clear h HHE hzl
      go_enter Try.func8, Try.ntmps8
      go_wp2_with (go_at_call 23; refine HMY.out.mono ?_; rintro e _ ⟨rfl, rfl⟩)
      go_ret
      exact ⟨rfl, us, HW.out, Over.of (Below.refl _ _)⟩
end Go.Proofs.Ytgbikhpmicddkaa
