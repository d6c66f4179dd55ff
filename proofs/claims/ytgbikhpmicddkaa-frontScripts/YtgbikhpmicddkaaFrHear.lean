/- What a front hears. -/
import Derived.Test.YtgbikhpmicddkaaFrMuch
namespace Go.Proofs.Ytgbikhpmicddkaa
open Go.RowKit
set_option linter.unusedVariables false

/-- Whether one of the first k sites but s is told too much of. -/
def Front.denyK (rows : List (List Int)) (v : List Int) (s k : Nat) : Bool := (List.range k).any (fun o => o != s && Front.much rows v s o)
theorem Front.deny_succ (rows : List (List Int)) (v : List Int) (s k : Nat) : Front.denyK rows v s (k + 1) = (Front.denyK rows v s k || (k != s && Front.much rows v s k)) := by
  unfold Front.denyK
  rw [List.range_succ, List.any_append]
  simp
theorem Front.deny_up {rows : List (List Int)} {v : List Int} {s k : Nat} : ∀ {m : Nat}, k ≤ m → Front.denyK rows v s k = true → Front.denyK rows v s m = true
  | 0, h, hd => by have : k = 0 := by omega
                   subst this; exact hd
  | m + 1, h, hd => by
    by_cases e : k = m + 1
    · subst e; exact hd
    · rw [Front.deny_succ, Front.deny_up (m := m) (by omega) hd]; rfl
/-- What is heard of the site s: the error, the rows behind it. -/
def Front.hear (rows : List (List Int)) (s : Int) (v : List Int) : Int × List (List Int) :=
  if 0 ≤ s ∧ s < rows.length ∧ Vecs.may v = true ∧ v.length = rows.length then (if Front.denyK rows v s.toNat rows.length then (8, rows) else (0, rows.set s.toNat (Vecs.join (rows.getD s.toNat []) v))) else (1, rows)

/-- What Hear leaves. -/
def HearW (w : World) (p rb rc : Nat) (vs : List Value) (q : Int × List (List Int)) (w' : World) : Prop := ∃ vs', IsFrontW w' p rb rc vs' q.2 ∧ Keep (Just rb) w w'

set_option maxRecDepth 100000 in
set_option maxHeartbeats 800000 in
theorem front_Hear {w : World} {p rb rc : Nat} {vs : List Value} {rows : List (List Int)} (h : IsFrontW w p rb rc vs rows) (s : Int) (v : Value) (zs : List Int) (hv : SliceI w v zs) (hm : zs.length ≤ maxLen) :
    Calls Try.prog 7 #[.pointer (some ⟨p, 0, none⟩), .int .i64 s, v] w fun e w' => e = .returned (.int .i64 (Front.hear rows s zs).1) ∧ HearW w p rb rc vs (Front.hear rows s zs) w' := by
  have HW := Lib.hid h
  have HV := Lib.hid hv
  have hst := h.sites
  obtain ⟨va, vc, e⟩ := hv.shape
  subst e
  clear hv
  by_cases hsi : 0 ≤ s ∧ s < rows.length
  · obtain ⟨i, rfl⟩ : ∃ i : Nat, s = i := ⟨s.toNat, by omega⟩
    have hi : i < rows.length := by omega
    have hia : (i : Int) < (rows.length : Int) := by omega
    have HH := Lib.hid (front_has h i)
    rw [decide_eq_true hsi] at HH
    have hmr := h.may _ (List.getElem_mem hi)
    have HJ := Lib.hid (vec_Join _ _ rows[i] zs w (h.vec i hi) HV.out (by have := hmr.2; unfold maxLen; omega) hm)
    have c0 := h.box.cell 0 (by simp)
    simp only [List.getElem_cons_zero] at c0
    have c1 := h.cell hi
    obtain ⟨ra, rd, e⟩ := (h.vec i hi).shape
    rw [hmr.2] at e
    rw [e] at c1 HJ
    have HMR := Lib.hid hmr
    clear e hmr
    by_cases htg : Vecs.may zs = true ∧ zs.length = rows.length
    · have HTG := Lib.hid htg
      rw [show joinR rows[i] zs = (Vecs.join rows[i] zs, 0) from by unfold joinR; rw [if_pos (Vecs.together_iff.2 ⟨HMR.out.1, htg.1, by rw [HMR.out.2, htg.2]⟩)]] at HJ
      have HHE : Hid (Front.hear rows (i : Int) zs = if Front.denyK rows zs i rows.length then (8, rows) else (0, rows.set i (Vecs.join rows[i] zs))) := Lib.hid (by
        unfold Front.hear
        rw [if_pos ⟨hsi.1, hsi.2, htg.1, htg.2⟩, Int.toNat_natCast, List.getD_eq_getElem?_getD, List.getElem?_eq_getElem hi]
        rfl)
      generalize Front.hear rows (i : Int) zs = q at HHE ⊢
      clear h htg hsi
      go_enter Try.func7, Try.ntmps7
      go_wp2_with fail
      refine HH.out.mono ?_
      rintro e w1 ⟨rfl, hw1⟩
      subst hw1
      go_wp2_with fail
      refine HJ.out.mono ?_
      rintro e w2 ⟨r2, rfl, ⟨v2, rfl, hs2⟩, hb2⟩
      have HS2 := Lib.hid hs2
      have HB2 := Lib.hid hb2
      have HJM := Lib.hid (Front.join_ok HMR.out.1 HTG.out.1 (by rw [HMR.out.2, HTG.out.2]))
      obtain ⟨ja, jc, e⟩ := hs2.shape
      rw [HJM.out.2, HMR.out.2] at e
      subst e
      clear hs2 hb2 c0 c1
      have c2 := (HW.out.below HB2.out).box.cell 0 (by simp)
      simp only [List.getElem_cons_zero] at c2
      go_wp2_with fail
      go_loopw [33] (fun x wr => ∃ k : Nat, k ≤ rows.length ∧ x = .int .i64 k ∧ Front.denyK rows zs i k = false ∧ Below w2.heap.size w2 wr) (fun x _ => rows.length - (intOf x).toNat)
      case atStart => exact ⟨0, by omega, rfl, rfl, Below.refl _ _⟩
      case round =>
        obtain ⟨k, hk, rfl, hd, hb⟩ := hrel
        have HD := Lib.hid hd
        have HB3 := Lib.hid hb
        have HW3 := Lib.hid (HW.out.below (grew HB2.out hb))
        clear hd hb c2
        by_cases hlt : k < rows.length
        · have d1 : decide ((k : Int) < (rows.length : Int)) = true := decide_eq_true (by omega)
          have HS := Lib.hid (Front.deny_succ rows zs i k)
          by_cases hki : k = i
          · have dk : ((k : Int) != (i : Int)) = false := by simp [hki]
            have HS0 : Hid (Front.denyK rows zs i (k + 1) = false) := Lib.hid (by rw [HS.out, HD.out]; simp [hki])
            clear hki
            go_wp2
            go_roundw
            case rel => exact ⟨k + 1, by omega, by go_num, HS0.out, HB3.out⟩
            case measure => simp [intOf]; omega
          · have dk : ((k : Int) != (i : Int)) = true := by simp; omega
            have HX := Lib.hid (front_tooMuch HW3.out i k hi hlt _ zs (HV.out.below (grew HB2.out HB3.out)) HTG.out.2)
            have HS1 : Hid (Front.denyK rows zs i (k + 1) = Front.much rows zs i k) := Lib.hid (by rw [HS.out, HD.out]; simp [hki])
            clear hki
            generalize Front.much rows zs i k = mu at HX HS1
            go_wp2_with fail
            refine HX.out.mono ?_
            rintro e w4 ⟨rfl, nd, hw4⟩
            have HB4 : Hid (Below w2.heap.size w2 w4) := Lib.hid (by rw [hw4]; exact HB3.out.trans ((Keep.of_grew (grew_drewN _ nd) Non).below HB3.out.size (fun _ h => h.elim)))
            clear hw4
            cases mu
            · go_wp2
              go_roundw
              case rel => exact ⟨k + 1, by omega, by go_num, HS1.out, HB4.out⟩
              case measure => simp [intOf]; omega
            · have HDE := Lib.hid (Front.deny_up (m := rows.length) (by omega) HS1.out)
              obtain rfl : q = (8, rows) := by rw [HHE.out, HDE.out]; rfl
              go_wp2
              go_ret
              exact ⟨rfl, vs, HW.out.below (grew HB2.out HB4.out), Keep.of_grew (grew HB2.out HB4.out) _⟩
        · have d1 : decide ((k : Int) < (rows.length : Int)) = false := decide_eq_false (by omega)
          obtain rfl : k = rows.length := by omega
          obtain rfl : q = (0, rows.set i (Vecs.join rows[i] zs)) := by rw [HHE.out, HD.out]; rfl
          have c3 := HW3.out.box.cell 0 (by simp)
          simp only [List.getElem_cons_zero] at c3
          have c4 := HW3.out.cell hi
          have f4 := HW3.out.row.frozen i
          have HF := Lib.hid (HW3.out.set hi (HS2.out.below HB3.out) HJM.out.1 (by rw [HJM.out.2, HMR.out.2]))
          go_wp2
          go_ret
          exact ⟨rfl, _, HF.out, (Keep.of_grew (grew HB2.out HB3.out) (Just rb)).trans (Keep.setCell _ rb i _) (fun _ _ h => h)⟩
    · rw [show joinR rows[i] zs = ([], 1) from by unfold joinR; rw [if_neg (fun e => htg ⟨(Vecs.together_iff.1 e).2.1, by rw [← (Vecs.together_iff.1 e).2.2, HMR.out.2]⟩)]] at HJ
      have HHE : Hid (Front.hear rows (i : Int) zs = (1, rows)) := Lib.hid (by unfold Front.hear; rw [if_neg (fun e => htg e.2.2)])
      rw [HHE.out]
      clear h htg hsi
      go_enter Try.func7, Try.ntmps7
      go_wp2_with fail
      refine HH.out.mono ?_
      rintro e w1 ⟨rfl, hw1⟩
      subst hw1
      go_wp2_with fail
      refine HJ.out.mono ?_
      rintro e w2 ⟨r2, rfl, ⟨v2, rfl, hs2⟩, hb2⟩
      have HB2 := Lib.hid hb2
      obtain ⟨ja, jc, e⟩ := hs2.shape
      subst e
      clear hs2 hb2
      go_wp2
      go_ret
      exact ⟨rfl, vs, HW.out.below HB2.out, Keep.of_grew HB2.out _⟩
  · have HH := Lib.hid (front_has h s)
    rw [decide_eq_false hsi] at HH
    have HHE : Hid (Front.hear rows s zs = (1, rows)) := Lib.hid (by unfold Front.hear; rw [if_neg (fun e => hsi ⟨e.1, e.2.1⟩)])
    rw [HHE.out]
    clear h hsi
    go_enter Try.func7, Try.ntmps7
    go_wp2_with fail
    refine HH.out.mono ?_
    rintro e w1 ⟨rfl, hw1⟩
    subst hw1
    go_wp2
    go_ret
    exact ⟨rfl, vs, HW.out, Keep.refl _ _⟩
end Go.Proofs.Ytgbikhpmicddkaa
