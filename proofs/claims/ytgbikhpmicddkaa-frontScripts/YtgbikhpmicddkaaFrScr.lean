/- Whatever is heard. -/
import Derived.Test.YtgbikhpmicddkaaFrRefHear
import Derived.Test.YtgbikhpmicddkaaFrOnward
namespace Go.Proofs.Ytgbikhpmicddkaa
open Go.RowKit
set_option linter.unusedVariables false

/-- A front and the reference's, side by side, since w0. -/
def FScr2 (w0 : World) (p q : Nat) (rows rows' : List (List Int)) (wr : World) : Prop := ∃ rb rc vs g cap us, IsFrontW wr p rb rc vs rows ∧ IsRefW wr q g cap us rows' ∧ w0.heap.size ≤ rb ∧ w0.heap.size ≤ g ∧ Below w0.heap.size w0 wr
theorem FScr2.bel {w0 w : World} {p q : Nat} {rows rows' : List (List Int)} (h : FScr2 w0 p q rows rows' w) : Below w0.heap.size w0 w := by
  obtain ⟨_, _, _, _, _, _, _, _, _, _, h⟩ := h
  exact h
theorem FScr2.grew {w0 w w' : World} {p q : Nat} {rows rows' : List (List Int)} (h : FScr2 w0 p q rows rows' w) (hb : Below w.heap.size w w') : FScr2 w0 p q rows rows' w' := by
  obtain ⟨rb, rc, vs, g, cap, us, h1, h2, h3, h4, h5⟩ := h
  exact ⟨rb, rc, vs, g, cap, us, h1.below hb, h2.below hb, h3, h4, Go.Proofs.Ytgbikhpmicddkaa.grew h5 hb⟩
theorem fscr_Hear {w0 w : World} {p q : Nat} {rows : List (List Int)} (h : FScr2 w0 p q rows rows w) (s : Int) (v : Value) (zs : List Int) (hv : SliceI w v zs) (hm : zs.length ≤ maxLen) :
    Calls Try.prog 7 #[.pointer (some ⟨p, 0, none⟩), .int .i64 s, v] w fun e w' => e = .returned (.int .i64 (Front.hear rows s zs).1) ∧ FScr2 w0 p q (Front.hear rows s zs).2 rows w' := by
  obtain ⟨rb, rc, vs, g, cap, us, h1, h2, h3, h4, h5⟩ := h
  refine (front_Hear h1 s v zs hv hm).mono ?_
  rintro e w' ⟨k1, vs', k2, k3⟩
  exact ⟨k1, rb, rc, vs', g, cap, us, k2, h2.keep h1.row h1.slices k3, h3, h4, h5.trans (k3.below h5.size (fun i e => by have e : i = rb := e; omega))⟩
theorem fscr_Hear2 {w0 w : World} {p q : Nat} {rows rows' : List (List Int)} (h : FScr2 w0 p q rows' rows w) (s : Int) (v : Value) (zs : List Int) (hv : SliceI w v zs) (hm : zs.length ≤ maxLen) :
    Calls Try.prog 8 #[.pointer (some ⟨q, 0, none⟩), .int .i64 s, v] w fun e w' => e = .returned (.int .i64 (Front.hear rows s zs).1) ∧ FScr2 w0 p q rows' (Front.hear rows s zs).2 w' := by
  obtain ⟨rb, rc, vs, g, cap, us, h1, h2, h3, h4, h5⟩ := h
  refine (ref09_Hear h2 s v zs hv hm).mono ?_
  rintro e w' ⟨k1, us', k2, k3⟩
  exact ⟨k1, rb, rc, vs, g, cap, us', k3.front h1, k2, h3, h4, k3.bel h4 h5⟩
theorem fscr_of {w0 w : World} {p q : Nat} {rows : List (List Int)} {f : Nat} {ar : Array Value} {l : List Int} (h : FScr2 w0 p q rows rows w) (hc : ∀ rb rc vs g cap us, IsFrontW w p rb rc vs rows → IsRefW w q g cap us rows → Calls Try.prog f ar w fun e w' => ∃ v, e = .returned v ∧ SliceI w' v l ∧ Below w.heap.size w w') :
    Calls Try.prog f ar w fun e w' => ∃ v, e = .returned v ∧ SliceI w' v l ∧ FScr2 w0 p q rows rows w' ∧ Below w.heap.size w w' := by
  have h' := h
  obtain ⟨rb, rc, vs, g, cap, us, h1, h2, _⟩ := h
  exact (hc rb rc vs g cap us h1 h2).mono fun e w' ⟨v, k1, k2, k3⟩ => ⟨v, k1, k2, h'.grew k3, k3⟩
theorem front_RowS {w : World} {p rb rc : Nat} {vs : List Value} {rows : List (List Int)} (h : IsFrontW w p rb rc vs rows) (x : Int) : Calls Try.prog 16 #[.pointer (some ⟨p, 0, none⟩), .int .i64 x] w fun e w' => ∃ v, e = .returned v ∧ SliceI w' v (Front.row rows x) ∧ Below w.heap.size w w' := by
  by_cases hx : 0 ≤ x ∧ x < rows.length
  · obtain ⟨i, rfl⟩ : ∃ i : Nat, x = i := ⟨x.toNat, by omega⟩
    have hi : i < rows.length := by omega
    have e : Front.row rows (i : Int) = rows[i] := by unfold Front.row; rw [if_pos hx, Int.toNat_natCast, List.getD_eq_getElem?_getD, List.getElem?_eq_getElem hi]; rfl
    rw [e]
    exact (front_Row h i hi).mono fun e w' ⟨v, k1, k2, _, k3⟩ => ⟨v, k1, k2, k3⟩
  · have e : Front.row rows x = [] := by unfold Front.row; rw [if_neg hx]
    rw [e]
    exact (front_Row_no h x hx).mono fun e w' ⟨k1, k2⟩ => ⟨_, k1, ⟨none, 0, rfl, Nat.le_refl _, .inl rfl⟩, by rw [k2]; exact Below.refl _ _⟩
theorem ref09_RowS {w : World} {q g cap : Nat} {us : List Value} {rows : List (List Int)} (h : IsRefW w q g cap us rows) (x : Int) : Calls Try.prog 17 #[.pointer (some ⟨q, 0, none⟩), .int .i64 x] w fun e w' => ∃ v, e = .returned v ∧ SliceI w' v (Front.row rows x) ∧ Below w.heap.size w w' :=
  (ref09_Row h x).mono fun e w' ⟨v, k1, k2, k3⟩ => ⟨v, k1, k2, by rw [k3]; exact Below.refl _ _⟩
theorem Front.row_len {rows : List (List Int)} (h : Front.Ok rows) (x : Int) : (Front.row rows x).length ≤ rows.length := by
  unfold Front.row
  split
  · rename_i hx
    have hi : x.toNat < rows.length := by omega
    rw [List.getD_eq_getElem?_getD, List.getElem?_eq_getElem hi]
    exact Nat.le_of_eq (Front.rl h hi)
  · exact Nat.zero_le _

set_option maxRecDepth 100000 in
set_option maxHeartbeats 8000000 in
theorem walk_FrontScripts (s : Int) (v : Value) (os : List FOp) (x : Int) (w : World) (hs : (Lit.int .i64 s).wf = true) (hx : SliceG 2 FOp.cells w v os ∧ os.length ≤ maxLen ∧ ∀ o ∈ os, FOp.ok w o) (hxx : (Lit.int .i64 x).wf = true) :
    Calls Try.prog 3 #[.int .i64 s, v, .int .i64 x] w fun e w' => e = .returned (.bool true) ∧ Below w.heap.size w w' := by
  obtain ⟨hv, hm, hok⟩ := hx
  have HV := Lib.hid hv
  have HOK := Lib.hid hok
  obtain ⟨va, vc, rfl⟩ := hv.shape
  unfold maxLen at hm
  clear hv hs hok hxx
  by_cases hn : 1 ≤ s ∧ s ≤ 16
  · obtain ⟨n, rfl⟩ : ∃ n : Nat, s = n := ⟨s.toNat, by omega⟩
    have hnn : 1 ≤ n ∧ n ≤ 16 := by omega
    clear hn
    go_enter Try.func3, Try.ntmps3
    go_wp2_with fail
    refine (front_New_yes n _ hnn).mono ?_
    rintro e w1 ⟨p, rb, vs, rfl, hf, hpr, hb⟩
    have HOR : Hid (Front.Ok (List.replicate n (List.replicate n 0))) := Lib.hid ⟨hf.may, hf.sites.1⟩
    have HF1 := Lib.hid hf
    have HPR := Lib.hid hpr
    have HB1 := Lib.hid hb
    clear hf hpr hb
    go_wp2_with fail
    refine (ref09_New_yes n _ hnn).mono ?_
    rintro e w2 ⟨q, g, cap, us, rfl, hr, hg, hb⟩
    have HF : Hid (FScr2 w p q (List.replicate n (List.replicate n 0)) (List.replicate n (List.replicate n 0)) w2) := Lib.hid ⟨rb, n, vs, g, cap, us, HF1.out.below hb, hr, HPR.out.2, Nat.le_trans HB1.out.size hg, grew HB1.out hb⟩
    clear hr hg hb HF1 HPR HB1
    go_wp2_with fail
    go_loopw [11] (fun i wr => ∃ k : Nat, k ≤ os.length ∧ k ≤ 60 ∧ i = .int .i64 k ∧ ∃ rows, FScr2 w p q rows rows wr ∧ Front.Ok rows ∧ rows.length = n) (fun i _ => 60 - (intOf i).toNat)
    case atStart => exact ⟨0, by omega, by omega, rfl, _, HF.out, HOR.out, List.length_replicate⟩
    case round =>
      obtain ⟨k, hk, hk60, rfl, rows, hF, hOK, hrl⟩ := hrel
      have HF := Lib.hid hF
      have HR := Lib.hid hOK
      have HRL := Lib.hid hrl
      clear hF hOK hrl HOR
      by_cases hlt : k < os.length ∧ k < 60
      · have d1 : decide ((k : Int) < (os.length : Int)) = true := decide_eq_true (by omega)
        have d2 : decide ((k : Int) < 60) = true := decide_eq_true (by omega)
        have hia : (k : Int) < (os.length : Int) := by omega
        obtain ⟨b, off, e, hbl, hc⟩ := HV.out.at hlt.1
        cases e
        have hov := HOK.out os[k] (List.getElem_mem hlt.1)
        have q0 : wr.cell? ⟨b, off + k * 2, none⟩ = some (.int .i64 os[k].site) := by rw [HF.out.bel.cell (p := ⟨b, off + k * 2, none⟩) hbl]; exact hc 0 _ rfl
        have q1 : wr.cell? ⟨b, off + k * 2 + 1, none⟩ = some os[k].u := by rw [HF.out.bel.cell (p := ⟨b, off + k * 2 + 1, none⟩) hbl]; exact hc 1 _ rfl
        have HC0 := Lib.hid (hc 0 _ rfl)
        have HC1 := Lib.hid (hc 1 _ rfl)
        generalize os[k] = o at hov q0 q1 HC0 HC1
        obtain ⟨site, u, zs⟩ := o
        obtain ⟨hu, hul⟩ := hov
        simp only at hu hul q0 q1
        obtain ⟨ua, uc, e⟩ := hu.shape
        subst e
        have HU := Lib.hid hu
        have HUL := Lib.hid hul
        clear hc hu hul
        by_cases h30 : 30 < zs.length
        · have d3 : decide ((30 : Int) < (zs.length : Int)) = true := decide_eq_true (by omega)
          go_wp2_with fail
          refine (law09_live _).mono ?_
          rintro e w3 ⟨rfl, hb3⟩
          have HB3 := Lib.hid (grew HF.out.bel hb3)
          clear hb3
          go_wp2
          go_ret
          exact ⟨rfl, HB3.out⟩
        · have d3 : decide ((30 : Int) < (zs.length : Int)) = false := decide_eq_false (by omega)
          have HUP := Lib.hid (Front.hear_up HR.out site zs)
          have HHE := Lib.hid (fun W (h : FScr2 w p q rows rows W) => fscr_Hear h site (.slice ua zs.length uc) zs (HU.out.below h.bel) HUL.out)
          have HHF := Lib.hid (fun rows' W (h : FScr2 w p q rows' rows W) => fscr_Hear2 h site (.slice ua zs.length uc) zs (HU.out.below h.bel) HUL.out)
          have HQ : Hid (∀ W, Below w.heap.size w W → W.cell? ⟨b, off + k * 2, none⟩ = some (.int .i64 site) ∧ W.cell? ⟨b, off + k * 2 + 1, none⟩ = some (.slice ua zs.length uc)) := Lib.hid (fun W hb => ⟨(hb.cell (p := ⟨b, off + k * 2, none⟩) hbl).trans HC0.out, (hb.cell (p := ⟨b, off + k * 2 + 1, none⟩) hbl).trans HC1.out⟩)
          generalize Front.hear rows site zs = r at HUP HHE HHF
          obtain ⟨er, rows2⟩ := r
          simp only at HUP HHE HHF
          clear HC0 HC1
          go_wp2_with fail
          go_region_held3 (fun w' => w'.cell? ⟨b, off + k * 2, none⟩ = some (.int .i64 site) ∧ w'.cell? ⟨b, off + k * 2 + 1, none⟩ = some (.slice ua zs.length uc))
            (first | exact ⟨q0, q1⟩ | exact ⟨y0, y1⟩ | exact ⟨z0, z1⟩)
            (first
              | (go_at_call 7; refine (HHE.out _ (HF.out.grew (grew_drew _))).mono ?_; rintro e w3 ⟨rfl, hH⟩; have HH := Lib.hid hH; obtain ⟨y0, y1⟩ := HQ.out _ hH.bel; clear hH)
              | (go_at_call 8; refine (HHF.out _ _ HH.out).mono ?_; rintro e w4 ⟨rfl, hG⟩; have HG := Lib.hid hG; obtain ⟨z0, z1⟩ := HQ.out _ hG.bel; clear hG))
          have HN2 : Hid (rows2.length = n) := Lib.hid (by rw [HUP.out.2.1, HRL.out])
          have HST := Lib.hid (Front.st_len HUP.out.1)
          have HMO := Lib.hid (Front.mo_len HUP.out.1)
          have HLN : Hid ((Front.late rows2).length ≤ 16) := Lib.hid (Nat.le_trans (Front.late_len rows2 rows2.length) (by rw [HN2.out]; exact hnn.2))
          have HRN : Hid ((Front.row rows2 x).length ≤ 16) := Lib.hid (Nat.le_trans (Front.row_len HUP.out.1 x) (by rw [HN2.out]; exact hnn.2))
          have HB16 : Hid (rows2.length ≤ 16) := Lib.hid (by rw [HN2.out]; exact hnn.2)
          clear q0 q1 HH HHE HHF
          go_wp2_with fail
          refine (fscr_of (l := (Front.all Vecs.meet rows2)) HG.out (fun _ _ _ _ _ _ h _ => front_Stable h)).mono ?_
          rintro e a0 ⟨v1, rfl, hs1, hG, hb1⟩
          have HG := Lib.hid hG
          have HS1 := Lib.hid hs1
          obtain ⟨s1, t1, e⟩ := hs1.shape
          subst e
          clear hs1 hG hb1
          go_wp2_with fail
          refine (fscr_of (l := (Front.all Vecs.meet rows2)) HG.out (fun _ _ _ _ _ _ _ h => ref09_Stable h)).mono ?_
          rintro e b0 ⟨v2, rfl, hs2, hG, hb2⟩
          have HG := Lib.hid hG
          have HS2 := Lib.hid hs2
          have HS1 := Lib.hid (HS1.out.below hb2)
          obtain ⟨s2, t2, e⟩ := hs2.shape
          subst e
          clear hs2 hG hb2
          go_wp2_with fail
          refine (ref01_Same _ _ (Front.all Vecs.meet rows2) (Front.all Vecs.meet rows2) _ HS1.out HS2.out (by rw [HST.out]; have := HB16.out; omega) (by rw [HST.out]; have := HB16.out; omega)).mono ?_
          rintro e c0 ⟨rfl, hb3⟩
          rw [same_yes]
          have HG := Lib.hid (HG.out.grew hb3)
          clear hb3 HS1 HS2
          go_wp2_with fail
          refine (fscr_of (l := (Front.all Vecs.join rows2)) HG.out (fun _ _ _ _ _ _ h _ => front_Most h)).mono ?_
          rintro e a1 ⟨v1, rfl, hs1, hG, hb1⟩
          have HG := Lib.hid hG
          have HS1 := Lib.hid hs1
          obtain ⟨s1, t1, e⟩ := hs1.shape
          subst e
          clear hs1 hG hb1
          go_wp2_with fail
          refine (fscr_of (l := (Front.all Vecs.join rows2)) HG.out (fun _ _ _ _ _ _ _ h => ref09_Most h)).mono ?_
          rintro e b1 ⟨v2, rfl, hs2, hG, hb2⟩
          have HG := Lib.hid hG
          have HS2 := Lib.hid hs2
          have HS1 := Lib.hid (HS1.out.below hb2)
          obtain ⟨s2, t2, e⟩ := hs2.shape
          subst e
          clear hs2 hG hb2
          go_wp2_with fail
          refine (ref01_Same _ _ (Front.all Vecs.join rows2) (Front.all Vecs.join rows2) _ HS1.out HS2.out (by rw [HMO.out]; have := HB16.out; omega) (by rw [HMO.out]; have := HB16.out; omega)).mono ?_
          rintro e c1 ⟨rfl, hb3⟩
          rw [same_yes]
          have HG := Lib.hid (HG.out.grew hb3)
          clear hb3 HS1 HS2
          go_wp2_with fail
          refine (fscr_of (l := (Front.late rows2)) HG.out (fun _ _ _ _ _ _ h _ => front_Late h)).mono ?_
          rintro e a2 ⟨v1, rfl, hs1, hG, hb1⟩
          have HG := Lib.hid hG
          have HS1 := Lib.hid hs1
          obtain ⟨s1, t1, e⟩ := hs1.shape
          subst e
          clear hs1 hG hb1
          go_wp2_with fail
          refine (fscr_of (l := (Front.late rows2)) HG.out (fun _ _ _ _ _ _ _ h => ref09_Late h)).mono ?_
          rintro e b2 ⟨v2, rfl, hs2, hG, hb2⟩
          have HG := Lib.hid hG
          have HS2 := Lib.hid hs2
          have HS1 := Lib.hid (HS1.out.below hb2)
          obtain ⟨s2, t2, e⟩ := hs2.shape
          subst e
          clear hs2 hG hb2
          go_wp2_with fail
          refine (ref01_Same _ _ (Front.late rows2) (Front.late rows2) _ HS1.out HS2.out (by have := HLN.out; omega) (by have := HLN.out; omega)).mono ?_
          rintro e c2 ⟨rfl, hb3⟩
          rw [same_yes]
          have HG := Lib.hid (HG.out.grew hb3)
          clear hb3 HS1 HS2
          go_wp2_with fail
          refine (fscr_of (l := (Front.row rows2 x)) HG.out (fun _ _ _ _ _ _ h _ => front_RowS h x)).mono ?_
          rintro e a3 ⟨v1, rfl, hs1, hG, hb1⟩
          have HG := Lib.hid hG
          have HS1 := Lib.hid hs1
          obtain ⟨s1, t1, e⟩ := hs1.shape
          subst e
          clear hs1 hG hb1
          go_wp2_with fail
          refine (fscr_of (l := (Front.row rows2 x)) HG.out (fun _ _ _ _ _ _ _ h => ref09_RowS h x)).mono ?_
          rintro e b3 ⟨v2, rfl, hs2, hG, hb2⟩
          have HG := Lib.hid hG
          have HS2 := Lib.hid hs2
          have HS1 := Lib.hid (HS1.out.below hb2)
          obtain ⟨s2, t2, e⟩ := hs2.shape
          subst e
          clear hs2 hG hb2
          go_wp2_with fail
          refine (ref01_Same _ _ (Front.row rows2 x) (Front.row rows2 x) _ HS1.out HS2.out (by have := HRN.out; omega) (by have := HRN.out; omega)).mono ?_
          rintro e c3 ⟨rfl, hb3⟩
          rw [same_yes]
          have HG := Lib.hid (HG.out.grew hb3)
          clear hb3 HS1 HS2
          go_wp2
          go_roundw
          case rel => exact ⟨k + 1, by omega, by omega, by go_num, rows2, HG.out, HUP.out.1, HN2.out⟩
          case measure => simp [intOf]; omega
      · by_cases d2 : k < os.length
        · have e1 : decide ((k : Int) < (os.length : Int)) = true := decide_eq_true (by omega)
          have e2 : decide ((k : Int) < 60) = false := decide_eq_false (by omega)
          go_wp2_with fail
          refine (law09_live _).mono ?_
          rintro e w3 ⟨rfl, hb3⟩
          have HB3 := Lib.hid (grew HF.out.bel hb3)
          clear hb3
          go_wp2
          go_ret
          exact ⟨rfl, HB3.out⟩
        · have e1 : decide ((k : Int) < (os.length : Int)) = false := decide_eq_false (by omega)
          go_wp2_with fail
          refine (law09_live _).mono ?_
          rintro e w3 ⟨rfl, hb3⟩
          have HB3 := Lib.hid (grew HF.out.bel hb3)
          clear hb3
          go_wp2
          go_ret
          exact ⟨rfl, HB3.out⟩
  · go_enter Try.func3, Try.ntmps3
    go_wp2_with fail
    refine (front_New_no s _ hn).mono ?_
    rintro e w1 ⟨rfl, hb1⟩
    have HB1 := Lib.hid hb1
    clear hb1
    go_wp2_with fail
    refine (ref09_New_no s _ hn).mono ?_
    rintro e w2 ⟨rfl, hw2⟩
    subst hw2
    go_wp2_with fail
    go_loopw [11] (fun i wr => i = .int .i64 ((0 : Nat) : Int) ∧ wr = w2) (fun i _ => 0)
    case atStart => exact ⟨rfl, rfl⟩
    case round =>
      obtain ⟨rfl, rfl⟩ := hrel
      by_cases h0 : 0 < os.length
      · have e1 : decide ((0 : Int) < (os.length : Int)) = true := decide_eq_true (by omega)
        have e2 : decide (0 < os.length) = true := decide_eq_true h0
        go_wp2_with fail
        refine (law09_live _).mono ?_
        rintro e w3 ⟨rfl, hb3⟩
        have HB3 := Lib.hid (grew HB1.out hb3)
        clear hb3
        go_wp2
        go_ret
        exact ⟨rfl, HB3.out⟩
      · have e1 : decide ((0 : Int) < (os.length : Int)) = false := decide_eq_false (by omega)
        have e2 : decide (0 < os.length) = false := decide_eq_false h0
        go_wp2_with fail
        refine (law09_live _).mono ?_
        rintro e w3 ⟨rfl, hb3⟩
        have HB3 := Lib.hid (grew HB1.out hb3)
        clear hb3
        go_wp2
        go_ret
        exact ⟨rfl, HB3.out⟩
end Go.Proofs.Ytgbikhpmicddkaa
