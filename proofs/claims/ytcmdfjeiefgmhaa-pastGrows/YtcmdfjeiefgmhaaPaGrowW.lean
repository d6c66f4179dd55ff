/- A log that took lines begins each later state of it: the walk of PastGrows. -/
import Derived.Test.YtcmdfjeiefgmhaaPaLive
import Derived.Test.YtcmdfjeiefgmhaaPaLine

namespace Go.Proofs.Ytcmdfjeiefgmhaa
open Go.RowKit
set_option linter.unusedVariables false

/-- The lines behind those of a script. -/
def Past.adds (L : List ByteArray) (os : List Ln) : List ByteArray := os.foldl (fun L o => (Past.add L o.e o.s).2) L
theorem Past.adds_onto : ∀ (os : List Ln) (L : List ByteArray), L <+: Past.adds L os
  | [], L => List.prefix_refl L
  | o :: os, L => (Past.add_onto L o.e o.s).trans (Past.adds_onto os _)
theorem Past.adds_snoc (L : List ByteArray) (os : List Ln) (o : Ln) : Past.adds L (os ++ [o]) = (Past.add (Past.adds L os) o.e o.s).2 := by simp [Past.adds]
theorem Past.adds_app (L : List ByteArray) (os ps : List Ln) : Past.adds L (os ++ ps) = Past.adds (Past.adds L os) ps := by simp [Past.adds]
theorem Past.adds_few : ∀ (os : List Ln) {L : List ByteArray}, L.length ≤ 10000 → (Past.adds L os).length ≤ 10000
  | [], L, h => h
  | o :: os, L, h => Past.adds_few os (Past.add_few h o.e o.s)
theorem Past.adds_take {os : List Ln} {i : Nat} (h : i < os.length) : Past.adds [] (os.take (i + 1)) = (Past.add (Past.adds [] (os.take i)) os[i].e os[i].s).2 := by
  rw [List.take_succ_eq_append_getElem h, Past.adds_snoc]

set_option maxRecDepth 100000 in
set_option maxHeartbeats 8000000 in
theorem walk_PastGrows (v : Value) (os : List Ln) (cut : Int) (w : World) (hx : SliceG 2 Ln.cells w v os ∧ os.length ≤ maxLen ∧ ∀ o ∈ os, o.s.size ≤ maxLen) (hcut : (Lit.int .i64 cut).wf = true) :
    Calls Try.prog 12 #[v, .int .i64 cut] w fun e w' => e = .returned (.bool true) ∧ Below w.heap.size w w' := by
  obtain ⟨hv, hm, _⟩ := hx
  have HV := Lib.hid hv
  obtain ⟨va, vc, rfl⟩ := hv.shape
  unfold maxLen at hm
  clear hv hcut
  go_enter Try.func12, Try.ntmps12
  go_wp2_with fail
  refine (m_New (Mine.nothing w)).mono ?_
  rintro e w1 ⟨p, rfl, h⟩
  have H := Lib.hid h
  clear h
  go_wp2_with fail
  refine (m_New H.out).mono ?_
  rintro e w2 ⟨q, rfl, h⟩
  have H := Lib.hid h.swap
  clear h
  go_wp2_with fail
  go_loopw [7] (fun i wr => ∃ k j : Nat, k ≤ os.length ∧ k ≤ 60 ∧ i = .int .i64 k ∧ j ≤ k ∧ ((k : Int) ≤ cut → j = k) ∧ Mine [PLog p (Past.adds [] (os.take k)), PLog q (Past.adds [] (os.take j))] w wr) (fun i _ => 60 - (intOf i).toNat)
  case atStart => exact ⟨0, 0, by omega, by omega, rfl, by omega, fun _ => rfl, H.out⟩
  case round =>
    obtain ⟨k, j, hk, hk60, rfl, hj, hjc, hM⟩ := hrel
    have HM := Lib.hid hM
    have HJC := Lib.hid hjc
    have HF1 := Lib.hid (Past.adds_few (os.take k) (L := []) (by simp))
    have HF2 := Lib.hid (Past.adds_few (os.take j) (L := []) (by simp))
    clear hM H hjc
    have HEND : Hid (∀ W, Mine [PLog p (Past.adds [] (os.take k)), PLog q (Past.adds [] (os.take j))] w W → True) := Lib.hid (fun _ _ => trivial)
    by_cases hlt : k < os.length ∧ k < 60
    · have d1 : decide ((k : Int) < (os.length : Int)) = true := decide_eq_true (by omega)
      have d1' : decide (k < os.length) = true := decide_eq_true hlt.1
      have d2 : decide ((k : Int) < 60) = true := decide_eq_true (by omega)
      have hia : (k : Int) < (os.length : Int) := by omega
      obtain ⟨b, off, e, hbl, hc⟩ := HV.out.at hlt.1
      cases e
      have HC0 := Lib.hid (hc 0 _ rfl)
      have HC1 := Lib.hid (hc 1 _ rfl)
      have HQ : Hid (∀ W, Below w.heap.size w W → W.cell? ⟨b, off + k * 2, none⟩ = some (.int .i64 os[k].e) ∧ W.cell? ⟨b, off + k * 2 + 1, none⟩ = some (.string os[k].s)) := Lib.hid (fun W hb => ⟨(hb.cell (p := ⟨b, off + k * 2, none⟩) hbl).trans HC0.out, (hb.cell (p := ⟨b, off + k * 2 + 1, none⟩) hbl).trans HC1.out⟩)
      have HT := Lib.hid (Past.adds_take hlt.1)
      have HON := Lib.hid (Past.add_onto (Past.adds [] (os.take k)) os[k].e os[k].s)
      have HTJ : Hid (j = k → Past.adds [] (os.take (j + 1)) = (Past.add (Past.adds [] (os.take j)) os[k].e os[k].s).2) := Lib.hid (fun e => by subst e; exact Past.adds_take hlt.1)
      clear hc HC0 HC1
      generalize os[k] = o at HQ HT HTJ HON
      obtain ⟨oe, ot⟩ := o
      simp only at HQ HT HTJ HON
      obtain ⟨q0, q1⟩ := HQ.out _ HM.out.bel
      by_cases h3 : 300 < ot.size
      · have e3 : decide ((300 : Int) < (ot.size : Int)) = true := decide_eq_true (by omega)
        clear h3
        go_wp2_with fail
        refine (law16_live _).mono ?_
        rintro e w3 ⟨rfl, hb⟩
        go_wp2
        go_ret
        exact ⟨rfl, grew HM.out.bel hb⟩
      · have e3 : decide ((300 : Int) < (ot.size : Int)) = false := decide_eq_false (by omega)
        clear h3
        have HBG : Hid (Past.begins (Past.adds [] (os.take k)) (Past.add (Past.adds [] (os.take k)) oe ot).2 = true) := Lib.hid (Past.begins_iff.2 HON.out)
        have HF3 := Lib.hid (Past.add_few HF1.out oe ot)
        have HADD := Lib.hid (fun (Ts : List Th) W (h : Mine (PLog p (Past.adds [] (os.take k)) :: Ts) w W) => m_Add h HF1.out oe ot)
        have HADD2 := Lib.hid (fun (Ts : List Th) W (h : Mine (PLog q (Past.adds [] (os.take j)) :: Ts) w W) => m_Add h HF2.out oe ot)
        generalize Past.add (Past.adds [] (os.take k)) oe ot = r1 at HT HBG HF3 HADD
        generalize Past.add (Past.adds [] (os.take j)) oe ot = r2 at HTJ HADD2
        obtain ⟨x1, L1⟩ := r1
        obtain ⟨x2, L2⟩ := r2
        simp only at HT HTJ HBG HF3 HADD HADD2
        generalize hLk : Past.adds [] (os.take k) = Lk at *
        generalize hLj : Past.adds [] (os.take j) = Lj at *
        have HLK := Lib.hid (And.intro hLk hLj)
        clear hLk hLj HON
        go_wp2_with fail
        refine (m_All HM.out HF1.out).mono ?_
        rintro e w3 ⟨v3, rfl, h, _⟩
        have HM3 := Lib.hid h
        obtain ⟨ta, tc, e15, _⟩ := h.texts.shape
        subst e15
        clear h q0 q1
        obtain ⟨q0, q1⟩ := HQ.out _ HM3.out.bel
        go_wp2_with fail
        go_still_tail 11, (by kernel_rfl)
        change wpList _ _ _ _ _ (World.drew _)
        go_wp2_with fail
        refine (HADD.out _ _ (HM3.out.grew (grew_drew _)).swap).mono ?_
        rintro e w4 ⟨rfl, h⟩
        have HM4 := Lib.hid h
        clear h q0 q1
        go_wp2_with fail
        refine (m_All HM4.out HF3.out).mono ?_
        rintro e w5 ⟨v5, rfl, h, _⟩
        have HM5 := Lib.hid h
        have HT5 := Lib.hid h.texts
        have HT3 := Lib.hid h.swap2.texts
        obtain ⟨tb, td, e16, _⟩ := h.texts.shape
        subst e16
        clear h
        have hf1 := HF1.out
        have hf3 := HF3.out
        go_wp2_with fail
        refine (past_Prefix _ _ Lk L1 _ HT3.out HT5.out (by omega) (by omega)).mono ?_
        rintro e w6 ⟨rfl, hb⟩
        rw [HBG.out]
        have HM6 := Lib.hid ((HM5.out.grew hb).drop.swap.drop)
        clear hb HM5 HT5 HT3
        obtain ⟨q0, q1⟩ := HQ.out _ HM6.out.bel
        by_cases hc : (k : Int) < cut
        · have e4 : decide ((k : Int) < cut) = true := decide_eq_true hc
          have hjk : j = k := HJC.out (by omega)
          have HTJ2 := Lib.hid (HTJ.out hjk)
          clear hc
          go_wp2_with fail
          go_still_tail 11, (by kernel_rfl)
          change wpList _ _ _ _ _ (World.drew _)
          go_wp2_with fail
          refine (HADD2.out _ _ (HM6.out.grew (grew_drew _)).swap).mono ?_
          rintro e w7 ⟨rfl, h⟩
          have HM7 := Lib.hid h.swap
          clear h q0 q1
          go_wp2
          go_roundw
          case rel => exact ⟨k + 1, j + 1, by omega, by omega, by go_num, by omega, fun _ => by omega, by rw [HT.out, HTJ2.out]; exact HM7.out⟩
          case measure => simp [intOf]; omega
        · have e4 : decide ((k : Int) < cut) = false := decide_eq_false hc
          have HNC : Hid (¬ ((k : Int) < cut)) := Lib.hid hc
          clear hc q0 q1
          go_wp2
          go_roundw
          case rel => exact ⟨k + 1, j, by omega, by omega, by go_num, by omega, fun h => by have := HNC.out; omega, by rw [HT.out, HLK.out.2]; exact HM6.out⟩
          case measure => simp [intOf]; omega
    · have HBE : Hid (Past.begins (Past.adds [] (os.take j)) (Past.adds [] (os.take k)) = true) := Lib.hid (Past.begins_iff.2 (by
        have e : os.take k = os.take j ++ (os.take k).drop j := by
          conv => lhs; rw [← List.take_append_drop j (os.take k)]
          rw [List.take_take, Nat.min_eq_left hj]
        rw [e, Past.adds_app]
        exact Past.adds_onto _ _))
      have hf1 := HF1.out
      have hf2 := HF2.out
      generalize Past.adds [] (os.take k) = Lk at *
      generalize Past.adds [] (os.take j) = Lj at *
      have HNLT := Lib.hid hlt
      clear hlt
      by_cases d2 : k < os.length
      · have e1 : decide ((k : Int) < (os.length : Int)) = true := decide_eq_true (by omega)
        have e1' : decide (k < os.length) = true := decide_eq_true d2
        have e2 : decide ((k : Int) < 60) = false := decide_eq_false (by have := HNLT.out; omega)
        go_wp2_with fail
        refine (m_All HM.out.swap hf2).mono ?_
        rintro e w3 ⟨v3, rfl, h, _⟩
        have HM3 := Lib.hid h.swap2
        obtain ⟨ta, tc, e15, _⟩ := h.texts.shape
        subst e15
        clear h
        go_wp2_with fail
        refine (m_All HM3.out hf1).mono ?_
        rintro e w4 ⟨v4, rfl, h, _⟩
        have HT4 := Lib.hid h.texts
        have HT3 := Lib.hid h.swap2.texts
        have HM4 := Lib.hid h
        obtain ⟨tb, td, e16, _⟩ := h.texts.shape
        subst e16
        clear h
        go_wp2_with fail
        refine (past_Prefix _ _ Lj Lk _ HT3.out HT4.out (by omega) (by omega)).mono ?_
        rintro e w5 ⟨rfl, hb⟩
        rw [HBE.out]
        have HM5 := Lib.hid (HM4.out.grew hb)
        clear hb
        go_wp2_with fail
        refine (law16_live _).mono ?_
        rintro e w6 ⟨rfl, hb⟩
        go_wp2
        go_ret
        exact ⟨rfl, grew HM5.out.bel hb⟩
      · have e1 : decide ((k : Int) < (os.length : Int)) = false := decide_eq_false (by omega)
        have e1' : decide (k < os.length) = false := decide_eq_false d2
        go_wp2_with fail
        refine (m_All HM.out.swap hf2).mono ?_
        rintro e w3 ⟨v3, rfl, h, _⟩
        have HM3 := Lib.hid h.swap2
        obtain ⟨ta, tc, e15, _⟩ := h.texts.shape
        subst e15
        clear h
        go_wp2_with fail
        refine (m_All HM3.out hf1).mono ?_
        rintro e w4 ⟨v4, rfl, h, _⟩
        have HT4 := Lib.hid h.texts
        have HT3 := Lib.hid h.swap2.texts
        have HM4 := Lib.hid h
        obtain ⟨tb, td, e16, _⟩ := h.texts.shape
        subst e16
        clear h
        go_wp2_with fail
        refine (past_Prefix _ _ Lj Lk _ HT3.out HT4.out (by omega) (by omega)).mono ?_
        rintro e w5 ⟨rfl, hb⟩
        rw [HBE.out]
        have HM5 := Lib.hid (HM4.out.grew hb)
        clear hb
        go_wp2_with fail
        refine (law16_live _).mono ?_
        rintro e w6 ⟨rfl, hb⟩
        go_wp2
        go_ret
        exact ⟨rfl, grew HM5.out.bel hb⟩
end Go.Proofs.Ytcmdfjeiefgmhaa
