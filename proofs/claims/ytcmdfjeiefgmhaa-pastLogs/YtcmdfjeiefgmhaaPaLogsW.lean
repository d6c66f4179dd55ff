/- Whatever is handed in: the walk of PastLogs. -/
import Derived.Test.YtcmdfjeiefgmhaaPaRef
import Derived.Deep.RegionHeld3
namespace Go.Proofs.Ytcmdfjeiefgmhaa
open Go.RowKit
set_option linter.unusedVariables false

set_option maxRecDepth 100000 in
set_option maxHeartbeats 8000000 in
theorem walk_PastLogs (v : Value) (os : List Ln) (x : Int) (w : World) (hx : SliceG 2 Ln.cells w v os ∧ os.length ≤ maxLen ∧ ∀ o ∈ os, o.s.size ≤ maxLen) (hxx : (Lit.int .i64 x).wf = true) :
    Calls Try.prog 8 #[v, .int .i64 x] w fun e w' => e = .returned (.bool true) ∧ Below w.heap.size w w' := by
  obtain ⟨hv, hm, _⟩ := hx
  have HV := Lib.hid hv
  obtain ⟨va, vc, rfl⟩ := hv.shape
  unfold maxLen at hm
  clear hv hxx
  go_enter Try.func8, Try.ntmps8
  go_wp2_with fail
  refine (m_New (Mine.nothing w)).mono ?_
  rintro e w1 ⟨p, rfl, h⟩
  have H : Hid (∃ q, q = w1.heap.size ∧ Mine [PLog p [], RLog q []] w (w1.alloc (.cells #[.slice none 0 0] 65))) := Lib.hid ⟨_, rfl, (h.new (F := fun k => k = w1.heap.size) (LogV.good 65 w1.heap.size []) ⟨_, Holds.new w1 [.slice none 0 0] 65, OwnS.nil _, fun g hg => (by cases hg), fun _ => rfl, fun k => ⟨.inl, fun h => h.elim id (fun h => (by cases h))⟩⟩ (fun k hk => Nat.le_of_eq hk.symm) (grew_alloc _ _)).swap⟩
  clear h
  go_wp2_with fail
  generalize (w1.alloc (.cells #[.slice none 0 0] 65)) = w2 at *
  obtain ⟨q, hq, hM⟩ := H.out
  rw [← hq]
  have H := Lib.hid hM
  clear hM hq
  go_loopw [7] (fun i wr => ∃ k : Nat, k ≤ os.length ∧ k ≤ 60 ∧ i = .int .i64 k ∧ ∃ L, L.length ≤ k ∧ Mine [PLog p L, RLog q L] w wr) (fun i _ => 60 - (intOf i).toNat)
  case atStart => exact ⟨0, by omega, by omega, rfl, [], by simp, H.out⟩
  case round =>
    obtain ⟨k, hk, hk60, rfl, L, hL, hM⟩ := hrel
    have HM := Lib.hid hM
    clear hM H
    by_cases hlt : k < os.length ∧ k < 60
    · have d1 : decide ((k : Int) < (os.length : Int)) = true := decide_eq_true (by omega)
      have d1' : decide (k < os.length) = true := decide_eq_true hlt.1
      have d2 : decide ((k : Int) < 60) = true := decide_eq_true (by omega)
      have hia : (k : Int) < (os.length : Int) := by omega
      obtain ⟨b, off, e, hbl, hc⟩ := HV.out.at hlt.1
      cases e
      have HC0 := Lib.hid (hc 0 _ rfl)
      have HC1 := Lib.hid (hc 1 _ rfl)
      have HQ : Hid (∀ W, Below w.heap.size w W → W.cell? ⟨b, off + k * 2, none⟩ = some (.int .i64 os[k].e) ∧ W.cell? ⟨b, off + k * 2 + 1, none⟩ = some (.string os[k].s)) := Lib.hid (fun W hb => ⟨(hb.cell (p := ⟨b, off + k * 2, none⟩) hbl).trans HC0.out, (hb.cell (p := ⟨b, off + k * 2 + 1, none⟩) hbl).trans HC1.out⟩)
      clear hc HC0 HC1
      generalize os[k] = o at HQ
      obtain ⟨oe, ot⟩ := o
      simp only at HQ
      obtain ⟨q0, q1⟩ := HQ.out _ HM.out.bel
      by_cases h3 : 300 < ot.size
      · have e3 : decide ((300 : Int) < (ot.size : Int)) = true := decide_eq_true (by omega)
        clear h3
        go_wp2_with fail
        refine (law16_live _).mono ?_
        rintro e w3 ⟨rfl, hb⟩
        go_wp2
        go_ret
        exact ⟨rfl, grew HM.out.bel hb⟩
      · have e3 : decide ((300 : Int) < (ot.size : Int)) = false := decide_eq_false (by omega)
        clear h3
        have HADD := Lib.hid (fun (Ts : List Th) W (h : Mine (PLog p L :: Ts) w W) => m_Add h (by omega) oe ot)
        have HRADD := Lib.hid (fun (Ts : List Th) W (h : Mine (RLog q L :: Ts) w W) => m_RAdd h (by omega) oe ot)
        have HLEN := Lib.hid (Past.add_len L oe ot)
        have HLK := Lib.hid hL
        clear hL
        generalize Past.add L oe ot = r1 at HADD HRADD HLEN
        obtain ⟨x1, L1⟩ := r1
        simp only at HADD HRADD HLEN
        have HL1 : Hid (L1.length ≤ k + 1) := Lib.hid (by have := HLEN.out; have := HLK.out; omega)
        go_wp2_with fail
        go_region_held3 (fun w' => w'.cell? ⟨b, off + k * 2, none⟩ = some (.int .i64 oe) ∧ w'.cell? ⟨b, off + k * 2 + 1, none⟩ = some (.string ot))
          (first | exact ⟨q0, q1⟩ | exact ⟨y0, y1⟩ | exact ⟨z0, z1⟩)
          (first
            | (go_at_call 37; refine (HADD.out _ _ (HM.out.grew (grew_drew _))).mono ?_; rintro e w3 ⟨rfl, h⟩; have HH := Lib.hid h; obtain ⟨y0, y1⟩ := HQ.out _ h.bel; clear h)
            | (go_at_call 38; refine (HRADD.out _ _ HH.out.swap).mono ?_; rintro e w4 ⟨rfl, h⟩; have HG := Lib.hid h.swap; obtain ⟨z0, z1⟩ := HQ.out _ h.bel; clear h))
        clear q0 q1 HH
        have hl1 := HL1.out
        go_wp2_with fail
        refine (m_Get HG.out x).mono ?_
        rintro e w5 ⟨rfl, hw⟩
        subst hw
        go_wp2_with fail
        refine (m_RGet HG.out.swap x).mono ?_
        rintro e w6 ⟨rfl, hw⟩
        subst hw
        generalize Past.line L1 x = s1
        generalize Past.has L1 x = b1
        have b0 : (s1.toList == s1.toList) = true := str_same rfl
        have b00 : (b1 == b1) = true := by cases b1 <;> rfl
        have b000 : (b1 != b1) = false := by cases b1 <;> rfl
        obtain ⟨u, c0, hu⟩ := HG.out.swap.log
        have HU := Lib.hid hu
        have HQL : Hid (q < w4.heap.size) := Lib.hid (block_lt_of_cell c0)
        obtain ⟨ua, uc, eu, _⟩ := hu.shape
        subst eu
        clear hu
        go_wp2_with fail
        go_region_held3 (fun w' => w'.cell? ⟨q, 0, none⟩ = some (.slice ua L1.length uc))
          (first | exact c0 | exact y0' | exact z0')
          (first
            | (go_at_call 42; refine (m_All (HG.out.grew (grew_drew _)) (by omega)).mono ?_; rintro e w7 ⟨v7, rfl, h, hb⟩; have HT7 := Lib.hid h.texts; have HM7 := Lib.hid h.drop; have y0' : w7.cell? ⟨q, 0, none⟩ = some (.slice ua L1.length uc) := (hb.cell (p := ⟨q, 0, none⟩) HQL.out).trans c0; have HU7 := Lib.hid (HU.out.below (grew (grew_drew _) hb)); obtain ⟨ta, tc, e15, _⟩ := h.texts.shape; subst e15; clear h hb)
            | (go_at_call 41; refine (ref03_Texts _ _ L1 L1 _ HT7.out HU7.out (by omega) (by unfold maxLen; omega)).mono ?_; rintro e w8 ⟨rfl, hb⟩; rw [show sameS L1 L1 = true from by simp [sameS]]; have HM8 := Lib.hid (HM7.out.grew hb); have z0' : w8.cell? ⟨q, 0, none⟩ = some (.slice ua L1.length uc) := (hb.cell (p := ⟨q, 0, none⟩) (block_lt_of_cell y0')).trans y0'; clear hb))
        go_wp2
        go_roundw
        case rel => exact ⟨k + 1, by omega, by omega, by go_num, L1, HL1.out, HM8.out⟩
        case measure => simp [intOf]; omega
    · have HNLT := Lib.hid hlt
      clear hlt
      by_cases d2 : k < os.length
      · have e1 : decide ((k : Int) < (os.length : Int)) = true := decide_eq_true (by omega)
        have e1' : decide (k < os.length) = true := decide_eq_true d2
        have e2 : decide ((k : Int) < 60) = false := decide_eq_false (by have := HNLT.out; omega)
        go_wp2_with fail
        refine (law16_live _).mono ?_
        rintro e w6 ⟨rfl, hb⟩
        go_wp2
        go_ret
        exact ⟨rfl, grew HM.out.bel hb⟩
      · have e1 : decide ((k : Int) < (os.length : Int)) = false := decide_eq_false (by omega)
        have e1' : decide (k < os.length) = false := decide_eq_false d2
        go_wp2_with fail
        refine (law16_live _).mono ?_
        rintro e w6 ⟨rfl, hb⟩
        go_wp2
        go_ret
        exact ⟨rfl, grew HM.out.bel hb⟩
end Go.Proofs.Ytcmdfjeiefgmhaa
