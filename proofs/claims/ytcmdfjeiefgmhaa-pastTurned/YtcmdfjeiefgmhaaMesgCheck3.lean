/- What mesg.headMayBe and mesg.Check come to. -/
import Derived.Test.YtcmdfjeiefgmhaaMesgCheck2
import Derived.BigQuiet
import Derived.Deep.QuietTactic
namespace Go.Proofs.Ytcmdfjeiefgmhaa
open Go.RowKit
set_option linter.unusedVariables false

theorem ret_num {k : IntKind} {a b : Int} (h : a = b) : Ending.returned (.int k a) = .returned (.int k b) := by rw [h]

theorem all_step (p : Int → Bool) (l : List Int) (k : Nat) (h : k < l.length) : (l.take (k + 1)).all p = ((l.take k).all p && p l[k]) := by
  rw [List.take_succ_eq_append_getElem h, List.all_append]
  simp
theorem all_no (p : Int → Bool) (l : List Int) (k : Nat) (h : k < l.length) (hp : p l[k] = false) : l.all p = false := by
  rw [List.all_eq_false]
  exact ⟨l[k], List.getElem_mem h, by simp [hp]⟩

set_option maxRecDepth 100000 in
set_option maxHeartbeats 2000000 in
theorem mesg_headMayBe (m : Mesg.Msg) (v : Value) (w : World) (hv : SliceI w v m.know) (hm : m.know.length ≤ 1000000000) :
    Calls Try.prog 80 #[msgV m v] w fun e w' => e = .returned (.bool (Mesg.headMay m)) ∧ Below w.heap.size w w' := by
  obtain ⟨a, cap, rfl, hcap, hrow⟩ := hv
  have HROW := Lib.hid hrow
  clear hrow
  unfold msgV
  by_cases h1 : 1 ≤ m.know.length ∧ m.know.length ≤ 16
  · obtain ⟨h1, h16⟩ := h1
    have hd1 : decide ((m.know.length : Int) < 1) = false := by simp; omega
    have hd16 : decide ((16 : Int) < (m.know.length : Int)) = false := by simp; omega
    have hd0 : decide (m.know.length = 0) = false := decide_eq_false (by omega)
    go_enter Try.func80, Try.ntmps80
    go_wp2
    have HB : Hid (Below w.heap.size w (w.alloc (.cells (msgL m (.slice a m.know.length cap)).toArray 38))) := Lib.hid (grew_alloc _ _)
    have HM : Hid (Holds (w.alloc (.cells (msgL m (.slice a m.know.length cap)).toArray 38)) w.heap.size (msgL m (.slice a m.know.length cap)) 38) := Lib.hid (Holds.new w _ _)
    unfold msgL at HB HM
    generalize hW : (w.alloc (.cells _ 38)) = W at *
    clear hW
    obtain ⟨⟨d0, d1, d2⟩, _⟩ := msg_cells (m := m) (v := .slice a m.know.length cap) HM.out
    go_loop [18] (fun i => ∃ k : Nat, k ≤ m.know.length ∧ i = .int .i64 k ∧ (m.know.take k).all Mesg.clock = true) (fun i => m.know.length - (intOf i).toNat)
    case atStart => exact ⟨0, by omega, rfl, rfl⟩
    case round =>
      obtain ⟨k, hk, rfl, hall⟩ := hrel
      have HA := Lib.hid hall
      clear hall
      by_cases hlt : k < m.know.length
      · have hdk : decide ((k : Int) < (m.know.length : Int)) = true := by simp; omega
        have hdn : decide (k < m.know.length) = true := by simpa using hlt
        have hik : (k : Int) < (m.know.length : Int) := by omega
        rcases HROW.out with h | ⟨blk, off, rfl, hblk, hcells⟩
        · rw [h] at hlt; simp at hlt
        · have hcell : W.cell? ⟨blk, off + k, none⟩ = some (.int .i64 m.know[k]) := by
            rw [HB.out.cell (p := ⟨blk, off + k, none⟩) hblk]; exact hcells k hlt
          clear hcells
          cases hc : Mesg.clock m.know[k]
          · have HC := Lib.hid hc
            have HN : Hid (Mesg.headMay m = false) := Lib.hid (by unfold Mesg.headMay; rw [all_no _ _ k hlt hc]; simp)
            clear hc
            go_wp2_with fail
            refine (mesg_clock _ _).mono ?_
            rintro e w1 ⟨rfl, rfl⟩
            rw [HC.out]
            go_wp2
            go_ret
            exact ⟨ret_bool HN.out.symm, HB.out⟩
          · have HC := Lib.hid hc
            have HS : Hid ((m.know.take (k + 1)).all Mesg.clock = true) := Lib.hid (by rw [all_step _ _ k hlt, HA.out, hc]; rfl)
            clear hc
            go_wp2_with fail
            refine (mesg_clock _ _).mono ?_
            rintro e w1 ⟨rfl, rfl⟩
            rw [HC.out]
            go_wp2
            go_round
            case rel => exact ⟨k + 1, by omega, by go_num, HS.out⟩
            case measure => simp [intOf]; omega
      · have hdn : decide (k < m.know.length) = false := by simpa using hlt
        have e1 : m.know.take k = m.know := List.take_of_length_le (by omega)
        rw [e1] at HA
        clear e1
        have e16 : decide (1 ≤ m.know.length) = true := by simpa using h1
        have e17 : decide (m.know.length ≤ 16) = true := by simpa using h16
        have HH : Hid (Mesg.headMay m = (decide (0 ≤ m.site) && decide (m.site < (m.know.length : Int)) && decide (1 ≤ m.seq) && Mesg.clock m.seq && decide (Mesg.knows m = m.seq - 1))) := Lib.hid (by
          unfold Mesg.headMay; rw [HA.out, e16, e17]; simp)
        clear e16 e17
        by_cases hs : 0 ≤ m.site ∧ m.site < (m.know.length : Int)
        · obtain ⟨hs0, hs1⟩ := hs
          have hds0 : decide (m.site < 0) = false := by simp; omega
          have hds1 : decide ((m.know.length : Int) ≤ m.site) = false := by simp; omega
          have ds0 : decide (0 ≤ m.site) = true := by simpa using hs0
          have ds1 : decide (m.site < (m.know.length : Int)) = true := by simpa using hs1
          rw [ds0, ds1] at HH
          clear ds0 ds1
          by_cases hq : 1 ≤ m.seq
          · have hdq : decide (1 ≤ m.seq) = true := by simpa using hq
            cases hc : Mesg.clock m.seq
            · have HC := Lib.hid hc
              clear hc
              go_wp2
              go_quiet ((go_at_call 96; exact Calls.quiet_of_same ((mesg_clock _ _).mono fun _ _ ⟨h1, h2⟩ => ⟨h1.trans (by rw [HC.out]), h2.symm⟩)))
              go_wp2
              go_ret
              exact ⟨ret_bool (by rw [HH.out, HC.out]; simp), grew HB.out (grew_drewN _ _)⟩
            · have HC := Lib.hid hc
              have hqm : m.seq ≤ 4294967295 := by simp [Mesg.clock] at hc; omega
              clear hc
              obtain ⟨j, hj⟩ : ∃ j : Nat, m.site = (j : Int) := ⟨m.site.toNat, by omega⟩
              have hjl : j < m.know.length := by omega
              rcases HROW.out with h | ⟨blk, off, rfl, hblk, hcells⟩
              · rw [h] at hjl; simp at hjl
              · have hcell : W.cell? ⟨blk, off + j, none⟩ = some (.int .i64 m.know[j]) := by
                  rw [HB.out.cell (p := ⟨blk, off + j, none⟩) hblk]; exact hcells j hjl
                clear hcells
                have HK : Hid (Mesg.knows m = m.know[j]) := Lib.hid (by unfold Mesg.knows; rw [hj]; simp [hjl])
                rw [hj] at d0 hds0 hds1
                have HJ := Lib.hid hj
                clear hj hs0 hs1
                have hjn : (j : Int) < (m.know.length : Int) := by omega
                go_wp2
                go_quiet ((go_at_call 96; exact Calls.quiet_of_same ((mesg_clock _ _).mono fun _ _ ⟨h1, h2⟩ => ⟨h1.trans (by rw [HC.out]), h2.symm⟩)))
                go_wp2
                go_ret
                exact ⟨ret_bool (by rw [HH.out, HC.out, HK.out, hdq]; simp [int_beq]), grew HB.out (grew_drewN _ _)⟩
          · have hdq : decide (1 ≤ m.seq) = false := by simpa using hq
            go_wp2
            go_quiet (fail)
            go_wp2
            go_ret
            exact ⟨ret_bool (by rw [HH.out, hdq]; simp), grew HB.out (grew_drewN _ _)⟩
        · have HN : Hid (Mesg.headMay m = false) := Lib.hid (by
            rw [HH.out]
            have : (decide (0 ≤ m.site) && decide (m.site < (m.know.length : Int))) = false := by
              rw [Bool.eq_false_iff]; simp; omega
            rw [this]; simp)
          by_cases hs0 : m.site < 0
          · have hds0 : decide (m.site < 0) = true := by simpa using hs0
            go_wp2
            go_ret
            exact ⟨ret_bool HN.out.symm, HB.out⟩
          · have hds0 : decide (m.site < 0) = false := by simpa using hs0
            have hds1 : decide ((m.know.length : Int) ≤ m.site) = true := by simp; omega
            go_wp2
            go_ret
            exact ⟨ret_bool HN.out.symm, HB.out⟩
  · have HN : Hid (Mesg.headMay m = false) := Lib.hid (by
      have : (decide (1 ≤ m.know.length) && decide (m.know.length ≤ 16)) = false := by rw [Bool.eq_false_iff]; simp; omega
      unfold Mesg.headMay
      rw [this]; simp)
    by_cases h0 : m.know.length < 1
    · have hd1 : decide ((m.know.length : Int) < 1) = true := by simp; omega
      have hd0 : decide (m.know.length = 0) = true := decide_eq_true (by omega)
      have hz : m.know.length = 0 := by omega
      clear h1
      go_enter Try.func80, Try.ntmps80
      go_wp2
      go_ret
      exact ⟨ret_bool HN.out.symm, grew_alloc _ _⟩
    · have hd1 : decide ((m.know.length : Int) < 1) = false := by simp; omega
      have hd16 : decide ((16 : Int) < (m.know.length : Int)) = true := by simp; omega
      clear h1
      go_enter Try.func80, Try.ntmps80
      go_wp2
      go_ret
      exact ⟨ret_bool HN.out.symm, grew_alloc _ _⟩

/-- What Check answers. -/
def checkN (m : Mesg.Msg) : Int := if Mesg.may m then 0 else 1

set_option maxHeartbeats 400000 in
theorem mesg_Check (m : Mesg.Msg) (v : Value) (w : World) (hv : SliceI w v m.know) (hm : m.know.length ≤ 1000000000) :
    Calls Try.prog 64 #[msgV m v] w fun e w' => e = .returned (.int .i64 (checkN m)) ∧ Below w.heap.size w w' := by
  have HV := Lib.hid hv
  clear hv
  have HHD := Lib.hid (fun W h => mesg_headMayBe m v W h hm)
  have HOP := Lib.hid (fun W h => mesg_opMayBe m v W h hm)
  unfold msgV at HHD HOP ⊢
  cases h1 : Mesg.headMay m
  · have H1 := Lib.hid h1
    clear h1
    go_enter Try.func64, Try.ntmps64
    go_wp2_with fail
    refine (HHD.out _ (HV.out.below (grew_alloc _ _))).mono ?_
    rintro e w1 ⟨rfl, hb1⟩
    rw [H1.out]
    go_wp2
    go_ret
    exact ⟨ret_num (by unfold checkN Mesg.may; rw [H1.out]; rfl), grew (grew_alloc _ _) hb1⟩
  · cases h2 : Mesg.opMay m
    · have H1 := Lib.hid h1
      have H2 := Lib.hid h2
      clear h1 h2
      go_enter Try.func64, Try.ntmps64
      go_wp2_with fail
      refine (HHD.out _ (HV.out.below (grew_alloc _ _))).mono ?_
      rintro e w1 ⟨rfl, hb1⟩
      rw [H1.out]
      have HM := Lib.hid ((Holds.new w (msgL m v) 38).keep (Keep.of_grew hb1 Non) (fun h => h))
      obtain ⟨⟨d0, d1, d2⟩, d3, d4, d5, d6, d7, d8, d9⟩ := msg_cells HM.out
      go_wp2_with fail
      refine (HOP.out _ ((HV.out.below (grew_alloc _ _)).below hb1)).mono ?_
      rintro e w2 ⟨rfl, hb2⟩
      rw [H2.out]
      go_wp2
      go_ret
      exact ⟨ret_num (by unfold checkN Mesg.may; rw [H1.out, H2.out]; rfl), grew (grew_alloc _ _) (grew hb1 hb2)⟩
    · have H1 := Lib.hid h1
      have H2 := Lib.hid h2
      clear h1 h2
      go_enter Try.func64, Try.ntmps64
      go_wp2_with fail
      refine (HHD.out _ (HV.out.below (grew_alloc _ _))).mono ?_
      rintro e w1 ⟨rfl, hb1⟩
      rw [H1.out]
      have HM := Lib.hid ((Holds.new w (msgL m v) 38).keep (Keep.of_grew hb1 Non) (fun h => h))
      obtain ⟨⟨d0, d1, d2⟩, d3, d4, d5, d6, d7, d8, d9⟩ := msg_cells HM.out
      go_wp2_with fail
      refine (HOP.out _ ((HV.out.below (grew_alloc _ _)).below hb1)).mono ?_
      rintro e w2 ⟨rfl, hb2⟩
      rw [H2.out]
      go_wp2
      go_ret
      exact ⟨ret_num (by unfold checkN Mesg.may; rw [H1.out, H2.out]; rfl), grew (grew_alloc _ _) (grew hb1 hb2)⟩
end Go.Proofs.Ytcmdfjeiefgmhaa
