/- What duetref04.Check comes to. -/
import Derived.Test.YtcmdfjeiefgmhaaMesgRef
import Derived.BigQuiet
import Derived.Deep.RegionWith
namespace Go.Proofs.Ytcmdfjeiefgmhaa
open Go.RowKit
set_option linter.unusedVariables false

theorem checkN_no {m : Mesg.Msg} (h : Mesg.headMay m = false ∨ Mesg.opMay m = false) : checkN m = 1 := by
  unfold checkN Mesg.may
  rcases h with h | h <;> rw [h] <;> simp

/-- All that Check asks of a message ahead of its op. -/
def Plain (m : Mesg.Msg) : Prop := 1 ≤ m.know.length ∧ m.know.length ≤ 16 ∧ 0 ≤ m.site ∧ m.site < (m.know.length : Int) ∧ 1 ≤ m.seq ∧ Mesg.clock m.seq = true ∧ Mesg.knows m = m.seq - 1

set_option maxRecDepth 100000 in
set_option maxHeartbeats 4000000 in
theorem ref04_Check_early (m : Mesg.Msg) (v : Value) (w : World) (hv : SliceI w v m.know) (hm : m.know.length ≤ 1000000000) (hp : ¬ Plain m) :
    Calls Try.prog 56 #[msgV m v] w fun e w' => e = .returned (.int .i64 (checkN m)) ∧ Below w.heap.size w w' := by
  obtain ⟨a, cap, rfl, hcap, hrow⟩ := hv
  have HROW := Lib.hid hrow
  clear hrow
  have HP := Lib.hid hp
  clear hp
  obtain ⟨site, seq, know, op⟩ := m
  simp only at hm hcap HROW ⊢
  have HB : Hid (Below w.heap.size w (w.alloc (.cells (msgL ⟨site, seq, know, op⟩ (.slice a know.length cap)).toArray 38))) := Lib.hid (grew_alloc _ _)
  have HM : Hid (Holds (w.alloc (.cells (msgL ⟨site, seq, know, op⟩ (.slice a know.length cap)).toArray 38)) w.heap.size (msgL ⟨site, seq, know, op⟩ (.slice a know.length cap)) 38) := Lib.hid (Holds.new w _ _)
  unfold msgV
  simp only
  by_cases h1 : know.length < 1
  · have dh1 : decide ((know.length : Int) < 1) = true := by simp; omega
    have HN : Hid (checkN ⟨site, seq, know, op⟩ = 1) := Lib.hid (checkN_no (.inl (by simp only [Mesg.headMay, Bool.and_eq_false_iff, decide_eq_false_iff_not]; omega)))
    go_enter Try.func56, Try.ntmps56
    go_wp2
    go_quiet (fail)
    go_wp2
    go_ret
    exact ⟨ret_num HN.out.symm, grew HB.out (grew_drewN _ _)⟩
  · have dh1 : decide ((know.length : Int) < 1) = false := by simp; omega
    by_cases h2 : 16 < know.length
    · have dh2 : decide ((16 : Int) < (know.length : Int)) = true := by simp; omega
      have HN : Hid (checkN ⟨site, seq, know, op⟩ = 1) := Lib.hid (checkN_no (.inl (by simp only [Mesg.headMay, Bool.and_eq_false_iff, decide_eq_false_iff_not]; omega)))
      go_enter Try.func56, Try.ntmps56
      go_wp2
      go_quiet (fail)
      go_wp2
      go_ret
      exact ⟨ret_num HN.out.symm, grew HB.out (grew_drewN _ _)⟩
    · have dh2 : decide ((16 : Int) < (know.length : Int)) = false := by simp; omega
      by_cases h3 : site < 0
      · have dh3 : decide (site < 0) = true := by simp; omega
        have HN : Hid (checkN ⟨site, seq, know, op⟩ = 1) := Lib.hid (checkN_no (.inl (by simp only [Mesg.headMay, Bool.and_eq_false_iff, decide_eq_false_iff_not]; omega)))
        go_enter Try.func56, Try.ntmps56
        go_wp2
        go_quiet (fail)
        go_wp2
        go_ret
        exact ⟨ret_num HN.out.symm, grew HB.out (grew_drewN _ _)⟩
      · have dh3 : decide (site < 0) = false := by simp; omega
        by_cases h4 : (know.length : Int) ≤ site
        · have dh4 : decide ((know.length : Int) ≤ site) = true := by simp; omega
          have HN : Hid (checkN ⟨site, seq, know, op⟩ = 1) := Lib.hid (checkN_no (.inl (by simp only [Mesg.headMay, Bool.and_eq_false_iff, decide_eq_false_iff_not]; omega)))
          go_enter Try.func56, Try.ntmps56
          go_wp2
          go_quiet (fail)
          go_wp2
          go_ret
          exact ⟨ret_num HN.out.symm, grew HB.out (grew_drewN _ _)⟩
        · have dh4 : decide ((know.length : Int) ≤ site) = false := by simp; omega
          by_cases h5 : seq < 1
          · have dh5 : decide (seq < 1) = true := by simp; omega
            have HN : Hid (checkN ⟨site, seq, know, op⟩ = 1) := Lib.hid (checkN_no (.inl (by simp only [Mesg.headMay, Bool.and_eq_false_iff, decide_eq_false_iff_not]; omega)))
            go_enter Try.func56, Try.ntmps56
            go_wp2
            go_quiet (fail)
            go_wp2
            go_ret
            exact ⟨ret_num HN.out.symm, grew HB.out (grew_drewN _ _)⟩
          · have dh5 : decide (seq < 1) = false := by simp; omega
            cases hc : Mesg.clock seq
            · have HC := Lib.hid hc
              have HN : Hid (checkN ⟨site, seq, know, op⟩ = 1) := Lib.hid (checkN_no (.inl (by simp [Mesg.headMay, hc])))
              clear hc
              go_enter Try.func56, Try.ntmps56
              go_wp2
              go_quiet ((go_at_call 75; exact Calls.quiet_of_same ((ref04_clock _ _).mono fun _ _ ⟨h1, h2⟩ => ⟨h1.trans (by rw [HC.out]), h2.symm⟩)))
              go_wp2
              go_ret
              exact ⟨ret_num HN.out.symm, grew HB.out (grew_drewN _ _)⟩
            · have HC := Lib.hid hc
              have hqm : seq ≤ 4294967295 := by simp [Mesg.clock] at hc; omega
              clear hc
              obtain ⟨j, rfl⟩ : ∃ j : Nat, site = (j : Int) := ⟨site.toNat, by omega⟩
              have hjl : j < know.length := by omega
              rcases HROW.out with h | ⟨blk, off, rfl, hblk, hcells⟩
              · rw [h] at hjl; simp at hjl
              · have HCS := Lib.hid hcells
                have HBK := Lib.hid hblk
                clear hcells hblk HROW
                have hjn : (j : Int) < (know.length : Int) := by omega
                have hnj : decide (know.length ≤ j) = false := by simpa using hjl
                have hwr : IntKind.i64.wrap (seq - 1) = seq - 1 := by rw [IntKind.wrap_i64]; omega
                have HK : Hid (Mesg.knows ⟨(j : Int), seq, know, op⟩ = know[j]) := Lib.hid (by unfold Mesg.knows; simp [hjl])
                by_cases hk : know[j] = seq - 1
                · exact absurd ⟨by simp only; omega, by simp only; omega, by simp only; omega, by simp only; omega, by simp only; omega, HC.out, by rw [HK.out]; exact hk⟩ HP.out
                · have dk : decide (know[j] = seq - 1) = false := by simpa using hk
                  have dk2 : (know[j] == seq - 1) = false := by simpa using hk
                  have dk3 : (know[j] != seq - 1) = true := by simpa using hk
                  have dk4 : decide (¬ know[j] = seq - 1) = true := by simpa using hk
                  have HN : Hid (checkN ⟨(j : Int), seq, know, op⟩ = 1) := Lib.hid (checkN_no (.inl (by simp [Mesg.headMay, HK.out, hk])))
                  clear hk
                  go_enter Try.func56, Try.ntmps56
                  go_wp2
                  unfold msgL at HB HM
                  simp only at HB HM
                  generalize hW : (w.alloc (.cells _ 38)) = W at *
                  clear hW
                  have hcell : W.cell? ⟨blk, off + j, none⟩ = some (.int .i64 know[j]) := by
                    rw [HB.out.cell (p := ⟨blk, off + j, none⟩) HBK.out]; exact HCS.out j hjl
                  obtain ⟨⟨d0, d1, d2⟩, d3, d4, d5, d6, d7, d8, d9⟩ := msg_cells (m := ⟨(j : Int), seq, know, op⟩) (v := .slice (some ⟨blk, off, none⟩) know.length cap) HM.out
                  go_quiet ((go_at_call 75; exact Calls.quiet_of_same ((ref04_clock _ _).mono fun _ _ ⟨h1, h2⟩ => ⟨h1.trans (by rw [HC.out]), h2.symm⟩)))
                  go_wp2
                  go_ret
                  exact ⟨ret_num HN.out.symm, grew HB.out (grew_drewN _ _)⟩
end Go.Proofs.Ytcmdfjeiefgmhaa
