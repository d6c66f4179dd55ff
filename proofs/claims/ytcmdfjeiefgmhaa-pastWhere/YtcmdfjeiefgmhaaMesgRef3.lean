/- What duetref04.Check comes to, of a message that is plain. -/
import Derived.Test.YtcmdfjeiefgmhaaMesgRef
import Derived.Test.YtcmdfjeiefgmhaaMesgRef2
import Derived.Deep.RegionHeld3
namespace Go.Proofs.Ytcmdfjeiefgmhaa
open Go.RowKit
set_option linter.unusedVariables false

set_option maxRecDepth 100000 in
set_option maxHeartbeats 1000000 in
theorem ref04_Check_late (j : Nat) (seq : Int) (know : List Int) (op : Mesg.Op) (blk off cap : Nat) (w : World) (hcap : know.length ≤ cap) (hblk : blk < w.heap.size) (hcells : ∀ i (h : i < know.length), w.cell? ⟨blk, off + i, none⟩ = some (.int .i64 know[i]))
    (h1 : 1 ≤ know.length) (h2 : know.length ≤ 16) (hjl : j < know.length) (h5 : 1 ≤ seq) (hc : Mesg.clock seq = true) (hk : know[j] = seq - 1) :
    Calls Try.prog 56 #[msgV ⟨j, seq, know, op⟩ (.slice (some ⟨blk, off, none⟩) know.length cap)] w fun e w' => e = .returned (.int .i64 (checkN ⟨j, seq, know, op⟩)) ∧ Below w.heap.size w w' := by
  have HCS := Lib.hid hcells
  have HBK := Lib.hid hblk
  clear hcells hblk
  have HB : Hid (Below w.heap.size w (w.alloc (.cells (msgL ⟨j, seq, know, op⟩ (.slice (some ⟨blk, off, none⟩) know.length cap)).toArray 38))) := Lib.hid (grew_alloc _ _)
  have HM : Hid (Holds (w.alloc (.cells (msgL ⟨j, seq, know, op⟩ (.slice (some ⟨blk, off, none⟩) know.length cap)).toArray 38)) w.heap.size (msgL ⟨j, seq, know, op⟩ (.slice (some ⟨blk, off, none⟩) know.length cap)) 38) := Lib.hid (Holds.new w _ _)
  have hd1 : decide ((know.length : Int) < 1) = false := by simp; omega
  have hd2 : decide ((16 : Int) < (know.length : Int)) = false := by simp; omega
  have hd3 : decide ((j : Int) < 0) = false := by simp
  have hd4 : decide ((know.length : Int) ≤ (j : Int)) = false := by simp; omega
  have hd5 : decide (seq < 1) = false := by simp; omega
  have HC := Lib.hid hc
  have hqm : seq ≤ 4294967295 := by simp [Mesg.clock] at hc; omega
  clear hc
  have hjn : (j : Int) < (know.length : Int) := by omega
  have hnj : decide (know.length ≤ j) = false := by simpa using hjl
  have hwr : IntKind.i64.wrap (seq - 1) = seq - 1 := by rw [IntKind.wrap_i64]; omega
  have dk : (know[j] == seq - 1) = true := by simpa using hk
  have dk2 : decide (know[j] = seq - 1) = true := by simpa using hk
  have dk3 : (know[j] != seq - 1) = false := by simpa using hk
  have dk4 : decide (¬ know[j] = seq - 1) = false := by simpa using hk
  have HKJ : Hid (decide (Mesg.knows ⟨(j : Int), seq, know, op⟩ = seq - 1) = true) := Lib.hid (by unfold Mesg.knows; simpa [hjl] using hk)
  clear hk
  unfold msgV
  simp only
  go_enter Try.func56, Try.ntmps56
  go_wp2
  unfold msgL at HB HM
  simp only at HB HM
  generalize hW : (w.alloc (.cells _ 38)) = W at *
  clear hW
  have hcell : W.cell? ⟨blk, off + j, none⟩ = some (.int .i64 know[j]) := by
    rw [HB.out.cell (p := ⟨blk, off + j, none⟩) HBK.out]; exact HCS.out j hjl
  obtain ⟨⟨d0, d1, d2⟩, d3, d4, d5, d6, d7, d8, d9⟩ := msg_cells (m := ⟨(j : Int), seq, know, op⟩) (v := .slice (some ⟨blk, off, none⟩) know.length cap) HM.out
  simp only at d0 d1 d2 d3 d4 d5 d6 d7 d8 d9
  go_region_held3 (fun w' => w'.cell? ⟨w.heap.size, 0, none⟩ = some (.int .i64 (j : Int)) ∧ w'.cell? ⟨w.heap.size, 1, none⟩ = some (.int .i64 seq) ∧ w'.cell? ⟨w.heap.size, 2, none⟩ = some (.slice (some ⟨blk, off, none⟩) know.length cap) ∧ w'.cell? ⟨w.heap.size, 3, none⟩ = some (.int .i64 op.kind) ∧ w'.cell? ⟨w.heap.size, 4, none⟩ = some (.int .i64 op.epoch) ∧ w'.cell? ⟨w.heap.size, 5, none⟩ = some (.int .i64 op.id.time) ∧ w'.cell? ⟨w.heap.size, 6, none⟩ = some (.int .i64 op.id.site) ∧ w'.cell? ⟨w.heap.size, 7, none⟩ = some (.int .i64 op.ref.time) ∧ w'.cell? ⟨w.heap.size, 8, none⟩ = some (.int .i64 op.ref.site) ∧ w'.cell? ⟨w.heap.size, 9, none⟩ = some (.int .i64 op.rune) ∧ w'.cell? ⟨blk, off + j, none⟩ = some (.int .i64 know[j]))
    (first | exact ⟨d0, d1, d2, d3, d4, d5, d6, d7, d8, d9, hcell⟩ | exact ⟨e0, e1, e2, e3, e4, e5, e6, e7, e8, e9, ecell⟩)
    (first
      | (go_at_call 75; refine (ref04_clock _ _).mono ?_; rintro e w1 ⟨rfl, rfl⟩; rw [HC.out])
      | (go_at_call 76; refine (ref04_op ⟨(j : Int), seq, know, op⟩ _ (by simp only; omega)).mono ?_; rintro e w1 ⟨rfl, hb⟩; have HM1 := Lib.hid (Holds.keep (a := W.drew) HM.out (Keep.of_grew hb Non) (fun h => h)); have ecell : w1.cell? ⟨blk, off + j, none⟩ = some (.int .i64 know[j]) := (hb.cell (p := ⟨blk, off + j, none⟩) (Nat.lt_of_lt_of_le HBK.out HB.out.size)).trans hcell; have HB1 := Lib.hid (grew HB.out (grew (grew_drew _) hb)); clear hb; obtain ⟨⟨e0, e1, e2⟩, e3, e4, e5, e6, e7, e8, e9⟩ := msg_cells (m := ⟨(j : Int), seq, know, op⟩) (v := .slice (some ⟨blk, off, none⟩) know.length cap) HM1.out; simp only at e0 e1 e2 e3 e4 e5 e6 e7 e8 e9))
  have HCS1 : Hid (∀ i (h : i < know.length), w1.cell? ⟨blk, off + i, none⟩ = some (.int .i64 know[i])) := Lib.hid (fun i h => (HB1.out.cell (p := ⟨blk, off + i, none⟩) HBK.out).trans (HCS.out i h))
  clear d0 d1 d2 d3 d4 d5 d6 d7 d8 d9 e0 e1 e3 e4 e5 e6 e7 e8 e9 ecell hcell dk dk2 dk3 dk4 hwr HCS HB HM HM1
  have HKN : Hid (Mesg.headMay ⟨(j : Int), seq, know, op⟩ = know.all Mesg.clock) := Lib.hid (by
    have g1 : decide (1 ≤ know.length) = true := by simpa using h1
    have g2 : decide (know.length ≤ 16) = true := by simpa using h2
    have g3 : decide ((0 : Int) ≤ (j : Int)) = true := by simp
    have g4 : decide ((j : Int) < (know.length : Int)) = true := by simpa using hjl
    have g5 : decide (1 ≤ seq) = true := by simpa using h5
    unfold Mesg.headMay
    simp only
    rw [g1, g2, g3, g4, g5, HC.out, HKJ.out]
    simp)
  cases ho : Mesg.opMay ⟨(j : Int), seq, know, op⟩
  · have HN : Hid (checkN ⟨(j : Int), seq, know, op⟩ = 1) := Lib.hid (checkN_no (.inr ho))
    clear ho
    go_wp2
    go_ret
    exact ⟨ret_num HN.out.symm, HB1.out⟩
  · have HO := Lib.hid ho
    clear ho
    go_wp2
    go_loop [4] (fun i => ∃ k : Nat, k ≤ know.length ∧ i = .int .i64 k ∧ (know.take k).all Mesg.clock = true) (fun i => know.length - (intOf i).toNat)
    case atStart => exact ⟨0, by omega, rfl, rfl⟩
    case round =>
      obtain ⟨k, hk, rfl, hall⟩ := hrel
      have HA := Lib.hid hall
      clear hall
      by_cases hlt : k < know.length
      · have hdk : decide ((k : Int) < (know.length : Int)) = true := by simp; omega
        have hdn : decide (k < know.length) = true := by simpa using hlt
        have hik : (k : Int) < (know.length : Int) := by omega
        have hcell := HCS1.out k hlt
        cases hc : Mesg.clock know[k]
        · have HC := Lib.hid hc
          have HN : Hid (checkN ⟨(j : Int), seq, know, op⟩ = 1) := Lib.hid (checkN_no (.inl (by rw [HKN.out]; exact all_no _ _ k hlt hc)))
          clear hc
          go_wp2_with fail
          refine (ref04_clock _ _).mono ?_
          rintro e w1 ⟨rfl, rfl⟩
          rw [HC.out]
          go_wp2
          go_ret
          exact ⟨ret_num HN.out.symm, HB1.out⟩
        · have HC := Lib.hid hc
          have HS : Hid ((know.take (k + 1)).all Mesg.clock = true) := Lib.hid (by rw [all_step _ _ k hlt, HA.out, hc]; rfl)
          clear hc
          go_wp2_with fail
          refine (ref04_clock _ _).mono ?_
          rintro e w1 ⟨rfl, rfl⟩
          rw [HC.out]
          go_wp2
          have hw : IntKind.i64.wrap ((k : Int) + 1) = (k : Int) + 1 := by rw [IntKind.wrap_i64]; omega
          refine ⟨⟨trivial, _, _, _, _, _, _, _, _, _, _, _, _, _, _, ⟨k + 1, by omega, by go_num, HS.out⟩, rfl⟩, ?_⟩
          simp [intOf]
          omega
      · have hdn : decide (k < know.length) = false := by simpa using hlt
        have HN : Hid (checkN ⟨(j : Int), seq, know, op⟩ = 0) := Lib.hid (by
          have e1 : know.take k = know := List.take_of_length_le (by omega)
          have e2 : know.all Mesg.clock = true := by rw [← e1]; exact HA.out
          unfold checkN Mesg.may
          rw [HKN.out, HO.out, e2]
          rfl)
        go_wp2
        go_ret
        exact ⟨ret_num HN.out.symm, HB1.out⟩

theorem ref04_Check (m : Mesg.Msg) (v : Value) (w : World) (hv : SliceI w v m.know) (hm : m.know.length ≤ 1000000000) :
    Calls Try.prog 56 #[msgV m v] w fun e w' => e = .returned (.int .i64 (checkN m)) ∧ Below w.heap.size w w' := by
  by_cases hp : Plain m
  · obtain ⟨site, seq, know, op⟩ := m
    obtain ⟨h1, h2, h3, h4, h5, h6, h7⟩ := hp
    simp only at h1 h2 h3 h4 h5 h6 h7 hv hm
    obtain ⟨j, rfl⟩ : ∃ j : Nat, site = (j : Int) := ⟨site.toNat, by omega⟩
    have hjl : j < know.length := by omega
    obtain ⟨a, cap, rfl, hcap, h | ⟨blk, off, rfl, hblk, hcells⟩⟩ := hv
    · rw [h] at hjl; simp at hjl
    · exact ref04_Check_late j seq know op blk off cap w hcap hblk hcells h1 h2 hjl h5 h6 (by unfold Mesg.knows at h7; simpa [hjl] using h7)
  · exact ref04_Check_early m v w hv hm hp
end Go.Proofs.Ytcmdfjeiefgmhaa
