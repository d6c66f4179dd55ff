/- What mesg.Check comes to. -/
import Derived.Test.YtcmdfjeiefgmhaaMesgCheck
namespace Go.Proofs.Ytcmdfjeiefgmhaa
open Go.RowKit
set_option linter.unusedVariables false

def opL (o : Mesg.Op) : List Value := [.int .i64 o.kind, .int .i64 o.epoch, .int .i64 o.id.time, .int .i64 o.id.site, .int .i64 o.ref.time, .int .i64 o.ref.site, .int .i64 o.rune]
def msgL (m : Mesg.Msg) (v : Value) : List Value := [.int .i64 m.site, .int .i64 m.seq, v, .int .i64 m.op.kind, .int .i64 m.op.epoch, .int .i64 m.op.id.time, .int .i64 m.op.id.site, .int .i64 m.op.ref.time, .int .i64 m.op.ref.site, .int .i64 m.op.rune]
def msgV (m : Mesg.Msg) (v : Value) : Value := .agg #[.int .i64 m.site, .int .i64 m.seq, v, .int .i64 m.op.kind, .int .i64 m.op.epoch, .int .i64 m.op.id.time, .int .i64 m.op.id.site, .int .i64 m.op.ref.time, .int .i64 m.op.ref.site, .int .i64 m.op.rune]

theorem op_cells {W : World} {g : Nat} {o : Mesg.Op} {t : TypeId} (h : Holds W g (opL o) t) : W.cell? ⟨g, 0, none⟩ = some (.int .i64 o.kind) ∧ W.cell? ⟨g, 1, none⟩ = some (.int .i64 o.epoch) ∧ W.cell? ⟨g, 2, none⟩ = some (.int .i64 o.id.time) ∧ W.cell? ⟨g, 3, none⟩ = some (.int .i64 o.id.site)
    ∧ W.cell? ⟨g, 4, none⟩ = some (.int .i64 o.ref.time) ∧ W.cell? ⟨g, 5, none⟩ = some (.int .i64 o.ref.site) ∧ W.cell? ⟨g, 6, none⟩ = some (.int .i64 o.rune) :=
  ⟨h.cell 0 (by simp [opL]), h.cell 1 (by simp [opL]), h.cell 2 (by simp [opL]), h.cell 3 (by simp [opL]), h.cell 4 (by simp [opL]), h.cell 5 (by simp [opL]), h.cell 6 (by simp [opL])⟩

theorem msg_cells {W : World} {g : Nat} {m : Mesg.Msg} {v : Value} {t : TypeId} (h : Holds W g (msgL m v) t) : (W.cell? ⟨g, 0, none⟩ = some (.int .i64 m.site) ∧ W.cell? ⟨g, 1, none⟩ = some (.int .i64 m.seq) ∧ W.cell? ⟨g, 2, none⟩ = some v) ∧
    W.cell? ⟨g, 3, none⟩ = some (.int .i64 m.op.kind) ∧ W.cell? ⟨g, 4, none⟩ = some (.int .i64 m.op.epoch) ∧ W.cell? ⟨g, 5, none⟩ = some (.int .i64 m.op.id.time) ∧ W.cell? ⟨g, 6, none⟩ = some (.int .i64 m.op.id.site)
    ∧ W.cell? ⟨g, 7, none⟩ = some (.int .i64 m.op.ref.time) ∧ W.cell? ⟨g, 8, none⟩ = some (.int .i64 m.op.ref.site) ∧ W.cell? ⟨g, 9, none⟩ = some (.int .i64 m.op.rune) :=
  ⟨⟨h.cell 0 (by simp [msgL]), h.cell 1 (by simp [msgL]), h.cell 2 (by simp [msgL])⟩, h.cell 3 (by simp [msgL]), h.cell 4 (by simp [msgL]), h.cell 5 (by simp [msgL]), h.cell 6 (by simp [msgL]), h.cell 7 (by simp [msgL]), h.cell 8 (by simp [msgL]), h.cell 9 (by simp [msgL])⟩

theorem int_beq (a b : Int) : (a == b) = decide (a = b) := rfl

set_option maxRecDepth 100000 in
set_option maxHeartbeats 1000000 in
theorem mesg_opMayBe (m : Mesg.Msg) (v : Value) (w : World) (hv : SliceI w v m.know) (hm : m.know.length ≤ 1000000000) :
    Calls Try.prog 81 #[msgV m v] w fun e w' => e = .returned (.bool (Mesg.opMay m)) ∧ Below w.heap.size w w' := by
  obtain ⟨a, cap, rfl, hcap, hrow⟩ := hv
  clear hrow
  obtain ⟨site, seq, know, ⟨kind, epoch, ⟨it, is_⟩, ⟨rt, rs⟩, rune⟩⟩ := m
  unfold msgV
  simp only at hm hcap ⊢
  go_enter Try.func81, Try.ntmps81
  go_wp2
  go_region
  have HO : Hid (Holds ((w.alloc (.cells (msgL ⟨site, seq, know, ⟨kind, epoch, ⟨it, is_⟩, ⟨rt, rs⟩, rune⟩⟩ (.slice a know.length cap)).toArray 38)).alloc (.cells (opL ⟨kind, epoch, ⟨it, is_⟩, ⟨rt, rs⟩, rune⟩).toArray 36)).drew (w.heap.size + 1) (opL ⟨kind, epoch, ⟨it, is_⟩, ⟨rt, rs⟩, rune⟩) 36) := Lib.hid (by
    have := Holds.new (w.alloc (.cells (msgL ⟨site, seq, know, ⟨kind, epoch, ⟨it, is_⟩, ⟨rt, rs⟩, rune⟩⟩ (.slice a know.length cap)).toArray 38)) (opL ⟨kind, epoch, ⟨it, is_⟩, ⟨rt, rs⟩, rune⟩) 36
    rw [show (w.alloc (.cells (msgL ⟨site, seq, know, ⟨kind, epoch, ⟨it, is_⟩, ⟨rt, rs⟩, rune⟩⟩ (.slice a know.length cap)).toArray 38)).heap.size = w.heap.size + 1 from Array.size_push _] at this
    exact this)
  have HM : Hid (Holds ((w.alloc (.cells (msgL ⟨site, seq, know, ⟨kind, epoch, ⟨it, is_⟩, ⟨rt, rs⟩, rune⟩⟩ (.slice a know.length cap)).toArray 38)).alloc (.cells (opL ⟨kind, epoch, ⟨it, is_⟩, ⟨rt, rs⟩, rune⟩).toArray 36)).drew w.heap.size (msgL ⟨site, seq, know, ⟨kind, epoch, ⟨it, is_⟩, ⟨rt, rs⟩, rune⟩⟩ (.slice a know.length cap)) 38) := Lib.hid (by
    have h1 := (Holds.new w (msgL ⟨site, seq, know, ⟨kind, epoch, ⟨it, is_⟩, ⟨rt, rs⟩, rune⟩⟩ (.slice a know.length cap)) 38).keep (S := Non) (Keep.of_grew (grew_alloc _ (.cells (opL ⟨kind, epoch, ⟨it, is_⟩, ⟨rt, rs⟩, rune⟩).toArray 36)) Non) (fun h => h)
    exact h1)
  have HB : Hid (Below w.heap.size w ((w.alloc (.cells (msgL ⟨site, seq, know, ⟨kind, epoch, ⟨it, is_⟩, ⟨rt, rs⟩, rune⟩⟩ (.slice a know.length cap)).toArray 38)).alloc (.cells (opL ⟨kind, epoch, ⟨it, is_⟩, ⟨rt, rs⟩, rune⟩).toArray 36)).drew) := Lib.hid (grew (grew_alloc _ _) (grew (grew_alloc _ _) (grew_drew _)))
  unfold msgL at HO HM HB
  unfold opL at HO HM HB
  simp only at HO HM HB
  generalize hW : ((w.alloc (.cells _ 38)).alloc (.cells _ 36)).drew = W at *
  clear hW
  obtain ⟨c0, c1, c2, c3, c4, c5, c6⟩ := op_cells (o := ⟨kind, epoch, ⟨it, is_⟩, ⟨rt, rs⟩, rune⟩) HO.out
  obtain ⟨⟨d0, d1, d2⟩, _⟩ := msg_cells (m := ⟨site, seq, know, ⟨kind, epoch, ⟨it, is_⟩, ⟨rt, rs⟩, rune⟩⟩) (v := .slice a know.length cap) HM.out
  clear d1 d2
  go_wp2_with (first
    | (go_at_call 96; refine (mesg_clock _ _).mono ?_; rintro e w1 ⟨rfl, rfl⟩)
    | (go_at_call 99; refine (mesg_Rune _ _).mono ?_; rintro e w1 ⟨rfl, rfl⟩)
    | (go_at_call 97; refine (mesg_idMayBe ⟨_, _⟩ _ _).mono ?_; rintro e w1 ⟨rfl, hb⟩; have HO := Lib.hid (HO.out.keep (Keep.of_grew hb Non) (fun h => h)); have HM := Lib.hid (HM.out.keep (Keep.of_grew hb Non) (fun h => h)); have HB := Lib.hid (grew HB.out hb); clear hb; obtain ⟨c0, c1, c2, c3, c4, c5, c6⟩ := op_cells (o := ⟨kind, epoch, ⟨it, is_⟩, ⟨rt, rs⟩, rune⟩) HO.out; obtain ⟨⟨d0, _, _⟩, _⟩ := msg_cells (m := ⟨site, seq, know, ⟨kind, epoch, ⟨it, is_⟩, ⟨rt, rs⟩, rune⟩⟩) (v := .slice a know.length cap) HM.out)
    | (go_at_call 98; refine (mesg_isZero ⟨_, _⟩ _).mono ?_; rintro e w1 ⟨rfl, hb⟩; have HO := Lib.hid (HO.out.keep (Keep.of_grew hb Non) (fun h => h)); have HM := Lib.hid (HM.out.keep (Keep.of_grew hb Non) (fun h => h)); have HB := Lib.hid (grew HB.out hb); clear hb; obtain ⟨c0, c1, c2, c3, c4, c5, c6⟩ := op_cells (o := ⟨kind, epoch, ⟨it, is_⟩, ⟨rt, rs⟩, rune⟩) HO.out; obtain ⟨⟨d0, _, _⟩, _⟩ := msg_cells (m := ⟨site, seq, know, ⟨kind, epoch, ⟨it, is_⟩, ⟨rt, rs⟩, rune⟩⟩) (v := .slice a know.length cap) HM.out))
  all_goals go_ret
  all_goals refine ⟨ret_bool ?_, HB.out⟩
  all_goals clear HO HM HB c0 c1 c2 c3 c4 c5 c6 d0
  all_goals simp_all [Mesg.opMay, Mesg.own, Mesg.refMay, int_beq]
  all_goals (intro h; omega)
end Go.Proofs.Ytcmdfjeiefgmhaa
