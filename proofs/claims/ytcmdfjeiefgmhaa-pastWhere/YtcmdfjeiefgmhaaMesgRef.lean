/- What the reference's small questions of a message come to. -/
import Derived.Test.YtcmdfjeiefgmhaaMesgSame0
namespace Go.Proofs.Ytcmdfjeiefgmhaa
open Go.RowKit
set_option linter.unusedVariables false

theorem ref04_clock (n : Int) (w : World) : Calls Try.prog 75 #[.int .i64 n] w fun e w' => e = .returned (.bool (Mesg.clock n)) ∧ w = w' := by
  go_enter Try.func75, Try.ntmps75
  go_wp2
  all_goals go_ret
  all_goals exact ⟨ret_bool (by rw [Bool.eq_iff_iff]; simp [Mesg.clock]; try omega), rfl⟩

theorem ref04_Rune (n : Int) (w : World) : Calls Try.prog 89 #[.int .i64 n] w fun e w' => e = .returned (.bool (Mesg.rune n)) ∧ w = w' := by
  go_enter Try.func89, Try.ntmps89
  go_wp2
  all_goals go_ret
  all_goals exact ⟨ret_bool (by rw [Bool.eq_iff_iff]; simp [Mesg.rune]; try omega), rfl⟩

theorem ref04_May (x : Mesg.Id) (n : Nat) (w : World) : Calls Try.prog 88 #[idM x, .int .i64 (n : Int)] w fun e w' => e = .returned (.bool (Mesg.idMay x n)) ∧ Below w.heap.size w w' := by
  unfold idM
  go_enter Try.func88, Try.ntmps88
  go_wp2_with (first
    | (go_at_call 75; refine (ref04_clock _ _).mono ?_; rintro e w1 ⟨rfl, rfl⟩))
  all_goals go_ret
  all_goals refine ⟨ret_bool ?_, grew_alloc _ _⟩
  all_goals simp_all [Mesg.idMay]
  all_goals (intros; omega)

theorem id_cells {W : World} {g : Nat} {a b : Value} {t : TypeId} (h : Holds W g [a, b] t) : W.cell? ⟨g, 0, none⟩ = some a ∧ W.cell? ⟨g, 1, none⟩ = some b := ⟨h.cell 0 (by simp), h.cell 1 (by simp)⟩

set_option maxRecDepth 100000 in
set_option maxHeartbeats 1000000 in
theorem ref04_op (m : Mesg.Msg) (w : World) (hm : m.know.length ≤ 1000000000) :
    Calls Try.prog 76 #[.agg #[.int .i64 m.op.kind, .int .i64 m.op.epoch, .int .i64 m.op.id.time, .int .i64 m.op.id.site, .int .i64 m.op.ref.time, .int .i64 m.op.ref.site, .int .i64 m.op.rune], .int .i64 m.site, .int .i64 (m.know.length : Int)] w fun e w' => e = .returned (.bool (Mesg.opMay m)) ∧ Below w.heap.size w w' := by
  obtain ⟨site, seq, know, ⟨kind, epoch, ⟨it, is_⟩, ⟨rt, rs⟩, rune⟩⟩ := m
  simp only at hm ⊢
  have HO := Lib.hid ((Holds.new w (opL ⟨kind, epoch, ⟨it, is_⟩, ⟨rt, rs⟩, rune⟩) 36).keep (S := Non) (Keep.of_grew (grew_alloc _ (.cells #[.int .i64 0, .int .i64 0] 34)) Non) (fun h => h))
  have HZ := Lib.hid (Holds.new (w.alloc (.cells (opL ⟨kind, epoch, ⟨it, is_⟩, ⟨rt, rs⟩, rune⟩).toArray 36)) [.int .i64 0, .int .i64 0] 34)
  rw [show (w.alloc (.cells (opL ⟨kind, epoch, ⟨it, is_⟩, ⟨rt, rs⟩, rune⟩).toArray 36)).heap.size = w.heap.size + 1 from Array.size_push _] at HZ
  have HB := Lib.hid (grew (grew_alloc w (.cells (opL ⟨kind, epoch, ⟨it, is_⟩, ⟨rt, rs⟩, rune⟩).toArray 36)) (grew_alloc _ (.cells #[.int .i64 0, .int .i64 0] 34)))
  go_enter Try.func76, Try.ntmps76
  go_wp2_with fail
  unfold opL at HO HZ HB
  simp only at HO HZ HB
  generalize hW : (w.alloc (.cells _ 36)).alloc (.cells _ 34) = W at *
  clear hW
  obtain ⟨c0, c1, c2, c3, c4, c5, c6⟩ := op_cells (o := ⟨kind, epoch, ⟨it, is_⟩, ⟨rt, rs⟩, rune⟩) HO.out
  obtain ⟨z0, z1⟩ := id_cells HZ.out
  go_wp2_with (first
    | (go_at_call 75; refine (ref04_clock _ _).mono ?_; rintro e w1 ⟨rfl, rfl⟩)
    | (go_at_call 89; refine (ref04_Rune _ _).mono ?_; rintro e w1 ⟨rfl, rfl⟩)
    | (go_at_call 88; refine (ref04_May ⟨_, _⟩ _ _).mono ?_; rintro e w1 ⟨rfl, hb⟩; have HO := Lib.hid (HO.out.keep (Keep.of_grew hb Non) (fun h => h)); have HZ := Lib.hid (HZ.out.keep (Keep.of_grew hb Non) (fun h => h)); have HB := Lib.hid (grew HB.out hb); clear hb; obtain ⟨c0, c1, c2, c3, c4, c5, c6⟩ := op_cells (o := ⟨kind, epoch, ⟨it, is_⟩, ⟨rt, rs⟩, rune⟩) HO.out; obtain ⟨z0, z1⟩ := id_cells HZ.out))
  all_goals go_ret
  all_goals refine ⟨ret_bool ?_, HB.out⟩
  all_goals clear HO HZ HB c0 c1 c2 c3 c4 c5 c6 z0 z1
  all_goals simp_all [Mesg.opMay, Mesg.own, Mesg.refMay, Mesg.isZero, int_beq]
  all_goals (intros; omega)
end Go.Proofs.Ytcmdfjeiefgmhaa
