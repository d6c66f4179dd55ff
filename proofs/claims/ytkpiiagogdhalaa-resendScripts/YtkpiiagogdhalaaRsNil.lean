/- A call of a script on a store, as it is handed over; a store that is none. -/
import Derived.Test.YtkpiiagogdhalaaRsLive2
import Derived.Test.YtkpiiagogdhalaaMesgOpen
namespace Go.Proofs.Ytkpiiagogdhalaa
open Go.ChangeShapes Go.WideShapes Go.ChangeAt Go.RowKit Go.Joins Go.Deep
set_option linter.unusedVariables false

/-- A call of a script. -/
structure ROp where
  do_ : Int
  m : Mesg.Msg
  u : Value
  v : Value
  vs : List Int
  a : Int
  b : Int
def ROp.cells (o : ROp) : List Value := [.int .i64 o.do_, .int .i64 o.m.site, .int .i64 o.m.seq, o.u, .int .i64 o.m.op.kind, .int .i64 o.m.op.epoch, .int .i64 o.m.op.id.time, .int .i64 o.m.op.id.site, .int .i64 o.m.op.ref.time, .int .i64 o.m.op.ref.site, .int .i64 o.m.op.rune, o.v, .int .i64 o.a, .int .i64 o.b]
def ROp.ok (W : World) (o : ROp) : Prop := (SliceI W o.u o.m.know ∧ o.m.know.length ≤ maxLen) ∧ (SliceI W o.v o.vs ∧ o.vs.length ≤ maxLen) ∧ I64 o.a ∧ I64 o.b
def IsROp (W : World) (v : Value) (o : ROp) : Prop := v = .agg o.cells.toArray ∧ o.ok W

section
variable {H : Type} {enc : TypeId × Value → H} {W : World} {n : Nat}
theorem trod_numw {sp : Nat → Bool} {c : Value} {l : List Value} {y : DataW H × List MemPlace} (h : DataW.trod enc Try.prog W 0 sp true n 3 l = some y) (hl : l = [c]) : ∃ x : Int, c = .int .i64 x ∧ I64 x := by
  subst hl
  obtain ⟨x, e, _, hw⟩ := DataW.trod_int Try.underlying3 h
  simp at e
  exact ⟨x, e, I64.of_wf hw⟩

set_option maxRecDepth 100000 in
theorem trod_msg {c0 c1 c2 c3 c4 c5 c6 c7 c8 c9 : Value} {l : List Value} {y : DataW H × List MemPlace} (hf : DataW.trod enc Try.prog W 0 (fun _ => true) true n 40 l = some y) (hl : l = [c0, c1, c2, c3, c4, c5, c6, c7, c8, c9]) :
    ∃ (m : Mesg.Msg) (u : Value), [c0, c1, c2, c3, c4, c5, c6, c7, c8, c9] = msgL m u ∧ SliceI W u m.know ∧ m.know.length ≤ maxLen := by
  subst hl
  have hI : Try.prog.cellsOf 3 = 1 := by kernel_rfl
  have hS : Try.prog.cellsOf 34 = 1 := by kernel_rfl
  have hO : Try.prog.cellsOf 38 = 7 := by kernel_rfl
  obtain ⟨y0, y1, y2, y3, m, _, _, h0, h1, h2, h3⟩ := trod_struct4 Try.underlying40 hf
  obtain ⟨x0, rfl⟩ := trod_num h0 (c := c0) (by show (List.drop 0 [c0, c1, c2, c3, c4, c5, c6, c7, c8, c9]).take (Try.prog.cellsOf 3) = _; rw [hI]; rfl)
  obtain ⟨x1, rfl⟩ := trod_num h1 (c := c1) (by show (List.drop 1 [_, c1, c2, c3, c4, c5, c6, c7, c8, c9]).take (Try.prog.cellsOf 3) = _; rw [hI]; rfl)
  obtain ⟨zs, k1, k2⟩ := trod_know h2 (c := c2) (by show (List.drop 2 [_, _, c2, c3, c4, c5, c6, c7, c8, c9]).take (Try.prog.cellsOf 34) = _; rw [hS]; rfl)
  obtain ⟨o, ho⟩ := trod_op h3 (c0 := c3) (c1 := c4) (c2 := c5) (c3 := c6) (c4 := c7) (c5 := c8) (c6 := c9) (by show (List.drop 3 [_, _, _, c3, c4, c5, c6, c7, c8, c9]).take (Try.prog.cellsOf 38) = _; rw [hO]; rfl)
  simp only [opL, List.cons.injEq] at ho
  obtain ⟨rfl, rfl, rfl, rfl, rfl, rfl, rfl, _⟩ := ho
  exact ⟨⟨x0, x1, zs, o⟩, c2, rfl, k1, k2⟩

set_option maxRecDepth 100000 in
theorem trod_rop {cs : List Value} {y : DataW H × List MemPlace} (h : DataW.trod enc Try.prog W 0 (fun _ => true) true n 66 cs = some y) (hl : cs.length = 14) : ∃ o : ROp, cs = o.cells ∧ o.ok W := by
  have hI : Try.prog.cellsOf 3 = 1 := by kernel_rfl
  have hS : Try.prog.cellsOf 34 = 1 := by kernel_rfl
  have hM : Try.prog.cellsOf 40 = 10 := by kernel_rfl
  have hA : Try.prog.cellsOf 64 = 2 := by kernel_rfl
  match cs, hl with
  | [c0, c1, c2, c3, c4, c5, c6, c7, c8, c9, c10, c11, c12, c13], _ =>
    obtain ⟨y0, y1, y2, y3, k, _, _, h0, h1, h2, h3⟩ := trod_struct4 Try.underlying66 h
    obtain ⟨x0, rfl⟩ := trod_num h0 (c := c0) (by show (List.drop 0 [c0, c1, c2, c3, c4, c5, c6, c7, c8, c9, c10, c11, c12, c13]).take (Try.prog.cellsOf 3) = _; rw [hI]; rfl)
    obtain ⟨m, u, hm, k1, k2⟩ := trod_msg h1 (c0 := c1) (c1 := c2) (c2 := c3) (c3 := c4) (c4 := c5) (c5 := c6) (c6 := c7) (c7 := c8) (c8 := c9) (c9 := c10) (by show (List.drop 1 [_, c1, c2, c3, c4, c5, c6, c7, c8, c9, c10, c11, c12, c13]).take (Try.prog.cellsOf 40) = _; rw [hM]; rfl)
    obtain ⟨zs, k3, k4⟩ := trod_know h2 (c := c11) (by show (List.drop 11 [_, c1, c2, c3, c4, c5, c6, c7, c8, c9, c10, c11, c12, c13]).take (Try.prog.cellsOf 34) = _; rw [hS]; rfl)
    have h3' : DataW.trod enc Try.prog W 0 (fun _ => true) true k 64 [c12, c13] = some y3 := by
      have e : (List.drop 12 [Value.int .i64 x0, c1, c2, c3, c4, c5, c6, c7, c8, c9, c10, c11, c12, c13]).take (Try.prog.cellsOf 64) = [c12, c13] := by rw [hA]; rfl
      rw [← e]; exact h3
    obtain ⟨z0, z1, k', _, _, g0, g1⟩ := trod_struct2 Try.underlying64 h3'
    obtain ⟨xa, rfl, ka⟩ := trod_numw g0 (c := c12) (by show (List.drop 0 [c12, c13]).take (Try.prog.cellsOf 3) = _; rw [hI]; rfl)
    obtain ⟨xb, rfl, kb⟩ := trod_numw g1 (c := c13) (by show (List.drop 1 [_, c13]).take (Try.prog.cellsOf 3) = _; rw [hI]; rfl)
    simp only [msgL, List.cons.injEq] at hm
    obtain ⟨rfl, rfl, rfl, rfl, rfl, rfl, rfl, rfl, rfl, rfl, _⟩ := hm
    exact ⟨⟨x0, m, _, c11, zs, xa, xb⟩, rfl, ⟨k1, k2⟩, ⟨k3, k4⟩, ka, kb⟩
set_option maxRecDepth 100000 in
theorem open_rop {b0 : Nat} {v : Value} {d : DataW H} {p : List MemPlace} (hv : Value.okWide Try.prog W .any b0 66 v) (h : DataW.Trod enc Try.prog W 0 (fun _ => true) true 66 v d p) : ∃ o : ROp, IsROp W v o := by
  have hC : Try.prog.cellsOf 66 = 14 := by kernel_rfl
  obtain ⟨cs, rfl, hsz⟩ := okWide_struct Try.underlying66 hv
  obtain ⟨fuel, hf⟩ := h
  obtain ⟨o, ho, hok⟩ := trod_rop hf (by simpa [Value.cells] using hsz.trans hC)
  refine ⟨o, ?_, hok⟩
  have : cs.toList = o.cells := by simpa [Value.cells] using ho
  rw [← this]
end

theorem rop_cells {W : World} {g : Nat} {o : ROp} {t : TypeId} (h : Holds W g o.cells t) : (W.cell? ⟨g, 1, none⟩ = some (.int .i64 o.m.site) ∧ W.cell? ⟨g, 2, none⟩ = some (.int .i64 o.m.seq) ∧ W.cell? ⟨g, 3, none⟩ = some o.u) ∧ W.cell? ⟨g, 4, none⟩ = some (.int .i64 o.m.op.kind) ∧ W.cell? ⟨g, 5, none⟩ = some (.int .i64 o.m.op.epoch) ∧ W.cell? ⟨g, 6, none⟩ = some (.int .i64 o.m.op.id.time) ∧ W.cell? ⟨g, 7, none⟩ = some (.int .i64 o.m.op.id.site) ∧ W.cell? ⟨g, 8, none⟩ = some (.int .i64 o.m.op.ref.time) ∧ W.cell? ⟨g, 9, none⟩ = some (.int .i64 o.m.op.ref.site) ∧ W.cell? ⟨g, 10, none⟩ = some (.int .i64 o.m.op.rune) ∧ W.cell? ⟨g, 11, none⟩ = some o.v ∧ W.cell? ⟨g, 12, none⟩ = some (.int .i64 o.a) ∧ W.cell? ⟨g, 13, none⟩ = some (.int .i64 o.b) :=
  ⟨⟨h.cell 1 (by simp [ROp.cells]), h.cell 2 (by simp [ROp.cells]), h.cell 3 (by simp [ROp.cells])⟩, h.cell 4 (by simp [ROp.cells]), h.cell 5 (by simp [ROp.cells]), h.cell 6 (by simp [ROp.cells]), h.cell 7 (by simp [ROp.cells]), h.cell 8 (by simp [ROp.cells]), h.cell 9 (by simp [ROp.cells]), h.cell 10 (by simp [ROp.cells]), h.cell 11 (by simp [ROp.cells]), h.cell 12 (by simp [ROp.cells]), h.cell 13 (by simp [ROp.cells])⟩

set_option maxRecDepth 100000 in
set_option maxHeartbeats 8000000 in
theorem walk_ResendNil (o : ROp) (w : World) (ho : o.ok w) :
    Calls Try.prog 10 #[.agg o.cells.toArray] w fun e w' => e = .returned (.bool true) ∧ Below w.heap.size w w' := by
  obtain ⟨⟨hu, hm⟩, ⟨hv, hm2⟩, ha, hb⟩ := ho
  have HU := Lib.hid hu
  have HV := Lib.hid hv
  obtain ⟨dv, m, u, v, vs, a, b⟩ := o
  simp only at hu hv hm hm2 HU HV ⊢
  obtain ⟨ua, uc, rfl⟩ := hu.shape
  obtain ⟨va, vc, rfl⟩ := hv.shape
  unfold maxLen at hm hm2
  clear hu hv ha hb
  have HB := Lib.hid (grew_alloc w (.cells (ROp.cells ⟨dv, m, .slice ua m.know.length uc, .slice va vs.length vc, vs, a, b⟩).toArray 66))
  have HX := Lib.hid (Holds.new w (ROp.cells ⟨dv, m, .slice ua m.know.length uc, .slice va vs.length vc, vs, a, b⟩) 66)
  unfold ROp.cells
  simp only
  by_cases h1 : 30 < m.know.length
  · have d1 : decide ((30 : Int) < (m.know.length : Int)) = true := decide_eq_true (by omega)
    clear h1
    go_enter Try.func10, Try.ntmps10
    go_wp2_with fail
    refine (law08_live _).mono ?_
    rintro e w3 ⟨rfl, hb3⟩
    go_wp2
    go_ret
    exact ⟨rfl, grew HB.out hb3⟩
  · have d1 : decide ((30 : Int) < (m.know.length : Int)) = false := decide_eq_false (by omega)
    by_cases h2 : 30 < vs.length
    · have d2 : decide ((30 : Int) < (vs.length : Int)) = true := decide_eq_true (by omega)
      clear h1 h2
      go_enter Try.func10, Try.ntmps10
      go_wp2_with fail
      refine (law08_live _).mono ?_
      rintro e w3 ⟨rfl, hb3⟩
      go_wp2
      go_ret
      exact ⟨rfl, grew HB.out hb3⟩
    · have d2 : decide ((30 : Int) < (vs.length : Int)) = false := decide_eq_false (by omega)
      clear h1 h2
      go_enter Try.func10, Try.ntmps10
      go_wp2_with fail
      refine (resend_New_no 0 5 _ (by decide)).mono ?_
      rintro e _ ⟨rfl, rfl⟩
      unfold ROp.cells at HB HX
      simp only at HB HX
      generalize (w.alloc (.cells _ 66)) = W1 at *
      obtain ⟨⟨l1, l2, l3⟩, l4, l5, l6, l7, l8, l9, l10, l11, l12, l13⟩ := rop_cells (o := ⟨dv, m, .slice ua m.know.length uc, .slice va vs.length vc, vs, a, b⟩) HX.out
      simp only at l1 l2 l3 l4 l5 l6 l7 l8 l9 l10 l11 l12 l13
      go_wp2_with fail
      refine (resend_Get_nil a b _).mono ?_
      rintro e w2 ⟨rfl, hb2⟩
      simp only [msgV, Mesg.none, Mesg.noOp, Mesg.zero]
      have hb3 := grew hb2 (grew_alloc w2 (.cells #[.int .i64 0, .int .i64 0, .slice none 0 0, .int .i64 0, .int .i64 0, .int .i64 0, .int .i64 0, .int .i64 0, .int .i64 0, .int .i64 0] 40))
      have HX := Lib.hid (HX.out.keep (Keep.of_grew hb3 Non) (fun h => h))
      have HB := Lib.hid (grew HB.out hb3)
      clear hb2 hb3 l1 l2 l3 l4 l5 l6 l7 l8 l9 l10 l11 l12 l13
      obtain ⟨⟨l1, l2, l3⟩, l4, l5, l6, l7, l8, l9, l10, l11, l12, l13⟩ := rop_cells (o := ⟨dv, m, .slice ua m.know.length uc, .slice va vs.length vc, vs, a, b⟩) HX.out
      simp only at l1 l2 l3 l4 l5 l6 l7 l8 l9 l10 l11 l12 l13
      go_wp2_with fail
      refine (resend_Drop_nil _ _).mono ?_
      rintro e _ ⟨rfl, rfl⟩
      go_wp2_with fail
      refine (resend_Keep_nil m (.slice ua m.know.length uc) _ (HU.out.below HB.out)).mono ?_
      rintro e w4 ⟨rfl, hb4⟩
      have HB := Lib.hid (grew HB.out hb4)
      clear hb4 l1 l2 l3 l4 l5 l6 l7 l8 l9 l10 l11 l12 l13
      go_wp2_with fail
      refine (resend_Len_nil _).mono ?_
      rintro e _ ⟨rfl, rfl⟩
      go_wp2_with fail
      refine (law08_live _).mono ?_
      rintro e w5 ⟨rfl, hb5⟩
      go_wp2
      go_ret
      exact ⟨rfl, grew HB.out hb5⟩
end Go.Proofs.Ytkpiiagogdhalaa
