/- A network that is none; the walk of LinksNil. -/
import Derived.Test.YtlihdnlojbmhjaaLinkLive
import Derived.Lib.SmallJoins
import Derived.ChangeSlices
import Derived.OpenShut
namespace Go.Proofs.Ytlihdnlojbmhjaa
open Go.ChangeShapes Go.WideShapes Go.ChangeAt Go.RowKit Go.Joins Go.Deep
set_option linter.unusedVariables false

theorem nil_Send (a b : Int) (s : ByteArray) (w : World) : Calls Try.prog 11 #[.pointer none, .int .i64 a, .int .i64 b, .string s] w fun e w' => e = .returned (.int .i64 1) ∧ w = w' := by
  go_enter Try.func11, Try.ntmps11
  go_wp2_with fail
  refine (net_bag_nil a b _).mono ?_
  rintro e _ ⟨rfl, rfl⟩
  go_wp2
  go_ret
  exact ⟨rfl, rfl⟩
theorem nil_Cast (a : Int) (s : ByteArray) (w : World) : Calls Try.prog 13 #[.pointer none, .int .i64 a, .string s] w fun e w' => e = .returned (.int .i64 0) ∧ w = w' := by
  go_enter Try.func13, Try.ntmps13
  go_wp2
  go_ret
  exact ⟨rfl, rfl⟩
theorem nil_Take (a b i : Int) (w : World) : Calls Try.prog 15 #[.pointer none, .int .i64 a, .int .i64 b, .int .i64 i] w fun e w' => e = .returned (.tuple #[.string ⟨#[]⟩, .bool false]) ∧ w = w' := by
  go_enter Try.func15, Try.ntmps15
  go_wp2_with fail
  refine (net_bag_nil a b _).mono ?_
  rintro e _ ⟨rfl, rfl⟩
  go_wp2_with fail
  refine (bag_has_nil _ _).mono ?_
  rintro e _ ⟨rfl, rfl⟩
  go_wp2
  go_ret2
  exact ⟨rfl, rfl⟩
theorem nil_Double (a b i : Int) (w : World) : Calls Try.prog 17 #[.pointer none, .int .i64 a, .int .i64 b, .int .i64 i] w fun e w' => e = .returned (.int .i64 1) ∧ w = w' := by
  go_enter Try.func17, Try.ntmps17
  go_wp2_with fail
  refine (net_bag_nil a b _).mono ?_
  rintro e _ ⟨rfl, rfl⟩
  go_wp2
  go_ret
  exact ⟨rfl, rfl⟩
theorem nil_Turn (a b i k c : Int) (w : World) : Calls Try.prog 19 #[.pointer none, .int .i64 a, .int .i64 b, .int .i64 i, .int .i64 k, .int .u8 c] w fun e w' => e = .returned (.bool false) ∧ w = w' := by
  go_enter Try.func19, Try.ntmps19
  go_wp2_with fail
  refine (net_bag_nil a b _).mono ?_
  rintro e _ ⟨rfl, rfl⟩
  go_wp2_with fail
  refine (bag_has_nil _ _).mono ?_
  rintro e _ ⟨rfl, rfl⟩
  go_wp2
  go_ret
  exact ⟨rfl, rfl⟩
theorem nil_Len (a b : Int) (w : World) : Calls Try.prog 21 #[.pointer none, .int .i64 a, .int .i64 b] w fun e w' => e = .returned (.int .i64 0) ∧ w = w' := by
  go_enter Try.func21, Try.ntmps21
  go_wp2_with fail
  refine (net_bag_nil a b _).mono ?_
  rintro e _ ⟨rfl, rfl⟩
  go_wp2
  go_ret
  exact ⟨rfl, rfl⟩

/-- A call of a script. -/
structure LOp where
  do_ : Int
  from_ : Int
  to_ : Int
  s : ByteArray
  i : Int
  at_ : Int
  by_ : Int
def LOp.cells (o : LOp) : List Value := [.int .i64 o.do_, .int .i64 o.from_, .int .i64 o.to_, .string o.s, .int .i64 o.i, .int .i64 o.at_, .int .u8 o.by_]
def LOp.ok (o : LOp) : Prop := I64 o.from_ ∧ I64 o.to_ ∧ o.s.size ≤ maxLen ∧ (Lit.int .u8 o.by_).wf = true
def IsLOp (v : Value) (o : LOp) : Prop := v = .agg o.cells.toArray ∧ o.ok

section
variable {H : Type} {enc : TypeId × Value → H} {W : World} {sp : Nat → Bool} {n : Nat}
theorem trod_num5 {c : Value} {l : List Value} {y : DataW H × List MemPlace} (h : DataW.trod enc Try.prog W 0 sp true n 3 l = some y) (hl : l = [c]) : ∃ x : Int, c = .int .i64 x ∧ I64 x := by
  subst hl
  obtain ⟨x, e, _, hw⟩ := DataW.trod_int Try.underlying3 h
  simp at e
  exact ⟨x, e, bounds_i64 hw⟩
theorem trod_byte5 {c : Value} {l : List Value} {y : DataW H × List MemPlace} (h : DataW.trod enc Try.prog W 0 sp true n 5 l = some y) (hl : l = [c]) : ∃ x : Int, c = .int .u8 x ∧ (Lit.int .u8 x).wf = true := by
  subst hl
  obtain ⟨x, e, _, hw⟩ := DataW.trod_int Try.underlying5 h
  simp at e
  exact ⟨x, e, hw⟩
theorem trod_str5 {c : Value} {l : List Value} {y : DataW H × List MemPlace} (h : DataW.trod enc Try.prog W 0 sp true n 9 l = some y) (hl : l = [c]) : ∃ x : ByteArray, c = .string x ∧ x.size ≤ maxLen := by
  subst hl
  obtain ⟨x, e, _, hw⟩ := DataW.trod_string Try.underlying9 h
  simp at e
  exact ⟨x, e, hw⟩
theorem trod_lop {cs : List Value} {y : DataW H × List MemPlace} (h : DataW.trod enc Try.prog W 0 sp true n 31 cs = some y) (hl : cs.length = 7) : ∃ o : LOp, cs = o.cells ∧ o.ok := by
  have hI : Try.prog.cellsOf 3 = 1 := by kernel_rfl
  have hS : Try.prog.cellsOf 9 = 1 := by kernel_rfl
  have hU : Try.prog.cellsOf 5 = 1 := by kernel_rfl
  obtain ⟨xs, m, _, _, _, hlen, hf⟩ := DataW.trod_struct Try.underlying31 h
  match cs, hl with
  | [c0, c1, c2, c3, c4, c5, c6], _ =>
  match xs, hlen with
  | [y0, y1, y2, y3, y4, y5, y6], _ =>
    have h0 := hf 0 _ rfl
    have h1 := hf 1 _ rfl
    have h2 := hf 2 _ rfl
    have h3 := hf 3 _ rfl
    have h4 := hf 4 _ rfl
    have h5 := hf 5 _ rfl
    have h6 := hf 6 _ rfl
    obtain ⟨x0, rfl, _⟩ := trod_num5 h0 (c := c0) (by show (List.drop 0 [c0, c1, c2, c3, c4, c5, c6]).take (Try.prog.cellsOf 3) = _; rw [hI]; rfl)
    obtain ⟨x1, rfl, k1⟩ := trod_num5 h1 (c := c1) (by show (List.drop 1 [_, c1, c2, c3, c4, c5, c6]).take (Try.prog.cellsOf 3) = _; rw [hI]; rfl)
    obtain ⟨x2, rfl, k2⟩ := trod_num5 h2 (c := c2) (by show (List.drop 2 [_, _, c2, c3, c4, c5, c6]).take (Try.prog.cellsOf 3) = _; rw [hI]; rfl)
    obtain ⟨x3, rfl, k3⟩ := trod_str5 h3 (c := c3) (by show (List.drop 3 [_, _, _, c3, c4, c5, c6]).take (Try.prog.cellsOf 9) = _; rw [hS]; rfl)
    obtain ⟨x4, rfl, _⟩ := trod_num5 h4 (c := c4) (by show (List.drop 4 [_, _, _, _, c4, c5, c6]).take (Try.prog.cellsOf 3) = _; rw [hI]; rfl)
    obtain ⟨x5, rfl, _⟩ := trod_num5 h5 (c := c5) (by show (List.drop 5 [_, _, _, _, _, c5, c6]).take (Try.prog.cellsOf 3) = _; rw [hI]; rfl)
    obtain ⟨x6, rfl, k6⟩ := trod_byte5 h6 (c := c6) (by show (List.drop 6 [_, _, _, _, _, _, c6]).take (Try.prog.cellsOf 5) = _; rw [hU]; rfl)
    exact ⟨⟨x0, x1, x2, x3, x4, x5, x6⟩, rfl, k1, k2, k3, k6⟩
theorem open_lop {b0 : Nat} {v : Value} {d : DataW H} {p : List MemPlace} (hv : Value.okWide Try.prog W .any b0 31 v) (h : DataW.Trod enc Try.prog W 0 (fun _ => true) true 31 v d p) : ∃ o : LOp, IsLOp v o := by
  have hC : Try.prog.cellsOf 31 = 7 := by kernel_rfl
  obtain ⟨cs, rfl, hsz⟩ := okWide_struct Try.underlying31 hv
  obtain ⟨fuel, hf⟩ := h
  obtain ⟨o, ho, hok⟩ := trod_lop hf (by simpa [Value.cells] using hsz.trans hC)
  refine ⟨o, ?_, hok⟩
  have : cs.toList = o.cells := by simpa [Value.cells] using ho
  rw [← this]
end

set_option maxRecDepth 100000 in
set_option maxHeartbeats 8000000 in
theorem walk_LinksNil (o : LOp) (w : World) (ho : o.ok) :
    Calls Try.prog 4 #[.agg o.cells.toArray] w fun e w' => e = .returned (.bool true) ∧ Below w.heap.size w w' := by
  obtain ⟨dv, fv, tv, sv, iv, av, bv⟩ := o
  have HB := Lib.hid (grew_alloc w (.cells #[.int .i64 dv, .int .i64 fv, .int .i64 tv, .string sv, .int .i64 iv, .int .i64 av, .int .u8 bv] 31))
  have hm := Holds.new w [.int .i64 dv, .int .i64 fv, .int .i64 tv, .string sv, .int .i64 iv, .int .i64 av, .int .u8 bv] 31
  clear ho
  unfold LOp.cells
  simp only
  go_enter Try.func4, Try.ntmps4
  clear hm
  go_wp2_with fail
  refine (net_New_no 0 5 _ (by decide)).mono ?_
  rintro e _ ⟨rfl, rfl⟩
  go_wp2_with fail
  refine (nil_Take _ _ _ _).mono ?_
  rintro e _ ⟨rfl, rfl⟩
  go_wp2_with fail
  refine (nil_Send _ _ _ _).mono ?_
  rintro e _ ⟨rfl, rfl⟩
  go_wp2_with fail
  refine (nil_Cast _ _ _).mono ?_
  rintro e _ ⟨rfl, rfl⟩
  go_wp2_with fail
  refine (nil_Double _ _ _ _).mono ?_
  rintro e _ ⟨rfl, rfl⟩
  go_wp2_with fail
  refine (nil_Turn _ _ _ _ _ _).mono ?_
  rintro e _ ⟨rfl, rfl⟩
  go_wp2_with fail
  refine (nil_Len _ _ _).mono ?_
  rintro e _ ⟨rfl, rfl⟩
  go_wp2_with fail
  refine (law05_live _).mono ?_
  rintro e w2 ⟨rfl, hb⟩
  go_wp2
  go_ret
  exact ⟨rfl, grew HB.out hb⟩
end Go.Proofs.Ytlihdnlojbmhjaa
