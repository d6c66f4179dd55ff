/- The map of what keys do, laid in whatever order. -/
import Derived.Test.YtakjoodlediemaaEdMath
import Derived.Test.YtakjoodlediemaaRegInv
import Derived.Test.YtakjoodlediemaaPairMap
import Derived.Laws.Tables
namespace Go.Proofs.Ytakjoodlediemaa
open Go.RowKit Go.Maps
set_option linter.unusedVariables false

theorem key_row : 33 < Try.prog.types.size := of_decide_eq_true (by kernel_rfl)
theorem key_keyed : Keyed Try.prog 33 := Keyed.of_law (deep_law_laid laidOut0 (m := 2) (by omega) key_row (by kernel_rfl) (by rw [Try.underlying33]))
theorem key_key : PairKey 33 := pair_key Try.underlying33 (by kernel_rfl) (by kernel_rfl) key_keyed (by kernel_rfl) (by kernel_rfl)

/-- The method that a deed is. -/
def Ed.Deed.fn : Ed.Deed → Nat
  | .typeRune => 33 | .toBegin => 34 | .toEnd => 35 | .oneBack => 36 | .oneOn => 37
  | .wordBack => 38 | .wordOn => 39 | .cutAhead => 40 | .cutHere => 41 | .killToEnd => 42
  | .killToBegin => 43 | .killWordBack => 44 | .killWordOn => 45 | .yank => 46 | .swap => 47
theorem Ed.Deed.fn_inj : ∀ a b : Ed.Deed, a.fn = b.fn → a = b := by
  intro a b
  cases a <;> cases b <;> first | (intro _; rfl) | (intro h; exact absurd h (by decide))

def fnV : Option Ed.Deed → Value
  | none => .nilFunc
  | some d => .func (.func d.fn) #[] #[]
def FnC : Coded (Option Ed.Deed) where
  enc := fnV
  code := fun x => match x with | none => [] | some d => [(d.fn : Int)]
  enc_inj := fun x y h => by
    cases x <;> cases y <;> simp [fnV] at h ⊢
    exact Ed.Deed.fn_inj _ _ h
  code_inj := fun x y h => by
    cases x <;> cases y <;> simp at h ⊢
    exact Ed.Deed.fn_inj _ _ (by exact_mod_cast h)

def Ed.entries : List ((Int × Int) × Option Ed.Deed) := Ed.doings.map fun x => (x.1, some x.2)

/-- The operations that lay the map. -/
noncomputable def doingOps : Array Oper := match Try.f21.body with
  | some (.seq _ (.seq (.region _ ops _) _)) => ops
  | _ => #[]
theorem doingOps_size : doingOps.size = 45 := by kernel_rfl

theorem wpOp_value {P : Program} {ops : Array Oper} {Q : Exit → Go.Act → World → Prop} {i : Nat} {o : Oper} {K : Go.Act → World → Prop} {a : Go.Act} {w w' : World} {v : Value} (ho : ops[i]? = some o) (hg : o.guard = none)
    (hr : (execOp a.eval o).run P w = .ok (.value v) w') (hK : K (a.put o.dst v) w') : wpOp P ops Q i K a w := by
  unfold wpOp
  rw [ho]
  simp only [Region.wanted, hg, if_true]
  refine .inl ?_
  unfold Oper.wp
  rw [hr]
  exact hK
theorem wpOp_done {P : Program} {ops : Array Oper} {Q : Exit → Go.Act → World → Prop} {i : Nat} {o : Oper} {K : Go.Act → World → Prop} {a : Go.Act} {w w' : World} (ho : ops[i]? = some o) (hg : o.guard = none) (hd : o.dst = none)
    (hr : (execOp a.eval o).run P w = .ok .skip w') (hK : K a w') : wpOp P ops Q i K a w := by
  unfold wpOp
  rw [ho]
  simp only [Region.wanted, hg, if_true]
  refine .inl ?_
  unfold Oper.wp
  rw [hr]
  simp only [Oper.upon, hd]
  exact hK

def keyParts (k : Int × Int) : Array (Nat × Operand) := if k.2 = 0 then #[(0, .const (.int .i64 k.1))] else #[(0, .const (.int .i64 k.1)), (1, .const (.int .i64 k.2))]
theorem run_key (k : Int × Int) (ev : Operand → Value) (hev : ∀ v, ev (.const v) = v) (w : World) : (Instr.build 33 ((keyParts k).map fun (i, x) => (i, ev x))).run Try.prog w = .ok (keyV k) w := by
  obtain ⟨k1, k2⟩ := k
  unfold keyParts keyV
  by_cases h : k2 = 0
  · subst h
    simp only [if_true, List.map_toArray, List.map_cons, List.map_nil, hev]
    exact run_build w _ _ _ (by rfl)
  · simp only [h, if_false, List.map_toArray, List.map_cons, List.map_nil, hev]
    exact run_build w _ _ _ (by rfl)

theorem op_make : ∃ o, doingOps[0]? = some o ∧ o.guard = none ∧ o.dst = some 1 ∧ o.op = .makeMap 57 none := ⟨_, rfl, rfl, rfl, rfl⟩
theorem op_build (j : Nat) (h : j < 21) : ∃ o, doingOps[2 * j + 1]? = some o ∧ o.guard = none ∧ o.dst = some (j + 2) ∧ o.op = .build 33 (keyParts (Ed.entries[j]'h).1) := by
  rcases (by omega : j = 0 ∨ j = 1 ∨ j = 2 ∨ j = 3 ∨ j = 4 ∨ j = 5 ∨ j = 6 ∨ j = 7 ∨ j = 8 ∨ j = 9 ∨ j = 10 ∨ j = 11 ∨ j = 12 ∨ j = 13 ∨ j = 14 ∨ j = 15 ∨ j = 16 ∨ j = 17 ∨ j = 18 ∨ j = 19 ∨ j = 20) with rfl | rfl | rfl | rfl | rfl | rfl | rfl | rfl | rfl | rfl | rfl | rfl | rfl | rfl | rfl | rfl | rfl | rfl | rfl | rfl | rfl <;> exact ⟨_, rfl, rfl, rfl, rfl⟩
theorem op_insert (j : Nat) (h : j < 21) : ∃ o d, doingOps[2 * j + 2]? = some o ∧ o.guard = none ∧ o.dst = none ∧ (Ed.entries[j]'h).2 = some d ∧ o.op = .insert 57 (.tmp 1) (.tmp (j + 2)) (.func d.fn) := by
  rcases (by omega : j = 0 ∨ j = 1 ∨ j = 2 ∨ j = 3 ∨ j = 4 ∨ j = 5 ∨ j = 6 ∨ j = 7 ∨ j = 8 ∨ j = 9 ∨ j = 10 ∨ j = 11 ∨ j = 12 ∨ j = 13 ∨ j = 14 ∨ j = 15 ∨ j = 16 ∨ j = 17 ∨ j = 18 ∨ j = 19 ∨ j = 20) with rfl | rfl | rfl | rfl | rfl | rfl | rfl | rfl | rfl | rfl | rfl | rfl | rfl | rfl | rfl | rfl | rfl | rfl | rfl | rfl | rfl <;> exact ⟨_, _, rfl, rfl, rfl, rfl, rfl⟩
theorem op_move : ∃ o, doingOps[43]? = some o ∧ o.guard = none ∧ o.dst = some 23 ∧ o.op = .move (.tmp 1) := ⟨_, rfl, rfl, rfl, rfl⟩
theorem op_assign : ∃ o, doingOps[44]? = some o ∧ o.guard = none ∧ o.dst = some 0 ∧ o.op = .assign (.tmp 23) := ⟨_, rfl, rfl, rfl, rfl⟩
/-- What each waits for. -/
theorem ops_back : ∀ (i : Nat) (o : Oper), doingOps[i]? = some o → ∀ e ∈ o.after, e.on < i := by
  have h : (doingOps.toList.zipIdx.all fun x => x.1.after.all fun e => decide (e.on < x.2)) = true := by kernel_rfl
  intro i o ho e he
  rw [List.all_eq_true] at h
  have := h (o, i) (List.mem_zipIdx_iff_getElem?.2 (by simpa using ho))
  rw [Array.all_eq_true'] at this
  exact of_decide_eq_true (this e he)
theorem ops_after (i j : Nat) (h : ((doingOps[i]?).map fun o => o.after.any fun e => e.on == j && Region.binds .any e) = some true) {l : Array Bool} (ha : ∀ o : Oper, doingOps[i]? = some o → ∀ e ∈ o.after, Region.binds .any e = true → l[e.on]? = some true) : l[j]? = some true := by
  cases ho : doingOps[i]? with
  | none => rw [ho] at h; cases h
  | some o =>
    rw [ho] at h
    simp only [Option.map_some, Option.some.injEq] at h
    obtain ⟨e, he, hb⟩ := Array.any_eq_true'.1 h
    simp only [Bool.and_eq_true, beq_iff_eq] at hb
    have := ha o ho e he hb.2
    rwa [hb.1] at this
end Go.Proofs.Ytakjoodlediemaa
