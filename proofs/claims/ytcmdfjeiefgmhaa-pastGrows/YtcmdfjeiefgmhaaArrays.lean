/- Arrays that lie in a struct: loaded whole, indexed. -/
import Derived.Test.YtcmdfjeiefgmhaaKeep
import Derived.Laws.Rows
namespace Go.Proofs.Ytcmdfjeiefgmhaa
open Go.RowKit
set_option linter.unusedVariables false

theorem run_loadVar_at {P : Program} (w : World) (g off : Nat) (ty : TypeId) (cs : List Value) (d : TypeDesc) (hc : ∀ j v, cs[j]? = some v → w.cell? ⟨g, off + j, none⟩ = some v)
    (hu : P.underlying ty = some d) (hd : (match d with | .struct _ | .array _ _ => true | _ => false) = true) (hi : (P.info? ty).map (·.size) = some cs.length) :
    (loadVar ty ⟨g, off, none⟩).run P w = .ok (.agg cs.toArray) w := by
  have hl : (loadCells ⟨g, off, none⟩ cs.length).run P w = .ok cs.toArray w :=
    run_loadCells_list (P := P) w ⟨g, off, none⟩ cs (fun j v hv => by
      have hadd : (⟨g, off, none⟩ : Addr).add j = ⟨g, off + j, none⟩ := by unfold Addr.add; split <;> simp_all
      rw [hadd]
      exact hc j v hv)
  cases hq : P.info? ty with
  | none => simp [hq] at hi
  | some i =>
    have hs : i.size = cs.length := by simpa [hq] using hi
    have hagg : (isAgg ty).run P w = .ok true w := by
      unfold isAgg
      rw [Sem.run_bind, run_underlying hu w]
      cases d <;> simp_all
    simp [loadVar, Sem.run_bind, hagg, sizeOf, typeInfo, hq, hs, hl]
theorem wpList_load_at {P : Program} {ops : Array Oper} {rest : List Oper} {o : Oper} {a : Act} {w : World} {Q : Exit → Act → World → Prop} (hgd : o.guard = none) (ty : TypeId) (x : Operand) (ho : o.op = .load ty x)
    (g off : Nat) (hx : a.eval x = .pointer (some ⟨g, off, none⟩)) (cs : List Value) (d : TypeDesc) (hc : ∀ j v, cs[j]? = some v → w.cell? ⟨g, off + j, none⟩ = some v)
    (hu : P.underlying ty = some d) (hd : (match d with | .struct _ | .array _ _ => true | _ => false) = true) (hi : (P.info? ty).map (·.size) = some cs.length)
    (h : wpList P ops Q rest (a.put o.dst (.agg cs.toArray)) w) : wpList P ops Q (o :: rest) a w := by
  refine wpList_plain hgd fun K hK => ?_
  unfold Oper.wp execOp
  simp only [ho, hx, Instr.loadAt, Instr.sureAddr, Sem.run_bind, Sem.run_pure, Result.andThen_ok, run_loadVar_at w g off ty cs d hc hu hd hi]
  exact hK _ _ h
/-- 'a[i]' of an array of structs. -/
theorem run_index_aggs {P : Program} {T e : TypeId} {n size : Nat} {d : TypeDesc} (hT : P.underlying T = some (.array n e)) (hu : P.underlying e = some d) (hd : (match d with | .struct _ | .array _ _ => true | _ => false) = true) (hi : (P.info? e).map (·.size) = some size)
    {cs : Array Value} {i : Nat} (hin : i < n) (xs : Array Value) (hx : cs.extract (i * size) (i * size + size) = xs) (w : World) : (Instr.index T (.agg cs) (.int .i64 (i : Int))).run P w = .ok (.agg xs) w := by
  cases hq : P.info? e with
  | none => simp [hq] at hi
  | some i0 =>
    have hs : i0.size = size := by simpa [hq] using hi
    have hagg : (isAgg e).run P w = .ok true w := by
      unfold isAgg
      rw [Sem.run_bind, run_underlying hu w]
      cases d <;> simp_all
    have hii : (0 : Int) ≤ (i : Int) ∧ (i : Int) < (n : Int) := by omega
    subst hx
    simp [Instr.index, asIntOf, run_underlying hT, sizeOf, typeInfo, hq, hs, part, hagg, Sem.run_bind, hin]
/-- 'a[i]' of an array of things of one cell. -/
theorem run_index_cells {P : Program} {T e : TypeId} {n : Nat} {d : TypeDesc} (hT : P.underlying T = some (.array n e)) (hu : P.underlying e = some d) (hd : (match d with | .struct _ | .array _ _ => true | _ => false) = false) (hi : (P.info? e).map (·.size) = some 1)
    {cs : Array Value} {i : Nat} (hin : i < n) (x : Value) (hx : cs[i]? = some x) (w : World) : (Instr.index T (.agg cs) (.int .i64 (i : Int))).run P w = .ok x w := by
  cases hq : P.info? e with
  | none => simp [hq] at hi
  | some i0 =>
    have hs : i0.size = 1 := by simpa [hq] using hi
    have hagg : (isAgg e).run P w = .ok false w := by
      unfold isAgg
      rw [Sem.run_bind, run_underlying hu w]
      cases d <;> simp_all
    simp [Instr.index, asIntOf, run_underlying hT, sizeOf, typeInfo, hq, hs, part, hagg, Sem.run_bind, hin, hx]
theorem Holds.off {w : World} {p g : Nat} {cs ds : List Value} {s t : TypeId} (h : Holds w p cs s) (k : Holds w g ds t) (hst : s ≠ t) : p ≠ g := fun e => by
  have h1 : w.heap[p]? = some _ := h
  have h2 : w.heap[g]? = some _ := k
  rw [e, h2] at h1
  have h3 := Option.some.inj h1
  injection h3 with _ h4
  exact hst h4.symm
end Go.Proofs.Ytcmdfjeiefgmhaa
