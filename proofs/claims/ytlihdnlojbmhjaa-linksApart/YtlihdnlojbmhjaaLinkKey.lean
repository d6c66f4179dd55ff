/- The keys of a network's map, and slices.Delete at its texts: what the library knows of them, at this seat's numbers. -/
import Derived.Test.YtlihdnlojbmhjaaKeep
import Derived.DeepKeys4
import Derived.Maps.OwnSet
import Derived.Shelf.SlicesE.Delete
namespace Go.Proofs.Ytlihdnlojbmhjaa
open Go.RowKit Go.Maps Go.Shelf
set_option linter.unusedVariables false

theorem laidOut : laidOutB Try.prog = true := by kernel_rfl
theorem link_row : 54 < Try.prog.types.size := of_decide_eq_true (by kernel_rfl)
theorem link_wide : (match Try.prog.underlying 54 with | some (.array _ _) | some (.struct _) => true | _ => false) = true := by rw [Try.underlying54]
theorem link_keyed : Keyed Try.prog 54 := Keyed.of_law (deep_law_laid laidOut (m := 2) (by omega) link_row (by kernel_rfl) link_wide)

/-- What a link is told as among the keys. -/
def kl (a b : Int) : Lit := .string (keyBytes [.int .i64 a, .int .i64 b])
/-- A number that an int may be. -/
def I64 (a : Int) : Prop := -9223372036854775808 ≤ a ∧ a ≤ 9223372036854775807
theorem I64.wf {a : Int} (h : I64 a) : (Lit.int .i64 a).wf = true := WalkArith.wf_i64 h

theorem link_key {a b : Int} (ha : I64 a) (hb : I64 b) : keyOf Try.prog 54 (.agg #[.int .i64 a, .int .i64 b]) = some (kl a b) := by
  have hk : Try.prog.keyType 54 = true := by kernel_rfl
  have hc : Try.prog.cellsOf 54 = 2 := by kernel_rfl
  have hc3 : Try.prog.cellsOf 3 = 1 := by kernel_rfl
  obtain ⟨n, hn⟩ : ∃ n, Try.prog.types.size = n + 1 := ⟨Try.prog.types.size - 1, by have := link_row; omega⟩
  have hf : (Value.agg #[.int .i64 a, .int .i64 b]).formed Try.prog 54 = true := by simp [Value.formed, Try.underlying54, hc]
  unfold keyOf
  rw [Try.underlying54]
  simp only [hk, hf, Bool.and_self, if_true]
  rw [hn]
  have e : Try.prog.keyLits (n + 1 + 1) 54 (Value.agg #[.int .i64 a, .int .i64 b]).cells.toList = some [.int .i64 a, .int .i64 b] := by
    simp [Program.keyLits, Try.underlying54, Try.underlying3, Value.cells, hc, hc3, List.range, List.range.loop, ha.wf, hb.wf]
  rw [e]
  rfl
theorem kl_inj {a b c d : Int} (ha : I64 a) (hb : I64 b) (hc : I64 c) (hd : I64 d) (h : kl a b = kl c d) : a = c ∧ b = d := by
  have := link_keyed.inj (link_key ha hb) (by rw [h]; exact link_key hc hd)
  simp at this
  exact this

/-- A pointer to a bag, as an element of the map. -/
def ptrElem : Value → Option (DataW Unit × List MemPlace)
  | .pointer none => some (.lit (.int .i64 (-1)), [])
  | .pointer (some ⟨b, 0, none⟩) => some (.lit (.int .i64 (b : Int)), [])
  | _ => none
theorem ptrElem_some (b : Nat) : ptrElem (.pointer (some ⟨b, 0, none⟩)) = some (.lit (.int .i64 (b : Int)), []) := rfl
theorem ptrElem_inv {v : Value} {z : Int} {ps : List MemPlace} (h : ptrElem v = some (.lit (.int .i64 z), ps)) : (z = -1 ∧ v = .pointer none) ∨ ∃ b : Nat, z = b ∧ v = .pointer (some ⟨b, 0, none⟩) := by
  unfold ptrElem at h
  split at h
  · simp at h; exact .inl ⟨h.1.symm, rfl⟩
  · simp at h; exact .inr ⟨_, h.1.symm, rfl⟩
  · cases h

/-- A slice's value, taken apart. -/
structure SV where
  a : Option Addr
  n : Nat
  c : Nat
instance : Inhabited SV := ⟨⟨none, 0, 0⟩⟩
def SV.enc (x : SV) : Value := .slice x.a x.n x.c

def delRen : Go.Shelf.Ren := ⟨fun | 45 => 27 | n => n, fun | 0 => 0 | 3 => 3 | 4 => 4 | 22 => 50 | 23 => 61 | n => n, fun | n => n⟩
theorem delLays : Go.Proofs.SlLaysE.n45 Try.prog delRen := {
  mixed := by kernel_rfl
  f45 := Exists.intro (w := "slices.Delete[[][]byte,[]byte]") ⟨by decide, Try.func27.trans (congrArg some (by kernel_rfl))⟩
  t0 := Try.underlying0
  a0 := Try.isAgg0
  z0 := Try.sizeOf0
  v0 := Try.zeroValue0
  t3 := Try.underlying3
  a3 := Try.isAgg3
  z3 := Try.sizeOf3
  v3 := Try.zeroValue3
  t4 := Try.underlying4
  a4 := Try.isAgg4
  z4 := Try.sizeOf4
  v4 := Try.zeroValue4
  t22 := Try.underlying50
  a22 := Try.isAgg50
  z22 := Try.sizeOf50
  v22 := Try.zeroValue50
  a23 := Try.isAgg61
  z23 := Try.sizeOf61 }
end Go.Proofs.Ytlihdnlojbmhjaa
