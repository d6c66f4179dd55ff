/- Ints, and pairs of them as keys of a map. -/
import Derived.Test.YtakjoodlediemaaKeep
import Derived.DeepKeys4
import Derived.Maps.OwnSet
import Derived.Maps.RangeWalk
namespace Go.Proofs.Ytakjoodlediemaa
open Go.RowKit Go.Maps
set_option linter.unusedVariables false

theorem laidOut0 : laidOutB Try.prog = true := by kernel_rfl

/-- A number that an int may be. -/
def I64 (a : Int) : Prop := -9223372036854775808 ≤ a ∧ a ≤ 9223372036854775807
theorem I64.wf {a : Int} (h : I64 a) : (Lit.int .i64 a).wf = true := WalkArith.wf_i64 h
theorem I64.of_wf {a : Int} (h : (Lit.int .i64 a).wf = true) : I64 a := by
  simp [Lit.wf, IntKind.min, IntKind.max, IntKind.signed, IntKind.bits] at h
  unfold I64
  omega

/-- What a site and a Seq are told as among the keys. -/
def kl (a b : Int) : Lit := .string (keyBytes [.int .i64 a, .int .i64 b])
def keyV (p : Int × Int) : Value := .agg #[.int .i64 p.1, .int .i64 p.2]

/-- What is asked of the type of the keys. -/
structure PairKey (k : TypeId) : Prop where
  keyed : Keyed Try.prog k
  make : ∀ a b, I64 a → I64 b → keyOf Try.prog k (keyV (a, b)) = some (kl a b)
  inv : ∀ v l, keyOf Try.prog k v = some l → ∃ a b, v = keyV (a, b) ∧ I64 a ∧ I64 b

theorem PairKey.inj {k : TypeId} (K : PairKey k) {a b c d : Int} (ha : I64 a) (hb : I64 b) (hc : I64 c) (hd : I64 d) (h : kl a b = kl c d) : a = c ∧ b = d := by
  have := K.keyed.inj (K.make a b ha hb) (by rw [h]; exact K.make c d hc hd)
  simp [keyV] at this
  exact this
theorem PairKey.is {k : TypeId} (K : PairKey k) {a b : Int} (ha : I64 a) (hb : I64 b) : WideAt.IsKeyLit (kl a b) := K.keyed.key (K.make a b ha hb)

set_option maxRecDepth 100000 in
theorem pair_key {k : TypeId} {fs : Array Field} (hu : Try.prog.underlying k = some (.struct fs)) (hkt : Try.prog.keyType k = true) (hc : Try.prog.cellsOf k = 2) (hk : Keyed Try.prog k)
    (hn : fs.all (·.name != "_") = true) (hf : fs.toList.map (fun f => (f.type, f.offset)) = [(3, 0), (3, 1)]) : PairKey k := by
  have hc3 : Try.prog.cellsOf 3 = 1 := by kernel_rfl
  obtain ⟨f0, f1, hfs⟩ : ∃ f0 f1, fs.toList = [f0, f1] := by
    match hfs : fs.toList with
    | [] => rw [hfs] at hf; simp at hf
    | [_] => rw [hfs] at hf; simp at hf
    | [f0, f1] => exact ⟨f0, f1, rfl⟩
    | _ :: _ :: _ :: _ => rw [hfs] at hf; simp at hf
  rw [hfs] at hf
  simp at hf
  obtain ⟨⟨t0, o0⟩, t1, o1⟩ := hf
  obtain ⟨n, hn1⟩ : ∃ n, Try.prog.types.size = n + 1 := ⟨Try.prog.types.size - 1, by have : 0 < Try.prog.types.size := of_decide_eq_true (by kernel_rfl); omega⟩
  refine ⟨hk, fun a b ha hb => ?_, fun v l h => ?_⟩
  · have hfm : (keyV (a, b)).formed Try.prog k = true := by simp [keyV, Value.formed, hu, hc]
    unfold keyOf
    rw [hu]
    simp only [hkt, hfm, Bool.and_self, if_true]
    rw [hn1]
    have e : Try.prog.keyLits (n + 1 + 1) k (keyV (a, b)).cells.toList = some [.int .i64 a, .int .i64 b] := by
      simp [Program.keyLits, hu, keyV, Try.underlying3, Value.cells, hc, hc3, hfs, t0, o0, t1, o1, hn, ha.wf, hb.wf]
    rw [e]
    rfl
  · unfold keyOf at h
    rw [hu] at h
    simp only [hkt, Bool.true_and] at h
    split at h
    · rename_i hfm
      obtain ⟨cs, rfl, hsz⟩ : ∃ cs : Array Value, v = .agg cs ∧ cs.size = 2 := by
        cases v <;> simp [Value.formed, hu, hc] at hfm
        exact ⟨_, rfl, hfm⟩
      rw [hn1] at h
      obtain ⟨c0, c1, hcs⟩ : ∃ c0 c1, cs.toList = [c0, c1] := by
        have h2 : cs.toList.length = 2 := by simpa using hsz
        match hcs : cs.toList with
        | [] => rw [hcs] at h2; simp at h2
        | [_] => rw [hcs] at h2; simp at h2
        | [c0, c1] => exact ⟨c0, c1, rfl⟩
        | _ :: _ :: _ :: _ => rw [hcs] at h2; simp at h2
      have one : ∀ c x, Try.prog.keyLits (n + 1) 3 [c] = some x → ∃ a, c = .int .i64 a ∧ I64 a := by
        intro c x hx
        unfold Program.keyLits at hx
        have hu3 := Try.underlying3
        generalize Try.prog.underlying 3 = u at hx hu3
        subst hu3
        cases c <;> simp at hx
        obtain ⟨⟨rfl, hw⟩, _⟩ := hx
        exact ⟨_, rfl, I64.of_wf hw⟩
      simp only [Value.cells, hcs] at h
      unfold Program.keyLits at h
      rw [hu] at h
      simp only [hc, hfs, hn, List.length_cons, List.length_nil, and_self, if_true, List.mapM_cons, List.mapM_nil, t0, o0, t1, o1, hc3, List.drop_zero, List.take_succ_cons, List.take_zero, List.drop_succ_cons] at h
      cases h0 : Try.prog.keyLits (n + 1) 3 [c0] with
      | none => simp [h0] at h
      | some x0 =>
        cases h1 : Try.prog.keyLits (n + 1) 3 [c1] with
        | none => simp [h0, h1] at h
        | some x1 =>
          obtain ⟨a, rfl, ha⟩ := one _ _ h0
          obtain ⟨b, rfl, hb⟩ := one _ _ h1
          exact ⟨a, b, by unfold keyV; rw [← hcs], ha, hb⟩
    · cases h
end Go.Proofs.Ytakjoodlediemaa
