/- A case of acts, as it is handed over. -/
import Derived.Test.YtakjoodlediemaaEdLaw
namespace Go.Proofs.Ytakjoodlediemaa
open Go.ChangeShapes Go.WideShapes Go.ChangeAt Go.RowKit Go.Joins Go.Deep
set_option linter.unusedVariables false

section
variable {H : Type} {enc : TypeId × Value → H} {W : World} {n : Nat}
set_option maxRecDepth 100000 in
theorem trod_act {cs : List Value} {y : DataW H × List MemPlace} (h : DataW.trod enc Try.prog W 0 (fun _ => true) true n 69 cs = some y) (hl : cs.length = 3) : ∃ x : EAct, cs = x.cells ∧ True := by
  have hI : Try.prog.cellsOf 3 = 1 := by kernel_rfl
  match cs, hl with
  | [c0, c1, c2], _ =>
    obtain ⟨y0, y1, y2, m, _, _, h0, h1, h2⟩ := trod_struct3 Try.underlying69 h
    obtain ⟨xa, rfl, _⟩ := trod_nume h0 (c := c0) (by show (List.drop 0 [c0, c1, c2]).take (Try.prog.cellsOf 3) = _; rw [hI]; rfl)
    obtain ⟨xb, rfl, _⟩ := trod_nume h1 (c := c1) (by show (List.drop 1 [_, c1, c2]).take (Try.prog.cellsOf 3) = _; rw [hI]; rfl)
    obtain ⟨xc, rfl, _⟩ := trod_nume h2 (c := c2) (by show (List.drop 2 [_, _, c2]).take (Try.prog.cellsOf 3) = _; rw [hI]; rfl)
    exact ⟨⟨xa, xb, xc⟩, rfl, trivial⟩
theorem trod_acts {c : Value} {l : List Value} {y : DataW H × List MemPlace} (h : DataW.trod enc Try.prog W 0 (fun _ => true) true n 35 l = some y) (hl : l = [c]) : ∃ ac, SliceG 3 EAct.cells W c ac ∧ ac.length ≤ maxLen := by
  subst hl
  have hc : ∃ a n k, c = .slice a n k := by
    rcases open_slice Try.underlying35 h with ⟨h0, _⟩ | ⟨b, l, cp, m, n, D, Pl, hcs, _⟩
    · simp at h0
      exact ⟨_, _, _, h0⟩
    · simp at hcs
      exact ⟨_, _, _, hcs⟩
  obtain ⟨a, k, cp, rfl⟩ := hc
  obtain ⟨os, e1, e2, e3, e4⟩ := open_sliceG (k := 3) (c := EAct.cells) (ok := fun _ => True) Try.underlying35 (by kernel_rfl) (by decide) (fun n cs y h hl => trod_act h hl) h
  exact ⟨os, e1, by omega⟩
theorem trod_flag {sp : Nat → Bool} {c : Value} {l : List Value} {y : DataW H × List MemPlace} (h : DataW.trod enc Try.prog W 0 sp true n 4 l = some y) (hl : l = [c]) : ∃ x : Bool, c = .bool x := by
  subst hl
  obtain ⟨x, e, _⟩ := DataW.trod_bool Try.underlying4 h
  simp at e
  exact ⟨x, e⟩
set_option maxRecDepth 100000 in
theorem open_acase {b0 : Nat} {v : Value} {d : DataW H} {p : List MemPlace} (hv : Value.okWide Try.prog W .any b0 43 v) (h : DataW.Trod enc Try.prog W 0 (fun _ => true) true 43 v d p) : ∃ (lv av : Value) (l : List Int) (acs : List EAct) (z : Int) (b : Bool), v = .agg #[lv, av, .int .i64 z, .bool b] ∧ SliceI W lv l ∧ SliceG 3 EAct.cells W av acs ∧ l.length ≤ maxLen ∧ acs.length ≤ maxLen := by
  have hI : Try.prog.cellsOf 3 = 1 := by kernel_rfl
  have hB : Try.prog.cellsOf 4 = 1 := by kernel_rfl
  have hS : Try.prog.cellsOf 22 = 1 := by kernel_rfl
  have hA : Try.prog.cellsOf 35 = 1 := by kernel_rfl
  have hC : Try.prog.cellsOf 43 = 4 := by kernel_rfl
  obtain ⟨cs, rfl, hsz⟩ := okWide_struct Try.underlying43 hv
  obtain ⟨l⟩ := cs
  match l, hsz.trans hC with
  | [c0, c1, c2, c3], _ =>
    obtain ⟨fuel, hf⟩ := h
    obtain ⟨y0, y1, y2, y3, m, _, _, h0, h1, h2, h3⟩ := trod_struct4 Try.underlying43 hf
    obtain ⟨zs, a1, a2, a3⟩ := trod_row h0 (c := c0) (by show (List.drop 0 [c0, c1, c2, c3]).take (Try.prog.cellsOf 22) = _; rw [hS]; rfl)
    obtain ⟨es, k1, k2⟩ := trod_acts h1 (c := c1) (by show (List.drop 1 [c0, c1, c2, c3]).take (Try.prog.cellsOf 35) = _; rw [hA]; rfl)
    obtain ⟨x2, rfl, _⟩ := trod_nume h2 (c := c2) (by show (List.drop 2 [c0, c1, c2, c3]).take (Try.prog.cellsOf 3) = _; rw [hI]; rfl)
    obtain ⟨x3, rfl⟩ := trod_flag h3 (c := c3) (by show (List.drop 3 [c0, c1, _, c3]).take (Try.prog.cellsOf 4) = _; rw [hB]; rfl)
    exact ⟨c0, c1, zs, es, x2, x3, rfl, a1, k1, a2, k2⟩
end
theorem Ed.one_len {l m : List Int} {a : EAct} (h : Ed.one l a = some m) : m.length ≤ l.length + 1 := by
  unfold Ed.one at h
  split at h
  · cases h; simp; omega
  · split at h
    · cases h; simp; omega
    · cases h
theorem Ed.apply_len : ∀ (acs : List EAct) (l : List Int), ((Ed.apply l acs).getD []).length ≤ l.length + acs.length
  | [], l => by simp [Ed.apply]
  | a :: ac, l => by
    unfold Ed.apply
    cases e : Ed.one l a with
    | none => simp
    | some m =>
      have h1 := Ed.one_len e
      have h2 := Ed.apply_len ac m
      simp only [List.length_cons]
      omega
end Go.Proofs.Ytakjoodlediemaa
