/- A case of carets, as it is handed over. -/
import Derived.Test.YtcmdfjeiefgmhaaPaNil
import Derived.Test.YtcmdfjeiefgmhaaMsgsIn
import Derived.Test.YtcmdfjeiefgmhaaIdEq
namespace Go.Proofs.Ytcmdfjeiefgmhaa
open Go.ChangeShapes Go.WideShapes Go.ChangeAt Go.RowKit Go.Joins Go.Deep
set_option linter.unusedVariables false

section
variable {H : Type} {enc : TypeId × Value → H} {W : World} {n : Nat}
/-- A list of messages that lies in a cell. -/
theorem trod_msgs {c : Value} {l : List Value} {y : DataW H × List MemPlace} (h : DataW.trod enc Try.prog W 0 (fun _ => true) true n 22 l = some y) (hl : l = [c]) : ∃ qs, SliceG 10 msgQ W c qs ∧ qs.length ≤ maxLen ∧ ∀ q ∈ qs, okQ W q := by
  subst hl
  have hc : ∃ a n k, c = .slice a n k := by
    rcases open_slice Try.underlying22 h with ⟨h0, _⟩ | ⟨b, l, cp, m, n, D, Pl, hcs, _⟩
    · simp at h0
      exact ⟨_, _, _, h0⟩
    · simp at hcs
      exact ⟨_, _, _, hcs⟩
  obtain ⟨a, k, cp, rfl⟩ := hc
  obtain ⟨os, e1, e2, e3, e4⟩ := open_sliceG (k := 10) (c := msgQ) (ok := fun q => okQ W q) Try.underlying22 (by kernel_rfl) (by decide) (fun n cs y h hl => trod_msgQ h hl) h
  exact ⟨os, e1, by omega, e4⟩
set_option maxRecDepth 100000 in
theorem open_pcase {b0 : Nat} {v : Value} {d : DataW H} {p : List MemPlace} (hv : Value.okWide Try.prog W .any b0 75 v) (h : DataW.Trod enc Try.prog W 0 (fun _ => true) true 75 v d p) : ∃ (s : Int) (u : Value) (qs : List (Mesg.Msg × Value)) (x y : Int), v = .agg #[.int .i64 s, u, .int .i64 x, .int .i64 y] ∧ SliceG 10 msgQ W u qs ∧ qs.length ≤ maxLen ∧ ∀ q ∈ qs, okQ W q := by
  have hI : Try.prog.cellsOf 3 = 1 := by kernel_rfl
  have hS : Try.prog.cellsOf 22 = 1 := by kernel_rfl
  have hC : Try.prog.cellsOf 75 = 4 := by kernel_rfl
  obtain ⟨cs, rfl, hsz⟩ := okWide_struct Try.underlying75 hv
  obtain ⟨l⟩ := cs
  match l, hsz.trans hC with
  | [c0, c1, c2, c3], _ =>
    obtain ⟨fuel, hf⟩ := h
    obtain ⟨y0, y1, y2, y3, m, _, _, h0, h1, h2, h3⟩ := trod_struct4 Try.underlying75 hf
    obtain ⟨x1, rfl⟩ := trod_num h0 (c := c0) (by show (List.drop 0 [c0, c1, c2, c3]).take (Try.prog.cellsOf 3) = _; rw [hI]; rfl)
    obtain ⟨es, k1, k2, k3⟩ := trod_msgs h1 (c := c1) (by show (List.drop 1 [_, c1, c2, c3]).take (Try.prog.cellsOf 22) = _; rw [hS]; rfl)
    obtain ⟨x2, rfl⟩ := trod_num h2 (c := c2) (by show (List.drop 2 [_, c1, c2, c3]).take (Try.prog.cellsOf 3) = _; rw [hI]; rfl)
    obtain ⟨x3, rfl⟩ := trod_num h3 (c := c3) (by show (List.drop 3 [_, c1, _, c3]).take (Try.prog.cellsOf 3) = _; rw [hI]; rfl)
    exact ⟨x1, c1, es, x2, x3, rfl, k1, k2, k3⟩
end
/-- All elements of a slice that is not empty. -/
theorem SliceG.each {α : Type} {k : Nat} {c : α → List Value} {w : World} {a : Option Addr} {cap : Nat} {os : List α} (h : SliceG k c w (.slice a os.length cap) os) (h0 : 0 < os.length) : ∃ b off, a = some ⟨b, off, none⟩ ∧ b < w.heap.size ∧ ∀ i (hi : i < os.length) j u, (c os[i])[j]? = some u → w.cell? ⟨b, off + i * k + j, none⟩ = some u := by
  obtain ⟨a', cap', e, _, h⟩ := h
  injection e with e1 _ _
  subst e1
  rcases h with h | ⟨b, off, rfl, hlt, hc⟩
  · subst h; simp at h0
  · exact ⟨b, off, rfl, hlt, hc⟩
/-- A message in a list: its ten cells, in each later world. -/
theorem msg_ten {w : World} {b o : Nat} {m : Mesg.Msg} {v : Value} (hb : b < w.heap.size) (h : ∀ j u, (msgQ (m, v))[j]? = some u → w.cell? ⟨b, o + j, none⟩ = some u) (W : World) (hW : Below w.heap.size w W) :
    (W.cell? ⟨b, o, none⟩ = some (.int .i64 m.site) ∧ W.cell? ⟨b, o + 1, none⟩ = some (.int .i64 m.seq) ∧ W.cell? ⟨b, o + 2, none⟩ = some v ∧ W.cell? ⟨b, o + 3, none⟩ = some (.int .i64 m.op.kind) ∧ W.cell? ⟨b, o + 4, none⟩ = some (.int .i64 m.op.epoch) ∧ W.cell? ⟨b, o + 5, none⟩ = some (.int .i64 m.op.id.time) ∧ W.cell? ⟨b, o + 6, none⟩ = some (.int .i64 m.op.id.site)
    ∧ W.cell? ⟨b, o + 7, none⟩ = some (.int .i64 m.op.ref.time) ∧ W.cell? ⟨b, o + 8, none⟩ = some (.int .i64 m.op.ref.site) ∧ W.cell? ⟨b, o + 9, none⟩ = some (.int .i64 m.op.rune)) := by
  have g : ∀ j u, (msgQ (m, v))[j]? = some u → W.cell? ⟨b, o + j, none⟩ = some u := fun j u hu => (hW.cell (p := ⟨b, o + j, none⟩) hb).trans (h j u hu)
  exact ⟨g 0 _ rfl, g 1 _ rfl, g 2 _ rfl, g 3 _ rfl, g 4 _ rfl, g 5 _ rfl, g 6 _ rfl, g 7 _ rfl, g 8 _ rfl, g 9 _ rfl⟩
end Go.Proofs.Ytcmdfjeiefgmhaa
