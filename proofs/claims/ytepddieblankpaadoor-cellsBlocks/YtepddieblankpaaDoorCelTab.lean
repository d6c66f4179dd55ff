/- The table of widths, out of what the listed variable reads as. -/
import Derived.Test.YtepddieblankpaaDoorRows
import Derived.Test.YtepddieblankpaaDoorCelWid
import Derived.LaidMore
import Derived.MakeChecks
import Derived.Deep.Slices
namespace Go.Proofs.YtepddieblankpaaDoor
open Go.ChangeShapes Go.WideShapes Go.ChangeAt Go.RowKit Go.Deep
set_option linter.unusedVariables false

def rowD (r : Int × Int × Int) : DataW Unit := .agg [.lit (.int .i64 r.1), .lit (.int .i64 r.2.1), .lit (.int .i64 r.2.2)]
theorem ranges_data : (Rows.laid_duet_cells_ranges : DataW Unit) = .slice (Cel.rows.map rowD) [] := by kernel_rfl
theorem gRanges : Tryd.prog.globalNamed "duet/cells.ranges" = some 0 := by kernel_rfl
theorem tRanges : (Tryd.prog.globals[0]?).map (·.type) = some 76 := by kernel_rfl


/-- One row of the table: its three cells. -/
theorem trod_row3 {enc : TypeId × Value → Unit} {W : World} {base n : Nat} {sp : Nat → Bool} {held : Bool} {cs : List Value} {r : Int × Int × Int} {q : List MemPlace}
    (h : DataW.trod enc Tryd.prog W base sp held n 77 cs = some (rowD r, q)) (hl : cs.length = 3) : cs = rowC r := by
  obtain ⟨xs, m, _, hx, _, hn, hall⟩ := DataW.trod_array Tryd.underlying77 h
  have hE : Tryd.prog.cellsOf 3 = 1 := by kernel_rfl
  rw [hE] at hall
  match cs, hl with
  | [c0, c1, c2], _ =>
    have g : ∀ (i : Nat) (c : Value), i < 3 → ([c0, c1, c2].drop (i * 1)).take 1 = [c] → ∃ (x : Int) (q' : List MemPlace), c = .int .i64 x ∧ xs[i]? = some (.lit (.int .i64 x), q') := fun i c hi hc => by
      have h1 := hall i hi
      rw [hc] at h1
      have hi' : i < xs.length := by omega
      rw [List.getElem?_eq_getElem hi'] at h1
      obtain ⟨x, e, e2, _⟩ := DataW.trod_int Tryd.underlying3 h1
      simp at e
      exact ⟨x, xs[i].2, e, by rw [List.getElem?_eq_getElem hi']; congr 1; exact Prod.ext (by rw [e2]) rfl⟩
    obtain ⟨x, _, rfl, h0⟩ := g 0 c0 (by omega) rfl
    obtain ⟨y, _, rfl, h1⟩ := g 1 c1 (by omega) rfl
    obtain ⟨z, _, rfl, h2⟩ := g 2 c2 (by omega) rfl
    match xs, hn, hx, h0, h1, h2 with
    | [a0, a1, a2], _, hx, h0, h1, h2 =>
      obtain rfl := Option.some.inj h0
      obtain rfl := Option.some.inj h1
      obtain rfl := Option.some.inj h2
      have hx1 := (Prod.mk.inj hx).1
      unfold rowD at hx1
      injection hx1 with hx1
      simp only [List.map_cons, List.map_nil, List.cons.injEq, DataW.lit.injEq, Lit.int.injEq, true_and, and_true] at hx1
      obtain ⟨e0, e1, e2⟩ := hx1
      unfold rowC
      rw [e0, e1, e2]

set_option maxRecDepth 100000 in
theorem tab_of_laid {W : World} (h : laidMetH Tryd.prog [("duet/cells.ranges", Rows.laid_duet_cells_ranges)] W) : Tab W := by
  rw [MakeChecks.laidMetH_plain _ _ _ (by kernel_rfl)] at h
  obtain ⟨ps, ⟨g0, t0, cs0, f0, p0, q0, hg0, ht0, hv0, hd0, _⟩, _, _⟩ := h
  obtain rfl := Option.some.inj (gRanges.symm.trans hg0)
  obtain rfl := Option.some.inj (tRanges.symm.trans ht0)
  rw [ranges_data] at hd0
  have hk : Tryd.prog.cellsOf 77 = 3 := by kernel_rfl
  rcases open_slice Tryd.underlying76 hd0 with ⟨_, hx⟩ | ⟨a, len, cap, m, n, D, Pl, hcs, _, hl, _, hmm, hx, hi⟩
  · simp at hx
  · simp only [Prod.mk.injEq, DataW.slice.injEq] at hx
    obtain ⟨⟨hx, _⟩, _⟩ := hx
    have hlen : len = Cel.rows.length := by
      have := congrArg List.length hx
      simpa using this.symm
    have hcell : W.cell? ⟨0, 0, none⟩ = some (.slice (some a) len cap) := by
      have := World.var?_cell hg0 hv0 0
      rw [Array.eq_one_of_toList hcs] at this
      simpa using this
    have hrow : ∀ i (hi' : i < Cel.rows.length), ∀ j u, (rowC Cel.rows[i])[j]? = some u → W.cell? (a.add (i * 3 + j)) = some u := fun i hi' j u hu => by
      obtain ⟨cs', hc, ht'⟩ := hi i (by split at hmm <;> omega)
      rw [hk] at hc
      obtain ⟨_, hcl, hat⟩ := World.cells?_some hc
      have hD : D i = rowD Cel.rows[i] := by
        have := congrArg (fun l => l[i]?) hx
        simp only [List.getElem?_map] at this
        rw [List.getElem?_eq_getElem hi', List.getElem?_range (by omega)] at this
        simpa using this.symm
      rw [hD] at ht'
      have hr := trod_row3 ht' hcl
      have hj : j < 3 := by
        have := (List.getElem?_eq_some_iff.1 hu).1
        simpa [rowC] using this
      have := hat j hj
      rw [hr, hu, Go.Deep.add_add] at this
      exact this
    refine ⟨_, hcell, some a, cap, by rw [hlen], by omega, .inr ?_⟩
    obtain ⟨bb, off, spot⟩ := a
    have hc0 := hrow 0 (by decide) 0 _ rfl
    have hspot : spot = none := by
      have : (⟨bb, off, spot⟩ : Addr).add (0 * 3 + 0) = ⟨bb, off, spot⟩ := by simp [Addr.add]
      rw [this] at hc0
      exact World.cell?_spot hc0
    subst hspot
    have hplain : ∀ i, (⟨bb, off, none⟩ : Addr).add i = ⟨bb, off + i, none⟩ := fun i => by unfold Addr.add; split <;> simp_all
    refine ⟨bb, off, rfl, ?_, fun i hi' j u hu => ?_⟩
    · rw [hplain] at hc0
      exact block_lt_of_cell hc0
    · have := hrow i hi' j u hu
      rw [hplain] at this
      rw [Nat.add_assoc]
      exact this
end Go.Proofs.YtepddieblankpaaDoor
