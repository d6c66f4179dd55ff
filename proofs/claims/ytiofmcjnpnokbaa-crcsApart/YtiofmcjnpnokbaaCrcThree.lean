/- An array of three bytes that comes in, read as it lies. -/
import Derived.Test.YtiofmcjnpnokbaaRows
import Derived.Test.YtiofmcjnpnokbaaCrcApart
import Derived.ProofKit
import Derived.OpenShut
import Derived.Lib.SmallJoins
namespace Go.Proofs.Ytiofmcjnpnokbaa
open Go.ChangeShapes Go.WideShapes Go.ChangeAt Go.RowKit

theorem open_three {H : Type} {enc : TypeId × Value → H} {W : World} {b0 : Nat} {v : Value} {d : DataW H} {p : List MemPlace}
    (hv : Value.okWide Try.prog W .any b0 49 v) (h : DataW.Trod enc Try.prog W 0 (fun _ => true) true 49 v d p) :
    ∃ x y z : Int, v = .agg #[.int .u8 x, .int .u8 y, .int .u8 z] ∧ ((Lit.int .u8 x).wf = true ∧ (Lit.int .u8 y).wf = true ∧ (Lit.int .u8 z).wf = true) := by
  simp only [Value.okWide, Try.underlying49] at hv
  obtain ⟨cs, rfl, hsz, _⟩ := hv
  have hC : Try.prog.cellsOf 49 = 3 := by kernel_rfl
  have hE : Try.prog.cellsOf 5 = 1 := by kernel_rfl
  obtain ⟨c0, c1, c2, rfl⟩ := Joins.array3 (hsz.trans hC)
  obtain ⟨fuel, hf⟩ := h
  obtain ⟨xs, m, _, _, _, hl, hall⟩ := DataW.trod_array Try.underlying49 hf
  rw [hE] at hall
  have g : ∀ (i : Nat) (c : Value), i < 3 → ((Value.agg #[c0, c1, c2]).cells.toList.drop (i * 1)).take 1 = [c] → ∃ x : Int, c = .int .u8 x ∧ (Lit.int .u8 x).wf = true := fun i c hi hc => by
    have h1 := hall i hi
    rw [hc] at h1
    have hi' : i < xs.length := by omega
    rw [List.getElem?_eq_getElem hi'] at h1
    obtain ⟨x, e, _, wf⟩ := DataW.trod_int Try.underlying5 h1
    simp at e
    exact ⟨x, e, wf⟩
  obtain ⟨x, rfl, wx⟩ := g 0 c0 (by omega) rfl
  obtain ⟨y, rfl, wy⟩ := g 1 c1 (by omega) rfl
  obtain ⟨z, rfl, wz⟩ := g 2 c2 (by omega) rfl
  exact ⟨x, y, z, rfl, wx, wy, wz⟩
end Go.Proofs.Ytiofmcjnpnokbaa
