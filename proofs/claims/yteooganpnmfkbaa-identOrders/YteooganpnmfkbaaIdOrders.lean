/- Any Ids in their order, beside the document's. -/
import Derived.Test.YteooganpnmfkbaaIdROrder2
namespace Go.Proofs.Yteooganpnmfkbaa
open Go.RowKit
set_option linter.unusedVariables false

set_option maxRecDepth 100000 in
set_option maxHeartbeats 4000000 in
theorem walk_IdentOrders (v : Value) (xs : List (Int × Int)) (x : Int × Int) (w : World) (hx : SliceG 2 idL w v xs ∧ xs.length ≤ maxLen ∧ ∀ x ∈ xs, I64 x.1 ∧ I64 x.2) (hx2 : I64 x.1 ∧ I64 x.2) :
    Calls Try.prog 9 #[v, idV x] w fun e w' => e = .returned (.bool true) ∧ Below w.heap.size w w' := by
  obtain ⟨hv, hm, _⟩ := hx
  have HV := Lib.hid hv
  obtain ⟨va, vc, rfl⟩ := hv.shape
  unfold maxLen at hm
  clear hv hx2
  obtain ⟨x1, x2⟩ := x
  unfold idV
  have HB := Lib.hid (grew_alloc w (.cells #[.int .i64 x1, .int .i64 x2] 49))
  have HX := Lib.hid (Holds.new w [.int .i64 x1, .int .i64 x2] 49)
  by_cases h100 : 100 < xs.length
  · have d1 : decide ((100 : Int) < (xs.length : Int)) = true := decide_eq_true (by omega)
    clear h100
    go_enter Try.func9, Try.ntmps9
    go_wp2_with fail
    refine (law10_live _).mono ?_
    rintro e w3 ⟨rfl, hb3⟩
    go_wp2
    go_ret
    exact ⟨rfl, grew HB.out hb3⟩
  · have d1 : decide ((100 : Int) < (xs.length : Int)) = false := decide_eq_false (by omega)
    go_enter Try.func9, Try.ntmps9
    go_wp2_with fail
    refine (ident_Order _ xs _ (HV.out.below HB.out) (by omega)).mono ?_
    rintro e w1 ⟨r, ys, rfl, hout⟩
    have hle : ys.length ≤ xs.length := Idn.len_le ys xs hout.is.1 (fun x hx => (hout.is.2 x).1 hx)
    have HI : Hid (RInv w w.heap.size r ys (x1, x2) w1) := Lib.hid ⟨hout.row, HX.out.keep (Keep.of_grew hout.bel Non) (fun h => h), grew HB.out hout.bel⟩
    have HIS := Lib.hid hout.is
    have hyl : ys.length ≤ 1000000 := by omega
    obtain ⟨ra, rc, rfl⟩ := hout.row.shape
    clear hout hle
    go_wp2_with fail
    refine (ref10_Order _ xs _ (HV.out.below HI.out.2.2) (by omega)).mono ?_
    rintro e w2 ⟨r2, ys2, rfl, hord, hrow, hb⟩
    obtain rfl : ys = ys2 := HIS.out.unique hord
    have HI := Lib.hid (HI.out.below hb)
    have HR2 := Lib.hid hrow
    obtain ⟨ra2, rc2, rfl⟩ := hrow.shape
    clear hord hrow hb
    go_wp2_with fail
    refine (ref10_Same _ _ ys ys _ HI.out.1 HR2.out (by omega) (by omega)).mono ?_
    rintro e w3 ⟨rfl, hb⟩
    rw [show decide (ys = ys) = true from decide_eq_true rfl]
    have HI := Lib.hid (HI.out.below hb)
    clear hb HR2
    obtain ⟨l0, l1⟩ := Holds.two HI.out.2.1
    simp only at l0 l1
    go_wp2_with fail
    refine (ident_Rank _ ys (x1, x2) _ HI.out.1 HIS.out.1 (by omega)).mono ?_
    rintro e w4 ⟨rfl, hb⟩
    have HI := Lib.hid (HI.out.below hb)
    clear hb l0 l1
    obtain ⟨l0, l1⟩ := Holds.two HI.out.2.1
    simp only at l0 l1
    have HRR := Lib.hid (ref10_Rank _ ys (x1, x2) w4 HI.out.1 hyl)
    generalize Idn.rank ys (x1, x2) = n at HRR ⊢
    generalize decide (((x1, x2) : Int × Int) ∈ ys) = is at HRR ⊢
    simp only [idV] at HRR
    go_wp2_with fail
    refine HRR.out.mono ?_
    rintro e w5 ⟨rfl, hb⟩
    have HI := Lib.hid (HI.out.below hb)
    clear hb l0 l1 HRR
    cases is
    all_goals
      go_wp2_with fail
      refine (law10_live _).mono ?_
      rintro e w6 ⟨rfl, hb⟩
      have HB6 := Lib.hid (grew HI.out.2.2 hb)
      clear hb
      go_wp2
      go_ret
      exact ⟨rfl, HB6.out⟩
end Go.Proofs.Yteooganpnmfkbaa
