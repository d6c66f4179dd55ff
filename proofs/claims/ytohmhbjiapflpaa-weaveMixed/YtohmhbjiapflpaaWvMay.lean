/- Which Ids may stand behind which. -/
import Derived.Test.YtohmhbjiapflpaaWvLine
import Derived.Test.YtohmhbjiapflpaaIdCompact
namespace Go.Proofs.Ytohmhbjiapflpaa
open Go.RowKit Go.Maps
set_option linter.unusedVariables false

def Weave.mayBe (x ref : Int × Int) : Bool := Idn.may x && (decide (ref = (0, 0)) || (Idn.may ref && decide (ref.1 < x.1)))

set_option maxRecDepth 100000 in
theorem weave_isBegin (x : Int × Int) (w : World) : Calls Try.prog 53 #[idV x] w fun e w' => e = .returned (.bool (decide (x = (0, 0)))) ∧ Below w.heap.size w w' := by
  obtain ⟨x1, x2⟩ := x
  have hq : ∀ W, (binOp .eql 24 (.agg #[.int .i64 x1, .int .i64 x2]) (.agg #[.int .i64 0, .int .i64 0])).run Try.prog W = .ok (.bool (decide (((x1, x2) : Int × Int) = (0, 0)))) W := fun W => eql_id x1 x2 0 0 W
  generalize decide (((x1, x2) : Int × Int) = (0, 0)) = d at *
  have HB := Lib.hid (grew_alloc w (.cells #[.int .i64 x1, .int .i64 x2] 24))
  simp only [idV]
  go_enter Try.func53, Try.ntmps53
  go_wp2_with fail
  go_ret
  exact ⟨rfl, HB.out⟩
theorem Idn.chk_yes {x : Int × Int} (h : Idn.may x = true) : Idn.chk x = 0 := by unfold Idn.chk; rw [h]; rfl
theorem Idn.chk_no {x : Int × Int} (h : Idn.may x = false) : Idn.chk x = 1 := by unfold Idn.chk; rw [h]; rfl

set_option maxRecDepth 100000 in
set_option maxHeartbeats 1000000 in
theorem weave_mayBe (x ref : Int × Int) (w : World) : Calls Try.prog 51 #[idV x, idV ref] w fun e w' => e = .returned (.bool (Weave.mayBe x ref)) ∧ Below w.heap.size w w' := by
  have HCX := Lib.hid (fun W => (ident_Check x W).mono (fun e w' (h : _ ∧ _) => (⟨h.1, h.2.below⟩ : e = _ ∧ Below W.heap.size W w')))
  have HCR := Lib.hid (fun W => (ident_Check ref W).mono (fun e w' (h : _ ∧ _) => (⟨h.1, h.2.below⟩ : e = _ ∧ Below W.heap.size W w')))
  have HBG := Lib.hid (weave_isBegin ref)
  have HB := Lib.hid (grew (grew_alloc w (.cells #[.int .i64 x.1, .int .i64 x.2] 24)) (grew_alloc _ (.cells #[.int .i64 ref.1, .int .i64 ref.2] 24)))
  have HX := Lib.hid ((Holds.new w [.int .i64 x.1, .int .i64 x.2] 24).keep (Keep.of_grew (grew_alloc _ (.cells #[.int .i64 ref.1, .int .i64 ref.2] 24)) Non) (fun h => h))
  have HR := Lib.hid (Holds.new (w.alloc (.cells #[.int .i64 x.1, .int .i64 x.2] 24)) [.int .i64 ref.1, .int .i64 ref.2] 24)
  have hsz : (w.alloc (.cells #[.int .i64 x.1, .int .i64 x.2] 24)).heap.size = w.heap.size + 1 := Array.size_push _
  rw [hsz] at HR
  have HM : Hid (Weave.mayBe x ref = (Idn.may x && (decide (ref = (0, 0)) || (Idn.may ref && decide (ref.1 < x.1))))) := Lib.hid rfl
  generalize Weave.mayBe x ref = res at HM ⊢
  generalize decide (ref = (0, 0)) = bg at HM HBG
  have hbm : Idn.may x = true ∨ Idn.may x = false := by cases Idn.may x <;> simp
  have hbr : Idn.may ref = true ∨ Idn.may ref = false := by cases Idn.may ref <;> simp
  obtain ⟨x1, x2⟩ := x
  obtain ⟨r1, r2⟩ := ref
  simp only [idV] at HCX HCR HBG ⊢
  simp only at HM HX HR HB
  clear hsz
  go_enter Try.func51, Try.ntmps51
  go_wp2_with fail
  generalize ((w.alloc (.cells #[.int .i64 x1, .int .i64 x2] 24)).alloc (.cells #[.int .i64 r1, .int .i64 r2] 24)) = W at *
  refine (HCX.out _).mono ?_
  rintro e w1 ⟨rfl, hb1⟩
  have HB1 := Lib.hid hb1
  clear hb1
  rcases hbm with hmx | hmx
  · rw [Idn.chk_yes hmx]
    rw [hmx, Bool.true_and] at HM
    have k0 := (HR.out.keep (Keep.of_grew HB1.out Non) (fun h => h)).cell 0 (by simp)
    have k1 := (HR.out.keep (Keep.of_grew HB1.out Non) (fun h => h)).cell 1 (by simp)
    simp only [List.getElem_cons_succ, List.getElem_cons_zero] at k0 k1
    go_wp2_with fail
    refine (HBG.out _).mono ?_
    rintro e w2 ⟨rfl, hb2⟩
    have HB2 := Lib.hid (grew HB1.out hb2)
    clear hb2 k0 k1
    cases bg with
    | true =>
      rw [Bool.true_or] at HM
      obtain rfl := HM.out
      go_wp2
      go_ret
      exact ⟨rfl, grew HB.out HB2.out⟩
    | false =>
      rw [Bool.false_or] at HM
      have k0 := (HR.out.keep (Keep.of_grew HB2.out Non) (fun h => h)).cell 0 (by simp)
      have k1 := (HR.out.keep (Keep.of_grew HB2.out Non) (fun h => h)).cell 1 (by simp)
      simp only [List.getElem_cons_succ, List.getElem_cons_zero] at k0 k1
      go_wp2_with fail
      refine (HCR.out _).mono ?_
      rintro e w3 ⟨rfl, hb3⟩
      have HB3 := Lib.hid (grew HB2.out hb3)
      clear hb3 k0 k1
      rcases hbr with hmr | hmr
      · rw [Idn.chk_yes hmr]
        rw [hmr, Bool.true_and] at HM
        have k0 := (HR.out.keep (Keep.of_grew HB3.out Non) (fun h => h)).cell 0 (by simp)
        have k2 := (HX.out.keep (Keep.of_grew HB3.out Non) (fun h => h)).cell 0 (by simp)
        simp only [List.getElem_cons_zero] at k0 k2
        go_wp2
        go_ret
        exact ⟨by rw [HM.out]; rfl, grew HB.out HB3.out⟩
      · rw [Idn.chk_no hmr]
        rw [hmr, Bool.false_and] at HM
        obtain rfl := HM.out
        go_wp2
        go_ret
        exact ⟨rfl, grew HB.out HB3.out⟩
  · rw [Idn.chk_no hmx]
    rw [hmx, Bool.false_and] at HM
    obtain rfl := HM.out
    go_wp2
    go_ret
    exact ⟨rfl, grew HB.out HB1.out⟩
end Go.Proofs.Ytohmhbjiapflpaa
