/- What Kids of weave comes to. -/
import Derived.Test.YtohmhbjiapflpaaWvDrop
import Derived.Test.YtohmhbjiapflpaaWvRev
namespace Go.Proofs.Ytohmhbjiapflpaa
open Go.RowKit Go.Maps
set_option linter.unusedVariables false

set_option maxRecDepth 100000 in
set_option maxHeartbeats 2000000 in
theorem weave_Kids {w : World} {p : Nat} {L : List Wel} (hR : LRead w p L) (hfew : L.length ≤ 4096) (x : Int × Int) (hx1 : I64 x.1) (hx2 : I64 x.2) :
    Calls Try.prog 25 #[.pointer (some ⟨p, 0, none⟩), idV x] w fun e w' => ∃ v, e = .returned v ∧ SliceG 2 idL w' v (Weave.kids L x).reverse ∧ Below w.heap.size w w' := by
  obtain ⟨mh, mk, hbox, hkk, _, _, _⟩ := hR.maps
  obtain ⟨v, hv, hlk⟩ := hkk x hx1 hx2
  have hle := Weave.kids_len (L := L) x
  have HYL : Hid ((Weave.kids L x).length ≤ 1000000) := Lib.hid (by omega)
  generalize Weave.kids L x = ys at *
  have HB := Lib.hid (grew_alloc w (.cells #[.int .i64 x.1, .int .i64 x.2] 24))
  have HX := Lib.hid (Holds.new w [.int .i64 x.1, .int .i64 x.2] 24)
  have HBX := Lib.hid (hbox.keep (Keep.of_grew HB.out Non) (fun h => h))
  have HV := Lib.hid (hv.below HB.out)
  have hlk2 := fun W' (hb : Below (w.alloc (.cells #[.int .i64 x.1, .int .i64 x.2] 24)).heap.size (w.alloc (.cells #[.int .i64 x.1, .int .i64 x.2] 24)) W') => hlk W' (grew HB.out hb)
  have HLK := Lib.hid hlk2
  clear hR hbox hkk hlk hlk2 hle hv
  obtain ⟨x1, x2⟩ := x
  simp only [idV] at HLK ⊢
  simp only at HB HX HBX HV HLK
  obtain ⟨va, vc, rfl⟩ := HV.out.shape
  go_enter Try.func25, Try.ntmps25
  go_wp2_with fail
  generalize (w.alloc (.cells #[.int .i64 x1, .int .i64 x2] 24)) = W at *
  have k0 := HX.out.cell 0 (by simp)
  have k1 := HX.out.cell 1 (by simp)
  have c1 := HBX.out.cell 1 (by simp)
  simp only [List.getElem_cons_succ, List.getElem_cons_zero] at k0 k1 c1
  have hlk := HLK.out W.drew (grew_drew W)
  go_wp2_with fail
  go_still_tail 6, (by kernel_rfl)
  repeat still_step
  change wpList _ _ _ _ _ W.drew
  go_wp2_with fail
  refine (slices_CloneIds _ ys _ (HV.out.below (grew_drew W)) HYL.out).mono ?_
  rintro e w1 ⟨v', rfl, ho, hfresh, hb1⟩
  have HB1 := Lib.hid (grew (grew_drew W) hb1)
  have HFR := Lib.hid (fun g hg => Nat.le_trans (grew_drew W).size (hfresh g hg))
  have HREV := Lib.hid (ids_Reverse v' ys w1 ho HYL.out)
  clear ho hfresh hb1 k0 k1 c1 hlk
  go_wp2_with fail
  refine HREV.out.mono ?_
  rintro e w2 ⟨rfl, hs, hk⟩
  have HS := Lib.hid hs
  have HB2 := Lib.hid ((((Keep.of_grew HB1.out (At v')).trans hk (fun _ _ h => h)).fresh (fun i hi hat => by have := HFR.out i hat; omega)))
  clear hs hk
  go_wp2
  go_ret
  exact ⟨_, rfl, HS.out, grew HB.out HB2.out⟩
end Go.Proofs.Ytohmhbjiapflpaa
