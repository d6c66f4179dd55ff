/- Some answers that the document gives of Ids. -/
import Derived.Test.YteooganpnmfkbaaIdRef
import Derived.Deep.RegionHeld3
namespace Go.Proofs.Yteooganpnmfkbaa
open Go.RowKit
set_option linter.unusedVariables false

theorem four_ids (w : World) (a b c d e f g h : Int) : SliceG 2 idL (w.alloc (.cells #[.int .i64 a, .int .i64 b, .int .i64 c, .int .i64 d, .int .i64 e, .int .i64 f, .int .i64 g, .int .i64 h] 49)) (.slice (some ⟨w.heap.size, 0, none⟩) 4 4) [(a, b), (c, d), (e, f), (g, h)] := by
  have hh := Holds.new w [.int .i64 a, .int .i64 b, .int .i64 c, .int .i64 d, .int .i64 e, .int .i64 f, .int .i64 g, .int .i64 h] 49
  refine IdRow.slice (g := w.heap.size) (ys := [(a, b), (c, d), (e, f), (g, h)]) (cap := 4) ⟨hh.lt, fun i hi => ?_⟩ (by simp)
  have hi' : i < 4 := by simpa using hi
  rcases (by omega : i = 0 ∨ i = 1 ∨ i = 2 ∨ i = 3) with rfl | rfl | rfl | rfl <;> exact ⟨⟨hh.cell _ (by simp), hh.cell _ (by simp)⟩, hh.frozen _, hh.frozen _⟩
theorem three_ids (w : World) (a b c d e f : Int) : SliceG 2 idL (w.alloc (.cells #[.int .i64 a, .int .i64 b, .int .i64 c, .int .i64 d, .int .i64 e, .int .i64 f] 49)) (.slice (some ⟨w.heap.size, 0, none⟩) 3 3) [(a, b), (c, d), (e, f)] := by
  have hh := Holds.new w [.int .i64 a, .int .i64 b, .int .i64 c, .int .i64 d, .int .i64 e, .int .i64 f] 49
  refine IdRow.slice (g := w.heap.size) (ys := [(a, b), (c, d), (e, f)]) (cap := 3) ⟨hh.lt, fun i hi => ?_⟩ (by simp)
  have hi' : i < 3 := by simpa using hi
  rcases (by omega : i = 0 ∨ i = 1 ∨ i = 2) with rfl | rfl | rfl <;> exact ⟨⟨hh.cell _ (by simp), hh.cell _ (by simp)⟩, hh.frozen _, hh.frozen _⟩

theorem live_order : Idn.IsOrder [(2, 1), (1, 5), (2, 0), (2, 1)] [(1, 5), (2, 0), (2, 1)] := ⟨by decide +kernel, fun x => by simp only [List.mem_cons, List.not_mem_nil, or_false]; exact ⟨fun h => by rcases h with h | h | h <;> simp [h], fun h => by rcases h with h | h | h | h <;> simp [h]⟩⟩

/-- What stands when the answers are held against the document's. -/
def IdInv (w0 : World) (bx g : Nat) (l : Value) (w : World) : Prop := (w.cell? ⟨bx, 0, none⟩ = some (.int .i64 6) ∧ w.cell? ⟨bx, 1, none⟩ = some (.int .i64 0)) ∧ bx < w.heap.size ∧ IsMaker w g 0 6 ∧ SliceG 2 idL w l [(1, 5), (2, 0), (2, 1)] ∧ Below w0.heap.size w0 w
theorem IdInv.below {w0 w w' : World} {bx g : Nat} {l : Value} (h : IdInv w0 bx g l w) (hb : Below w.heap.size w w') : IdInv w0 bx g l w' :=
  ⟨⟨by rw [hb.cell (p := ⟨bx, 0, none⟩) h.2.1]; exact h.1.1, by rw [hb.cell (p := ⟨bx, 1, none⟩) h.2.1]; exact h.1.2⟩, Nat.lt_of_lt_of_le h.2.1 hb.size, Holds.keep h.2.2.1 (Keep.of_grew hb Non) (fun h => h), h.2.2.2.1.below hb, grew h.2.2.2.2 hb⟩
theorem IdInv.drew {w0 w : World} {bx g : Nat} {l : Value} (h : IdInv w0 bx g l w) : IdInv w0 bx g l w.drew := h.below (grew_drew w)

set_option maxRecDepth 100000 in
set_option maxHeartbeats 4000000 in
theorem law10_live (w : World) :
    Calls Try.prog 35 #[] w fun e w' => e = .returned (.bool true) ∧ Below w.heap.size w w' := by
  go_enter Try.func35, Try.ntmps35
  go_wp2_with fail
  refine (ident_New_yes 0 w (by decide)).mono ?_
  rintro e w1 ⟨rfl, hm, hb⟩
  have HM := Lib.hid hm
  have HB := Lib.hid hb
  clear hm hb
  go_wp2_with fail
  refine (ident_New_no 16 _ (by decide)).mono ?_
  rintro e _ ⟨rfl, rfl⟩
  go_wp2_with fail
  refine (law10_id 5 1 _).mono ?_
  rintro e w2 ⟨rfl, hb⟩
  have HM := Lib.hid (Holds.keep HM.out (Keep.of_grew hb Non) (fun h => h))
  have HB := Lib.hid (grew HB.out hb)
  clear hb
  go_wp2_with fail
  refine (ident_See (x := (5, 1)) HM.out).mono ?_
  rintro e w3 ⟨rfl, hm, hk⟩
  rw [show Idn.chk (5, 1) = 0 from by decide]
  have HM : Hid (IsMaker w3 w.heap.size 0 5) := Lib.hid hm
  have HB := Lib.hid (HB.out.trans (hk.below HB.out.size (fun i hi => by have hi : i = w.heap.size := hi; omega)))
  clear hm hk
  go_wp2_with fail
  refine (law10_id 0 1 _).mono ?_
  rintro e w4 ⟨rfl, hb⟩
  have HM := Lib.hid (Holds.keep HM.out (Keep.of_grew hb Non) (fun h => h))
  have HB := Lib.hid (grew HB.out hb)
  clear hb
  go_wp2_with fail
  refine (ident_See (x := (0, 1)) HM.out).mono ?_
  rintro e w5 ⟨rfl, hm, hk⟩
  rw [show Idn.chk (0, 1) = 1 from by decide]
  have HM : Hid (IsMaker w5 w.heap.size 0 5) := Lib.hid hm
  have HB := Lib.hid (HB.out.trans (hk.below HB.out.size (fun i hi => by have hi : i = w.heap.size := hi; omega)))
  clear hm hk
  go_wp2_with fail
  refine (ident_Make HM.out (by decide)).mono ?_
  rintro e w6 ⟨rfl, hm, hk⟩
  have HM : Hid (IsMaker w6 w.heap.size 0 6) := Lib.hid hm
  have HB := Lib.hid (HB.out.trans (hk.below HB.out.size (fun i hi => by have hi : i = w.heap.size := hi; omega)))
  clear hm hk
  simp only [idV]
  go_wp2_with fail
  have HX : Hid (Holds (w6.alloc (.cells #[.int .i64 6, .int .i64 0] 49)) w6.heap.size [.int .i64 6, .int .i64 0] 49) := Lib.hid (Holds.new w6 [.int .i64 6, .int .i64 0] 49)
  have HM := Lib.hid (Holds.keep HM.out (Keep.alloc Non w6 (.cells #[.int .i64 6, .int .i64 0] 49)) (fun h => h))
  have HB := Lib.hid (grew HB.out (grew_alloc w6 (.cells #[.int .i64 6, .int .i64 0] 49)))
  refine (law10_id 2 1 _).mono ?_
  rintro e w7 ⟨rfl, hb⟩
  have HM := Lib.hid (Holds.keep HM.out (Keep.of_grew hb Non) (fun h => h))
  have HX := Lib.hid (HX.out.keep (Keep.of_grew hb Non) (fun h => h))
  have HB := Lib.hid (grew HB.out hb)
  clear hb
  go_wp2_with fail
  refine (law10_id 1 5 _).mono ?_
  rintro e w8 ⟨rfl, hb⟩
  have HM := Lib.hid (Holds.keep HM.out (Keep.of_grew hb Non) (fun h => h))
  have HX := Lib.hid (HX.out.keep (Keep.of_grew hb Non) (fun h => h))
  have HB := Lib.hid (grew HB.out hb)
  clear hb
  go_wp2_with fail
  refine (law10_id 2 0 _).mono ?_
  rintro e w9 ⟨rfl, hb⟩
  have HM := Lib.hid (Holds.keep HM.out (Keep.of_grew hb Non) (fun h => h))
  have HX := Lib.hid (HX.out.keep (Keep.of_grew hb Non) (fun h => h))
  have HB := Lib.hid (grew HB.out hb)
  clear hb
  go_wp2_with fail
  refine (law10_id 2 1 _).mono ?_
  rintro e w10 ⟨rfl, hb⟩
  have HM := Lib.hid (Holds.keep HM.out (Keep.of_grew hb Non) (fun h => h))
  have HX := Lib.hid (HX.out.keep (Keep.of_grew hb Non) (fun h => h))
  have HB := Lib.hid (grew HB.out hb)
  clear hb
  go_wp2_with fail
  have hb := grew_alloc w10 (.cells #[.int .i64 2, .int .i64 1, .int .i64 1, .int .i64 5, .int .i64 2, .int .i64 0, .int .i64 2, .int .i64 1] 49)
  have hs := four_ids w10 2 1 1 5 2 0 2 1
  refine (ident_Order _ [(2, 1), (1, 5), (2, 0), (2, 1)] _ hs (by decide)).mono ?_
  rintro e w11 ⟨r, ys, rfl, hout⟩
  obtain rfl : ys = [(1, 5), (2, 0), (2, 1)] := hout.is.unique live_order
  have hb2 := grew hb hout.bel
  have HM := Lib.hid (Holds.keep HM.out (Keep.of_grew hb2 Non) (fun h => h))
  have HX := Lib.hid (HX.out.keep (Keep.of_grew hb2 Non) (fun h => h))
  have HB := Lib.hid (grew HB.out hb2)
  have HS := Lib.hid hout.row
  obtain ⟨la, lc, rfl⟩ := hout.row.shape
  clear hb hb2 hs hout
  go_wp2_with fail
  refine (law10_id 2 1 _).mono ?_
  rintro e w12 ⟨rfl, hb⟩
  have HM := Lib.hid (Holds.keep HM.out (Keep.of_grew hb Non) (fun h => h))
  have HX := Lib.hid (HX.out.keep (Keep.of_grew hb Non) (fun h => h))
  have HB := Lib.hid (grew HB.out hb)
  have HS := Lib.hid (HS.out.below hb)
  clear hb
  go_wp2_with fail
  refine (ident_Rank _ [(1, 5), (2, 0), (2, 1)] (2, 1) _ HS.out live_order.1 (by decide)).mono ?_
  rintro e w13 ⟨rfl, hb⟩
  rw [show Idn.rank [(1, 5), (2, 0), (2, 1)] (2, 1) = 2 from by decide +kernel, show decide (((2, 1) : Int × Int) ∈ [((1, 5) : Int × Int), (2, 0), (2, 1)]) = true from by decide +kernel]
  have HM := Lib.hid (Holds.keep HM.out (Keep.of_grew hb Non) (fun h => h))
  have HX := Lib.hid (HX.out.keep (Keep.of_grew hb Non) (fun h => h))
  have HB := Lib.hid (grew HB.out hb)
  have HS := Lib.hid (HS.out.below hb)
  clear hb
  go_wp2_with fail
  refine (law10_id 1 6 _).mono ?_
  rintro e w14 ⟨rfl, hb⟩
  have HM := Lib.hid (Holds.keep HM.out (Keep.of_grew hb Non) (fun h => h))
  have HX := Lib.hid (HX.out.keep (Keep.of_grew hb Non) (fun h => h))
  have HB := Lib.hid (grew HB.out hb)
  have HS := Lib.hid (HS.out.below hb)
  clear hb
  go_wp2_with fail
  refine (ident_Rank _ [(1, 5), (2, 0), (2, 1)] (1, 6) _ HS.out live_order.1 (by decide)).mono ?_
  rintro e w15 ⟨rfl, hb⟩
  rw [show Idn.rank [(1, 5), (2, 0), (2, 1)] (1, 6) = 1 from by decide +kernel, show decide (((1, 6) : Int × Int) ∈ [((1, 5) : Int × Int), (2, 0), (2, 1)]) = false from by decide +kernel]
  have hx := HX.out.keep (Keep.of_grew hb Non) (fun h => h)
  have HI : Hid (IdInv w w6.heap.size w.heap.size (.slice la 3 lc) w15) := Lib.hid ⟨hx.two, hx.lt, Holds.keep HM.out (Keep.of_grew hb Non) (fun h => h), HS.out.below hb, grew HB.out hb⟩
  clear hb hx HM HX HB HS
  have HLS : Hid (Idn.lt (1, 5) (2, 0) = true) := Lib.hid (by decide)
  have HCK : Hid (Idn.chk (1, 15) = 0) := Lib.hid (by decide)
  have HDS : Hid (decide ([((1, 5) : Int × Int), (2, 0), (2, 1)] = [(1, 5), (2, 0), (2, 1)]) = true) := Lib.hid (by decide +kernel)
  have HSM : Hid (∀ W, IdInv w w6.heap.size w.heap.size (.slice la 3 lc) W → Calls Try.prog 37 #[.slice la 3 lc, .slice (some ⟨W.heap.size, 0, none⟩) 3 3] (W.alloc (.cells #[.int .i64 1, .int .i64 5, .int .i64 2, .int .i64 0, .int .i64 2, .int .i64 1] 49)) fun e w' => e = .returned (.bool true) ∧ IdInv w w6.heap.size w.heap.size (.slice la 3 lc) w') := Lib.hid (fun W h => by
    have hb := grew_alloc W (.cells #[.int .i64 1, .int .i64 5, .int .i64 2, .int .i64 0, .int .i64 2, .int .i64 1] 49)
    refine (ref10_Same _ _ [(1, 5), (2, 0), (2, 1)] [(1, 5), (2, 0), (2, 1)] _ (h.2.2.2.1.below hb) (three_ids W 1 5 2 0 2 1) (by decide) (by decide)).mono ?_
    rintro e w' ⟨rfl, hb2⟩
    exact ⟨by rw [HDS.out], h.below (grew hb hb2)⟩)
  go_wp2_with fail
  have HI := Lib.hid HI.out.drew
  go_region_held3 (fun w' => w'.cell? ⟨w6.heap.size, 0, none⟩ = some (.int .i64 6) ∧ w'.cell? ⟨w6.heap.size, 1, none⟩ = some (.int .i64 0))
    (first | exact HI.out.1 | exact (IdInv.below HI.out (grew_alloc _ _)).1)
    (first
      | (go_at_call 61; refine (law10_id _ _ _).mono ?_; rintro e wi ⟨rfl, hb⟩; have HI := Lib.hid (IdInv.below HI.out hb); clear hb)
      | (go_at_call 45; refine (ident_Time HI.out.2.2.1).mono ?_; rintro e wi ⟨rfl, rfl⟩)
      | (go_at_call 37; refine (HSM.out _ HI.out).mono ?_; rintro e wi ⟨rfl, hI⟩; have HI := Lib.hid hI; clear hI)
      | (go_at_call 31; refine (ident_Less (1, 5) (2, 0) _).mono ?_; rintro e wi ⟨rfl, hg⟩; rw [HLS.out]; have HI := Lib.hid (IdInv.below HI.out hg.below); clear hg)
      | (go_at_call 33; refine (ident_Check (1, 15) _).mono ?_; rintro e wi ⟨rfl, hg⟩; rw [HCK.out]; have HI := Lib.hid (IdInv.below HI.out hg.below); clear hg))
  go_wp2
  go_ret
  exact ⟨rfl, HI.out.2.2.2.2⟩
end Go.Proofs.Yteooganpnmfkbaa
