/- What live of layer 20 comes to. -/
import Derived.Test.YtepddieblankpaaDoorCelWid
import Derived.Test.YtepddieblankpaaDoorNumsF
namespace Go.Proofs.YtepddieblankpaaDoor
open Go.RowKit
set_option linter.unusedVariables false

/-- The table lies in a later world. -/
def Liv (w0 w : World) : Prop := Tab w ∧ Below w0.heap.size w0 w
theorem Liv.refl {w : World} (h : Tab w) : Liv w w := ⟨h, Below.refl _ _⟩
theorem Liv.next {w0 w w' : World} (h : Liv w0 w) (hb : Below w.heap.size w w') : Liv w0 w' := ⟨h.1.below hb, grew h.2 hb⟩

theorem wid_some : Cel.wid 97 = 1 ∧ Cel.wid 19968 = 2 ∧ Cel.wid 769 = 0 ∧ Cel.wid 9 = 0 ∧ Cel.wid 98 = 1 ∧ Cel.total [97, 128512] = 3 := by decide
theorem fit_some : Cel.fit [97, 19968, 769, 98] 3 0 = 3 ∧ Cel.total (List.take (Cel.fit [97, 19968, 769, 98] 3 0) [97, 19968, 769, 98]) = 3 := by
  have h : Cel.fit [97, 19968, 769, 98] 3 0 = 3 := by
    rw [Cel.fit_on (by decide) (by decide), Cel.fit_on (by decide) (by decide), Cel.fit_on (by decide) (by decide), Cel.fit_stop (by decide) (by decide)]
  rw [h]; decide

set_option maxHeartbeats 2000000 in
theorem law20_live (w : World) (ht : Tab w) :
    Calls Tryd.prog 40 #[] w fun e w' => e = .returned (.bool true) ∧ Below w.heap.size w w' := by
  have L := Lib.hid (Liv.refl ht)
  have F := Lib.hid fit_some
  obtain ⟨h1, h2, h3, h4, h5, h6⟩ := wid_some
  have W1 := Lib.hid h1
  have W2 := Lib.hid h2
  have W3 := Lib.hid h3
  have W4 := Lib.hid h4
  have W6 := Lib.hid h6
  clear ht h1 h2 h3 h4 h5 h6
  go_enter Tryd.func40, Tryd.ntmps40
  go_wp2_with (go_at_call 41; refine (cells_Fit _ [97, 19968, 769, 98] 3 _ (L.out.next (grew_alloc _ _)).1 (lit_nums _ [97, 19968, 769, 98] _) (by decide)).mono ?_; rintro e w1 ⟨rfl, hb1⟩; rw [F.out.2, F.out.1]; have L1 := Lib.hid ((L.out.next (grew_alloc _ _)).next hb1); clear hb1 L)
  refine (cells_Width 97 _ L1.out.1).mono ?_
  rintro e w2 ⟨rfl, hb⟩
  have L2 := Lib.hid (L1.out.next hb)
  clear hb L1
  rw [W1.out]
  go_wp2_with fail
  refine (cells_Width 19968 _ L2.out.1).mono ?_
  rintro e w3 ⟨rfl, hb⟩
  have L3 := Lib.hid (L2.out.next hb)
  clear hb L2
  rw [W2.out]
  go_wp2_with fail
  refine (cells_Width 769 _ L3.out.1).mono ?_
  rintro e w4 ⟨rfl, hb⟩
  have L4 := Lib.hid (L3.out.next hb)
  clear hb L3
  rw [W3.out]
  go_wp2_with fail
  refine (cells_Width 9 _ L4.out.1).mono ?_
  rintro e w5 ⟨rfl, hb⟩
  have L5 := Lib.hid (L4.out.next hb)
  clear hb L4
  rw [W4.out]
  go_wp2_with fail
  refine (cells_Total _ [97, 128512] _ (L5.out.next (grew_alloc _ _)).1 (lit_nums _ [97, 128512] _) (by decide)).mono ?_
  rintro e w6 ⟨rfl, hb⟩
  have L6 := Lib.hid ((L5.out.next (grew_alloc _ _)).next hb)
  clear hb L5
  rw [W6.out]
  go_wp2
  go_ret
  exact ⟨rfl, L6.out.2⟩
end Go.Proofs.YtepddieblankpaaDoor
