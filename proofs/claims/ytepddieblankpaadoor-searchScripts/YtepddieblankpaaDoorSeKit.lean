/- What a search wants of the library's memory, out of what the listed variables read as and the world's shape. -/
import Derived.Test.YtepddieblankpaaDoorRows
import Derived.Test.YtepddieblankpaaDoorSeDuo
import Derived.Test.YtepddieblankpaaDoorHandShape
import Derived.Lib.LaidU8
import Derived.PinnedBridge
import Derived.MakeChecks
import Derived.Lay
namespace Go.Proofs.YtepddieblankpaaDoor
open Go.RowKit
set_option linter.unusedVariables false

theorem shSlow : Go.Proofs.Lays.n260 Tryd.prog shDecRen := { shDec with }
theorem u8_extra : U8Extra Tryd.prog shDecRen := {
  n3 := by kernel_rfl
  n4 := by kernel_rfl
  y3 := by kernel_rfl
  y4 := by kernel_rfl
  c5 := by kernel_rfl
  c119 := by kernel_rfl
  c138 := by kernel_rfl }
theorem accept_data : (Rows.laid_unicode_utf8_acceptRanges : DataW Unit) = Lib.acceptData := by kernel_rfl
theorem first_data : (Rows.laid_unicode_utf8_first : DataW Unit) = Lib.firstData := Pinned.utf8First_eq
def laidU8 : List (String × DataW Unit) := [("unicode/utf8.acceptRanges", Rows.laid_unicode_utf8_acceptRanges), ("unicode/utf8.first", Rows.laid_unicode_utf8_first)]
theorem kit_of_laid {W : World} (h : laidMetH Tryd.prog laidU8 W) (hs : W.ShapedOpen Tryd.prog) : Kit W := by
  unfold laidU8 at h
  rw [MakeChecks.laidMetH_plain _ _ _ (by kernel_rfl), accept_data, first_data] at h
  exact ⟨maxLen_of_shape hs, utf8Tabs_of_reads shSlow u8_extra (Lib.laidMet.reads h (by simp)) (Lib.laidMet.reads h (by simp))⟩
end Go.Proofs.YtepddieblankpaaDoor
