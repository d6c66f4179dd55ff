/- The library's own contracts of what ident leans on, at this seat's numbers. -/
import Derived.Test.YtjnalbbigmfppaaIdCmp
import Derived.Shelf.SlSortCmp.WholeK
import Derived.Shelf.SlGeneric
import Derived.Shelf.SlSorted.Search
import Derived.Shelf.SlicesE.Clone
namespace Go.Proofs.Ytjnalbbigmfppaa
open Go.RowKit
set_option linter.unusedVariables false

def cloneIdRen : Go.Shelf.Ren := ⟨fun | 41 => 61 | n => n, fun | 22 => 41 | 23 => 24 | 4 => 4 | n => n, fun | n => n⟩
theorem cloneIdLays : Go.Proofs.SlLaysE0.n41 Try.prog cloneIdRen := {
  mixed := by kernel_rfl
  f41 := Exists.intro (w := "slices.Clone[[]duet/api.Id,duet/api.Id]") ⟨by decide, Try.func61.trans (congrArg some (by kernel_rfl))⟩
  t4 := Try.underlying4
  a4 := Try.isAgg4
  z4 := Try.sizeOf4
  v4 := Try.zeroValue4
  t22 := Try.underlying41
  a22 := Try.isAgg41
  z22 := Try.sizeOf41
  v22 := Try.zeroValue41 }

def searchIdRen : Go.Shelf.Ren := ⟨fun | 16 => 85 | n => n, fun | 3 => 3 | 35 => 89 | 4 => 4 | 38 => 138 | n => n, fun | n => n⟩
theorem searchIdLays : Go.Proofs.SlLaysO.n16 Try.prog searchIdRen := {
  mixed := by kernel_rfl
  f16 := Try.func85.trans (congrArg some (by kernel_rfl))
  t3 := Try.underlying3
  a3 := Try.isAgg3
  z3 := Try.sizeOf3
  v3 := Try.zeroValue3
  t4 := Try.underlying4
  a4 := Try.isAgg4
  z4 := Try.sizeOf4
  v4 := Try.zeroValue4
  t35 := Try.underlying89
  a35 := Try.isAgg89
  z35 := Try.sizeOf89
  v35 := Try.zeroValue89
  t38 := Try.underlying138
  a38 := Try.isAgg138
  z38 := Try.sizeOf138
  v38 := Try.zeroValue138 }

end Go.Proofs.Ytjnalbbigmfppaa
