/- The library's own contracts of what ident leans on, at this seat's numbers. -/
import Derived.Test.YtohmhbjiapflpaaIdCmp
import Derived.Shelf.SlSortCmp.WholeK
import Derived.Shelf.SlGeneric
import Derived.Shelf.SlSorted.Search
import Derived.Shelf.SlicesE.Clone
namespace Go.Proofs.Ytohmhbjiapflpaa
open Go.RowKit
set_option linter.unusedVariables false

def cloneIdRen : Go.Shelf.Ren := ⟨fun | 41 => 60 | n => n, fun | 22 => 41 | 23 => 24 | 4 => 4 | n => n, fun | n => n⟩
theorem cloneIdLays : Go.Proofs.SlLaysE0.n41 Try.prog cloneIdRen := {
  mixed := by kernel_rfl
  f41 := Exists.intro (w := "slices.Clone[[]duet/api.Id,duet/api.Id]") ⟨by decide, Try.func60.trans (congrArg some (by kernel_rfl))⟩
  t4 := Try.underlying4
  a4 := Try.isAgg4
  z4 := Try.sizeOf4
  v4 := Try.zeroValue4
  t22 := Try.underlying41
  a22 := Try.isAgg41
  z22 := Try.sizeOf41
  v22 := Try.zeroValue41 }

def searchIdRen : Go.Shelf.Ren := ⟨fun | 16 => 84 | n => n, fun | 3 => 3 | 35 => 88 | 4 => 4 | 38 => 137 | n => n, fun | n => n⟩
theorem searchIdLays : Go.Proofs.SlLaysO.n16 Try.prog searchIdRen := {
  mixed := by kernel_rfl
  f16 := Try.func84.trans (congrArg some (by kernel_rfl))
  t3 := Try.underlying3
  a3 := Try.isAgg3
  z3 := Try.sizeOf3
  v3 := Try.zeroValue3
  t4 := Try.underlying4
  a4 := Try.isAgg4
  z4 := Try.sizeOf4
  v4 := Try.zeroValue4
  t35 := Try.underlying88
  a35 := Try.isAgg88
  z35 := Try.sizeOf88
  v35 := Try.zeroValue88
  t38 := Try.underlying137
  a38 := Try.isAgg137
  z38 := Try.sizeOf137
  v38 := Try.zeroValue137 }

end Go.Proofs.Ytohmhbjiapflpaa
