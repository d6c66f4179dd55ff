/- The library's own contracts of what ident leans on, at this seat's numbers. -/
import Derived.Test.YteooganpnmfkbaaIdCmp
import Derived.Shelf.SlSortCmp.WholeK
import Derived.Shelf.SlGeneric
import Derived.Shelf.SlSorted.Search
import Derived.Shelf.SlicesE.Clone
namespace Go.Proofs.Yteooganpnmfkbaa
open Go.RowKit
set_option linter.unusedVariables false

def sortIdRen : Go.Shelf.Ren := ⟨fun | 6 => 63 | 15 => 76 | 14 => 75 | 28 => 87 | 29 => 88 | 20 => 79 | 21 => 80 | 22 => 81 | 23 => 82 | 24 => 83 | 25 => 84 | 26 => 85 | 27 => 86 | 46 => 89 | 47 => 90 | 48 => 91 | 49 => 92 | 50 => 93 | 57 => 94 | n => n, fun | 22 => 53 | 24 => 49 | 25 => 90 | 3 => 3 | 39 => 103 | 0 => 0 | 53 => 113 | 55 => 115 | 4 => 4 | 46 => 107 | 45 => 106 | 50 => 56 | 5 => 5 | 9 => 9 | 66 => 116 | 70 => 120 | 76 => 122 | 77 => 123 | n => n, fun | n => n⟩
theorem sortIdLays : Go.Proofs.SlLaysF0.n6 Try.prog sortIdRen := {
  mixed := by kernel_rfl
  f6 := Exists.intro (w := "slices.SortFunc[[]duet/api.Id,duet/api.Id]") ⟨by decide, Try.func63.trans (congrArg some (by kernel_rfl))⟩
  f14 := Exists.intro (w := "slices.pdqsortCmpFunc[duet/api.Id]") ⟨by decide, Try.func75.trans (congrArg some (by kernel_rfl))⟩
  f15 := Try.func76.trans (congrArg some (by kernel_rfl))
  f20 := Exists.intro (w := "slices.insertionSortCmpFunc[duet/api.Id]") ⟨by decide, Try.func79.trans (congrArg some (by kernel_rfl))⟩
  f21 := Exists.intro (w := "slices.heapSortCmpFunc[duet/api.Id]") ⟨by decide, Try.func80.trans (congrArg some (by kernel_rfl))⟩
  f22 := Exists.intro (w := "slices.breakPatternsCmpFunc[duet/api.Id]") ⟨by decide, Try.func81.trans (congrArg some (by kernel_rfl))⟩
  f23 := Exists.intro (w := "slices.choosePivotCmpFunc[duet/api.Id]") ⟨by decide, Try.func82.trans (congrArg some (by kernel_rfl))⟩
  f24 := Exists.intro (w := "slices.reverseRangeCmpFunc[duet/api.Id]") ⟨by decide, Try.func83.trans (congrArg some (by kernel_rfl))⟩
  f25 := Exists.intro (w := "slices.partialInsertionSortCmpFunc[duet/api.Id]") ⟨by decide, Try.func84.trans (congrArg some (by kernel_rfl))⟩
  f26 := Exists.intro (w := "slices.partitionEqualCmpFunc[duet/api.Id]") ⟨by decide, Try.func85.trans (congrArg some (by kernel_rfl))⟩
  f27 := Exists.intro (w := "slices.partitionCmpFunc[duet/api.Id]") ⟨by decide, Try.func86.trans (congrArg some (by kernel_rfl))⟩
  f28 := Try.func87.trans (congrArg some (by kernel_rfl))
  f29 := Try.func88.trans (congrArg some (by kernel_rfl))
  f46 := Exists.intro (w := "slices.siftDownCmpFunc[duet/api.Id]") ⟨by decide, Try.func89.trans (congrArg some (by kernel_rfl))⟩
  f47 := Try.func90.trans (congrArg some (by kernel_rfl))
  f48 := Try.func91.trans (congrArg some (by kernel_rfl))
  f49 := Exists.intro (w := "slices.medianAdjacentCmpFunc[duet/api.Id]") ⟨by decide, Try.func92.trans (congrArg some (by kernel_rfl))⟩
  f50 := Exists.intro (w := "slices.medianCmpFunc[duet/api.Id]") ⟨by decide, Try.func93.trans (congrArg some (by kernel_rfl))⟩
  f57 := Exists.intro (w := "slices.order2CmpFunc[duet/api.Id]") ⟨by decide, Try.func94.trans (congrArg some (by kernel_rfl))⟩
  t0 := Try.underlying0
  a0 := Try.isAgg0
  z0 := Try.sizeOf0
  v0 := Try.zeroValue0
  t3 := Try.underlying3
  a3 := Try.isAgg3
  z3 := Try.sizeOf3
  v3 := Try.zeroValue3
  t4 := Try.underlying4
  a4 := Try.isAgg4
  z4 := Try.sizeOf4
  v4 := Try.zeroValue4
  t5 := Try.underlying5
  a5 := Try.isAgg5
  z5 := Try.sizeOf5
  v5 := Try.zeroValue5
  t9 := Try.underlying9
  a9 := Try.isAgg9
  z9 := Try.sizeOf9
  v9 := Try.zeroValue9
  t22 := Try.underlying53
  a22 := Try.isAgg53
  z22 := Try.sizeOf53
  v22 := Try.zeroValue53
  t25 := Try.underlying90
  a25 := Try.isAgg90
  z25 := Try.sizeOf90
  v25 := Try.zeroValue90
  t39 := Try.underlying103
  a39 := Try.isAgg103
  z39 := Try.sizeOf103
  v39 := Try.zeroValue103
  t45 := Try.underlying106
  a45 := Try.isAgg106
  z45 := Try.sizeOf106
  v45 := Try.zeroValue106
  t46 := Try.underlying107
  a46 := Try.isAgg107
  z46 := Try.sizeOf107
  v46 := Try.zeroValue107
  t50 := Try.underlying56
  a50 := Try.isAgg56
  z50 := Try.sizeOf56
  v50 := Try.zeroValue56
  t53 := Try.underlying113
  a53 := Try.isAgg113
  z53 := Try.sizeOf113
  v53 := Try.zeroValue113
  t55 := Try.underlying115
  a55 := Try.isAgg115
  z55 := Try.sizeOf115
  v55 := Try.zeroValue115
  t66 := Try.underlying116
  a66 := Try.isAgg116
  z66 := Try.sizeOf116
  v66 := Try.zeroValue116
  t70 := Try.underlying120
  a70 := Try.isAgg120
  z70 := Try.sizeOf120
  v70 := Try.zeroValue120
  t76 := Try.underlying122
  a76 := Try.isAgg122
  z76 := Try.sizeOf122
  v76 := Try.zeroValue122
  t77 := Try.underlying123
  a77 := Try.isAgg123
  z77 := Try.sizeOf123
  v77 := Try.zeroValue123 }

def cloneIdRen : Go.Shelf.Ren := ⟨fun | 41 => 62 | n => n, fun | 22 => 53 | 23 => 49 | 4 => 4 | n => n, fun | n => n⟩
theorem cloneIdLays : Go.Proofs.SlLaysE0.n41 Try.prog cloneIdRen := {
  mixed := by kernel_rfl
  f41 := Exists.intro (w := "slices.Clone[[]duet/api.Id,duet/api.Id]") ⟨by decide, Try.func62.trans (congrArg some (by kernel_rfl))⟩
  t4 := Try.underlying4
  a4 := Try.isAgg4
  z4 := Try.sizeOf4
  v4 := Try.zeroValue4
  t22 := Try.underlying53
  a22 := Try.isAgg53
  z22 := Try.sizeOf53
  v22 := Try.zeroValue53 }

def searchIdRen : Go.Shelf.Ren := ⟨fun | 16 => 65 | n => n, fun | 3 => 3 | 35 => 80 | 4 => 4 | 38 => 103 | n => n, fun | n => n⟩
theorem searchIdLays : Go.Proofs.SlLaysO.n16 Try.prog searchIdRen := {
  mixed := by kernel_rfl
  f16 := Try.func65.trans (congrArg some (by kernel_rfl))
  t3 := Try.underlying3
  a3 := Try.isAgg3
  z3 := Try.sizeOf3
  v3 := Try.zeroValue3
  t4 := Try.underlying4
  a4 := Try.isAgg4
  z4 := Try.sizeOf4
  v4 := Try.zeroValue4
  t35 := Try.underlying80
  a35 := Try.isAgg80
  z35 := Try.sizeOf80
  v35 := Try.zeroValue80
  t38 := Try.underlying103
  a38 := Try.isAgg103
  z38 := Try.sizeOf103
  v38 := Try.zeroValue103 }

end Go.Proofs.Yteooganpnmfkbaa
