/-
  No cell of these rows narrows 'for every input' (looked for: loops, veiled, ifaces, maps, wideKeys, modest, calm, conditions, laid).
  DERIVED. THE GIVEN ROWS OF THIS SEAT. 12 by the template 'for every input the law returns true; each argument reads behind the call as it read before'; 0 by the template 'total and deterministic' (their statements: YtiofmcjnpnokbaaTotals.lean).
  GIVEN WITH THE SEED: the statements are not yours to turn. If you find one false, say at which input.
  Laid BY PROGRAM, IN A SANDBOX (cutbox-rows.mjs): the forced cells as the released guide's own fill.sh prints them over the translation 508085ef41737d7b… (all of the seat's roots in one cut). By AI agents, Wed Nov 11 2026. No macro, syntax, notation, axiom, sorry.
-/
import Derived.Test.YtiofmcjnpnokbaaChecked
import GoSem.Claim
import GoSem.ClaimJoined
import GoSem.ClaimMapViews
import Derived.JoinedTies
import Derived.KernelRfl
namespace Go.Proofs.Ytiofmcjnpnokbaa
/- THE CELL 'sum', in the pinned program and in every row, IS THE sha256 OF THE DUMP (.gsa) THAT YtiofmcjnpnokbaaProg.lean LOADS. Nothing in Lean hashes anything: it is a label: what it is worth is what the hold of that sum in a sandbox is worth. -/
noncomputable def Try.pinned : Pinned := { name := "ytiofmcjnpnokbaa", sum := "508085ef41737d7b370a362f08845093737a874e00d4b131f3921aa28d1e7321", checked := Try.checked }
namespace Rows
def none {H : Type} : Left H := { results := [], args := [] }

/-- 'duetlaw01.PackWrites': WHATEVER THE INPUT: true; the input reads as it did. -/
def packWritesSpec : ChangeSpec := { name := "packWrites", fn := fun _ => fun
  | [d1, d2, d3] => { results := [.lit (.bool true)], args := [d1, d2, d3] }
  | _ => none }
def packWritesRow : OpenClaim := { program := "ytiofmcjnpnokbaa", sum := "508085ef41737d7b370a362f08845093737a874e00d4b131f3921aa28d1e7321", func := "duet/duetlaw01.PackWrites", spec := "packWrites", apart := false }
def PackWritesSaid : Prop := packWritesRow.holds Try.pinned (OpenSpec.ofChange packWritesSpec)

/-- ITS FALSE NEIGHBOUR: 'it returns false'. Refute it at one input. -/
def packWritesWrong : ChangeSpec := { name := "packWrites", fn := fun _ => fun
  | [d1, d2, d3] => { results := [.lit (.bool false)], args := [d1, d2, d3] }
  | _ => none }
def PackWritesWrongFalsely : Prop := packWritesRow.holds Try.pinned (OpenSpec.ofChange packWritesWrong)

/-- 'duetlaw01.PackReads': WHATEVER THE INPUT: true; the input reads as it did. -/
def packReadsSpec : ChangeSpec := { name := "packReads", fn := fun _ => fun
  | [d] => { results := [.lit (.bool true)], args := [d] }
  | _ => none }
def packReadsRow : OpenClaim := { program := "ytiofmcjnpnokbaa", sum := "508085ef41737d7b370a362f08845093737a874e00d4b131f3921aa28d1e7321", func := "duet/duetlaw01.PackReads", spec := "packReads", apart := false }
def PackReadsSaid : Prop := packReadsRow.holds Try.pinned (OpenSpec.ofChange packReadsSpec)

/-- ITS FALSE NEIGHBOUR: 'it returns false'. Refute it at one input. -/
def packReadsWrong : ChangeSpec := { name := "packReads", fn := fun _ => fun
  | [d] => { results := [.lit (.bool false)], args := [d] }
  | _ => none }
def PackReadsWrongFalsely : Prop := packReadsRow.holds Try.pinned (OpenSpec.ofChange packReadsWrong)

/-- 'duetlaw01.PackBack': WHATEVER THE INPUT: true; the input reads as it did. -/
def packBackSpec : ChangeSpec := { name := "packBack", fn := fun _ => fun
  | [d1, d2, d3] => { results := [.lit (.bool true)], args := [d1, d2, d3] }
  | _ => none }
def packBackRow : OpenClaim := { program := "ytiofmcjnpnokbaa", sum := "508085ef41737d7b370a362f08845093737a874e00d4b131f3921aa28d1e7321", func := "duet/duetlaw01.PackBack", spec := "packBack", apart := false }
def PackBackSaid : Prop := packBackRow.holds Try.pinned (OpenSpec.ofChange packBackSpec)

/-- ITS FALSE NEIGHBOUR: 'it returns false'. Refute it at one input. -/
def packBackWrong : ChangeSpec := { name := "packBack", fn := fun _ => fun
  | [d1, d2, d3] => { results := [.lit (.bool false)], args := [d1, d2, d3] }
  | _ => none }
def PackBackWrongFalsely : Prop := packBackRow.holds Try.pinned (OpenSpec.ofChange packBackWrong)

/-- 'duetlaw01.PackAgain': WHATEVER THE INPUT: true; the input reads as it did. -/
def packAgainSpec : ChangeSpec := { name := "packAgain", fn := fun _ => fun
  | [d] => { results := [.lit (.bool true)], args := [d] }
  | _ => none }
def packAgainRow : OpenClaim := { program := "ytiofmcjnpnokbaa", sum := "508085ef41737d7b370a362f08845093737a874e00d4b131f3921aa28d1e7321", func := "duet/duetlaw01.PackAgain", spec := "packAgain", apart := false }
def PackAgainSaid : Prop := packAgainRow.holds Try.pinned (OpenSpec.ofChange packAgainSpec)

/-- ITS FALSE NEIGHBOUR: 'it returns false'. Refute it at one input. -/
def packAgainWrong : ChangeSpec := { name := "packAgain", fn := fun _ => fun
  | [d] => { results := [.lit (.bool false)], args := [d] }
  | _ => none }
def PackAgainWrongFalsely : Prop := packAgainRow.holds Try.pinned (OpenSpec.ofChange packAgainWrong)

/-- 'duetlaw01.PackOrder': WHATEVER THE INPUT: true; the input reads as it did. -/
def packOrderSpec : ChangeSpec := { name := "packOrder", fn := fun _ => fun
  | [d1, d2, d3] => { results := [.lit (.bool true)], args := [d1, d2, d3] }
  | _ => none }
def packOrderRow : OpenClaim := { program := "ytiofmcjnpnokbaa", sum := "508085ef41737d7b370a362f08845093737a874e00d4b131f3921aa28d1e7321", func := "duet/duetlaw01.PackOrder", spec := "packOrder", apart := false }
def PackOrderSaid : Prop := packOrderRow.holds Try.pinned (OpenSpec.ofChange packOrderSpec)

/-- ITS FALSE NEIGHBOUR: 'it returns false'. Refute it at one input. -/
def packOrderWrong : ChangeSpec := { name := "packOrder", fn := fun _ => fun
  | [d1, d2, d3] => { results := [.lit (.bool false)], args := [d1, d2, d3] }
  | _ => none }
def PackOrderWrongFalsely : Prop := packOrderRow.holds Try.pinned (OpenSpec.ofChange packOrderWrong)

/-- 'duetlaw01.PackSizes': WHATEVER THE INPUT: true; the input reads as it did. -/
def packSizesSpec : ChangeSpec := { name := "packSizes", fn := fun _ => fun
  | [d1, d2] => { results := [.lit (.bool true)], args := [d1, d2] }
  | _ => none }
def packSizesRow : OpenClaim := { program := "ytiofmcjnpnokbaa", sum := "508085ef41737d7b370a362f08845093737a874e00d4b131f3921aa28d1e7321", func := "duet/duetlaw01.PackSizes", spec := "packSizes", apart := false }
def PackSizesSaid : Prop := packSizesRow.holds Try.pinned (OpenSpec.ofChange packSizesSpec)

/-- ITS FALSE NEIGHBOUR: 'it returns false'. Refute it at one input. -/
def packSizesWrong : ChangeSpec := { name := "packSizes", fn := fun _ => fun
  | [d1, d2] => { results := [.lit (.bool false)], args := [d1, d2] }
  | _ => none }
def PackSizesWrongFalsely : Prop := packSizesRow.holds Try.pinned (OpenSpec.ofChange packSizesWrong)

/-- 'duetlaw02.CrcsSums': WHATEVER THE INPUT: true; the input reads as it did. -/
def crcsSumsSpec : ChangeSpec := { name := "crcsSums", fn := fun _ => fun
  | [d1, d2] => { results := [.lit (.bool true)], args := [d1, d2] }
  | _ => none }
def crcsSumsRow : OpenClaim := { program := "ytiofmcjnpnokbaa", sum := "508085ef41737d7b370a362f08845093737a874e00d4b131f3921aa28d1e7321", func := "duet/duetlaw02.CrcsSums", spec := "crcsSums", apart := false }
def CrcsSumsSaid : Prop := crcsSumsRow.holds Try.pinned (OpenSpec.ofChange crcsSumsSpec)

/-- ITS FALSE NEIGHBOUR: 'it returns false'. Refute it at one input. -/
def crcsSumsWrong : ChangeSpec := { name := "crcsSums", fn := fun _ => fun
  | [d1, d2] => { results := [.lit (.bool false)], args := [d1, d2] }
  | _ => none }
def CrcsSumsWrongFalsely : Prop := crcsSumsRow.holds Try.pinned (OpenSpec.ofChange crcsSumsWrong)

/-- 'duetlaw02.CrcsOpens': WHATEVER THE INPUT: true; the input reads as it did. -/
def crcsOpensSpec : ChangeSpec := { name := "crcsOpens", fn := fun _ => fun
  | [d] => { results := [.lit (.bool true)], args := [d] }
  | _ => none }
def crcsOpensRow : OpenClaim := { program := "ytiofmcjnpnokbaa", sum := "508085ef41737d7b370a362f08845093737a874e00d4b131f3921aa28d1e7321", func := "duet/duetlaw02.CrcsOpens", spec := "crcsOpens", apart := false }
def CrcsOpensSaid : Prop := crcsOpensRow.holds Try.pinned (OpenSpec.ofChange crcsOpensSpec)

/-- ITS FALSE NEIGHBOUR: 'it returns false'. Refute it at one input. -/
def crcsOpensWrong : ChangeSpec := { name := "crcsOpens", fn := fun _ => fun
  | [d] => { results := [.lit (.bool false)], args := [d] }
  | _ => none }
def CrcsOpensWrongFalsely : Prop := crcsOpensRow.holds Try.pinned (OpenSpec.ofChange crcsOpensWrong)

/-- 'duetlaw02.CrcsBack': WHATEVER THE INPUT: true; the input reads as it did. -/
def crcsBackSpec : ChangeSpec := { name := "crcsBack", fn := fun _ => fun
  | [d] => { results := [.lit (.bool true)], args := [d] }
  | _ => none }
def crcsBackRow : OpenClaim := { program := "ytiofmcjnpnokbaa", sum := "508085ef41737d7b370a362f08845093737a874e00d4b131f3921aa28d1e7321", func := "duet/duetlaw02.CrcsBack", spec := "crcsBack", apart := false }
def CrcsBackSaid : Prop := crcsBackRow.holds Try.pinned (OpenSpec.ofChange crcsBackSpec)

/-- ITS FALSE NEIGHBOUR: 'it returns false'. Refute it at one input. -/
def crcsBackWrong : ChangeSpec := { name := "crcsBack", fn := fun _ => fun
  | [d] => { results := [.lit (.bool false)], args := [d] }
  | _ => none }
def CrcsBackWrongFalsely : Prop := crcsBackRow.holds Try.pinned (OpenSpec.ofChange crcsBackWrong)

/-- 'duetlaw02.CrcsTurned': WHATEVER THE INPUT: true; the input reads as it did. -/
def crcsTurnedSpec : ChangeSpec := { name := "crcsTurned", fn := fun _ => fun
  | [d1, d2, d3] => { results := [.lit (.bool true)], args := [d1, d2, d3] }
  | _ => none }
def crcsTurnedRow : OpenClaim := { program := "ytiofmcjnpnokbaa", sum := "508085ef41737d7b370a362f08845093737a874e00d4b131f3921aa28d1e7321", func := "duet/duetlaw02.CrcsTurned", spec := "crcsTurned", apart := false }
def CrcsTurnedSaid : Prop := crcsTurnedRow.holds Try.pinned (OpenSpec.ofChange crcsTurnedSpec)

/-- ITS FALSE NEIGHBOUR: 'it returns false'. Refute it at one input. -/
def crcsTurnedWrong : ChangeSpec := { name := "crcsTurned", fn := fun _ => fun
  | [d1, d2, d3] => { results := [.lit (.bool false)], args := [d1, d2, d3] }
  | _ => none }
def CrcsTurnedWrongFalsely : Prop := crcsTurnedRow.holds Try.pinned (OpenSpec.ofChange crcsTurnedWrong)

/-- 'duetlaw02.CrcsJoined': WHATEVER THE INPUT: true; the input reads as it did. -/
def crcsJoinedSpec : ChangeSpec := { name := "crcsJoined", fn := fun _ => fun
  | [d1, d2] => { results := [.lit (.bool true)], args := [d1, d2] }
  | _ => none }
def crcsJoinedRow : OpenClaim := { program := "ytiofmcjnpnokbaa", sum := "508085ef41737d7b370a362f08845093737a874e00d4b131f3921aa28d1e7321", func := "duet/duetlaw02.CrcsJoined", spec := "crcsJoined", apart := false }
def CrcsJoinedSaid : Prop := crcsJoinedRow.holds Try.pinned (OpenSpec.ofChange crcsJoinedSpec)

/-- ITS FALSE NEIGHBOUR: 'it returns false'. Refute it at one input. -/
def crcsJoinedWrong : ChangeSpec := { name := "crcsJoined", fn := fun _ => fun
  | [d1, d2] => { results := [.lit (.bool false)], args := [d1, d2] }
  | _ => none }
def CrcsJoinedWrongFalsely : Prop := crcsJoinedRow.holds Try.pinned (OpenSpec.ofChange crcsJoinedWrong)

/-- 'duetlaw02.CrcsApart': WHATEVER THE INPUT: true; the input reads as it did. -/
def crcsApartSpec : ChangeSpec := { name := "crcsApart", fn := fun _ => fun
  | [d1, d2, d3] => { results := [.lit (.bool true)], args := [d1, d2, d3] }
  | _ => none }
def crcsApartRow : OpenClaim := { program := "ytiofmcjnpnokbaa", sum := "508085ef41737d7b370a362f08845093737a874e00d4b131f3921aa28d1e7321", func := "duet/duetlaw02.CrcsApart", spec := "crcsApart", apart := false }
def CrcsApartSaid : Prop := crcsApartRow.holds Try.pinned (OpenSpec.ofChange crcsApartSpec)

/-- ITS FALSE NEIGHBOUR: 'it returns false'. Refute it at one input. -/
def crcsApartWrong : ChangeSpec := { name := "crcsApart", fn := fun _ => fun
  | [d1, d2, d3] => { results := [.lit (.bool false)], args := [d1, d2, d3] }
  | _ => none }
def CrcsApartWrongFalsely : Prop := crcsApartRow.holds Try.pinned (OpenSpec.ofChange crcsApartWrong)

/- THE SECOND FORM. 'bulk': how many values and letters a reading holds, each counted each time it is reached (what is shared counts as often as it is met; a slice's spare places count too). A statement '..UptoSaid' is the law's where the arguments, and the package variables that the reading takes, are together of bulk at most 1048576: NARROWER than '..Said'. Prove '..Said' where nothing that the law and all that it calls make is longer than what came in: it says more and counts as full. Else prove '..UptoSaid'. A law counts once. -/
mutual
def uptoBulk {H : Type} : DataW H → Nat
  | .lit (.string bytes) => bytes.length + 1
  | .lit _ => 1
  | .nil => 1
  | .ptr d => uptoBulk d + 1
  | .slice elems spare => uptoBulkAll elems + uptoBulkAll spare + 1
  | .agg parts => uptoBulkAll parts + 1
  | .iface _ d => uptoBulk d + 1
  | .map entries => uptoBulkEntries entries + 1
  | .held _ => 1
def uptoBulkAll {H : Type} : List (DataW H) → Nat
  | [] => 0
  | d :: r => uptoBulk d + uptoBulkAll r
def uptoBulkEntries {H : Type} : List (Lit × DataW H) → Nat
  | [] => 0
  | x :: r => uptoBulkEntry x + uptoBulkEntries r
def uptoBulkEntry {H : Type} : Lit × DataW H → Nat
  | (.string bytes, d) => bytes.length + uptoBulk d + 1
  | (_, d) => uptoBulk d + 1
 end
def uptoSmall : (H : Type) → List (DataW H) → Bool := fun _ ds => decide (uptoBulkAll ds ≤ 1048576)
def OpenSpec.upto (s : _root_.Go.ChangeSpec) : _root_.Go.OpenSpec := { _root_.Go.OpenSpec.ofChange s with cond := some uptoSmall }

/-- 'duetlaw01.PackWrites', WHERE WHAT IT READS IS OF BULK AT MOST 1048576: true; the input reads as it did. -/
def packWritesUptoRow : OpenClaim := { program := "ytiofmcjnpnokbaa", sum := "508085ef41737d7b370a362f08845093737a874e00d4b131f3921aa28d1e7321", func := "duet/duetlaw01.PackWrites", spec := "packWrites", apart := false, narrowed := true }
def PackWritesUptoSaid : Prop := packWritesUptoRow.holds Try.pinned (OpenSpec.upto packWritesSpec)

/-- 'duetlaw01.PackReads', WHERE WHAT IT READS IS OF BULK AT MOST 1048576: true; the input reads as it did. -/
def packReadsUptoRow : OpenClaim := { program := "ytiofmcjnpnokbaa", sum := "508085ef41737d7b370a362f08845093737a874e00d4b131f3921aa28d1e7321", func := "duet/duetlaw01.PackReads", spec := "packReads", apart := false, narrowed := true }
def PackReadsUptoSaid : Prop := packReadsUptoRow.holds Try.pinned (OpenSpec.upto packReadsSpec)

/-- 'duetlaw01.PackBack', WHERE WHAT IT READS IS OF BULK AT MOST 1048576: true; the input reads as it did. -/
def packBackUptoRow : OpenClaim := { program := "ytiofmcjnpnokbaa", sum := "508085ef41737d7b370a362f08845093737a874e00d4b131f3921aa28d1e7321", func := "duet/duetlaw01.PackBack", spec := "packBack", apart := false, narrowed := true }
def PackBackUptoSaid : Prop := packBackUptoRow.holds Try.pinned (OpenSpec.upto packBackSpec)

/-- 'duetlaw01.PackAgain', WHERE WHAT IT READS IS OF BULK AT MOST 1048576: true; the input reads as it did. -/
def packAgainUptoRow : OpenClaim := { program := "ytiofmcjnpnokbaa", sum := "508085ef41737d7b370a362f08845093737a874e00d4b131f3921aa28d1e7321", func := "duet/duetlaw01.PackAgain", spec := "packAgain", apart := false, narrowed := true }
def PackAgainUptoSaid : Prop := packAgainUptoRow.holds Try.pinned (OpenSpec.upto packAgainSpec)

/-- 'duetlaw01.PackOrder', WHERE WHAT IT READS IS OF BULK AT MOST 1048576: true; the input reads as it did. -/
def packOrderUptoRow : OpenClaim := { program := "ytiofmcjnpnokbaa", sum := "508085ef41737d7b370a362f08845093737a874e00d4b131f3921aa28d1e7321", func := "duet/duetlaw01.PackOrder", spec := "packOrder", apart := false, narrowed := true }
def PackOrderUptoSaid : Prop := packOrderUptoRow.holds Try.pinned (OpenSpec.upto packOrderSpec)

/-- 'duetlaw01.PackSizes', WHERE WHAT IT READS IS OF BULK AT MOST 1048576: true; the input reads as it did. -/
def packSizesUptoRow : OpenClaim := { program := "ytiofmcjnpnokbaa", sum := "508085ef41737d7b370a362f08845093737a874e00d4b131f3921aa28d1e7321", func := "duet/duetlaw01.PackSizes", spec := "packSizes", apart := false, narrowed := true }
def PackSizesUptoSaid : Prop := packSizesUptoRow.holds Try.pinned (OpenSpec.upto packSizesSpec)

/-- 'duetlaw02.CrcsSums', WHERE WHAT IT READS IS OF BULK AT MOST 1048576: true; the input reads as it did. -/
def crcsSumsUptoRow : OpenClaim := { program := "ytiofmcjnpnokbaa", sum := "508085ef41737d7b370a362f08845093737a874e00d4b131f3921aa28d1e7321", func := "duet/duetlaw02.CrcsSums", spec := "crcsSums", apart := false, narrowed := true }
def CrcsSumsUptoSaid : Prop := crcsSumsUptoRow.holds Try.pinned (OpenSpec.upto crcsSumsSpec)

/-- 'duetlaw02.CrcsOpens', WHERE WHAT IT READS IS OF BULK AT MOST 1048576: true; the input reads as it did. -/
def crcsOpensUptoRow : OpenClaim := { program := "ytiofmcjnpnokbaa", sum := "508085ef41737d7b370a362f08845093737a874e00d4b131f3921aa28d1e7321", func := "duet/duetlaw02.CrcsOpens", spec := "crcsOpens", apart := false, narrowed := true }
def CrcsOpensUptoSaid : Prop := crcsOpensUptoRow.holds Try.pinned (OpenSpec.upto crcsOpensSpec)

/-- 'duetlaw02.CrcsBack', WHERE WHAT IT READS IS OF BULK AT MOST 1048576: true; the input reads as it did. -/
def crcsBackUptoRow : OpenClaim := { program := "ytiofmcjnpnokbaa", sum := "508085ef41737d7b370a362f08845093737a874e00d4b131f3921aa28d1e7321", func := "duet/duetlaw02.CrcsBack", spec := "crcsBack", apart := false, narrowed := true }
def CrcsBackUptoSaid : Prop := crcsBackUptoRow.holds Try.pinned (OpenSpec.upto crcsBackSpec)

/-- 'duetlaw02.CrcsTurned', WHERE WHAT IT READS IS OF BULK AT MOST 1048576: true; the input reads as it did. -/
def crcsTurnedUptoRow : OpenClaim := { program := "ytiofmcjnpnokbaa", sum := "508085ef41737d7b370a362f08845093737a874e00d4b131f3921aa28d1e7321", func := "duet/duetlaw02.CrcsTurned", spec := "crcsTurned", apart := false, narrowed := true }
def CrcsTurnedUptoSaid : Prop := crcsTurnedUptoRow.holds Try.pinned (OpenSpec.upto crcsTurnedSpec)

/-- 'duetlaw02.CrcsJoined', WHERE WHAT IT READS IS OF BULK AT MOST 1048576: true; the input reads as it did. -/
def crcsJoinedUptoRow : OpenClaim := { program := "ytiofmcjnpnokbaa", sum := "508085ef41737d7b370a362f08845093737a874e00d4b131f3921aa28d1e7321", func := "duet/duetlaw02.CrcsJoined", spec := "crcsJoined", apart := false, narrowed := true }
def CrcsJoinedUptoSaid : Prop := crcsJoinedUptoRow.holds Try.pinned (OpenSpec.upto crcsJoinedSpec)

/-- 'duetlaw02.CrcsApart', WHERE WHAT IT READS IS OF BULK AT MOST 1048576: true; the input reads as it did. -/
def crcsApartUptoRow : OpenClaim := { program := "ytiofmcjnpnokbaa", sum := "508085ef41737d7b370a362f08845093737a874e00d4b131f3921aa28d1e7321", func := "duet/duetlaw02.CrcsApart", spec := "crcsApart", apart := false, narrowed := true }
def CrcsApartUptoSaid : Prop := crcsApartUptoRow.holds Try.pinned (OpenSpec.upto crcsApartSpec)

end Rows
end Go.Proofs.Ytiofmcjnpnokbaa
