/-
  No cell of these rows narrows 'for every input' (looked for: loops, veiled, ifaces, maps, wideKeys, modest, calm, conditions, laid).
  DERIVED. THE GIVEN ROWS OF THIS SEAT. 12 by the template 'for every input the law returns true; each argument reads behind the call as it read before'; 0 by the template 'total and deterministic' (their statements: YtcmdfjeiefgmhaaTotals.lean).
  GIVEN WITH THE SEED: the statements are not yours to turn. If you find one false, say at which input.
  Laid BY PROGRAM, IN A SANDBOX (cutbox-rows.mjs): the forced cells as the released guide's own fill.sh prints them over the translation 23e485b068a84761… (all of the seat's roots in one cut). By AI agents, Wed Nov 11 2026. No macro, syntax, notation, axiom, sorry.
-/
import Derived.Test.YtcmdfjeiefgmhaaChecked
import GoSem.Claim
import GoSem.ClaimJoined
import GoSem.ClaimMapViews
import Derived.JoinedTies
import Derived.KernelRfl
namespace Go.Proofs.Ytcmdfjeiefgmhaa
/- THE CELL 'sum', in the pinned program and in every row, IS THE sha256 OF THE DUMP (.gsa) THAT YtcmdfjeiefgmhaaProg.lean LOADS. Nothing in Lean hashes anything: it is a label: what it is worth is what the hold of that sum in a sandbox is worth. -/
noncomputable def Try.pinned : Pinned := { name := "ytcmdfjeiefgmhaa", sum := "23e485b068a84761fa5c8cb43d5884533d1cb2a0fe5304bfe71c9dfe6cc45f62", checked := Try.checked }
namespace Rows
def none {H : Type} : Left H := { results := [], args := [] }

/-- 'duetlaw15.SubmitScripts': WHATEVER THE INPUT: true; the input reads as it did. -/
def submitScriptsSpec : ChangeSpec := { name := "submitScripts", fn := fun _ => fun
  | [d1, d2, d3] => { results := [.lit (.bool true)], args := [d1, d2, d3] }
  | _ => none }
def submitScriptsRow : OpenClaim := { program := "ytcmdfjeiefgmhaa", sum := "23e485b068a84761fa5c8cb43d5884533d1cb2a0fe5304bfe71c9dfe6cc45f62", func := "duet/duetlaw15.SubmitScripts", spec := "submitScripts", unfollowed := true, recurses := true, plainKeys := false, apart := false }
def SubmitScriptsSaid : Prop := submitScriptsRow.holds Try.pinned (OpenSpec.ofChange submitScriptsSpec)

/-- ITS FALSE NEIGHBOUR: 'it returns false'. Refute it at one input. -/
def submitScriptsWrong : ChangeSpec := { name := "submitScripts", fn := fun _ => fun
  | [d1, d2, d3] => { results := [.lit (.bool false)], args := [d1, d2, d3] }
  | _ => none }
def SubmitScriptsWrongFalsely : Prop := submitScriptsRow.holds Try.pinned (OpenSpec.ofChange submitScriptsWrong)

/-- 'duetlaw15.SubmitNil': WHATEVER THE INPUT: true; the input reads as it did. -/
def submitNilSpec : ChangeSpec := { name := "submitNil", fn := fun _ => fun
  | [d] => { results := [.lit (.bool true)], args := [d] }
  | _ => none }
def submitNilRow : OpenClaim := { program := "ytcmdfjeiefgmhaa", sum := "23e485b068a84761fa5c8cb43d5884533d1cb2a0fe5304bfe71c9dfe6cc45f62", func := "duet/duetlaw15.SubmitNil", spec := "submitNil", unfollowed := true, recurses := true, plainKeys := false, apart := false }
def SubmitNilSaid : Prop := submitNilRow.holds Try.pinned (OpenSpec.ofChange submitNilSpec)

/-- ITS FALSE NEIGHBOUR: 'it returns false'. Refute it at one input. -/
def submitNilWrong : ChangeSpec := { name := "submitNil", fn := fun _ => fun
  | [d] => { results := [.lit (.bool false)], args := [d] }
  | _ => none }
def SubmitNilWrongFalsely : Prop := submitNilRow.holds Try.pinned (OpenSpec.ofChange submitNilWrong)

/-- 'duetlaw15.SubmitOne': WHATEVER THE INPUT: true; the input reads as it did. -/
def submitOneSpec : ChangeSpec := { name := "submitOne", fn := fun _ => fun
  | [d1, d2] => { results := [.lit (.bool true)], args := [d1, d2] }
  | _ => none }
def submitOneRow : OpenClaim := { program := "ytcmdfjeiefgmhaa", sum := "23e485b068a84761fa5c8cb43d5884533d1cb2a0fe5304bfe71c9dfe6cc45f62", func := "duet/duetlaw15.SubmitOne", spec := "submitOne", unfollowed := true, recurses := true, plainKeys := false, apart := false }
def SubmitOneSaid : Prop := submitOneRow.holds Try.pinned (OpenSpec.ofChange submitOneSpec)

/-- ITS FALSE NEIGHBOUR: 'it returns false'. Refute it at one input. -/
def submitOneWrong : ChangeSpec := { name := "submitOne", fn := fun _ => fun
  | [d1, d2] => { results := [.lit (.bool false)], args := [d1, d2] }
  | _ => none }
def SubmitOneWrongFalsely : Prop := submitOneRow.holds Try.pinned (OpenSpec.ofChange submitOneWrong)

/-- 'duetlaw15.SubmitMixed': WHATEVER THE INPUT: true; the input reads as it did. -/
def submitMixedSpec : ChangeSpec := { name := "submitMixed", fn := fun _ => fun
  | [d1, d2] => { results := [.lit (.bool true)], args := [d1, d2] }
  | _ => none }
def submitMixedRow : OpenClaim := { program := "ytcmdfjeiefgmhaa", sum := "23e485b068a84761fa5c8cb43d5884533d1cb2a0fe5304bfe71c9dfe6cc45f62", func := "duet/duetlaw15.SubmitMixed", spec := "submitMixed", unfollowed := true, recurses := true, plainKeys := false, apart := false }
def SubmitMixedSaid : Prop := submitMixedRow.holds Try.pinned (OpenSpec.ofChange submitMixedSpec)

/-- ITS FALSE NEIGHBOUR: 'it returns false'. Refute it at one input. -/
def submitMixedWrong : ChangeSpec := { name := "submitMixed", fn := fun _ => fun
  | [d1, d2] => { results := [.lit (.bool false)], args := [d1, d2] }
  | _ => none }
def SubmitMixedWrongFalsely : Prop := submitMixedRow.holds Try.pinned (OpenSpec.ofChange submitMixedWrong)

/-- 'duetlaw15.SubmitAll': WHATEVER THE INPUT: true; the input reads as it did. -/
def submitAllSpec : ChangeSpec := { name := "submitAll", fn := fun _ => fun
  | [d1, d2, d3] => { results := [.lit (.bool true)], args := [d1, d2, d3] }
  | _ => none }
def submitAllRow : OpenClaim := { program := "ytcmdfjeiefgmhaa", sum := "23e485b068a84761fa5c8cb43d5884533d1cb2a0fe5304bfe71c9dfe6cc45f62", func := "duet/duetlaw15.SubmitAll", spec := "submitAll", unfollowed := true, recurses := true, plainKeys := false, apart := false }
def SubmitAllSaid : Prop := submitAllRow.holds Try.pinned (OpenSpec.ofChange submitAllSpec)

/-- ITS FALSE NEIGHBOUR: 'it returns false'. Refute it at one input. -/
def submitAllWrong : ChangeSpec := { name := "submitAll", fn := fun _ => fun
  | [d1, d2, d3] => { results := [.lit (.bool false)], args := [d1, d2, d3] }
  | _ => none }
def SubmitAllWrongFalsely : Prop := submitAllRow.holds Try.pinned (OpenSpec.ofChange submitAllWrong)

/-- 'duetlaw16.PastLogs': WHATEVER THE INPUT: true; the input reads as it did. -/
def pastLogsSpec : ChangeSpec := { name := "pastLogs", fn := fun _ => fun
  | [d1, d2] => { results := [.lit (.bool true)], args := [d1, d2] }
  | _ => none }
def pastLogsRow : OpenClaim := { program := "ytcmdfjeiefgmhaa", sum := "23e485b068a84761fa5c8cb43d5884533d1cb2a0fe5304bfe71c9dfe6cc45f62", func := "duet/duetlaw16.PastLogs", spec := "pastLogs", plainKeys := false, apart := false }
def PastLogsSaid : Prop := pastLogsRow.holds Try.pinned (OpenSpec.ofChange pastLogsSpec)

/-- ITS FALSE NEIGHBOUR: 'it returns false'. Refute it at one input. -/
def pastLogsWrong : ChangeSpec := { name := "pastLogs", fn := fun _ => fun
  | [d1, d2] => { results := [.lit (.bool false)], args := [d1, d2] }
  | _ => none }
def PastLogsWrongFalsely : Prop := pastLogsRow.holds Try.pinned (OpenSpec.ofChange pastLogsWrong)

/-- 'duetlaw16.PastPrefix': WHATEVER THE INPUT: true; the input reads as it did. -/
def pastPrefixSpec : ChangeSpec := { name := "pastPrefix", fn := fun _ => fun
  | [d1, d2] => { results := [.lit (.bool true)], args := [d1, d2] }
  | _ => none }
def pastPrefixRow : OpenClaim := { program := "ytcmdfjeiefgmhaa", sum := "23e485b068a84761fa5c8cb43d5884533d1cb2a0fe5304bfe71c9dfe6cc45f62", func := "duet/duetlaw16.PastPrefix", spec := "pastPrefix", plainKeys := false, apart := false }
def PastPrefixSaid : Prop := pastPrefixRow.holds Try.pinned (OpenSpec.ofChange pastPrefixSpec)

/-- ITS FALSE NEIGHBOUR: 'it returns false'. Refute it at one input. -/
def pastPrefixWrong : ChangeSpec := { name := "pastPrefix", fn := fun _ => fun
  | [d1, d2] => { results := [.lit (.bool false)], args := [d1, d2] }
  | _ => none }
def PastPrefixWrongFalsely : Prop := pastPrefixRow.holds Try.pinned (OpenSpec.ofChange pastPrefixWrong)

/-- 'duetlaw16.PastWhere': WHATEVER THE INPUT: true; the input reads as it did. -/
def pastWhereSpec : ChangeSpec := { name := "pastWhere", fn := fun _ => fun
  | [d] => { results := [.lit (.bool true)], args := [d] }
  | _ => none }
def pastWhereRow : OpenClaim := { program := "ytcmdfjeiefgmhaa", sum := "23e485b068a84761fa5c8cb43d5884533d1cb2a0fe5304bfe71c9dfe6cc45f62", func := "duet/duetlaw16.PastWhere", spec := "pastWhere", plainKeys := false, apart := false }
def PastWhereSaid : Prop := pastWhereRow.holds Try.pinned (OpenSpec.ofChange pastWhereSpec)

/-- ITS FALSE NEIGHBOUR: 'it returns false'. Refute it at one input. -/
def pastWhereWrong : ChangeSpec := { name := "pastWhere", fn := fun _ => fun
  | [d] => { results := [.lit (.bool false)], args := [d] }
  | _ => none }
def PastWhereWrongFalsely : Prop := pastWhereRow.holds Try.pinned (OpenSpec.ofChange pastWhereWrong)

/-- 'duetlaw16.PastNil': WHATEVER THE INPUT: true; the input reads as it did. -/
def pastNilSpec : ChangeSpec := { name := "pastNil", fn := fun _ => fun
  | [d1, d2] => { results := [.lit (.bool true)], args := [d1, d2] }
  | _ => none }
def pastNilRow : OpenClaim := { program := "ytcmdfjeiefgmhaa", sum := "23e485b068a84761fa5c8cb43d5884533d1cb2a0fe5304bfe71c9dfe6cc45f62", func := "duet/duetlaw16.PastNil", spec := "pastNil", plainKeys := false, apart := false }
def PastNilSaid : Prop := pastNilRow.holds Try.pinned (OpenSpec.ofChange pastNilSpec)

/-- ITS FALSE NEIGHBOUR: 'it returns false'. Refute it at one input. -/
def pastNilWrong : ChangeSpec := { name := "pastNil", fn := fun _ => fun
  | [d1, d2] => { results := [.lit (.bool false)], args := [d1, d2] }
  | _ => none }
def PastNilWrongFalsely : Prop := pastNilRow.holds Try.pinned (OpenSpec.ofChange pastNilWrong)

/-- 'duetlaw16.PastGrows': WHATEVER THE INPUT: true; the input reads as it did. -/
def pastGrowsSpec : ChangeSpec := { name := "pastGrows", fn := fun _ => fun
  | [d1, d2] => { results := [.lit (.bool true)], args := [d1, d2] }
  | _ => none }
def pastGrowsRow : OpenClaim := { program := "ytcmdfjeiefgmhaa", sum := "23e485b068a84761fa5c8cb43d5884533d1cb2a0fe5304bfe71c9dfe6cc45f62", func := "duet/duetlaw16.PastGrows", spec := "pastGrows", plainKeys := false, apart := false }
def PastGrowsSaid : Prop := pastGrowsRow.holds Try.pinned (OpenSpec.ofChange pastGrowsSpec)

/-- ITS FALSE NEIGHBOUR: 'it returns false'. Refute it at one input. -/
def pastGrowsWrong : ChangeSpec := { name := "pastGrows", fn := fun _ => fun
  | [d1, d2] => { results := [.lit (.bool false)], args := [d1, d2] }
  | _ => none }
def PastGrowsWrongFalsely : Prop := pastGrowsRow.holds Try.pinned (OpenSpec.ofChange pastGrowsWrong)

/-- 'duetlaw16.PastTurned': WHATEVER THE INPUT: true; the input reads as it did. -/
def pastTurnedSpec : ChangeSpec := { name := "pastTurned", fn := fun _ => fun
  | [d1, d2, d3] => { results := [.lit (.bool true)], args := [d1, d2, d3] }
  | _ => none }
def pastTurnedRow : OpenClaim := { program := "ytcmdfjeiefgmhaa", sum := "23e485b068a84761fa5c8cb43d5884533d1cb2a0fe5304bfe71c9dfe6cc45f62", func := "duet/duetlaw16.PastTurned", spec := "pastTurned", plainKeys := false, apart := false }
def PastTurnedSaid : Prop := pastTurnedRow.holds Try.pinned (OpenSpec.ofChange pastTurnedSpec)

/-- ITS FALSE NEIGHBOUR: 'it returns false'. Refute it at one input. -/
def pastTurnedWrong : ChangeSpec := { name := "pastTurned", fn := fun _ => fun
  | [d1, d2, d3] => { results := [.lit (.bool false)], args := [d1, d2, d3] }
  | _ => none }
def PastTurnedWrongFalsely : Prop := pastTurnedRow.holds Try.pinned (OpenSpec.ofChange pastTurnedWrong)

/-- 'duetlaw16.PastOne': WHATEVER THE INPUT: true; the input reads as it did. -/
def pastOneSpec : ChangeSpec := { name := "pastOne", fn := fun _ => fun
  | [d] => { results := [.lit (.bool true)], args := [d] }
  | _ => none }
def pastOneRow : OpenClaim := { program := "ytcmdfjeiefgmhaa", sum := "23e485b068a84761fa5c8cb43d5884533d1cb2a0fe5304bfe71c9dfe6cc45f62", func := "duet/duetlaw16.PastOne", spec := "pastOne", plainKeys := false, apart := false }
def PastOneSaid : Prop := pastOneRow.holds Try.pinned (OpenSpec.ofChange pastOneSpec)

/-- ITS FALSE NEIGHBOUR: 'it returns false'. Refute it at one input. -/
def pastOneWrong : ChangeSpec := { name := "pastOne", fn := fun _ => fun
  | [d] => { results := [.lit (.bool false)], args := [d] }
  | _ => none }
def PastOneWrongFalsely : Prop := pastOneRow.holds Try.pinned (OpenSpec.ofChange pastOneWrong)

/- THE SECOND FORM. 'bulk': how many values and letters a reading holds, each counted each time it is reached (what is shared counts as often as it is met; a slice's spare places count too). A statement '..UptoSaid' is the law's where the arguments, and the package variables that the reading takes, are together of bulk at most 1048576: NARROWER than '..Said'. Prove '..Said' where nothing that the law and all that it calls make is longer than what came in: it says more and counts as full. Else prove '..UptoSaid'. A law counts once. -/
mutual
def uptoBulk {H : Type} : DataW H → Nat
  | .lit (.string bytes) => bytes.length + 1
  | .lit _ => 1
  | .nil => 1
  | .ptr d => uptoBulk d + 1
  | .slice elems spare => uptoBulkAll elems + uptoBulkAll spare + 1
  | .agg parts => uptoBulkAll parts + 1
  | .iface _ d => uptoBulk d + 1
  | .map entries => uptoBulkEntries entries + 1
  | .held _ => 1
def uptoBulkAll {H : Type} : List (DataW H) → Nat
  | [] => 0
  | d :: r => uptoBulk d + uptoBulkAll r
def uptoBulkEntries {H : Type} : List (Lit × DataW H) → Nat
  | [] => 0
  | x :: r => uptoBulkEntry x + uptoBulkEntries r
def uptoBulkEntry {H : Type} : Lit × DataW H → Nat
  | (.string bytes, d) => bytes.length + uptoBulk d + 1
  | (_, d) => uptoBulk d + 1
 end
def uptoSmall : (H : Type) → List (DataW H) → Bool := fun _ ds => decide (uptoBulkAll ds ≤ 1048576)
def OpenSpec.upto (s : _root_.Go.ChangeSpec) : _root_.Go.OpenSpec := { _root_.Go.OpenSpec.ofChange s with cond := some uptoSmall }

/-- 'duetlaw15.SubmitScripts', WHERE WHAT IT READS IS OF BULK AT MOST 1048576: true; the input reads as it did. -/
def submitScriptsUptoRow : OpenClaim := { program := "ytcmdfjeiefgmhaa", sum := "23e485b068a84761fa5c8cb43d5884533d1cb2a0fe5304bfe71c9dfe6cc45f62", func := "duet/duetlaw15.SubmitScripts", spec := "submitScripts", unfollowed := true, recurses := true, plainKeys := false, apart := false, narrowed := true }
def SubmitScriptsUptoSaid : Prop := submitScriptsUptoRow.holds Try.pinned (OpenSpec.upto submitScriptsSpec)

/-- 'duetlaw15.SubmitNil', WHERE WHAT IT READS IS OF BULK AT MOST 1048576: true; the input reads as it did. -/
def submitNilUptoRow : OpenClaim := { program := "ytcmdfjeiefgmhaa", sum := "23e485b068a84761fa5c8cb43d5884533d1cb2a0fe5304bfe71c9dfe6cc45f62", func := "duet/duetlaw15.SubmitNil", spec := "submitNil", unfollowed := true, recurses := true, plainKeys := false, apart := false, narrowed := true }
def SubmitNilUptoSaid : Prop := submitNilUptoRow.holds Try.pinned (OpenSpec.upto submitNilSpec)

/-- 'duetlaw15.SubmitOne', WHERE WHAT IT READS IS OF BULK AT MOST 1048576: true; the input reads as it did. -/
def submitOneUptoRow : OpenClaim := { program := "ytcmdfjeiefgmhaa", sum := "23e485b068a84761fa5c8cb43d5884533d1cb2a0fe5304bfe71c9dfe6cc45f62", func := "duet/duetlaw15.SubmitOne", spec := "submitOne", unfollowed := true, recurses := true, plainKeys := false, apart := false, narrowed := true }
def SubmitOneUptoSaid : Prop := submitOneUptoRow.holds Try.pinned (OpenSpec.upto submitOneSpec)

/-- 'duetlaw15.SubmitMixed', WHERE WHAT IT READS IS OF BULK AT MOST 1048576: true; the input reads as it did. -/
def submitMixedUptoRow : OpenClaim := { program := "ytcmdfjeiefgmhaa", sum := "23e485b068a84761fa5c8cb43d5884533d1cb2a0fe5304bfe71c9dfe6cc45f62", func := "duet/duetlaw15.SubmitMixed", spec := "submitMixed", unfollowed := true, recurses := true, plainKeys := false, apart := false, narrowed := true }
def SubmitMixedUptoSaid : Prop := submitMixedUptoRow.holds Try.pinned (OpenSpec.upto submitMixedSpec)

/-- 'duetlaw15.SubmitAll', WHERE WHAT IT READS IS OF BULK AT MOST 1048576: true; the input reads as it did. -/
def submitAllUptoRow : OpenClaim := { program := "ytcmdfjeiefgmhaa", sum := "23e485b068a84761fa5c8cb43d5884533d1cb2a0fe5304bfe71c9dfe6cc45f62", func := "duet/duetlaw15.SubmitAll", spec := "submitAll", unfollowed := true, recurses := true, plainKeys := false, apart := false, narrowed := true }
def SubmitAllUptoSaid : Prop := submitAllUptoRow.holds Try.pinned (OpenSpec.upto submitAllSpec)

/-- 'duetlaw16.PastLogs', WHERE WHAT IT READS IS OF BULK AT MOST 1048576: true; the input reads as it did. -/
def pastLogsUptoRow : OpenClaim := { program := "ytcmdfjeiefgmhaa", sum := "23e485b068a84761fa5c8cb43d5884533d1cb2a0fe5304bfe71c9dfe6cc45f62", func := "duet/duetlaw16.PastLogs", spec := "pastLogs", plainKeys := false, apart := false, narrowed := true }
def PastLogsUptoSaid : Prop := pastLogsUptoRow.holds Try.pinned (OpenSpec.upto pastLogsSpec)

/-- 'duetlaw16.PastPrefix', WHERE WHAT IT READS IS OF BULK AT MOST 1048576: true; the input reads as it did. -/
def pastPrefixUptoRow : OpenClaim := { program := "ytcmdfjeiefgmhaa", sum := "23e485b068a84761fa5c8cb43d5884533d1cb2a0fe5304bfe71c9dfe6cc45f62", func := "duet/duetlaw16.PastPrefix", spec := "pastPrefix", plainKeys := false, apart := false, narrowed := true }
def PastPrefixUptoSaid : Prop := pastPrefixUptoRow.holds Try.pinned (OpenSpec.upto pastPrefixSpec)

/-- 'duetlaw16.PastWhere', WHERE WHAT IT READS IS OF BULK AT MOST 1048576: true; the input reads as it did. -/
def pastWhereUptoRow : OpenClaim := { program := "ytcmdfjeiefgmhaa", sum := "23e485b068a84761fa5c8cb43d5884533d1cb2a0fe5304bfe71c9dfe6cc45f62", func := "duet/duetlaw16.PastWhere", spec := "pastWhere", plainKeys := false, apart := false, narrowed := true }
def PastWhereUptoSaid : Prop := pastWhereUptoRow.holds Try.pinned (OpenSpec.upto pastWhereSpec)

/-- 'duetlaw16.PastNil', WHERE WHAT IT READS IS OF BULK AT MOST 1048576: true; the input reads as it did. -/
def pastNilUptoRow : OpenClaim := { program := "ytcmdfjeiefgmhaa", sum := "23e485b068a84761fa5c8cb43d5884533d1cb2a0fe5304bfe71c9dfe6cc45f62", func := "duet/duetlaw16.PastNil", spec := "pastNil", plainKeys := false, apart := false, narrowed := true }
def PastNilUptoSaid : Prop := pastNilUptoRow.holds Try.pinned (OpenSpec.upto pastNilSpec)

/-- 'duetlaw16.PastGrows', WHERE WHAT IT READS IS OF BULK AT MOST 1048576: true; the input reads as it did. -/
def pastGrowsUptoRow : OpenClaim := { program := "ytcmdfjeiefgmhaa", sum := "23e485b068a84761fa5c8cb43d5884533d1cb2a0fe5304bfe71c9dfe6cc45f62", func := "duet/duetlaw16.PastGrows", spec := "pastGrows", plainKeys := false, apart := false, narrowed := true }
def PastGrowsUptoSaid : Prop := pastGrowsUptoRow.holds Try.pinned (OpenSpec.upto pastGrowsSpec)

/-- 'duetlaw16.PastTurned', WHERE WHAT IT READS IS OF BULK AT MOST 1048576: true; the input reads as it did. -/
def pastTurnedUptoRow : OpenClaim := { program := "ytcmdfjeiefgmhaa", sum := "23e485b068a84761fa5c8cb43d5884533d1cb2a0fe5304bfe71c9dfe6cc45f62", func := "duet/duetlaw16.PastTurned", spec := "pastTurned", plainKeys := false, apart := false, narrowed := true }
def PastTurnedUptoSaid : Prop := pastTurnedUptoRow.holds Try.pinned (OpenSpec.upto pastTurnedSpec)

/-- 'duetlaw16.PastOne', WHERE WHAT IT READS IS OF BULK AT MOST 1048576: true; the input reads as it did. -/
def pastOneUptoRow : OpenClaim := { program := "ytcmdfjeiefgmhaa", sum := "23e485b068a84761fa5c8cb43d5884533d1cb2a0fe5304bfe71c9dfe6cc45f62", func := "duet/duetlaw16.PastOne", spec := "pastOne", plainKeys := false, apart := false, narrowed := true }
def PastOneUptoSaid : Prop := pastOneUptoRow.holds Try.pinned (OpenSpec.upto pastOneSpec)

end Rows
end Go.Proofs.Ytcmdfjeiefgmhaa
