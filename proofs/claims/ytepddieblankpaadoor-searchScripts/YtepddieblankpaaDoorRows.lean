/-
  NARROWER THAN 'FOR EVERY INPUT', by the rows' own cells (each row's printed sentence says how): SearchScripts: laid · SearchNil: laid · SearchFits: laid · SearchBrowses: laid · SearchLast: laid · CellsWidths: laid · CellsBlocks: laid · CellsFits: laid · CellsMost: laid · CellsJoined: laid · CellsPlain: laid.
  DERIVED. THE GIVEN ROWS OF THIS SEAT. 11 by the template 'for every input the law returns true; each argument reads behind the call as it read before'; 0 by the template 'total and deterministic' (their statements: YtepddieblankpaaDoorTotals.lean).
  GIVEN WITH THE SEED: the statements are not yours to turn. If you find one false, say at which input.
  Laid BY PROGRAM, IN A SANDBOX (cutbox-rows.mjs): the forced cells as the released guide's own fill.sh prints them over the translation 2cb247f9c12264eb… (all of the seat's roots in one cut). By AI agents, Wed Nov 11 2026. No macro, syntax, notation, axiom, sorry.
-/
import Derived.Test.YtepddieblankpaaDoorChecked
import GoSem.PinnedTables
import GoSem.Claim
import GoSem.ClaimJoined
import GoSem.ClaimMapViews
import Derived.JoinedTies
import Derived.KernelRfl
namespace Go.Proofs.YtepddieblankpaaDoor
/- THE CELL 'sum', in the pinned program and in every row, IS THE sha256 OF THE DUMP (.gsa) THAT YtepddieblankpaaDoorProg.lean LOADS. Nothing in Lean hashes anything: it is a label: what it is worth is what the hold of that sum in a sandbox is worth. -/
noncomputable def Tryd.pinned : Pinned := { name := "ytepddieblankpaadoor", sum := "2cb247f9c12264ebd2b2dc55b0be81969dafa55d04d39f9b55d9b3b3445ac1a4", checked := Tryd.checked }
namespace Rows
def none {H : Type} : Left H := { results := [], args := [] }

/- WHAT THE LISTED PACKAGE-LEVEL VARIABLES READ AS WHEN THE CALL BEGINS. Each datum BY PROGRAM (the guide's laid-datum.mjs) off the statement by which the dump's own 'gosem.cut.vars' lays the variable. In a bare row this is a premise. The card (YtepddieblankpaaDoorCards.lean) ties it to the program's text. -/
def laid_unicode_utf8_acceptRanges {H : Type} : DataW H := .agg [.agg [.lit (.int .u8 128), .lit (.int .u8 191)], .agg [.lit (.int .u8 160), .lit (.int .u8 191)], .agg [.lit (.int .u8 128), .lit (.int .u8 159)], .agg [.lit (.int .u8 144), .lit (.int .u8 191)], .agg [.lit (.int .u8 128), .lit (.int .u8 143)], .agg [.lit (.int .u8 0), .lit (.int .u8 0)], .agg [.lit (.int .u8 0), .lit (.int .u8 0)], .agg [.lit (.int .u8 0), .lit (.int .u8 0)], .agg [.lit (.int .u8 0), .lit (.int .u8 0)], .agg [.lit (.int .u8 0), .lit (.int .u8 0)], .agg [.lit (.int .u8 0), .lit (.int .u8 0)], .agg [.lit (.int .u8 0), .lit (.int .u8 0)], .agg [.lit (.int .u8 0), .lit (.int .u8 0)], .agg [.lit (.int .u8 0), .lit (.int .u8 0)], .agg [.lit (.int .u8 0), .lit (.int .u8 0)], .agg [.lit (.int .u8 0), .lit (.int .u8 0)]]
/-- One of Go's own tables, pinned by name: the form's constant. -/
def laid_unicode_utf8_first : DataW Unit := Go.Pinned.utf8First
def laid_duet_cells_ranges {H : Type} : DataW H := .slice [.agg [.lit (.int .i64 127), .lit (.int .i64 159), .lit (.int .i64 0)], .agg [.lit (.int .i64 768), .lit (.int .i64 879), .lit (.int .i64 0)], .agg [.lit (.int .i64 4352), .lit (.int .i64 4447), .lit (.int .i64 2)], .agg [.lit (.int .i64 8203), .lit (.int .i64 8207), .lit (.int .i64 0)], .agg [.lit (.int .i64 8400), .lit (.int .i64 8447), .lit (.int .i64 0)], .agg [.lit (.int .i64 11904), .lit (.int .i64 12350), .lit (.int .i64 2)], .agg [.lit (.int .i64 12353), .lit (.int .i64 42191), .lit (.int .i64 2)], .agg [.lit (.int .i64 44032), .lit (.int .i64 55203), .lit (.int .i64 2)], .agg [.lit (.int .i64 55296), .lit (.int .i64 57343), .lit (.int .i64 0)], .agg [.lit (.int .i64 63744), .lit (.int .i64 64255), .lit (.int .i64 2)], .agg [.lit (.int .i64 65024), .lit (.int .i64 65039), .lit (.int .i64 0)], .agg [.lit (.int .i64 65056), .lit (.int .i64 65071), .lit (.int .i64 0)], .agg [.lit (.int .i64 65072), .lit (.int .i64 65135), .lit (.int .i64 2)], .agg [.lit (.int .i64 65281), .lit (.int .i64 65376), .lit (.int .i64 2)], .agg [.lit (.int .i64 65504), .lit (.int .i64 65510), .lit (.int .i64 2)], .agg [.lit (.int .i64 127744), .lit (.int .i64 128591), .lit (.int .i64 2)], .agg [.lit (.int .i64 128640), .lit (.int .i64 128767), .lit (.int .i64 2)], .agg [.lit (.int .i64 129280), .lit (.int .i64 129535), .lit (.int .i64 2)], .agg [.lit (.int .i64 131072), .lit (.int .i64 262141), .lit (.int .i64 2)]] []

/-- 'duetlaw19.SearchScripts': WHATEVER THE INPUT: true; the input reads as it did. -/
def searchScriptsSpec : ChangeSpec := { name := "searchScripts", fn := fun _ => fun
  | [d1, d2] => { results := [.lit (.bool true)], args := [d1, d2] }
  | _ => none }
def searchScriptsRow : OpenClaim := { program := "ytepddieblankpaadoor", sum := "2cb247f9c12264ebd2b2dc55b0be81969dafa55d04d39f9b55d9b3b3445ac1a4", func := "duet/duetlaw19.SearchScripts", spec := "searchScripts", inPlace := ["internal/bytealg.IndexByteString", "internal/bytealg.IndexString"], unfollowed := true, recurses := true, named := ["internal/bytealg.MaxLen", "unicode/utf8.first", "unicode/utf8.acceptRanges"], apart := false, laid := [("unicode/utf8.acceptRanges", laid_unicode_utf8_acceptRanges), ("unicode/utf8.first", laid_unicode_utf8_first)] }
def SearchScriptsSaid : Prop := searchScriptsRow.holds Tryd.pinned (OpenSpec.ofChange searchScriptsSpec)

/-- ITS FALSE NEIGHBOUR: 'it returns false'. Refute it at one input. -/
def searchScriptsWrong : ChangeSpec := { name := "searchScripts", fn := fun _ => fun
  | [d1, d2] => { results := [.lit (.bool false)], args := [d1, d2] }
  | _ => none }
def SearchScriptsWrongFalsely : Prop := searchScriptsRow.holds Tryd.pinned (OpenSpec.ofChange searchScriptsWrong)

/-- 'duetlaw19.SearchNil': WHATEVER THE INPUT: true; the input reads as it did. -/
def searchNilSpec : ChangeSpec := { name := "searchNil", fn := fun _ => fun
  | [d] => { results := [.lit (.bool true)], args := [d] }
  | _ => none }
def searchNilRow : OpenClaim := { program := "ytepddieblankpaadoor", sum := "2cb247f9c12264ebd2b2dc55b0be81969dafa55d04d39f9b55d9b3b3445ac1a4", func := "duet/duetlaw19.SearchNil", spec := "searchNil", inPlace := ["internal/bytealg.IndexByteString", "internal/bytealg.IndexString"], unfollowed := true, recurses := true, named := ["internal/bytealg.MaxLen", "unicode/utf8.first", "unicode/utf8.acceptRanges"], apart := false, laid := [("unicode/utf8.acceptRanges", laid_unicode_utf8_acceptRanges), ("unicode/utf8.first", laid_unicode_utf8_first)] }
def SearchNilSaid : Prop := searchNilRow.holds Tryd.pinned (OpenSpec.ofChange searchNilSpec)

/-- ITS FALSE NEIGHBOUR: 'it returns false'. Refute it at one input. -/
def searchNilWrong : ChangeSpec := { name := "searchNil", fn := fun _ => fun
  | [d] => { results := [.lit (.bool false)], args := [d] }
  | _ => none }
def SearchNilWrongFalsely : Prop := searchNilRow.holds Tryd.pinned (OpenSpec.ofChange searchNilWrong)

/-- 'duetlaw19.SearchFits': WHATEVER THE INPUT: true; the input reads as it did. -/
def searchFitsSpec : ChangeSpec := { name := "searchFits", fn := fun _ => fun
  | [d1, d2] => { results := [.lit (.bool true)], args := [d1, d2] }
  | _ => none }
def searchFitsRow : OpenClaim := { program := "ytepddieblankpaadoor", sum := "2cb247f9c12264ebd2b2dc55b0be81969dafa55d04d39f9b55d9b3b3445ac1a4", func := "duet/duetlaw19.SearchFits", spec := "searchFits", inPlace := ["internal/bytealg.IndexByteString", "internal/bytealg.IndexString"], unfollowed := true, recurses := true, named := ["internal/bytealg.MaxLen", "unicode/utf8.first", "unicode/utf8.acceptRanges"], apart := false, laid := [("unicode/utf8.acceptRanges", laid_unicode_utf8_acceptRanges), ("unicode/utf8.first", laid_unicode_utf8_first)] }
def SearchFitsSaid : Prop := searchFitsRow.holds Tryd.pinned (OpenSpec.ofChange searchFitsSpec)

/-- ITS FALSE NEIGHBOUR: 'it returns false'. Refute it at one input. -/
def searchFitsWrong : ChangeSpec := { name := "searchFits", fn := fun _ => fun
  | [d1, d2] => { results := [.lit (.bool false)], args := [d1, d2] }
  | _ => none }
def SearchFitsWrongFalsely : Prop := searchFitsRow.holds Tryd.pinned (OpenSpec.ofChange searchFitsWrong)

/-- 'duetlaw19.SearchBrowses': WHATEVER THE INPUT: true; the input reads as it did. -/
def searchBrowsesSpec : ChangeSpec := { name := "searchBrowses", fn := fun _ => fun
  | [d1, d2, d3] => { results := [.lit (.bool true)], args := [d1, d2, d3] }
  | _ => none }
def searchBrowsesRow : OpenClaim := { program := "ytepddieblankpaadoor", sum := "2cb247f9c12264ebd2b2dc55b0be81969dafa55d04d39f9b55d9b3b3445ac1a4", func := "duet/duetlaw19.SearchBrowses", spec := "searchBrowses", inPlace := ["internal/bytealg.IndexByteString", "internal/bytealg.IndexString"], unfollowed := true, recurses := true, named := ["internal/bytealg.MaxLen", "unicode/utf8.first", "unicode/utf8.acceptRanges"], apart := false, laid := [("unicode/utf8.acceptRanges", laid_unicode_utf8_acceptRanges), ("unicode/utf8.first", laid_unicode_utf8_first)] }
def SearchBrowsesSaid : Prop := searchBrowsesRow.holds Tryd.pinned (OpenSpec.ofChange searchBrowsesSpec)

/-- ITS FALSE NEIGHBOUR: 'it returns false'. Refute it at one input. -/
def searchBrowsesWrong : ChangeSpec := { name := "searchBrowses", fn := fun _ => fun
  | [d1, d2, d3] => { results := [.lit (.bool false)], args := [d1, d2, d3] }
  | _ => none }
def SearchBrowsesWrongFalsely : Prop := searchBrowsesRow.holds Tryd.pinned (OpenSpec.ofChange searchBrowsesWrong)

/-- 'duetlaw19.SearchLast': WHATEVER THE INPUT: true; the input reads as it did. -/
def searchLastSpec : ChangeSpec := { name := "searchLast", fn := fun _ => fun
  | [d1, d2] => { results := [.lit (.bool true)], args := [d1, d2] }
  | _ => none }
def searchLastRow : OpenClaim := { program := "ytepddieblankpaadoor", sum := "2cb247f9c12264ebd2b2dc55b0be81969dafa55d04d39f9b55d9b3b3445ac1a4", func := "duet/duetlaw19.SearchLast", spec := "searchLast", inPlace := ["internal/bytealg.IndexByteString", "internal/bytealg.IndexString"], unfollowed := true, recurses := true, named := ["internal/bytealg.MaxLen", "unicode/utf8.first", "unicode/utf8.acceptRanges"], apart := false, laid := [("unicode/utf8.acceptRanges", laid_unicode_utf8_acceptRanges), ("unicode/utf8.first", laid_unicode_utf8_first)] }
def SearchLastSaid : Prop := searchLastRow.holds Tryd.pinned (OpenSpec.ofChange searchLastSpec)

/-- ITS FALSE NEIGHBOUR: 'it returns false'. Refute it at one input. -/
def searchLastWrong : ChangeSpec := { name := "searchLast", fn := fun _ => fun
  | [d1, d2] => { results := [.lit (.bool false)], args := [d1, d2] }
  | _ => none }
def SearchLastWrongFalsely : Prop := searchLastRow.holds Tryd.pinned (OpenSpec.ofChange searchLastWrong)

/-- 'duetlaw20.CellsWidths': WHATEVER THE INPUT: true; the input reads as it did. -/
def cellsWidthsSpec : ChangeSpec := { name := "cellsWidths", fn := fun _ => fun
  | [d] => { results := [.lit (.bool true)], args := [d] }
  | _ => none }
def cellsWidthsRow : OpenClaim := { program := "ytepddieblankpaadoor", sum := "2cb247f9c12264ebd2b2dc55b0be81969dafa55d04d39f9b55d9b3b3445ac1a4", func := "duet/duetlaw20.CellsWidths", spec := "cellsWidths", named := ["duet/cells.ranges"], apart := false, laid := [("duet/cells.ranges", laid_duet_cells_ranges)] }
def CellsWidthsSaid : Prop := cellsWidthsRow.holds Tryd.pinned (OpenSpec.ofChange cellsWidthsSpec)

/-- ITS FALSE NEIGHBOUR: 'it returns false'. Refute it at one input. -/
def cellsWidthsWrong : ChangeSpec := { name := "cellsWidths", fn := fun _ => fun
  | [d] => { results := [.lit (.bool false)], args := [d] }
  | _ => none }
def CellsWidthsWrongFalsely : Prop := cellsWidthsRow.holds Tryd.pinned (OpenSpec.ofChange cellsWidthsWrong)

/-- 'duetlaw20.CellsBlocks': WHATEVER THE INPUT: true; the input reads as it did. -/
def cellsBlocksSpec : ChangeSpec := { name := "cellsBlocks", fn := fun _ => fun
  | [d] => { results := [.lit (.bool true)], args := [d] }
  | _ => none }
def cellsBlocksRow : OpenClaim := { program := "ytepddieblankpaadoor", sum := "2cb247f9c12264ebd2b2dc55b0be81969dafa55d04d39f9b55d9b3b3445ac1a4", func := "duet/duetlaw20.CellsBlocks", spec := "cellsBlocks", named := ["duet/cells.ranges"], apart := false, laid := [("duet/cells.ranges", laid_duet_cells_ranges)] }
def CellsBlocksSaid : Prop := cellsBlocksRow.holds Tryd.pinned (OpenSpec.ofChange cellsBlocksSpec)

/-- ITS FALSE NEIGHBOUR: 'it returns false'. Refute it at one input. -/
def cellsBlocksWrong : ChangeSpec := { name := "cellsBlocks", fn := fun _ => fun
  | [d] => { results := [.lit (.bool false)], args := [d] }
  | _ => none }
def CellsBlocksWrongFalsely : Prop := cellsBlocksRow.holds Tryd.pinned (OpenSpec.ofChange cellsBlocksWrong)

/-- 'duetlaw20.CellsFits': WHATEVER THE INPUT: true; the input reads as it did. -/
def cellsFitsSpec : ChangeSpec := { name := "cellsFits", fn := fun _ => fun
  | [d1, d2] => { results := [.lit (.bool true)], args := [d1, d2] }
  | _ => none }
def cellsFitsRow : OpenClaim := { program := "ytepddieblankpaadoor", sum := "2cb247f9c12264ebd2b2dc55b0be81969dafa55d04d39f9b55d9b3b3445ac1a4", func := "duet/duetlaw20.CellsFits", spec := "cellsFits", named := ["duet/cells.ranges"], apart := false, laid := [("duet/cells.ranges", laid_duet_cells_ranges)] }
def CellsFitsSaid : Prop := cellsFitsRow.holds Tryd.pinned (OpenSpec.ofChange cellsFitsSpec)

/-- ITS FALSE NEIGHBOUR: 'it returns false'. Refute it at one input. -/
def cellsFitsWrong : ChangeSpec := { name := "cellsFits", fn := fun _ => fun
  | [d1, d2] => { results := [.lit (.bool false)], args := [d1, d2] }
  | _ => none }
def CellsFitsWrongFalsely : Prop := cellsFitsRow.holds Tryd.pinned (OpenSpec.ofChange cellsFitsWrong)

/-- 'duetlaw20.CellsMost': WHATEVER THE INPUT: true; the input reads as it did. -/
def cellsMostSpec : ChangeSpec := { name := "cellsMost", fn := fun _ => fun
  | [d1, d2] => { results := [.lit (.bool true)], args := [d1, d2] }
  | _ => none }
def cellsMostRow : OpenClaim := { program := "ytepddieblankpaadoor", sum := "2cb247f9c12264ebd2b2dc55b0be81969dafa55d04d39f9b55d9b3b3445ac1a4", func := "duet/duetlaw20.CellsMost", spec := "cellsMost", named := ["duet/cells.ranges"], apart := false, laid := [("duet/cells.ranges", laid_duet_cells_ranges)] }
def CellsMostSaid : Prop := cellsMostRow.holds Tryd.pinned (OpenSpec.ofChange cellsMostSpec)

/-- ITS FALSE NEIGHBOUR: 'it returns false'. Refute it at one input. -/
def cellsMostWrong : ChangeSpec := { name := "cellsMost", fn := fun _ => fun
  | [d1, d2] => { results := [.lit (.bool false)], args := [d1, d2] }
  | _ => none }
def CellsMostWrongFalsely : Prop := cellsMostRow.holds Tryd.pinned (OpenSpec.ofChange cellsMostWrong)

/-- 'duetlaw20.CellsJoined': WHATEVER THE INPUT: true; the input reads as it did. -/
def cellsJoinedSpec : ChangeSpec := { name := "cellsJoined", fn := fun _ => fun
  | [d1, d2] => { results := [.lit (.bool true)], args := [d1, d2] }
  | _ => none }
def cellsJoinedRow : OpenClaim := { program := "ytepddieblankpaadoor", sum := "2cb247f9c12264ebd2b2dc55b0be81969dafa55d04d39f9b55d9b3b3445ac1a4", func := "duet/duetlaw20.CellsJoined", spec := "cellsJoined", named := ["duet/cells.ranges"], apart := false, laid := [("duet/cells.ranges", laid_duet_cells_ranges)] }
def CellsJoinedSaid : Prop := cellsJoinedRow.holds Tryd.pinned (OpenSpec.ofChange cellsJoinedSpec)

/-- ITS FALSE NEIGHBOUR: 'it returns false'. Refute it at one input. -/
def cellsJoinedWrong : ChangeSpec := { name := "cellsJoined", fn := fun _ => fun
  | [d1, d2] => { results := [.lit (.bool false)], args := [d1, d2] }
  | _ => none }
def CellsJoinedWrongFalsely : Prop := cellsJoinedRow.holds Tryd.pinned (OpenSpec.ofChange cellsJoinedWrong)

/-- 'duetlaw20.CellsPlain': WHATEVER THE INPUT: true; the input reads as it did. -/
def cellsPlainSpec : ChangeSpec := { name := "cellsPlain", fn := fun _ => fun
  | [d1, d2] => { results := [.lit (.bool true)], args := [d1, d2] }
  | _ => none }
def cellsPlainRow : OpenClaim := { program := "ytepddieblankpaadoor", sum := "2cb247f9c12264ebd2b2dc55b0be81969dafa55d04d39f9b55d9b3b3445ac1a4", func := "duet/duetlaw20.CellsPlain", spec := "cellsPlain", named := ["duet/cells.ranges"], apart := false, laid := [("duet/cells.ranges", laid_duet_cells_ranges)] }
def CellsPlainSaid : Prop := cellsPlainRow.holds Tryd.pinned (OpenSpec.ofChange cellsPlainSpec)

/-- ITS FALSE NEIGHBOUR: 'it returns false'. Refute it at one input. -/
def cellsPlainWrong : ChangeSpec := { name := "cellsPlain", fn := fun _ => fun
  | [d1, d2] => { results := [.lit (.bool false)], args := [d1, d2] }
  | _ => none }
def CellsPlainWrongFalsely : Prop := cellsPlainRow.holds Tryd.pinned (OpenSpec.ofChange cellsPlainWrong)

/- THE SECOND FORM. 'bulk': how many values and letters a reading holds, each counted each time it is reached (what is shared counts as often as it is met; a slice's spare places count too). A statement '..UptoSaid' is the law's where the arguments, and the package variables that the reading takes, are together of bulk at most 1048576: NARROWER than '..Said'. Prove '..Said' where nothing that the law and all that it calls make is longer than what came in: it says more and counts as full. Else prove '..UptoSaid'. A law counts once. -/
mutual
def uptoBulk {H : Type} : DataW H → Nat
  | .lit (.string bytes) => bytes.length + 1
  | .lit _ => 1
  | .nil => 1
  | .ptr d => uptoBulk d + 1
  | .slice elems spare => uptoBulkAll elems + uptoBulkAll spare + 1
  | .agg parts => uptoBulkAll parts + 1
  | .iface _ d => uptoBulk d + 1
  | .map entries => uptoBulkEntries entries + 1
  | .held _ => 1
def uptoBulkAll {H : Type} : List (DataW H) → Nat
  | [] => 0
  | d :: r => uptoBulk d + uptoBulkAll r
def uptoBulkEntries {H : Type} : List (Lit × DataW H) → Nat
  | [] => 0
  | x :: r => uptoBulkEntry x + uptoBulkEntries r
def uptoBulkEntry {H : Type} : Lit × DataW H → Nat
  | (.string bytes, d) => bytes.length + uptoBulk d + 1
  | (_, d) => uptoBulk d + 1
 end
def uptoSmall : (H : Type) → List (DataW H) → Bool := fun _ ds => decide (uptoBulkAll ds ≤ 1048576)
def OpenSpec.upto (s : _root_.Go.ChangeSpec) : _root_.Go.OpenSpec := { _root_.Go.OpenSpec.ofChange s with cond := some uptoSmall }

/-- 'duetlaw19.SearchScripts', WHERE WHAT IT READS IS OF BULK AT MOST 1048576: true; the input reads as it did. -/
def searchScriptsUptoRow : OpenClaim := { program := "ytepddieblankpaadoor", sum := "2cb247f9c12264ebd2b2dc55b0be81969dafa55d04d39f9b55d9b3b3445ac1a4", func := "duet/duetlaw19.SearchScripts", spec := "searchScripts", inPlace := ["internal/bytealg.IndexByteString", "internal/bytealg.IndexString"], unfollowed := true, recurses := true, named := ["internal/bytealg.MaxLen", "unicode/utf8.first", "unicode/utf8.acceptRanges"], apart := false, laid := [("unicode/utf8.acceptRanges", laid_unicode_utf8_acceptRanges), ("unicode/utf8.first", laid_unicode_utf8_first)], narrowed := true }
def SearchScriptsUptoSaid : Prop := searchScriptsUptoRow.holds Tryd.pinned (OpenSpec.upto searchScriptsSpec)

/-- 'duetlaw19.SearchNil', WHERE WHAT IT READS IS OF BULK AT MOST 1048576: true; the input reads as it did. -/
def searchNilUptoRow : OpenClaim := { program := "ytepddieblankpaadoor", sum := "2cb247f9c12264ebd2b2dc55b0be81969dafa55d04d39f9b55d9b3b3445ac1a4", func := "duet/duetlaw19.SearchNil", spec := "searchNil", inPlace := ["internal/bytealg.IndexByteString", "internal/bytealg.IndexString"], unfollowed := true, recurses := true, named := ["internal/bytealg.MaxLen", "unicode/utf8.first", "unicode/utf8.acceptRanges"], apart := false, laid := [("unicode/utf8.acceptRanges", laid_unicode_utf8_acceptRanges), ("unicode/utf8.first", laid_unicode_utf8_first)], narrowed := true }
def SearchNilUptoSaid : Prop := searchNilUptoRow.holds Tryd.pinned (OpenSpec.upto searchNilSpec)

/-- 'duetlaw19.SearchFits', WHERE WHAT IT READS IS OF BULK AT MOST 1048576: true; the input reads as it did. -/
def searchFitsUptoRow : OpenClaim := { program := "ytepddieblankpaadoor", sum := "2cb247f9c12264ebd2b2dc55b0be81969dafa55d04d39f9b55d9b3b3445ac1a4", func := "duet/duetlaw19.SearchFits", spec := "searchFits", inPlace := ["internal/bytealg.IndexByteString", "internal/bytealg.IndexString"], unfollowed := true, recurses := true, named := ["internal/bytealg.MaxLen", "unicode/utf8.first", "unicode/utf8.acceptRanges"], apart := false, laid := [("unicode/utf8.acceptRanges", laid_unicode_utf8_acceptRanges), ("unicode/utf8.first", laid_unicode_utf8_first)], narrowed := true }
def SearchFitsUptoSaid : Prop := searchFitsUptoRow.holds Tryd.pinned (OpenSpec.upto searchFitsSpec)

/-- 'duetlaw19.SearchBrowses', WHERE WHAT IT READS IS OF BULK AT MOST 1048576: true; the input reads as it did. -/
def searchBrowsesUptoRow : OpenClaim := { program := "ytepddieblankpaadoor", sum := "2cb247f9c12264ebd2b2dc55b0be81969dafa55d04d39f9b55d9b3b3445ac1a4", func := "duet/duetlaw19.SearchBrowses", spec := "searchBrowses", inPlace := ["internal/bytealg.IndexByteString", "internal/bytealg.IndexString"], unfollowed := true, recurses := true, named := ["internal/bytealg.MaxLen", "unicode/utf8.first", "unicode/utf8.acceptRanges"], apart := false, laid := [("unicode/utf8.acceptRanges", laid_unicode_utf8_acceptRanges), ("unicode/utf8.first", laid_unicode_utf8_first)], narrowed := true }
def SearchBrowsesUptoSaid : Prop := searchBrowsesUptoRow.holds Tryd.pinned (OpenSpec.upto searchBrowsesSpec)

/-- 'duetlaw19.SearchLast', WHERE WHAT IT READS IS OF BULK AT MOST 1048576: true; the input reads as it did. -/
def searchLastUptoRow : OpenClaim := { program := "ytepddieblankpaadoor", sum := "2cb247f9c12264ebd2b2dc55b0be81969dafa55d04d39f9b55d9b3b3445ac1a4", func := "duet/duetlaw19.SearchLast", spec := "searchLast", inPlace := ["internal/bytealg.IndexByteString", "internal/bytealg.IndexString"], unfollowed := true, recurses := true, named := ["internal/bytealg.MaxLen", "unicode/utf8.first", "unicode/utf8.acceptRanges"], apart := false, laid := [("unicode/utf8.acceptRanges", laid_unicode_utf8_acceptRanges), ("unicode/utf8.first", laid_unicode_utf8_first)], narrowed := true }
def SearchLastUptoSaid : Prop := searchLastUptoRow.holds Tryd.pinned (OpenSpec.upto searchLastSpec)

/-- 'duetlaw20.CellsWidths', WHERE WHAT IT READS IS OF BULK AT MOST 1048576: true; the input reads as it did. -/
def cellsWidthsUptoRow : OpenClaim := { program := "ytepddieblankpaadoor", sum := "2cb247f9c12264ebd2b2dc55b0be81969dafa55d04d39f9b55d9b3b3445ac1a4", func := "duet/duetlaw20.CellsWidths", spec := "cellsWidths", named := ["duet/cells.ranges"], apart := false, laid := [("duet/cells.ranges", laid_duet_cells_ranges)], narrowed := true }
def CellsWidthsUptoSaid : Prop := cellsWidthsUptoRow.holds Tryd.pinned (OpenSpec.upto cellsWidthsSpec)

/-- 'duetlaw20.CellsBlocks', WHERE WHAT IT READS IS OF BULK AT MOST 1048576: true; the input reads as it did. -/
def cellsBlocksUptoRow : OpenClaim := { program := "ytepddieblankpaadoor", sum := "2cb247f9c12264ebd2b2dc55b0be81969dafa55d04d39f9b55d9b3b3445ac1a4", func := "duet/duetlaw20.CellsBlocks", spec := "cellsBlocks", named := ["duet/cells.ranges"], apart := false, laid := [("duet/cells.ranges", laid_duet_cells_ranges)], narrowed := true }
def CellsBlocksUptoSaid : Prop := cellsBlocksUptoRow.holds Tryd.pinned (OpenSpec.upto cellsBlocksSpec)

/-- 'duetlaw20.CellsFits', WHERE WHAT IT READS IS OF BULK AT MOST 1048576: true; the input reads as it did. -/
def cellsFitsUptoRow : OpenClaim := { program := "ytepddieblankpaadoor", sum := "2cb247f9c12264ebd2b2dc55b0be81969dafa55d04d39f9b55d9b3b3445ac1a4", func := "duet/duetlaw20.CellsFits", spec := "cellsFits", named := ["duet/cells.ranges"], apart := false, laid := [("duet/cells.ranges", laid_duet_cells_ranges)], narrowed := true }
def CellsFitsUptoSaid : Prop := cellsFitsUptoRow.holds Tryd.pinned (OpenSpec.upto cellsFitsSpec)

/-- 'duetlaw20.CellsMost', WHERE WHAT IT READS IS OF BULK AT MOST 1048576: true; the input reads as it did. -/
def cellsMostUptoRow : OpenClaim := { program := "ytepddieblankpaadoor", sum := "2cb247f9c12264ebd2b2dc55b0be81969dafa55d04d39f9b55d9b3b3445ac1a4", func := "duet/duetlaw20.CellsMost", spec := "cellsMost", named := ["duet/cells.ranges"], apart := false, laid := [("duet/cells.ranges", laid_duet_cells_ranges)], narrowed := true }
def CellsMostUptoSaid : Prop := cellsMostUptoRow.holds Tryd.pinned (OpenSpec.upto cellsMostSpec)

/-- 'duetlaw20.CellsJoined', WHERE WHAT IT READS IS OF BULK AT MOST 1048576: true; the input reads as it did. -/
def cellsJoinedUptoRow : OpenClaim := { program := "ytepddieblankpaadoor", sum := "2cb247f9c12264ebd2b2dc55b0be81969dafa55d04d39f9b55d9b3b3445ac1a4", func := "duet/duetlaw20.CellsJoined", spec := "cellsJoined", named := ["duet/cells.ranges"], apart := false, laid := [("duet/cells.ranges", laid_duet_cells_ranges)], narrowed := true }
def CellsJoinedUptoSaid : Prop := cellsJoinedUptoRow.holds Tryd.pinned (OpenSpec.upto cellsJoinedSpec)

/-- 'duetlaw20.CellsPlain', WHERE WHAT IT READS IS OF BULK AT MOST 1048576: true; the input reads as it did. -/
def cellsPlainUptoRow : OpenClaim := { program := "ytepddieblankpaadoor", sum := "2cb247f9c12264ebd2b2dc55b0be81969dafa55d04d39f9b55d9b3b3445ac1a4", func := "duet/duetlaw20.CellsPlain", spec := "cellsPlain", named := ["duet/cells.ranges"], apart := false, laid := [("duet/cells.ranges", laid_duet_cells_ranges)], narrowed := true }
def CellsPlainUptoSaid : Prop := cellsPlainUptoRow.holds Tryd.pinned (OpenSpec.upto cellsPlainSpec)

end Rows
end Go.Proofs.YtepddieblankpaaDoor
