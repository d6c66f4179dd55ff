/-
  DERIVED. GIVEN WITH THE SEED: THE CARDS: each row of YtepddieblankpaaDoorRows.lean that lists a variable, with what it lists TIED to the program's text (the seventh form; the later family's looks); each row that meets fmt, with fmt's text TOLD by the authors' own Lean function (tested against real Go, not proved from fmt's source: count such statements apart). THE CARD IS WHAT COUNTS. Prove the row's statement (the work); the ties are given (YtepddieblankpaaDoorTie.lean); close each card by the builder's one call (the guide's Derived/Test/ToyasCard.lean, 'card_holds'). Laid BY PROGRAM, IN A SANDBOX (cutbox-door.mjs). By AI agents, Wed Nov 11 2026. No macro, syntax, notation, axiom, sorry.
-/
import Derived.Test.YtepddieblankpaaDoorRows
import GoSem.ClaimSeven
namespace Go.Proofs.YtepddieblankpaaDoor
namespace Rows

/-- THE TIED CARD OF 'duetlaw19.SearchScripts'. -/
def searchScriptsCard : Claim7 := { stood := { row := searchScriptsRow, standIns := [], harness := (true, "329ab2ac20ac22415baff231ba68af257831652f389db5e948176c0b8ff5ba68"), looks := false }, kinds := [], alts := [], laidByText := true, laidKinds := [.data, .pinned], laidTests := true, laidLooks := .later }
def SearchScriptsCardSaid : Prop := Claim7.holds Tryd.pinned (.plain (OpenSpec.ofChange searchScriptsSpec)) searchScriptsCard

/-- THE TIED CARD OF 'duetlaw19.SearchNil'. -/
def searchNilCard : Claim7 := { stood := { row := searchNilRow, standIns := [], harness := (true, "329ab2ac20ac22415baff231ba68af257831652f389db5e948176c0b8ff5ba68"), looks := false }, kinds := [], alts := [], laidByText := true, laidKinds := [.data, .pinned], laidTests := true, laidLooks := .later }
def SearchNilCardSaid : Prop := Claim7.holds Tryd.pinned (.plain (OpenSpec.ofChange searchNilSpec)) searchNilCard

/-- THE TIED CARD OF 'duetlaw19.SearchFits'. -/
def searchFitsCard : Claim7 := { stood := { row := searchFitsRow, standIns := [], harness := (true, "329ab2ac20ac22415baff231ba68af257831652f389db5e948176c0b8ff5ba68"), looks := false }, kinds := [], alts := [], laidByText := true, laidKinds := [.data, .pinned], laidTests := true, laidLooks := .later }
def SearchFitsCardSaid : Prop := Claim7.holds Tryd.pinned (.plain (OpenSpec.ofChange searchFitsSpec)) searchFitsCard

/-- THE TIED CARD OF 'duetlaw19.SearchBrowses'. -/
def searchBrowsesCard : Claim7 := { stood := { row := searchBrowsesRow, standIns := [], harness := (true, "329ab2ac20ac22415baff231ba68af257831652f389db5e948176c0b8ff5ba68"), looks := false }, kinds := [], alts := [], laidByText := true, laidKinds := [.data, .pinned], laidTests := true, laidLooks := .later }
def SearchBrowsesCardSaid : Prop := Claim7.holds Tryd.pinned (.plain (OpenSpec.ofChange searchBrowsesSpec)) searchBrowsesCard

/-- THE TIED CARD OF 'duetlaw19.SearchLast'. -/
def searchLastCard : Claim7 := { stood := { row := searchLastRow, standIns := [], harness := (true, "329ab2ac20ac22415baff231ba68af257831652f389db5e948176c0b8ff5ba68"), looks := false }, kinds := [], alts := [], laidByText := true, laidKinds := [.data, .pinned], laidTests := true, laidLooks := .later }
def SearchLastCardSaid : Prop := Claim7.holds Tryd.pinned (.plain (OpenSpec.ofChange searchLastSpec)) searchLastCard

/-- THE TIED CARD OF 'duetlaw20.CellsWidths'. -/
def cellsWidthsCard : Claim7 := { stood := { row := cellsWidthsRow, standIns := [], harness := (true, "329ab2ac20ac22415baff231ba68af257831652f389db5e948176c0b8ff5ba68"), looks := false }, kinds := [], alts := [], laidByText := true, laidKinds := [.data], laidTests := true, laidLooks := .later }
def CellsWidthsCardSaid : Prop := Claim7.holds Tryd.pinned (.plain (OpenSpec.ofChange cellsWidthsSpec)) cellsWidthsCard

/-- THE TIED CARD OF 'duetlaw20.CellsBlocks'. -/
def cellsBlocksCard : Claim7 := { stood := { row := cellsBlocksRow, standIns := [], harness := (true, "329ab2ac20ac22415baff231ba68af257831652f389db5e948176c0b8ff5ba68"), looks := false }, kinds := [], alts := [], laidByText := true, laidKinds := [.data], laidTests := true, laidLooks := .later }
def CellsBlocksCardSaid : Prop := Claim7.holds Tryd.pinned (.plain (OpenSpec.ofChange cellsBlocksSpec)) cellsBlocksCard

/-- THE TIED CARD OF 'duetlaw20.CellsFits'. -/
def cellsFitsCard : Claim7 := { stood := { row := cellsFitsRow, standIns := [], harness := (true, "329ab2ac20ac22415baff231ba68af257831652f389db5e948176c0b8ff5ba68"), looks := false }, kinds := [], alts := [], laidByText := true, laidKinds := [.data], laidTests := true, laidLooks := .later }
def CellsFitsCardSaid : Prop := Claim7.holds Tryd.pinned (.plain (OpenSpec.ofChange cellsFitsSpec)) cellsFitsCard

/-- THE TIED CARD OF 'duetlaw20.CellsMost'. -/
def cellsMostCard : Claim7 := { stood := { row := cellsMostRow, standIns := [], harness := (true, "329ab2ac20ac22415baff231ba68af257831652f389db5e948176c0b8ff5ba68"), looks := false }, kinds := [], alts := [], laidByText := true, laidKinds := [.data], laidTests := true, laidLooks := .later }
def CellsMostCardSaid : Prop := Claim7.holds Tryd.pinned (.plain (OpenSpec.ofChange cellsMostSpec)) cellsMostCard

/-- THE TIED CARD OF 'duetlaw20.CellsJoined'. -/
def cellsJoinedCard : Claim7 := { stood := { row := cellsJoinedRow, standIns := [], harness := (true, "329ab2ac20ac22415baff231ba68af257831652f389db5e948176c0b8ff5ba68"), looks := false }, kinds := [], alts := [], laidByText := true, laidKinds := [.data], laidTests := true, laidLooks := .later }
def CellsJoinedCardSaid : Prop := Claim7.holds Tryd.pinned (.plain (OpenSpec.ofChange cellsJoinedSpec)) cellsJoinedCard

/-- THE TIED CARD OF 'duetlaw20.CellsPlain'. -/
def cellsPlainCard : Claim7 := { stood := { row := cellsPlainRow, standIns := [], harness := (true, "329ab2ac20ac22415baff231ba68af257831652f389db5e948176c0b8ff5ba68"), looks := false }, kinds := [], alts := [], laidByText := true, laidKinds := [.data], laidTests := true, laidLooks := .later }
def CellsPlainCardSaid : Prop := Claim7.holds Tryd.pinned (.plain (OpenSpec.ofChange cellsPlainSpec)) cellsPlainCard

/-- THE SECOND FORM's CARD OF 'duetlaw19.SearchScripts'. -/
def searchScriptsUptoCard : Claim7 := { stood := { row := searchScriptsUptoRow, standIns := [], harness := (true, "329ab2ac20ac22415baff231ba68af257831652f389db5e948176c0b8ff5ba68"), looks := false }, kinds := [], alts := [], laidByText := true, laidKinds := [.data, .pinned], laidTests := true, laidLooks := .later }
def SearchScriptsUptoCardSaid : Prop := Claim7.holds Tryd.pinned (.plain (OpenSpec.upto searchScriptsSpec)) searchScriptsUptoCard

/-- THE SECOND FORM's CARD OF 'duetlaw19.SearchNil'. -/
def searchNilUptoCard : Claim7 := { stood := { row := searchNilUptoRow, standIns := [], harness := (true, "329ab2ac20ac22415baff231ba68af257831652f389db5e948176c0b8ff5ba68"), looks := false }, kinds := [], alts := [], laidByText := true, laidKinds := [.data, .pinned], laidTests := true, laidLooks := .later }
def SearchNilUptoCardSaid : Prop := Claim7.holds Tryd.pinned (.plain (OpenSpec.upto searchNilSpec)) searchNilUptoCard

/-- THE SECOND FORM's CARD OF 'duetlaw19.SearchFits'. -/
def searchFitsUptoCard : Claim7 := { stood := { row := searchFitsUptoRow, standIns := [], harness := (true, "329ab2ac20ac22415baff231ba68af257831652f389db5e948176c0b8ff5ba68"), looks := false }, kinds := [], alts := [], laidByText := true, laidKinds := [.data, .pinned], laidTests := true, laidLooks := .later }
def SearchFitsUptoCardSaid : Prop := Claim7.holds Tryd.pinned (.plain (OpenSpec.upto searchFitsSpec)) searchFitsUptoCard

/-- THE SECOND FORM's CARD OF 'duetlaw19.SearchBrowses'. -/
def searchBrowsesUptoCard : Claim7 := { stood := { row := searchBrowsesUptoRow, standIns := [], harness := (true, "329ab2ac20ac22415baff231ba68af257831652f389db5e948176c0b8ff5ba68"), looks := false }, kinds := [], alts := [], laidByText := true, laidKinds := [.data, .pinned], laidTests := true, laidLooks := .later }
def SearchBrowsesUptoCardSaid : Prop := Claim7.holds Tryd.pinned (.plain (OpenSpec.upto searchBrowsesSpec)) searchBrowsesUptoCard

/-- THE SECOND FORM's CARD OF 'duetlaw19.SearchLast'. -/
def searchLastUptoCard : Claim7 := { stood := { row := searchLastUptoRow, standIns := [], harness := (true, "329ab2ac20ac22415baff231ba68af257831652f389db5e948176c0b8ff5ba68"), looks := false }, kinds := [], alts := [], laidByText := true, laidKinds := [.data, .pinned], laidTests := true, laidLooks := .later }
def SearchLastUptoCardSaid : Prop := Claim7.holds Tryd.pinned (.plain (OpenSpec.upto searchLastSpec)) searchLastUptoCard

/-- THE SECOND FORM's CARD OF 'duetlaw20.CellsWidths'. -/
def cellsWidthsUptoCard : Claim7 := { stood := { row := cellsWidthsUptoRow, standIns := [], harness := (true, "329ab2ac20ac22415baff231ba68af257831652f389db5e948176c0b8ff5ba68"), looks := false }, kinds := [], alts := [], laidByText := true, laidKinds := [.data], laidTests := true, laidLooks := .later }
def CellsWidthsUptoCardSaid : Prop := Claim7.holds Tryd.pinned (.plain (OpenSpec.upto cellsWidthsSpec)) cellsWidthsUptoCard

/-- THE SECOND FORM's CARD OF 'duetlaw20.CellsBlocks'. -/
def cellsBlocksUptoCard : Claim7 := { stood := { row := cellsBlocksUptoRow, standIns := [], harness := (true, "329ab2ac20ac22415baff231ba68af257831652f389db5e948176c0b8ff5ba68"), looks := false }, kinds := [], alts := [], laidByText := true, laidKinds := [.data], laidTests := true, laidLooks := .later }
def CellsBlocksUptoCardSaid : Prop := Claim7.holds Tryd.pinned (.plain (OpenSpec.upto cellsBlocksSpec)) cellsBlocksUptoCard

/-- THE SECOND FORM's CARD OF 'duetlaw20.CellsFits'. -/
def cellsFitsUptoCard : Claim7 := { stood := { row := cellsFitsUptoRow, standIns := [], harness := (true, "329ab2ac20ac22415baff231ba68af257831652f389db5e948176c0b8ff5ba68"), looks := false }, kinds := [], alts := [], laidByText := true, laidKinds := [.data], laidTests := true, laidLooks := .later }
def CellsFitsUptoCardSaid : Prop := Claim7.holds Tryd.pinned (.plain (OpenSpec.upto cellsFitsSpec)) cellsFitsUptoCard

/-- THE SECOND FORM's CARD OF 'duetlaw20.CellsMost'. -/
def cellsMostUptoCard : Claim7 := { stood := { row := cellsMostUptoRow, standIns := [], harness := (true, "329ab2ac20ac22415baff231ba68af257831652f389db5e948176c0b8ff5ba68"), looks := false }, kinds := [], alts := [], laidByText := true, laidKinds := [.data], laidTests := true, laidLooks := .later }
def CellsMostUptoCardSaid : Prop := Claim7.holds Tryd.pinned (.plain (OpenSpec.upto cellsMostSpec)) cellsMostUptoCard

/-- THE SECOND FORM's CARD OF 'duetlaw20.CellsJoined'. -/
def cellsJoinedUptoCard : Claim7 := { stood := { row := cellsJoinedUptoRow, standIns := [], harness := (true, "329ab2ac20ac22415baff231ba68af257831652f389db5e948176c0b8ff5ba68"), looks := false }, kinds := [], alts := [], laidByText := true, laidKinds := [.data], laidTests := true, laidLooks := .later }
def CellsJoinedUptoCardSaid : Prop := Claim7.holds Tryd.pinned (.plain (OpenSpec.upto cellsJoinedSpec)) cellsJoinedUptoCard

/-- THE SECOND FORM's CARD OF 'duetlaw20.CellsPlain'. -/
def cellsPlainUptoCard : Claim7 := { stood := { row := cellsPlainUptoRow, standIns := [], harness := (true, "329ab2ac20ac22415baff231ba68af257831652f389db5e948176c0b8ff5ba68"), looks := false }, kinds := [], alts := [], laidByText := true, laidKinds := [.data], laidTests := true, laidLooks := .later }
def CellsPlainUptoCardSaid : Prop := Claim7.holds Tryd.pinned (.plain (OpenSpec.upto cellsPlainSpec)) cellsPlainUptoCard
end Rows
end Go.Proofs.YtepddieblankpaaDoor
