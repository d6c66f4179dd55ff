/- Some answers that the document gives of holds. -/
import Derived.Test.YtjklfjgdmklimaaHdLive
namespace Go.Proofs.Ytjklfjgdmklimaa
open Go.RowKit

def hl1 : Mesg.Msg := ⟨1, 1, [1, 0], ⟨5, 0, ⟨0, 0⟩, ⟨0, 0⟩, 0⟩⟩
def hl0 : Mesg.Msg := ⟨0, 1, [0, 0], ⟨5, 0, ⟨0, 0⟩, ⟨0, 0⟩, 0⟩⟩
def hS1 : Hold.St := ⟨2, [0, 0], [hl1]⟩
def hS2 : Hold.St := ⟨2, [1, 1], []⟩
theorem hlive_put1 : Hold.put (Hold.new 2 2) hl1 = ([], 0, hS1) := by kernel_rfl
theorem hlive_put2 : Hold.put hS1 hl1 = ([], 7, hS1) := by kernel_rfl
theorem hlive_put3 : Hold.put hS1 hl0 = ([hl0, hl1], 0, hS2) := by kernel_rfl
theorem hlive_put4 : Hold.put hS2 hl0 = ([], 7, hS2) := by kernel_rfl
theorem hlive_known : Hold.known hS1 = [1, 1] := by kernel_rfl
end Go.Proofs.Ytjklfjgdmklimaa
