/- A slice of bytes that the call itself makes and appends to. -/
import Derived.Test.YtakjoodlediemaaBytes
import Derived.Laws.AppendOwn
import Derived.OwnWalk
namespace Go.Proofs.Ytakjoodlediemaa
open Go.RowKit
set_option linter.unusedVariables false

def byteCells (l : List UInt8) : List Value := l.map fun c => Value.int .u8 (c.toNat : Int)

/-- The slice v owns the bytes l, in a block from base on. -/
def OwnsB (w : World) (base : Nat) (v : Value) (l : List UInt8) : Prop := w.ownsRow base 5 1 v l.length (byteCells l)

theorem info_u8 : (Try.prog.info? 5).map (fun i => (i.zero, i.size, i.bytes)) = some (some (.int .u8 0), 1, 1) := by kernel_rfl

theorem OwnsB.nil (w : World) (base : Nat) : OwnsB w base (.slice none 0 0) [] := World.ownsRow_nil _ _ _ _

end Go.Proofs.Ytakjoodlediemaa