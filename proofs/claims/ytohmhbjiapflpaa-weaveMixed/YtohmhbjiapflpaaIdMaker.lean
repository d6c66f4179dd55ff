/- A site's maker of Ids. -/
import Derived.Test.YtohmhbjiapflpaaIdRank
namespace Go.Proofs.Ytohmhbjiapflpaa
open Go.RowKit
set_option linter.unusedVariables false

/-- The time behind See. -/
def Idn.seen (t : Int) (x : Int × Int) : Int := if Idn.may x then max t x.1 else t

end Go.Proofs.Ytohmhbjiapflpaa