/- What duetref04.Same comes to. -/
import Derived.Test.YtcmdfjeiefgmhaaMesgCheck3
import Derived.Test.YtcmdfjeiefgmhaaMesgMath2
namespace Go.Proofs.Ytcmdfjeiefgmhaa
open Go.RowKit
set_option linter.unusedVariables false

end Go.Proofs.Ytcmdfjeiefgmhaa