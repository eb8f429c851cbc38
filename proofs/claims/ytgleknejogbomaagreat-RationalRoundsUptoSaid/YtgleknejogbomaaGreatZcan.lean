/-
  Contract of the reference's Canonical.
-/
import Derived.Test.YtgleknejogbomaaGreatZC
import Derived.Test.YtgleknejogbomaaGreatZB
namespace Go.Proofs.YtgleknejogbomaaGreat
open Go.RowKit
set_option linter.unusedVariables false

end Go.Proofs.YtgleknejogbomaaGreat
