/-
  Contract of the reference's Canonical.
-/
import Derived.Test.YtfmgbfdnmconiaaGreatZC
import Derived.Test.YtfmgbfdnmconiaaGreatZB
namespace Go.Proofs.YtfmgbfdnmconiaaGreat
open Go.RowKit
set_option linter.unusedVariables false

end Go.Proofs.YtfmgbfdnmconiaaGreat
