/-
  Contract of integer.Extended.
-/
import Derived.Test.YtfmgbfdnmconiaaGreatVar
namespace Go.Proofs.YtfmgbfdnmconiaaGreat
open Go.RowKit
set_option linter.unusedVariables false

end Go.Proofs.YtfmgbfdnmconiaaGreat
