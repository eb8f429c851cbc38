/-
  Contracts of package rational: Floor, isEven, Round, Size.
-/
import Derived.Test.YtfmgbfdnmconiaaGreatRatt
namespace Go.Proofs.YtfmgbfdnmconiaaGreat
open Go.RowKit
set_option linter.unusedVariables false

end Go.Proofs.YtfmgbfdnmconiaaGreat
