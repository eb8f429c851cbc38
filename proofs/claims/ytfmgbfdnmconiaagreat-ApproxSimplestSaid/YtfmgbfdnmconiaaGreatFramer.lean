/-
  What a statement's inputs give: a rational number that came in is a sign and two slices of limbs; by the second form's bound each has at most 1048576.
-/
import Derived.Test.YtfmgbfdnmconiaaGreatBulkz
import Derived.Test.YtfmgbfdnmconiaaGreatRat
namespace Go.Proofs.YtfmgbfdnmconiaaGreat
open Go.ChangeShapes Go.WideShapes Go.ChangeAt Go.RowKit Go.Joins
set_option linter.unusedVariables false

end Go.Proofs.YtfmgbfdnmconiaaGreat
