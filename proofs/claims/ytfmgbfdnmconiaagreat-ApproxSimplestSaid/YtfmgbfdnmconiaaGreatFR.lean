/-
  Frame, Bulk, Framez.
-/
import Derived.Test.YtfmgbfdnmconiaaGreatNA
import Derived.ProofKit
import Derived.OpenShut
import Derived.ShutString
import Derived.ChangeOld
import Derived.SizedLaws
import Derived.JoinedCond
import Derived.Test.YtfmgbfdnmconiaaGreatZA
import Derived.Lib.SmallJoins
/-
  What a statement's inputs give: a slice of limbs that came in reads as a list of numbers below 2^32, and takes at most the form's reach.
-/
namespace Go.Proofs.YtfmgbfdnmconiaaGreat
open Go.ChangeShapes Go.WideShapes Go.ChangeAt Go.RowKit
set_option linter.unusedVariables false

theorem own_knob : ownKnob Tryz.prog.godebug = none := by kernel_rfl
theorem laid_out : laidOutB Tryz.prog = true := by kernel_rfl
end Go.Proofs.YtfmgbfdnmconiaaGreat

/-
  What the bound of the second form gives: each slice of limbs has at most 1048576 places.
-/
namespace Go.Proofs.YtfmgbfdnmconiaaGreat
set_option linter.unusedVariables false

end Go.Proofs.YtfmgbfdnmconiaaGreat

/-
  What a statement's inputs give: an integer that came in is a sign and a slice of limbs that reads as a list of numbers below 2^32.
-/
namespace Go.Proofs.YtfmgbfdnmconiaaGreat
open Go.ChangeShapes Go.WideShapes Go.ChangeAt Go.RowKit Go.Joins
set_option linter.unusedVariables false

end Go.Proofs.YtfmgbfdnmconiaaGreat
