/-
  Frame, Bulk, Framez.
-/
import Derived.Test.YtebpoabflcngoaaGreatDoorNA
import Derived.ProofKit
import Derived.OpenShut
import Derived.ShutString
import Derived.ChangeOld
import Derived.SizedLaws
import Derived.JoinedCond
import Derived.Test.YtebpoabflcngoaaGreatDoorZA
import Derived.Lib.SmallJoins
/-
  What a statement's inputs give: a slice of limbs that came in reads as a list of numbers below 2^32, and takes at most the form's reach.
-/
namespace Go.Proofs.YtebpoabflcngoaaGreatDoor
open Go.ChangeShapes Go.WideShapes Go.ChangeAt Go.RowKit
set_option linter.unusedVariables false

theorem own_knob : ownKnob Tryz.prog.godebug = none := by kernel_rfl
theorem wf_boundsi {n : Int} (h : (Lit.int .i64 n).wf = true) : -9223372036854775808 ≤ n ∧ n ≤ 9223372036854775807 := by
  simp [Lit.wf, IntKind.min, IntKind.max, IntKind.signed, IntKind.bits] at h
  omega
end Go.Proofs.YtebpoabflcngoaaGreatDoor

/-
  What the bound of the second form gives: each slice of limbs has at most 1048576 places.
-/
namespace Go.Proofs.YtebpoabflcngoaaGreatDoor
set_option linter.unusedVariables false

end Go.Proofs.YtebpoabflcngoaaGreatDoor

/-
  What a statement's inputs give: an integer that came in is a sign and a slice of limbs that reads as a list of numbers below 2^32.
-/
namespace Go.Proofs.YtebpoabflcngoaaGreatDoor
open Go.ChangeShapes Go.WideShapes Go.ChangeAt Go.RowKit Go.Joins
set_option linter.unusedVariables false

end Go.Proofs.YtebpoabflcngoaaGreatDoor
