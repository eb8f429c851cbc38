/-
  Contracts: New, Min and Max of package rational; Min and Max of its reference.
-/
import Derived.Test.YtebpoabflcngoaaGreatDoorRsgn
namespace Go.Proofs.YtebpoabflcngoaaGreatDoor
open Go.RowKit
set_option linter.unusedVariables false

/-- The lesser, the greater number. -/
def minR (x y : Rat) : Rat := if sgR (x - y) < 0 then x else y
def maxR (x y : Rat) : Rat := if 0 < sgR (x - y) then x else y
theorem sub_zero_eq {x y : Rat} (h : sgR (x - y) = 0) : x = y := by
  rw [sgR_zero] at h
  grind
end Go.Proofs.YtebpoabflcngoaaGreatDoor
