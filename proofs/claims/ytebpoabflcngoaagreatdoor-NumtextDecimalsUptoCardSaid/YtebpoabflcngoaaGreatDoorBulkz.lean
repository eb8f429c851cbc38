/-
  What the bound of the second form gives for integers: each has at most 1048576 limbs.
-/
import Derived.Test.YtebpoabflcngoaaGreatDoorFR
namespace Go.Proofs.YtebpoabflcngoaaGreatDoor
set_option linter.unusedVariables false

theorem bulk_agg {H : Type} (l : List (DataW H)) : Rows.uptoBulkAll l ≤ Rows.uptoBulk (.agg l) := by
  rw [Rows.uptoBulk]
  omega
end Go.Proofs.YtebpoabflcngoaaGreatDoor
