/-
  Contracts: Ceil of package rational; Floor, Ceil and Whole of its reference.
-/
import Derived.Test.YtebpoabflcngoaaGreatDoorRS
namespace Go.Proofs.YtebpoabflcngoaaGreatDoor
open Go.RowKit
set_option linter.unusedVariables false

end Go.Proofs.YtebpoabflcngoaaGreatDoor
