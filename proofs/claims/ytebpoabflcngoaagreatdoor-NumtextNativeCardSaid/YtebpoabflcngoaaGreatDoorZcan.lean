/-
  Contract of the reference's Canonical.
-/
import Derived.Test.YtebpoabflcngoaaGreatDoorZC
import Derived.Test.YtebpoabflcngoaaGreatDoorZB
namespace Go.Proofs.YtebpoabflcngoaaGreatDoor
open Go.RowKit
set_option linter.unusedVariables false

end Go.Proofs.YtebpoabflcngoaaGreatDoor
