/-
  Contract of the reference's Round.
-/
import Derived.Test.YtebpoabflcngoaaGreatDoorRrnd
namespace Go.Proofs.YtebpoabflcngoaaGreatDoor
open Go.RowKit
set_option linter.unusedVariables false

end Go.Proofs.YtebpoabflcngoaaGreatDoor
