/-
  Contract of integer.Extended.
-/
import Derived.Test.YtebpoabflcngoaaGreatDoorVar
namespace Go.Proofs.YtebpoabflcngoaaGreatDoor
open Go.RowKit
set_option linter.unusedVariables false

end Go.Proofs.YtebpoabflcngoaaGreatDoor
