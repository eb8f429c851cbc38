/-
  Contracts of the reference's package 3: Sub, Div, Compare, Canonical, Size.
-/
import Derived.Test.YtebpoabflcngoaaGreatDoorRreg
namespace Go.Proofs.YtebpoabflcngoaaGreatDoor
open Go.RowKit
set_option linter.unusedVariables false

end Go.Proofs.YtebpoabflcngoaaGreatDoor
