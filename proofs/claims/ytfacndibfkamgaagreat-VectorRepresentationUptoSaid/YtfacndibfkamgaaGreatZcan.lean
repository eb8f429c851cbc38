/-
  Contract of the reference's Canonical.
-/
import Derived.Test.YtfacndibfkamgaaGreatZC
import Derived.Test.YtfacndibfkamgaaGreatZB
namespace Go.Proofs.YtfacndibfkamgaaGreat
open Go.RowKit
set_option linter.unusedVariables false

end Go.Proofs.YtfacndibfkamgaaGreat
