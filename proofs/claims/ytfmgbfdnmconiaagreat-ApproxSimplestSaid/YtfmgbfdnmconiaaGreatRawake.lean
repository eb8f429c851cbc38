/-
  The statements' own sanity check of package rational.
-/
import Derived.Test.YtfmgbfdnmconiaaGreatRrez
import Derived.Test.YtfmgbfdnmconiaaGreatRate
namespace Go.Proofs.YtfmgbfdnmconiaaGreat
open Go.RowKit
set_option linter.unusedVariables false

theorem len_small {v : Nat} (h : v < 4294967296) : (ofv v).length ≤ 1 := len_ofv_le_of_lt (by rw [pw_succ, pw_zero]; omega)
end Go.Proofs.YtfmgbfdnmconiaaGreat
