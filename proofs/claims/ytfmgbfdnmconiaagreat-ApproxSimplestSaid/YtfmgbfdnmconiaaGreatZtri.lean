/-
  Functions of three integers; comparisons and signs by a number given by an equation.
-/
import Derived.Test.YtfmgbfdnmconiaaGreatZC
import Derived.Test.YtfmgbfdnmconiaaGreatZB
namespace Go.Proofs.YtfmgbfdnmconiaaGreat
open Go.RowKit
set_option linter.unusedVariables false

theorem compare_k {A B : Option Addr} {n c m d : Nat} {s t : Bool} {w : World} {x y r : Int} (h : Zin w s A n c x) (h' : Zin w t B m d y) (hr : sg (x - y) = r) :
    Calls Tryz.prog 105 #[.agg #[.bool s, .slice A n c], .agg #[.bool t, .slice B m d]] w fun e w' => e = .returned (.int .i64 r) ∧ Below w.heap.size w w' := by
  subst hr; exact compare_z h h'
theorem sign_k {A : Option Addr} {c n : Nat} {s : Bool} {w : World} {z r : Int} (h : Zin w s A n c z) (hr : sg z = r) :
    Calls Tryz.prog 49 #[.agg #[.bool s, .slice A n c]] w fun e w' => e = .returned (.int .i64 r) ∧ Below w.heap.size w w' := by
  subst hr; exact sign_z h
end Go.Proofs.YtfmgbfdnmconiaaGreat
