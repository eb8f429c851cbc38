/-
  Contract of the reference's Bezout.
-/
import Derived.Test.YtebpoabflcngoaaGreatDoorZext
import Derived.Test.YtebpoabflcngoaaGreatDoorZcan
namespace Go.Proofs.YtebpoabflcngoaaGreatDoor
open Go.RowKit
set_option linter.unusedVariables false

theorem rsign_k {A : Option Addr} {n c : Nat} {s : Bool} {w : World} {x r : Int} (h : Zin w s A n c x) (hl : n ≤ 70368744177664) (hr : sg x = r) :
    Calls Tryz.prog 82 #[.agg #[.bool s, .slice A n c]] w fun e w' => e = .returned (.int .i64 r) ∧ Below w.heap.size w w' := by
  subst hr; exact rsign_z h hl
end Go.Proofs.YtebpoabflcngoaaGreatDoor
