/-
  Contract of the reference's Bezout.
-/
import Derived.Test.YtfmgbfdnmconiaaGreatZext
import Derived.Test.YtfmgbfdnmconiaaGreatZcan
namespace Go.Proofs.YtfmgbfdnmconiaaGreat
open Go.RowKit
set_option linter.unusedVariables false

theorem rsign_k {A : Option Addr} {n c : Nat} {s : Bool} {w : World} {x r : Int} (h : Zin w s A n c x) (hl : n ≤ 70368744177664) (hr : sg x = r) :
    Calls Tryz.prog 11 #[.agg #[.bool s, .slice A n c]] w fun e w' => e = .returned (.int .i64 r) ∧ Below w.heap.size w w' := by
  subst hr; exact rsign_z h hl
theorem rcompare_k {A B : Option Addr} {n c m d : Nat} {s t : Bool} {w : World} {x y r : Int} (h : Zin w s A n c x) (h' : Zin w t B m d y) (hl : n ≤ 70368744177663) (hl' : m ≤ 70368744177663) (hr : sg (x - y) = r) :
    Calls Tryz.prog 12 #[.agg #[.bool s, .slice A n c], .agg #[.bool t, .slice B m d]] w fun e w' => e = .returned (.int .i64 r) ∧ Below w.heap.size w w' := by
  subst hr; exact rcompare_z h h' hl hl'
end Go.Proofs.YtfmgbfdnmconiaaGreat
