/-
  Contracts of the reference's package 3: Add, Sub, Mul, Div, Compare, Canonical, Size.
-/
import Derived.Test.YtebpoabflcngoaaGreatDoorRref
namespace Go.Proofs.YtebpoabflcngoaaGreatDoor
open Go.RowKit
set_option linter.unusedVariables false

/-- A rational number in lowest terms, in memory from block lo on. -/
def isR (z : Int) (d lo : Nat) (v : Value) (w : World) : Prop := ∃ R c Q k, v = .agg #[.bool (decide (z < 0)), .slice R (ofv z.natAbs).length c, .slice Q (ofv d).length k] ∧ Own w lo R c (ofv z.natAbs) ∧ Own w lo Q k (ofv d)
theorem isR_good (z : Int) (d lo : Nat) : Good (isR z d lo) :=
  ⟨fun v w w' hb ⟨R, c, Q, k, e, o, o'⟩ => ⟨R, c, Q, k, e, o.below hb, o'.below hb⟩, fun v w g ⟨R, c, Q, k, e, o, o'⟩ h => by subst e; cases h⟩
theorem LeavesB.giveR {lo : Nat} {w w' : World} {z : Int} {d : Nat} {R Q : Option Addr} {c k : Nat} (h : lo ≤ w.heap.size) (ho : Own w' w.heap.size R c (ofv z.natAbs)) (ho' : Own w' w.heap.size Q k (ofv d)) (hb : Below w.heap.size w w') :
    LeavesB (isR z d lo) w (.agg #[.bool (decide (z < 0)), .slice R (ofv z.natAbs).length c, .slice Q (ofv d).length k]) w' :=
  ⟨hb, ⟨R, c, Q, k, rfl, ho.mono h, ho'.mono h⟩, fun g hg => by cases hg⟩
end Go.Proofs.YtebpoabflcngoaaGreatDoor
