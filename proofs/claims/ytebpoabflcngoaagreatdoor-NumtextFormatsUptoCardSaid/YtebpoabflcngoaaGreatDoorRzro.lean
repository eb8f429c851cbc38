/-
  The zero value of a rational number in a variable; a quotient with a bool as what an operation leaves.
-/
import Derived.Test.YtebpoabflcngoaaGreatDoorRlen
namespace Go.Proofs.YtebpoabflcngoaaGreatDoor
open Go.RowKit
set_option linter.unusedVariables false

theorem rb_zero {w : World} {g : Nat} {x : Int} {d : Nat} (hx : 0 = x) (hd : 0 = d) (h : Rb w g false none 0 0 none 0 0) : Rb w g (decide (x < 0)) none (ofv x.natAbs).length 0 none (ofv d).length 0 := by
  subst hx hd
  simpa [ofv_zero] using h
theorem zo_zero {x : Int} (hx : 0 = x) (w : World) : Zo w none 0 x := by
  subst hx
  show Rd w none 0 (ofv 0)
  rw [ofv_zero]; exact Rd.nil _ _
theorem rd_zero {d : Nat} (hd : 0 = d) (w : World) : Rd w none 0 (ofv d) := by
  subst hd
  rw [ofv_zero]; exact Rd.nil _ _
/-- A rational number in lowest terms and true. -/
def isRT (z : Int) (d lo : Nat) (v : Value) (w : World) : Prop := ∃ R c Q k, v = .tuple #[.agg #[.bool (decide (z < 0)), .slice R (ofv z.natAbs).length c, .slice Q (ofv d).length k], .bool true] ∧ Own w lo R c (ofv z.natAbs) ∧ Own w lo Q k (ofv d)
theorem isRT_good (z : Int) (d lo : Nat) : Good (isRT z d lo) :=
  ⟨fun v w w' hb ⟨R, c, Q, k, e, o, o'⟩ => ⟨R, c, Q, k, e, o.below hb, o'.below hb⟩, fun v w g ⟨R, c, Q, k, e, o, o'⟩ h => by subst e; cases h⟩
end Go.Proofs.YtebpoabflcngoaaGreatDoor
