/-
  A slice of one limb; a slice as what an operation leaves.
-/
import Derived.Test.YtebpoabflcngoaaGreatDoorRsize
import Derived.Test.YtebpoabflcngoaaGreatDoorRsgn
namespace Go.Proofs.YtebpoabflcngoaaGreatDoor
open Go.RowKit
set_option linter.unusedVariables false

theorem nin_k (w : World) {a2 : Int} {k : Nat} (hk : (k : Int) = a2) (hb : a2 < 4294967296) : Nin (w.alloc (.cells #[.int .u32 a2] 60)) (some ⟨w.heap.size, 0, none⟩) 1 1 k := by
  subst hk
  have hr : Row (w.alloc (.cells #[.int .u32 (k : Int)] 60)) w.heap.size [k] := row_new rfl rfl
  have := Own.of_row (lo := 0) hr (okl1 (by omega)) (Nat.zero_le _) (by simp)
  exact ⟨[k], this.rd, rfl, by simp [val]⟩
/-- A slice that reads as a number, in memory from block lo on. -/
def isS (n lo : Nat) (v : Value) (w : World) : Prop := ∃ R c, v = .slice R (ofv n).length c ∧ Own w lo R c (ofv n)
theorem isS_good (n lo : Nat) : Good (isS n lo) :=
  ⟨fun v w w' hb ⟨R, c, e, o⟩ => ⟨R, c, e, o.below hb⟩, fun v w g ⟨R, c, e, o⟩ h => by subst e; cases h⟩
end Go.Proofs.YtebpoabflcngoaaGreatDoor
