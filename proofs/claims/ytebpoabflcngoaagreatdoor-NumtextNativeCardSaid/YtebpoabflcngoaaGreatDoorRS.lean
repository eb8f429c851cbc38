/-
  Rlen, Rsgn, Rvals, Rzro, Rsize, Rscl.
-/
import Derived.Test.YtebpoabflcngoaaGreatDoorRawake
/-
  How long a rational number's canonical form is, by the numbers that it is made of.
-/
namespace Go.Proofs.YtebpoabflcngoaaGreatDoor
open Go.RowKit
set_option linter.unusedVariables false

/-- Numerator and denominator have at most n limbs. -/
def RL (r : Rat) (n : Nat) : Prop := (ofv r.num.natAbs).length ≤ n ∧ (ofv r.den).length ≤ n
theorem RL.le {r : Rat} {n m : Nat} (h : RL r n) (hm : n ≤ m) : RL r m := ⟨Nat.le_trans h.1 hm, Nat.le_trans h.2 hm⟩
theorem RL.one {r : Rat} {n : Nat} (h : RL r n) : 1 ≤ n := by
  have h1 := h.2
  rcases Nat.eq_zero_or_pos (ofv r.den).length with h2 | h2
  · have h3 : ofv r.den = [] := List.eq_nil_of_length_eq_zero h2
    have h4 := val_ofv r.den
    rw [h3] at h4
    have := den_pos r
    simp [val] at h4
    omega
  · omega
theorem rl_mk {x : Int} {p N : Nat} (hx : (ofv x.natAbs).length ≤ N) (hp : (ofv p).length ≤ N) (h1 : 1 ≤ N) : RL (mkRat x p) N := canon_len hx hp h1
theorem nlen_mul {p q a b : Nat} (h : (ofv p).length ≤ a) (h' : (ofv q).length ≤ b) : (ofv (p * q)).length ≤ a + b := by
  have := zlen_mul (x := (p : Int)) (y := (q : Int)) (n := a) (m := b) (by simpa using h) (by simpa using h')
  rw [Int.natAbs_mul] at this
  simpa using this
theorem rl_mul {r s : Rat} {a b : Nat} (h : RL r a) (h' : RL s b) : RL (r * s) (a + b) := by
  have e : r * s = mkRat (r.num * s.num) (r.den * s.den) := by rw [← Rat.mkRat_mul_mkRat, mk_self, mk_self]
  have h1 := h.one
  rw [e]
  exact rl_mk (zlen_mul h.1 h'.1) (nlen_mul h.2 h'.2) (by omega)
end Go.Proofs.YtebpoabflcngoaaGreatDoor

/-
  The statement RationalOrder: its walk.
-/
namespace Go.Proofs.YtebpoabflcngoaaGreatDoor
open Go.RowKit
set_option linter.unusedVariables false

end Go.Proofs.YtebpoabflcngoaaGreatDoor

/-
  Contracts: New, Min and Max of package rational; Min and Max of its reference.
-/
namespace Go.Proofs.YtebpoabflcngoaaGreatDoor
open Go.RowKit
set_option linter.unusedVariables false

end Go.Proofs.YtebpoabflcngoaaGreatDoor

/-
  The zero value of a rational number in a variable; a quotient with a bool as what an operation leaves.
-/
namespace Go.Proofs.YtebpoabflcngoaaGreatDoor
open Go.RowKit
set_option linter.unusedVariables false

end Go.Proofs.YtebpoabflcngoaaGreatDoor

/-
  The reference's Size, and how many bits a product has.
-/
namespace Go.Proofs.YtebpoabflcngoaaGreatDoor
open Go.RowKit
set_option linter.unusedVariables false

end Go.Proofs.YtebpoabflcngoaaGreatDoor

/-
  A slice of one limb; a slice as what an operation leaves.
-/
namespace Go.Proofs.YtebpoabflcngoaaGreatDoor
open Go.RowKit
set_option linter.unusedVariables false

/-- A slice that reads as a number, in memory from block lo on. -/
def isS (n lo : Nat) (v : Value) (w : World) : Prop := ∃ R c, v = .slice R (ofv n).length c ∧ Own w lo R c (ofv n)
theorem isS_good (n lo : Nat) : Good (isS n lo) :=
  ⟨fun v w w' hb ⟨R, c, e, o⟩ => ⟨R, c, e, o.below hb⟩, fun v w g ⟨R, c, e, o⟩ h => by subst e; cases h⟩
end Go.Proofs.YtebpoabflcngoaaGreatDoor
