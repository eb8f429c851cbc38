/-
  Rlen, Rsgn, Rvals, Rzro, Rsize, Rscl.
-/
import Derived.Test.YtfmgbfdnmconiaaGreatRawake
/-
  How long a rational number's canonical form is, by the numbers that it is made of.
-/
namespace Go.Proofs.YtfmgbfdnmconiaaGreat
open Go.RowKit
set_option linter.unusedVariables false

/-- Numerator and denominator have at most n limbs. -/
def RL (r : Rat) (n : Nat) : Prop := (ofv r.num.natAbs).length ≤ n ∧ (ofv r.den).length ≤ n
theorem RL.le {r : Rat} {n m : Nat} (h : RL r n) (hm : n ≤ m) : RL r m := ⟨Nat.le_trans h.1 hm, Nat.le_trans h.2 hm⟩
theorem RL.one {r : Rat} {n : Nat} (h : RL r n) : 1 ≤ n := by
  have h1 := h.2
  rcases Nat.eq_zero_or_pos (ofv r.den).length with h2 | h2
  · have h3 : ofv r.den = [] := List.eq_nil_of_length_eq_zero h2
    have h4 := val_ofv r.den
    rw [h3] at h4
    have := den_pos r
    simp [val] at h4
    omega
  · omega
theorem rl_mk {x : Int} {p N : Nat} (hx : (ofv x.natAbs).length ≤ N) (hp : (ofv p).length ≤ N) (h1 : 1 ≤ N) : RL (mkRat x p) N := canon_len hx hp h1
end Go.Proofs.YtfmgbfdnmconiaaGreat

/-
  The statement RationalOrder: its walk.
-/
namespace Go.Proofs.YtfmgbfdnmconiaaGreat
open Go.RowKit
set_option linter.unusedVariables false

/-- The sign of a rational number is among three. -/
theorem sgR_cases (r : Rat) : sgR r = -1 ∨ sgR r = 0 ∨ sgR r = 1 := by
  unfold sgR
  rcases sg_cases r.num with ⟨h, _⟩ | ⟨h, _⟩ | ⟨h, _⟩ <;> simp [h]
end Go.Proofs.YtfmgbfdnmconiaaGreat

/-
  Contracts: New, Min and Max of package rational; Min and Max of its reference.
-/
namespace Go.Proofs.YtfmgbfdnmconiaaGreat
open Go.RowKit
set_option linter.unusedVariables false

end Go.Proofs.YtfmgbfdnmconiaaGreat

/-
  The zero value of a rational number in a variable; a quotient with a bool as what an operation leaves.
-/
namespace Go.Proofs.YtfmgbfdnmconiaaGreat
open Go.RowKit
set_option linter.unusedVariables false

end Go.Proofs.YtfmgbfdnmconiaaGreat

/-
  The reference's Size, and how many bits a product has.
-/
namespace Go.Proofs.YtfmgbfdnmconiaaGreat
open Go.RowKit
set_option linter.unusedVariables false

end Go.Proofs.YtfmgbfdnmconiaaGreat

/-
  A slice of one limb; a slice as what an operation leaves.
-/
namespace Go.Proofs.YtfmgbfdnmconiaaGreat
open Go.RowKit
set_option linter.unusedVariables false

end Go.Proofs.YtfmgbfdnmconiaaGreat
