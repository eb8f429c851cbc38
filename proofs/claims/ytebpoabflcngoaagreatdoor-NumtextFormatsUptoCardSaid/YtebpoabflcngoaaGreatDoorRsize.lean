/-
  The reference's Size, and how many bits a product has.
-/
import Derived.Test.YtebpoabflcngoaaGreatDoorRlen
namespace Go.Proofs.YtebpoabflcngoaaGreatDoor
open Go.RowKit
set_option linter.unusedVariables false

theorem zfield1 (s : Bool) (A : Option Addr) (n c : Nat) (w : World) : (Instr.field 24 (.agg #[.bool s, .slice A n c]) 1).run Tryz.prog w = .ok (.slice A n c) w := by kernel_rfl
theorem nbits_mono {a b : Nat} (h : a ≤ b) : nbits a ≤ nbits b := nbits_le (Nat.lt_of_le_of_lt h (nbits_lt b))
theorem nbits_mul (a b : Nat) : nbits (a * b) ≤ nbits a + nbits b := by
  refine nbits_le ?_
  rw [Nat.pow_add]
  exact Nat.mul_lt_mul'' (nbits_lt a) (nbits_lt b)
/-- How many bits the numerator and the denominator have. -/
def szR (r : Rat) : Int := ((nbits r.num.natAbs : Nat) : Int) + ((nbits r.den : Nat) : Int)
theorem szR_mul (r s : Rat) : szR (r * s) ≤ szR r + szR s := by
  have e : r * s = mkRat (r.num * s.num) (r.den * s.den) := by rw [← Rat.mkRat_mul_mkRat, mk_self, mk_self]
  have h := num_len (z := r.num * s.num) (d := r.den * s.den) (Nat.mul_pos (den_pos r) (den_pos s))
  rw [← e, Int.natAbs_mul] at h
  have h1 := nbits_mono h.1
  have h2 := nbits_mono h.2
  have h3 := nbits_mul r.num.natAbs s.num.natAbs
  have h4 := nbits_mul r.den s.den
  unfold szR
  omega
theorem szR_len {r : Rat} {n : Nat} (h : RL r n) : 0 ≤ szR r ∧ szR r ≤ 64 * n := by
  have h1 := nbits_len r.num.natAbs
  have h2 := nbits_len r.den
  have h3 := h.1
  have h4 := h.2
  unfold szR
  omega
end Go.Proofs.YtebpoabflcngoaaGreatDoor
