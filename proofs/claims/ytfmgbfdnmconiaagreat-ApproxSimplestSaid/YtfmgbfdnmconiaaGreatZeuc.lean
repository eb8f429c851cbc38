/-
  Euclid's algorithm with one factor: the invariants, the step, what holds at the end; the bounds on both factors.
-/
import Derived.Test.YtfmgbfdnmconiaaGreatZA
namespace Go.Proofs.YtfmgbfdnmconiaaGreat
set_option linter.unusedVariables false

/-- Every remainder is A times its factor plus a multiple of B; two factors that follow each other differ in sign, and their products with the other's remainder add up to B. -/
structure EuInv (A B a b x nx : Int) : Prop where
  ha : 0 < a
  hb : 0 ≤ b
  hg : Int.gcd a b = Int.gcd A B
  kx : ∃ k, a = A * x + B * k
  kn : ∃ k, b = A * nx + B * k
  sgn : (0 ≤ x ∧ nx ≤ 0 ∧ x * b - nx * a = B) ∨ (x ≤ 0 ∧ 0 ≤ nx ∧ nx * a - x * b = B)
  lt : b < a ∨ nx = 0
  fin : b ≠ 0 ∨ x = 0 ∨ 2 * (((x.natAbs : Nat) : Int) * a) ≤ B
theorem EuInv.start {A B : Int} (hA : 0 < A) (hB : 0 < B) : EuInv A B A B 1 0 :=
  ⟨hA, Int.le_of_lt hB, rfl, ⟨0, by simp⟩, ⟨1, by simp⟩, .inl ⟨by decide, by decide, by simp⟩, .inr rfl, .inl (by omega)⟩
theorem EuInv.step {A B a b x nx q r : Int} (h : EuInv A B a b x nx) (h0 : b ≠ 0) (hq : a / b = q) (hr : a % b = r) : EuInv A B b r nx (x - q * nx) := by
  obtain ⟨ha, hb, hg, ⟨k1, e1⟩, ⟨k2, e2⟩, sgn, lt, fin⟩ := h
  have hb0 : 0 < b := by omega
  have er := Int.mul_ediv_add_emod a b
  have r0 := Int.emod_nonneg a h0
  have r1 := Int.emod_lt_of_pos a hb0
  have q0 : 0 ≤ a / b := Int.ediv_nonneg (by omega) hb
  rw [hq] at er q0
  rw [hr] at er r0 r1
  have ea : a = b * q + r := er.symm
  have hgr : Int.gcd b r = Int.gcd a b := by
    rw [Int.gcd_comm a b, ea, Int.add_comm]
    first | simp | exact (Int.gcd_add_mul_left_right ..).symm | exact (Int.gcd_add_mul_right_right ..).symm
  refine ⟨hb0, r0, hgr.trans hg, ⟨k2, e2⟩, ⟨k1 - q * k2, ?_⟩, ?_, .inl r1, ?_⟩
  · have : r = a - b * q := by omega
    rw [this, e1, e2]
    grind
  · rcases sgn with ⟨s1, s2, s3⟩ | ⟨s1, s2, s3⟩
    · have hn := Int.mul_nonneg q0 (show 0 ≤ -nx by omega)
      rw [Int.mul_neg] at hn
      refine .inr ⟨s2, by omega, ?_⟩
      rw [← s3, ea]
      grind
    · have hn := Int.mul_nonneg q0 s2
      refine .inl ⟨s2, by omega, ?_⟩
      rw [← s3, ea]
      grind
  · by_cases hr0 : r = 0
    · right
      rcases lt with l | l
      · right
        subst hr0
        have hq2 : 2 ≤ q := by
          rcases Int.lt_or_le q 2 with h2 | h2
          · exfalso
            have : q = 0 ∨ q = 1 := by omega
            rcases this with rfl | rfl <;> simp at ea <;> omega
          · exact h2
        have hab : 0 ≤ a - 2 * b := by
          have := Int.mul_nonneg hb (show 0 ≤ q - 2 by omega)
          rw [Int.mul_sub] at this
          omega
        rcases sgn with ⟨s1, s2, s3⟩ | ⟨s1, s2, s3⟩
        · have e : ((nx.natAbs : Nat) : Int) = -nx := by omega
          have m1 := Int.mul_nonneg (show 0 ≤ -nx by omega) hab
          have m2 := Int.mul_nonneg s1 hb
          rw [e]
          have e3 : -nx * (a - 2 * b) = -(nx * a) + 2 * (nx * b) := by grind
          have e4 : -nx * b = -(nx * b) := by grind
          rw [e3] at m1
          rw [e4]
          omega
        · have e : ((nx.natAbs : Nat) : Int) = nx := by omega
          have m1 := Int.mul_nonneg s2 hab
          have m2 := Int.mul_nonneg (show 0 ≤ -x by omega) hb
          rw [e]
          have e3 : nx * (a - 2 * b) = nx * a - 2 * (nx * b) := by grind
          have e4 : -x * b = -(x * b) := by grind
          rw [e3] at m1
          rw [e4] at m2
          omega
      · exact .inl l
    · exact .inl hr0
/-- What the end gives: the greatest common divisor, the first factor and its bound. -/
theorem EuInv.done {A B a x nx : Int} (h : EuInv A B a 0 x nx) : a = ((Int.gcd A B : Nat) : Int) ∧ (∃ k, a = A * x + B * k) ∧ (x = 0 ∨ 2 * (((x.natAbs : Nat) : Int) * a) ≤ B) := by
  refine ⟨?_, h.kx, ?_⟩
  · have := h.hg
    rw [Int.gcd_zero_right] at this
    have := h.ha
    omega
  · rcases h.fin with h1 | h1
    · exact absurd rfl h1
    · exact h1
end Go.Proofs.YtfmgbfdnmconiaaGreat
