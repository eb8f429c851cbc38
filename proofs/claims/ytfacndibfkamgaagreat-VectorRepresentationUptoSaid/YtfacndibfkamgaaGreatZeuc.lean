/-
  Euclid's algorithm with one factor: the invariants, the step, what holds at the end; the bounds on both factors.
-/
import Derived.Test.YtfacndibfkamgaaGreatZA
namespace Go.Proofs.YtfacndibfkamgaaGreat
set_option linter.unusedVariables false

/-- Every remainder is A times its factor plus a multiple of B; two factors that follow each other differ in sign, and their products with the other's remainder add up to B. -/
structure EuInv (A B a b x nx : Int) : Prop where
  ha : 0 < a
  hb : 0 ≤ b
  hg : Int.gcd a b = Int.gcd A B
  kx : ∃ k, a = A * x + B * k
  kn : ∃ k, b = A * nx + B * k
  sgn : (0 ≤ x ∧ nx ≤ 0 ∧ x * b - nx * a = B) ∨ (x ≤ 0 ∧ 0 ≤ nx ∧ nx * a - x * b = B)
  lt : b < a ∨ nx = 0
  fin : b ≠ 0 ∨ x = 0 ∨ 2 * (((x.natAbs : Nat) : Int) * a) ≤ B
theorem EuInv.start {A B : Int} (hA : 0 < A) (hB : 0 < B) : EuInv A B A B 1 0 :=
  ⟨hA, Int.le_of_lt hB, rfl, ⟨0, by simp⟩, ⟨1, by simp⟩, .inl ⟨by decide, by decide, by simp⟩, .inr rfl, .inl (by omega)⟩
theorem EuInv.step {A B a b x nx q r : Int} (h : EuInv A B a b x nx) (h0 : b ≠ 0) (hq : a / b = q) (hr : a % b = r) : EuInv A B b r nx (x - q * nx) := by
  obtain ⟨ha, hb, hg, ⟨k1, e1⟩, ⟨k2, e2⟩, sgn, lt, fin⟩ := h
  have hb0 : 0 < b := by omega
  have er := Int.mul_ediv_add_emod a b
  have r0 := Int.emod_nonneg a h0
  have r1 := Int.emod_lt_of_pos a hb0
  have q0 : 0 ≤ a / b := Int.ediv_nonneg (by omega) hb
  rw [hq] at er q0
  rw [hr] at er r0 r1
  have ea : a = b * q + r := er.symm
  have hgr : Int.gcd b r = Int.gcd a b := by
    rw [Int.gcd_comm a b, ea, Int.add_comm]
    first | simp | exact (Int.gcd_add_mul_left_right ..).symm | exact (Int.gcd_add_mul_right_right ..).symm
  refine ⟨hb0, r0, hgr.trans hg, ⟨k2, e2⟩, ⟨k1 - q * k2, ?_⟩, ?_, .inl r1, ?_⟩
  · have : r = a - b * q := by omega
    rw [this, e1, e2]
    grind
  · rcases sgn with ⟨s1, s2, s3⟩ | ⟨s1, s2, s3⟩
    · have hn := Int.mul_nonneg q0 (show 0 ≤ -nx by omega)
      rw [Int.mul_neg] at hn
      refine .inr ⟨s2, by omega, ?_⟩
      rw [← s3, ea]
      grind
    · have hn := Int.mul_nonneg q0 s2
      refine .inl ⟨s2, by omega, ?_⟩
      rw [← s3, ea]
      grind
  · by_cases hr0 : r = 0
    · right
      rcases lt with l | l
      · right
        subst hr0
        have hq2 : 2 ≤ q := by
          rcases Int.lt_or_le q 2 with h2 | h2
          · exfalso
            have : q = 0 ∨ q = 1 := by omega
            rcases this with rfl | rfl <;> simp at ea <;> omega
          · exact h2
        have hab : 0 ≤ a - 2 * b := by
          have := Int.mul_nonneg hb (show 0 ≤ q - 2 by omega)
          rw [Int.mul_sub] at this
          omega
        rcases sgn with ⟨s1, s2, s3⟩ | ⟨s1, s2, s3⟩
        · have e : ((nx.natAbs : Nat) : Int) = -nx := by omega
          have m1 := Int.mul_nonneg (show 0 ≤ -nx by omega) hab
          have m2 := Int.mul_nonneg s1 hb
          rw [e]
          have e3 : -nx * (a - 2 * b) = -(nx * a) + 2 * (nx * b) := by grind
          have e4 : -nx * b = -(nx * b) := by grind
          rw [e3] at m1
          rw [e4]
          omega
        · have e : ((nx.natAbs : Nat) : Int) = nx := by omega
          have m1 := Int.mul_nonneg s2 hab
          have m2 := Int.mul_nonneg (show 0 ≤ -x by omega) hb
          rw [e]
          have e3 : nx * (a - 2 * b) = nx * a - 2 * (nx * b) := by grind
          have e4 : -x * b = -(x * b) := by grind
          rw [e3] at m1
          rw [e4] at m2
          omega
      · exact .inl l
    · exact .inl hr0
/-- The factors are at most B, as long as the remainder is not 0. -/
theorem EuInv.small {A B a b x nx : Int} (h : EuInv A B a b x nx) (h0 : b ≠ 0) : x.natAbs ≤ B.natAbs ∧ nx.natAbs ≤ B.natAbs := by
  obtain ⟨ha, hb, hg, k1, k2, sgn, lt, fin⟩ := h
  have hb0 : 0 < b := by omega
  rcases sgn with ⟨s1, s2, s3⟩ | ⟨s1, s2, s3⟩
  · have m1 := Int.mul_nonneg s1 (show 0 ≤ b - 1 by omega)
    have m2 := Int.mul_nonneg (show 0 ≤ -nx by omega) (show 0 ≤ a - 1 by omega)
    have e1 : x * (b - 1) = x * b - x := by grind
    have e2 : -nx * (a - 1) = -(nx * a) + nx := by grind
    rw [e1] at m1
    rw [e2] at m2
    omega
  · have m1 := Int.mul_nonneg (show 0 ≤ -x by omega) (show 0 ≤ b - 1 by omega)
    have m2 := Int.mul_nonneg s2 (show 0 ≤ a - 1 by omega)
    have e1 : -x * (b - 1) = -(x * b) + x := by grind
    have e2 : nx * (a - 1) = nx * a - nx := by grind
    rw [e1] at m1
    rw [e2] at m2
    omega
/-- What the end gives: the greatest common divisor, the first factor and its bound. -/
theorem EuInv.done {A B a x nx : Int} (h : EuInv A B a 0 x nx) : a = ((Int.gcd A B : Nat) : Int) ∧ (∃ k, a = A * x + B * k) ∧ (x = 0 ∨ 2 * (((x.natAbs : Nat) : Int) * a) ≤ B) := by
  refine ⟨?_, h.kx, ?_⟩
  · have := h.hg
    rw [Int.gcd_zero_right] at this
    have := h.ha
    omega
  · rcases h.fin with h1 | h1
    · exact absurd rfl h1
    · exact h1
/-- The other factor: it is exact, and bounded. -/
theorem other_factor {A B g x k : Int} (hA : 0 < A) (hB : 0 < B) (hg : 0 < g) (hgA : g ≤ A) (e : g = A * x + B * k) (hx : x = 0 ∨ 2 * (((x.natAbs : Nat) : Int) * g) ≤ B) (hgB : g ≤ B) :
    (g - A * x) / B = k ∧ ((x.natAbs : Nat) : Int) * g ≤ B ∧ ((k.natAbs : Nat) : Int) * g ≤ A := by
  have e1 : g - A * x = B * k := by omega
  refine ⟨by rw [e1]; exact Int.mul_ediv_cancel_left k (by omega), ?_, ?_⟩
  · rcases hx with rfl | hx
    · simp; omega
    · have : 0 ≤ ((x.natAbs : Nat) : Int) * g := Int.mul_nonneg (by omega) (by omega)
      omega
  · -- B * (|k| * g) ≤ B * A
    have key : B * (((k.natAbs : Nat) : Int) * g) ≤ B * A := by
      rcases hx with rfl | hx
      · have ek : B * k = g := by rw [← e1]; simp
        have kp : 0 < k := by
          rcases Int.lt_or_le 0 k with h | h
          · exact h
          · have := Int.mul_nonneg (show 0 ≤ B by omega) (show 0 ≤ -k by omega)
            rw [Int.mul_neg] at this
            omega
        have ea : ((k.natAbs : Nat) : Int) = k := by omega
        rw [ea, ← Int.mul_assoc, ek]
        exact Int.mul_le_mul hgB hgA (by omega) (by omega)
      · rcases Int.lt_or_le 0 x with hx0 | hx0
        · -- k ≤ 0, B |k| = A x - g
          have ea : ((x.natAbs : Nat) : Int) = x := by omega
          rw [ea] at hx
          have kn : k ≤ 0 := by
            rcases Int.lt_or_le 0 k with h | h
            · exfalso
              have m1 := Int.mul_nonneg (show 0 ≤ A by omega) (show 0 ≤ x - 1 by omega)
              have m2 := Int.mul_nonneg (show 0 ≤ B by omega) (show 0 ≤ k - 1 by omega)
              rw [Int.mul_sub] at m1 m2
              omega
            · exact h
          have eb : ((k.natAbs : Nat) : Int) = -k := by omega
          rw [eb]
          have e2 : B * (-k * g) = (A * x - g) * g := by
            have : B * (-k * g) = -(B * k) * g := by grind
            rw [this, ← e1]
            grind
          rw [e2]
          have hxg : x * g ≤ B := by
            have : 0 ≤ x * g := Int.mul_nonneg (by omega) (by omega)
            omega
          have m1 := Int.mul_le_mul_of_nonneg_left hxg (show 0 ≤ A by omega)
          have m2 := Int.mul_nonneg (show 0 ≤ g by omega) (show 0 ≤ g by omega)
          have e3 : (A * x - g) * g = A * (x * g) - g * g := by grind
          have e4 : B * A = A * B := Int.mul_comm _ _
          rw [e3, e4]
          omega
        · have ea : ((x.natAbs : Nat) : Int) = -x := by omega
          rw [ea] at hx
          have kp : 0 ≤ k := by
            rcases Int.lt_or_le k 0 with h | h
            · exfalso
              have m1 := Int.mul_nonneg (show 0 ≤ A by omega) (show 0 ≤ -x by omega)
              have m2 := Int.mul_nonneg (show 0 ≤ B by omega) (show 0 ≤ -k by omega)
              rw [Int.mul_neg] at m1 m2
              omega
            · exact h
          have eb : ((k.natAbs : Nat) : Int) = k := by omega
          rw [eb]
          have e2 : B * (k * g) = (g - A * x) * g := by rw [← Int.mul_assoc, ← e1]
          have e3 : (g - A * x) * g = g * g + A * (-x * g) := by grind
          have m1 := Int.mul_le_mul_of_nonneg_left hx (show 0 ≤ A by omega)
          have e4 : A * (2 * (-x * g)) = 2 * (A * (-x * g)) := by grind
          rw [e4] at m1
          rw [e2, e3, Int.mul_comm B A]
          rcases Int.lt_or_le x 0 with hx1 | hx1
          · -- 2 g ≤ B
            have m2 : 2 * g ≤ B := by
              have := Int.mul_nonneg (show 0 ≤ -x - 1 by omega) (show 0 ≤ g by omega)
              have e5 : (-x - 1) * g = -x * g - g := by grind
              rw [e5] at this
              omega
            have m3 := Int.mul_le_mul hgA m2 (by omega) (by omega)
            have e6 : g * (2 * g) = 2 * (g * g) := by grind
            rw [e6] at m3
            omega
          · have : x = 0 := by omega
            subst this
            simp
            exact Int.mul_le_mul hgA hgB (by omega) (by omega)
    exact Int.le_of_mul_le_mul_left key hB
end Go.Proofs.YtfacndibfkamgaaGreat
