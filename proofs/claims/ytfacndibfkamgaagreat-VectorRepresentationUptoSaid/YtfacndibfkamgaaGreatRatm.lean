/-
  Rational numbers: numerator and denominator in lowest terms, sums over a common denominator, signs, floors. No program.
-/
import Derived.Test.YtfacndibfkamgaaGreatZA
namespace Go.Proofs.YtfacndibfkamgaaGreat
open Go.RowKit
set_option linter.unusedVariables false

theorem mk_low {z : Int} {d g : Nat} (hd : 0 < d) (hg : Nat.gcd z.natAbs d = g) : (mkRat z d).num = z / (g : Int) ∧ (mkRat z d).den = d / g := by
  rw [Rat.num_mkRat, Rat.den_mkRat, if_neg (by omega), if_neg (by omega), Nat.gcd_comm d, hg]
  exact ⟨rfl, rfl⟩
theorem gcd_pos' {z : Int} {d g : Nat} (hd : 0 < d) (hg : Nat.gcd z.natAbs d = g) : 0 < g ∧ g ≤ d := by
  subst hg
  exact ⟨Nat.gcd_pos_of_pos_right _ hd, Nat.gcd_le_right _ hd⟩
/-- The sign of a rational number. -/
def sgR (r : Rat) : Int := sg r.num
theorem sg_div {z : Int} {g : Nat} (hg : 0 < g) (hd : (g : Int) ∣ z) : sg (z / (g : Int)) = sg z := by
  obtain ⟨k, hk⟩ := hd
  have e : z / (g : Int) = k := by rw [hk]; exact Int.mul_ediv_cancel_left k (by omega)
  rw [e]
  have hg' : (0 : Int) < g := by omega
  rcases sg_cases k with ⟨e1, h1⟩ | ⟨e1, h1⟩ | ⟨e1, h1⟩ <;> rw [e1]
  · have := Int.mul_neg_of_pos_of_neg hg' h1
    rw [sg_neg (by omega)]
  · subst h1; rw [hk, Int.mul_zero]; rfl
  · have := Int.mul_pos hg' h1
    rw [sg_pos (by omega)]
theorem sgR_mk {z : Int} {d : Nat} (hd : 0 < d) : sgR (mkRat z d) = sg z := by
  unfold sgR
  obtain ⟨h1, h2⟩ := gcd_pos' (z := z) hd rfl
  rw [(mk_low hd rfl).1]
  exact sg_div h1 (by
    have := Nat.gcd_dvd_left z.natAbs d
    exact Int.ofNat_dvd_left.2 this)
theorem mk_sub {x y : Int} {p q : Nat} (hp : 0 < p) (hq : 0 < q) : mkRat x p - mkRat y q = mkRat (x * q - y * p) (p * q) := by
  rw [Rat.sub_eq_add_neg, Rat.neg_mkRat, Rat.mkRat_add_mkRat _ _ (by omega) (by omega)]
  congr 1
  rw [Int.neg_mul]; omega
theorem sgR_sub {x y : Int} {p q : Nat} (hp : 0 < p) (hq : 0 < q) : sgR (mkRat x p - mkRat y q) = sg (x * q - y * p) := by
  rw [mk_sub hp hq, sgR_mk (Nat.mul_pos hp hq)]
/-- A sum over the least common multiple. -/
theorem mk_add_lcm {x y : Int} {p q g a b : Nat} (hp : 0 < p) (hq : 0 < q) (hg : Nat.gcd p q = g) (ha : p / g = a) (hb : q / g = b) : mkRat x p + mkRat y q = mkRat (x * b + y * a) (p * b) ∧ 0 < b ∧ 0 < a ∧ a ≤ p ∧ b ≤ q := by
  have g0 : 0 < g := by rw [← hg]; exact Nat.gcd_pos_of_pos_left _ hp
  have e1 : p = a * g := by rw [← ha]; exact (Nat.div_mul_cancel (by rw [← hg]; exact Nat.gcd_dvd_left p q)).symm
  have e2 : q = b * g := by rw [← hb]; exact (Nat.div_mul_cancel (by rw [← hg]; exact Nat.gcd_dvd_right p q)).symm
  have b0 : 0 < b := by
    rcases Nat.eq_zero_or_pos b with h | h
    · subst h; omega
    · exact h
  have a0 : 0 < a := by
    rcases Nat.eq_zero_or_pos a with h | h
    · subst h; omega
    · exact h
  refine ⟨?_, b0, a0, by rw [← ha]; exact Nat.div_le_self _ _, by rw [← hb]; exact Nat.div_le_self _ _⟩
  rw [Rat.mkRat_add_mkRat _ _ (by omega) (by omega)]
  have e3 : x * (q : Int) + y * (p : Int) = (x * b + y * a) * (g : Int) := by
    rw [e1, e2, Int.natCast_mul, Int.natCast_mul, Int.add_mul, Int.mul_assoc, Int.mul_assoc]
  have e4 : p * q = p * b * g := by rw [e2, Nat.mul_assoc]
  rw [e3, e4, Rat.mkRat_mul_right (by omega)]
theorem mk_inv {x : Int} {p : Nat} (hx : x ≠ 0) (hp : 0 < p) : (mkRat x p)⁻¹ = mkRat (zv (decide (x < 0)) p) x.natAbs := by
  rw [← Rat.divInt_ofNat, Rat.inv_divInt]
  rcases Int.lt_or_le x 0 with h | h
  · have e : x = -((x.natAbs : Nat) : Int) := by omega
    have ed : decide (x < 0) = true := by simpa using h
    rw [ed]
    conv => lhs; rw [e]
    rw [Rat.divInt_neg', Rat.divInt_ofNat]
    simp [zv]
  · have e : x = ((x.natAbs : Nat) : Int) := by omega
    have ed : decide (x < 0) = false := by simpa using h
    rw [ed]
    conv => lhs; rw [e]
    rw [Rat.divInt_ofNat]
    simp [zv]
theorem floor_mk {z : Int} {d : Nat} (hd : 0 < d) : (mkRat z d).floor = z / (d : Int) := by
  obtain ⟨h1, h2⟩ := mk_low (z := z) hd rfl
  obtain ⟨g0, g1⟩ := gcd_pos' (z := z) hd rfl
  rw [Rat.floor_def, h1, h2]
  generalize hg : Nat.gcd z.natAbs d = g at *
  have d1 : (g : Int) ∣ z := by rw [← hg]; exact Int.ofNat_dvd_left.2 (Nat.gcd_dvd_left _ _)
  have d2 : g ∣ d := by rw [← hg]; exact Nat.gcd_dvd_right _ _
  obtain ⟨k, hk⟩ := d1
  obtain ⟨j, hj⟩ := d2
  subst hj
  rw [hk, Int.mul_ediv_cancel_left _ (by omega), Nat.mul_div_cancel_left _ g0, Int.natCast_mul, Int.mul_ediv_mul_of_pos _ _ (by omega)]
theorem num_len {z : Int} {d : Nat} (hd : 0 < d) : (mkRat z d).num.natAbs ≤ z.natAbs ∧ (mkRat z d).den ≤ d := by
  obtain ⟨h1, h2⟩ := mk_low (z := z) hd rfl
  rw [h1, h2]
  refine ⟨?_, Nat.div_le_self _ _⟩
  rw [Int.natAbs_ediv_of_dvd (Int.ofNat_dvd_left.2 (Nat.gcd_dvd_left _ _)), Int.natAbs_natCast]
  exact Nat.div_le_self _ _
theorem mk_self (r : Rat) : mkRat r.num r.den = r := Rat.mkRat_self r
theorem den_pos (r : Rat) : 0 < r.den := Nat.pos_of_ne_zero r.den_nz
end Go.Proofs.YtfacndibfkamgaaGreat
