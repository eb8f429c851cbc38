/-
  Lehmer's method, over integers: a run of quotients that is found from leading bits is a run of Euclid's algorithm.
-/
import Derived.Test.YtmmlfmjelhninaaMath
namespace Go.Proofs.Ytmmlfmjelhninaa
set_option linter.unusedVariables false

theorem sq_small {t s B : Int} (h0 : 0 ≤ t) (h1 : t ≤ s) (h2 : t * s ≤ B) (hB : B < 1152921504606846976) : t ≤ 1073741824 := by
  rcases Int.lt_or_le 1073741824 t with h | h
  · have a1 : 1073741824 * 1073741824 ≤ t * t := Int.mul_le_mul (by omega) (by omega) (by omega) (by omega)
    have a2 : t * t ≤ t * s := Int.mul_le_mul_of_nonneg_left h1 h0
    omega
  · exact h

/-- One quotient, where the factors a, d are not negative and b, c not positive. -/
theorem leh_even {h U V x0 y0 a b c d u v q : Int} (hh : 0 < h) (hx0 : 0 ≤ x0) (hx1 : x0 < h) (hy0 : 0 ≤ y0) (hy1 : y0 < h) (ha : 0 ≤ a) (hb : b ≤ 0) (hc : c ≤ 0) (hd : 0 ≤ d) (det : a * d - b * c = 1)
    (hu : u = a * U + b * V) (hv : v = c * U + d * V) (hU : U < 1152921504606846976) (hV : V < 1152921504606846976) (ea : 0 ≤ u + a) (eb : 0 ≤ u + b) (hP : 0 < v + c) (hQ : 0 < v + d)
    (q1 : q * (v + c) ≤ u + a) (q2 : u + a < (q + 1) * (v + c)) (q3 : q * (v + d) ≤ u + b) (q4 : u + b < (q + 1) * (v + d)) :
    0 ≤ q ∧ 0 ≤ a - q * c ∧ b - q * d ≤ 0 ∧ c * (b - q * d) - d * (a - q * c) = -1 ∧ 0 ≤ u - q * v ∧ u - q * v < v ∧ a - q * c ≤ 1073741824 ∧ -1073741824 ≤ b - q * d ∧
    q * (c * (h * U + x0) + d * (h * V + y0)) ≤ a * (h * U + x0) + b * (h * V + y0) ∧ a * (h * U + x0) + b * (h * V + y0) < (q + 1) * (c * (h * U + x0) + d * (h * V + y0)) := by
  have hq : 0 ≤ q := by
    rcases Int.lt_or_le q 0 with h1 | h1
    · have : (q + 1) * (v + c) ≤ 0 := Int.mul_nonpos_of_nonpos_of_nonneg (by omega) (by omega)
      omega
    · exact h1
  have qc : q * c ≤ 0 := Int.mul_nonpos_of_nonneg_of_nonpos hq hc
  have qd : 0 ≤ q * d := Int.mul_nonneg hq hd
  have r1 : q * (v + c) = q * v + q * c := Int.mul_add _ _ _
  have r2 : (q + 1) * (v + c) = q * v + q * c + v + c := by grind
  have r3 : q * (v + d) = q * v + q * d := Int.mul_add _ _ _
  have r4 : (q + 1) * (v + d) = q * v + q * d + v + d := by grind
  have v1 : 0 ≤ u - q * v := by omega
  have v2 : u - q * v < v := by omega
  have c1 : 0 ≤ a - q * c := by omega
  have d1 : b - q * d ≤ 0 := by omega
  have det' : c * (b - q * d) - d * (a - q * c) = -1 := by grind
  have eU : U = -(b - q * d) * v + d * (u - q * v) := by grind
  have eV : V = (a - q * c) * v - c * (u - q * v) := by grind
  have f1 : 0 ≤ d * (u - q * v) := Int.mul_nonneg hd v1
  have f2 : c * (u - q * v) ≤ 0 := Int.mul_nonpos_of_nonpos_of_nonneg hc v1
  have s1 : -(b - q * d) * v ≤ U := by omega
  have s2 : (a - q * c) * v ≤ V := by omega
  have t1 := sq_small (t := -(b - q * d)) (s := v) (by omega) (by omega) s1 hU
  have t2 := sq_small (t := a - q * c) (s := v) c1 (by omega) s2 hV
  -- the true numbers
  have g1 : a * x0 ≤ a * h := Int.mul_le_mul_of_nonneg_left (by omega) ha
  have g2 : 0 ≤ a * x0 := Int.mul_nonneg ha hx0
  have g3 : b * h ≤ b * y0 := Int.mul_le_mul_of_nonpos_left hb (by omega)
  have g4 : b * y0 ≤ 0 := Int.mul_nonpos_of_nonpos_of_nonneg hb hy0
  have g5 : c * h ≤ c * x0 := Int.mul_le_mul_of_nonpos_left hc (by omega)
  have g6 : c * x0 ≤ 0 := Int.mul_nonpos_of_nonpos_of_nonneg hc hx0
  have g7 : d * y0 ≤ d * h := Int.mul_le_mul_of_nonneg_left (by omega) hd
  have g8 : 0 ≤ d * y0 := Int.mul_nonneg hd hy0
  have X1 : a * (h * U + x0) + b * (h * V + y0) = h * u + a * x0 + b * y0 := by grind
  have Y1 : c * (h * U + x0) + d * (h * V + y0) = h * v + c * x0 + d * y0 := by grind
  rw [X1, Y1]
  have p1 : h * (q * (v + d)) ≤ h * (u + b) := Int.mul_le_mul_of_nonneg_left q3 (by omega)
  have p2 : h * (u + a) < h * ((q + 1) * (v + c)) := Int.mul_lt_mul_of_pos_left q2 hh
  have p3 : q * (h * v + c * x0 + d * y0) ≤ q * (h * v + d * h) := Int.mul_le_mul_of_nonneg_left (by omega) hq
  have p4 : (q + 1) * (h * v + c * h) ≤ (q + 1) * (h * v + c * x0 + d * y0) := Int.mul_le_mul_of_nonneg_left (by omega) (by omega)
  have i1 : q * (h * v + d * h) = h * (q * (v + d)) := by grind
  have i2 : (q + 1) * (h * v + c * h) = h * ((q + 1) * (v + c)) := by grind
  have i3 : h * (u + b) = h * u + b * h := by grind
  have i4 : h * (u + a) = h * u + a * h := by grind
  refine ⟨hq, c1, d1, det', v1, v2, t2, by omega, by omega, by omega⟩

/-- What holds while a run is found: (a, b; c, d) takes the leading bits U, V to u, v and the numbers X, Y to the numbers of the run. -/
def Leh (X Y U V a b c d u v : Int) : Prop :=
  u = a * U + b * V ∧ v = c * U + d * V ∧
  ((0 ≤ a ∧ b ≤ 0 ∧ c ≤ 0 ∧ 0 ≤ d ∧ a * d - b * c = 1) ∨ (a ≤ 0 ∧ 0 ≤ b ∧ 0 ≤ c ∧ d ≤ 0 ∧ b * c - a * d = 1)) ∧
  (-1073741824 ≤ a ∧ a ≤ 1073741824 ∧ -1073741824 ≤ b ∧ b ≤ 1073741824 ∧ -1073741824 ≤ c ∧ c ≤ 1073741824 ∧ -1073741824 ≤ d ∧ d ≤ 1073741824) ∧
  (0 ≤ v ∧ v ≤ u ∧ u < 1152921504606846976 ∧ 0 ≤ u + a ∧ 0 ≤ u + b ∧ 0 ≤ v + c ∧ 0 ≤ v + d) ∧
  (0 ≤ c * X + d * Y ∧ c * X + d * Y ≤ a * X + b * Y ∧ a * X + b * Y ≤ X ∧ Int.gcd (a * X + b * Y) (c * X + d * Y) = Int.gcd X Y) ∧
  ((a = 1 ∧ b = 0 ∧ c = 0 ∧ d = 1) ∨ (a * X + b * Y) + (c * X + d * Y) < X + Y)

theorem leh_start {X Y U V : Int} (h1 : 0 ≤ V) (h2 : V ≤ U) (h3 : U < 1152921504606846976) (h4 : 0 ≤ Y) (h5 : Y ≤ X) : Leh X Y U V 1 0 0 1 U V := by
  refine ⟨by omega, by omega, .inl ⟨by omega, by omega, by omega, by omega, by omega⟩, by omega, by omega, ⟨by omega, by omega, by omega, ?_⟩, .inl ⟨rfl, rfl, rfl, rfl⟩⟩
  rw [Int.one_mul, Int.zero_mul, Int.add_zero, Int.zero_mul, Int.zero_add, Int.one_mul]

theorem leh_step {h X Y U V x0 y0 a b c d u v q : Int} (L : Leh X Y U V a b c d u v) (hX : X = h * U + x0) (hY : Y = h * V + y0) (hh : 0 < h) (hx0 : 0 ≤ x0) (hx1 : x0 < h) (hy0 : 0 ≤ y0) (hy1 : y0 < h)
    (hU : U < 1152921504606846976) (hV : V < 1152921504606846976) (hP : v + c ≠ 0) (hQ : v + d ≠ 0) (e1 : q = (u + a) / (v + c)) (e2 : q = (u + b) / (v + d)) :
    Leh X Y U V c d (a - q * c) (b - q * d) v (u - q * v) ∧ u - q * v < v := by
  obtain ⟨hu, hv, hs, hbd, ⟨n1, n2, n3, n4, n5, n6, n7⟩, ⟨t1, t2, t3, t4⟩, hdec⟩ := L
  have P : 0 < v + c := by omega
  have Q : 0 < v + d := by omega
  have q1 : q * (v + c) ≤ u + a := by rw [e1]; exact Int.ediv_mul_le _ hP
  have q2 : u + a < (q + 1) * (v + c) := by rw [e1]; exact Int.lt_ediv_add_one_mul_self _ P
  have q3 : q * (v + d) ≤ u + b := by rw [e2]; exact Int.ediv_mul_le _ hQ
  have q4 : u + b < (q + 1) * (v + d) := by rw [e2]; exact Int.lt_ediv_add_one_mul_self _ Q
  clear e1 e2
  -- both signs give the same facts
  have K : 0 ≤ q ∧ ((a - q * c ≤ 0 ∧ 0 ≤ b - q * d ∧ d * (a - q * c) - c * (b - q * d) = -1 ∧ 0 ≤ c ∧ d ≤ 0) ∨ (0 ≤ a - q * c ∧ b - q * d ≤ 0 ∧ c * (b - q * d) - d * (a - q * c) = -1 ∧ c ≤ 0 ∧ 0 ≤ d)) ∧ 0 ≤ u - q * v ∧ u - q * v < v ∧
      (-1073741824 ≤ a - q * c ∧ a - q * c ≤ 1073741824 ∧ -1073741824 ≤ b - q * d ∧ b - q * d ≤ 1073741824) ∧ q * (c * X + d * Y) ≤ a * X + b * Y ∧ a * X + b * Y < (q + 1) * (c * X + d * Y) := by
    rcases hs with ⟨s1, s2, s3, s4, s5⟩ | ⟨s1, s2, s3, s4, s5⟩
    · obtain ⟨k1, k2, k3, k4, k5, k6, k7, k8, k9, k10⟩ := leh_even hh hx0 hx1 hy0 hy1 s1 s2 s3 s4 s5 hu hv hU hV n4 n5 P Q q1 q2 q3 q4
      rw [← hX, ← hY] at k9 k10
      exact ⟨k1, .inr ⟨k2, k3, k4, s3, s4⟩, k5, k6, by omega, k9, k10⟩
    · obtain ⟨k1, k2, k3, k4, k5, k6, k7, k8, k9, k10⟩ := leh_even (a := b) (b := a) (c := d) (d := c) hh hy0 hy1 hx0 hx1 s2 s1 s4 s3 s5 (by rw [hu]; omega) (by rw [hv]; omega) hV hU n5 n4 Q P q3 q4 q1 q2
      rw [← hX, ← hY] at k9 k10
      rw [Int.add_comm (b * Y), Int.add_comm (d * Y)] at k9 k10
      exact ⟨k1, .inl ⟨k3, k2, k4, s3, s4⟩, k5, k6, by omega, k9, k10⟩
  obtain ⟨kq, ks, kv, kv2, kb, kx1, kx2⟩ := K
  have E : (a - q * c) * X + (b - q * d) * Y = (a * X + b * Y) - q * (c * X + d * Y) := by grind
  have E2 : (q + 1) * (c * X + d * Y) = q * (c * X + d * Y) + (c * X + d * Y) := by grind
  have r1 : q * (v + c) = q * v + q * c := Int.mul_add _ _ _
  have r2 : (q + 1) * (v + c) = q * v + q * c + v + c := by grind
  have r3 : q * (v + d) = q * v + q * d := Int.mul_add _ _ _
  have r4 : (q + 1) * (v + d) = q * v + q * d + v + d := by grind
  have eu : (u - q * v) = (a - q * c) * U + (b - q * d) * V := by grind
  have hsum : (a * X + b * Y) + (c * X + d * Y) ≤ X + Y := by
    rcases hdec with ⟨h1, h2, h3, h4⟩ | h1
    · rw [h1, h2, h3, h4]; omega
    · omega
  clear hdec
  generalize hXX : a * X + b * Y = XX at *
  generalize hYY : c * X + d * Y = YY at *
  have hq1 : YY ≤ q * YY := by
    rcases Int.lt_or_le q 1 with h0 | h0
    · obtain rfl : q = 0 := by omega
      omega
    · have := Int.mul_le_mul_of_nonneg_right h0 t1
      omega
  refine ⟨⟨hv, eu, ?_, by omega, by omega, ⟨by omega, by omega, by omega, ?_⟩, .inr (by omega)⟩, kv2⟩
  · rcases ks with ⟨a1, a2, a3, a4, a5⟩ | ⟨a1, a2, a3, a4, a5⟩
    · exact .inl ⟨a4, a5, a1, a2, by omega⟩
    · exact .inr ⟨a4, a5, a1, a2, by omega⟩
  · rw [E, hYY, ← t4, Int.gcd_comm XX]
    exact Int.gcd_sub_mul_right_right _ _ _
end Go.Proofs.Ytmmlfmjelhninaa
