/-
  Plain facts: the digit of long division is estimated from the leading limbs, at most one too great.
-/
import Derived.Test.YtmmlfmjelhninaaBitm
namespace Go.Proofs.Ytmmlfmjelhninaa
set_option linter.unusedVariables false

section
variable {D R P high next dl top r2 rl : Nat}

theorem es_first (hD : D = (high * 4294967296 + next) * P + dl) (hR : R = (top * 4294967296 + r2) * P + rl) (hP : 0 < P) (hnext : next < 4294967296) (hdl : dl < P) (hr2 : r2 < 4294967296) (hrl : rl < P)
    (hh : 2147483648 ≤ high) (hlt : R < D * 4294967296) : R / D ≤ top / high ∧ top / high ≤ 4294967297 ∧ R / D ≤ 4294967295 := by
  have hD0 : 0 < D := by
    have := Nat.mul_le_mul_right P (show 1 ≤ high * 4294967296 + next by omega)
    omega
  have hq : R / D * D ≤ R := Nat.div_mul_le_self R D
  refine ⟨?_, ?_, ?_⟩
  · rw [Nat.le_div_iff_mul_le (by omega)]
    generalize R / D = q at *
    have h1 : q * high * 4294967296 * P ≤ q * D := by
      rw [hD]
      have : q * ((high * 4294967296 + next) * P + dl) = q * high * 4294967296 * P + (q * next * P + q * dl) := by grind
      omega
    have h2 : q * high * 4294967296 * P < (top * 4294967296 + r2 + 1) * P := by
      rw [Nat.add_mul _ 1 P]; omega
    have h3 := Nat.lt_of_mul_lt_mul_right h2
    omega
  · have h1 : top * 4294967296 * P < (high + 1) * 4294967296 * 4294967296 * P := by
      have e1 : top * 4294967296 * P ≤ R := by rw [hR, Nat.add_mul]; omega
      have e2 : D < (high + 1) * 4294967296 * P := by
        have := Nat.mul_le_mul_right P (show high * 4294967296 + next + 1 ≤ (high + 1) * 4294967296 by omega)
        rw [Nat.add_mul _ 1 P] at this
        omega
      have e3 : (high + 1) * 4294967296 * P * 4294967296 = (high + 1) * 4294967296 * 4294967296 * P := by grind
      omega
    have h2 := Nat.lt_of_mul_lt_mul_right h1
    have h3 : top / high < 4294967298 := by rw [Nat.div_lt_iff_lt_mul (by omega)]; omega
    omega
  · have : R / D < 4294967296 := by rw [Nat.div_lt_iff_lt_mul hD0, Nat.mul_comm]; exact hlt
    omega

theorem es_down (hD : D = (high * 4294967296 + next) * P + dl) (hR : R = (top * 4294967296 + r2) * P + rl) (hP : 0 < P) (hrl : rl < P) {dg lf : Nat} (hi : dg * high + lf = top) (hgt : lf * 4294967296 + r2 < dg * next) (hq : R / D ≤ dg) :
    R / D ≤ dg - 1 := by
  rcases Nat.lt_or_ge (R / D) dg with h | h
  · omega
  · exfalso
    have he : R / D = dg := by omega
    have h1 : R / D * D ≤ R := Nat.div_mul_le_self R D
    rw [he] at h1
    have h2 : (top * 4294967296 + r2 + 1) * P ≤ dg * D := by
      have e : dg * D = (dg * high * 4294967296 + dg * next) * P + dg * dl := by rw [hD]; grind
      have := Nat.mul_le_mul_right P (show top * 4294967296 + r2 + 1 ≤ dg * high * 4294967296 + dg * next by omega)
      omega
    rw [Nat.add_mul _ 1 P] at h2
    omega

theorem es_exit (hD : D = (high * 4294967296 + next) * P + dl) (hR : R = (top * 4294967296 + r2) * P + rl) (hP : 0 < P) (hdl : dl < P) (hh : 1 ≤ high) {dg lf : Nat} (hi : dg * high + lf = top) (hle : dg * next ≤ lf * 4294967296 + r2) (hdg : dg ≤ 4294967296) :
    dg ≤ R / D + 1 := by
  have hD0 : 4294967296 * P ≤ D := by
    have := Nat.mul_le_mul_right P (show 4294967296 ≤ high * 4294967296 + next by omega)
    omega
  have h1 : dg * D ≤ R + D := by
    have e : dg * D = (dg * high * 4294967296 + dg * next) * P + dg * dl := by rw [hD]; grind
    have h2 := Nat.mul_le_mul_right P (show dg * high * 4294967296 + dg * next ≤ top * 4294967296 + r2 by omega)
    have h3 : dg * dl ≤ 4294967296 * P := Nat.mul_le_mul hdg (Nat.le_of_lt hdl)
    omega
  have hDp : 0 < D := by omega
  rcases Nat.eq_zero_or_pos dg with h0 | h0
  · rw [h0]; exact Nat.zero_le _
  · have h4 : (dg - 1) * D ≤ R := by
      have : dg * D = (dg - 1) * D + D := by
        conv => lhs; rw [show dg = (dg - 1) + 1 from by omega]
        rw [Nat.add_mul, Nat.one_mul]
      omega
    have h5 := (Nat.le_div_iff_mul_le hDp).2 h4
    generalize R / D = q at *
    clear hD hR
    omega

theorem es_break (hD : D = (high * 4294967296 + next) * P + dl) (hR : R = (top * 4294967296 + r2) * P + rl) (hP : 0 < P) (hnext : next < 4294967296) (hdl : dl < P) (hh : 1 ≤ high) {dg lf : Nat} (hi : dg * high + lf = top) (hlf : 4294967296 ≤ lf) (hdg : dg ≤ 4294967296) :
    dg ≤ R / D := by
  have hDp : 0 < D := by
    have := Nat.mul_le_mul_right P (show 1 ≤ high * 4294967296 + next by omega)
    omega
  rw [Nat.le_div_iff_mul_le hDp]
  have e : dg * D = (dg * high * 4294967296) * P + dg * (next * P + dl) := by rw [hD]; grind
  have h1 : next * P + dl ≤ 4294967296 * P := by
    have := Nat.mul_le_mul_right P (show next + 1 ≤ 4294967296 by omega)
    rw [Nat.add_mul, Nat.one_mul] at this
    omega
  have h2 : dg * (next * P + dl) ≤ 4294967296 * (4294967296 * P) := Nat.mul_le_mul hdg h1
  have h3 : 4294967296 * (4294967296 * P) = (4294967296 * 4294967296) * P := by rw [Nat.mul_assoc]
  have h4 := Nat.mul_le_mul_right P (show dg * high * 4294967296 + 4294967296 * 4294967296 ≤ top * 4294967296 + r2 by omega)
  rw [Nat.add_mul] at h4
  omega
end

/-- The leading limbs of a list. -/
theorem val_lead {xs : List Nat} (h : okl xs) {n : Nat} (hn : xs.length = n) (h2 : 2 ≤ n) :
    ∃ rl, val xs = (lim xs (n - 1) * 4294967296 + lim xs (n - 2)) * pw (n - 2) + rl ∧ rl < pw (n - 2) := by
  refine ⟨val (xs.take (n - 2)), ?_, ?_⟩
  · have e1 := val_take_succ (xs := xs) (k := n - 1) (by omega)
    have e2 := val_take_succ (xs := xs) (k := n - 2) (by omega)
    rw [show n - 1 + 1 = n from by omega, List.take_of_length_le (by omega)] at e1
    rw [show n - 2 + 1 = n - 1 from by omega] at e2
    have e3 : pw (n - 1) = 4294967296 * pw (n - 2) := by rw [← pw_succ]; congr 1; omega
    rw [e3] at e1
    rw [e1, e2, Nat.add_mul]
    grind
  · have := val_lt (okl_take h (n - 2))
    rwa [List.length_take, Nat.min_eq_left (by omega)] at this
theorem val_lead3 {xs : List Nat} (h : okl xs) {n : Nat} (hn : xs.length = n + 1) (h2 : 2 ≤ n) :
    ∃ rl, val xs = ((lim xs n * 4294967296 + lim xs (n - 1)) * 4294967296 + lim xs (n - 2)) * pw (n - 2) + rl ∧ rl < pw (n - 2) := by
  refine ⟨val (xs.take (n - 2)), ?_, ?_⟩
  · have e0 := val_take_succ (xs := xs) (k := n) (by omega)
    have e1 := val_take_succ (xs := xs) (k := n - 1) (by omega)
    have e2 := val_take_succ (xs := xs) (k := n - 2) (by omega)
    rw [List.take_of_length_le (by omega)] at e0
    rw [show n - 1 + 1 = n from by omega] at e1
    rw [show n - 2 + 1 = n - 1 from by omega] at e2
    have e3 : pw (n - 1) = 4294967296 * pw (n - 2) := by rw [← pw_succ]; congr 1; omega
    have e4 : pw n = 4294967296 * (4294967296 * pw (n - 2)) := by rw [← e3, ← pw_succ]; congr 1; omega
    rw [e0, e1, e2, e3, e4]
    grind
  · have := val_lt (okl_take h (n - 2))
    rwa [List.length_take, Nat.min_eq_left (by omega)] at this
end Go.Proofs.Ytmmlfmjelhninaa
