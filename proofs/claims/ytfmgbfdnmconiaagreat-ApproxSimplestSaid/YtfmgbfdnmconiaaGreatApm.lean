/-
  Continued fractions: the mathematics, over integers.
-/
import Derived.Test.YtfmgbfdnmconiaaGreatRatm
namespace Go.Proofs.YtfmgbfdnmconiaaGreat
set_option linter.unusedVariables false

/-- The numbers p, o, q, r of a beginning of the continued fraction of x / y, and the rest X / Y. -/
def Cst (x y X Y p q o r : Int) : Prop := x = X * p + Y * o ∧ y = X * q + Y * r
theorem Cst.start (x y : Int) : Cst x y x y 1 0 0 1 := by constructor <;> simp
theorem Cst.step {x y X Y p q o r t Y' p' q' : Int} (h : Cst x y X Y p q o r) (ht : X / Y = t) (hm : X % Y = Y') (hp : t * p + o = p') (hq : t * q + r = q') : Cst x y Y Y' p' q' p q := by
  obtain ⟨h1, h2⟩ := h
  have e : Y * t + Y' = X := by rw [← ht, ← hm]; exact Int.mul_ediv_add_emod X Y
  constructor
  · rw [h1, ← hp, ← e]; grind
  · rw [h2, ← hq, ← e]; grind
theorem det_step {p q o r t p' q' d : Int} (h : p * r - q * o = d) (hp : t * p + o = p') (hq : t * q + r = q') : p' * q - q' * p = -d := by
  rw [← h, ← hp, ← hq]; grind
/-- Where a beginning lies. -/
theorem Cst.side {x y X Y p q o r d : Int} (h : Cst x y X Y p q o r) (hd : p * r - q * o = d) : p * y - q * x = Y * d := by
  obtain ⟨h1, h2⟩ := h
  rw [h1, h2, ← hd]; grind
theorem Cst.side2 {x y X Y p q o r d s u v : Int} (h : Cst x y X Y p q o r) (hd : p * r - q * o = d) (hu : s * p + o = u) (hv : s * q + r = v) : u * y - v * x = d * (s * Y - X) := by
  obtain ⟨h1, h2⟩ := h
  rw [h1, h2, ← hd, ← hu, ← hv]; grind
theorem Cst.back {x y X Y p q o r d : Int} (h : Cst x y X Y p q o r) (hd : p * r - q * o = d) : x * r - y * o = d * X := by
  obtain ⟨h1, h2⟩ := h
  rw [h1, h2, ← hd]; grind

/-- The loop of lastConvergent. -/
structure Lst (x y m X Y p q o r : Int) (b : Bool) : Prop where
  st : Cst x y X Y p q o r
  d : p * r - q * o = if b then -1 else 1
  q0 : 0 ≤ q
  r0 : 0 ≤ r
  qm : q ≤ m
  rm : r ≤ m
  Y0 : 0 < Y
  c : (b = false ∧ q = 0 ∧ p = 1 ∧ o = 0 ∧ r = 1) ∨ (1 ≤ q ∧ 0 < X ∧ Y < X)
theorem Lst.start {x y m : Int} (hy : 0 < y) (hm : 0 < m) : Lst x y m x y 1 0 0 1 false :=
  ⟨Cst.start x y, by simp, by omega, by omega, by omega, by omega, hy, .inl ⟨rfl, rfl, rfl, rfl, rfl⟩⟩
theorem ediv_pos_of {X Y : Int} (h : 0 < Y) (h2 : Y < X) : 1 ≤ X / Y := (Int.le_ediv_iff_mul_le h).2 (by omega)
theorem Lst.step {x y m X Y p q o r t Y' p' q' : Int} {b : Bool} (h : Lst x y m X Y p q o r b) (hg : Int.gcd x y = 1) (hy : m < y) (ht : X / Y = t) (hm : X % Y = Y') (hp : t * p + o = p') (hq : t * q + r = q') (hle : q' ≤ m) :
    Lst x y m Y Y' p' q' p q (!b) ∧ Y'.natAbs < Y.natAbs ∧ 1 ≤ q' ∧ Y' < Y := by
  have Y0 := h.Y0
  have m0 : 0 ≤ Y' := by rw [← hm]; exact Int.emod_nonneg _ (by omega)
  have m1 : Y' < Y := by rw [← hm]; exact Int.emod_lt_of_pos _ Y0
  have st := h.st.step ht hm hp hq
  have dd := det_step h.d hp hq
  have q1 : 1 ≤ q' := by
    rcases h.c with ⟨_, e1, _, _, e2⟩ | ⟨e1, e2, e3⟩
    · rw [← hq, e1, e2]; simp
    · have t1 : 1 ≤ t := by rw [← ht]; exact ediv_pos_of Y0 e3
      have := Int.mul_le_mul t1 e1 (by omega) (by omega)
      have := h.r0
      omega
  have Yp : 0 < Y' := by
    rcases Int.lt_or_eq_of_le m0 with h0 | h0
    · exact h0
    · exfalso
      obtain ⟨s1, s2⟩ := st
      rw [← h0] at s1 s2
      simp at s1 s2
      have hd : Y.natAbs ∣ Nat.gcd x.natAbs y.natAbs := Nat.dvd_gcd (by rw [s1, Int.natAbs_mul]; exact Nat.dvd_mul_right _ _) (by rw [s2, Int.natAbs_mul]; exact Nat.dvd_mul_right _ _)
      have hg : Nat.gcd x.natAbs y.natAbs = 1 := hg
      rw [hg] at hd
      have := Nat.dvd_one.1 hd
      have e : Y = 1 := by omega
      rw [e] at s2
      omega
  refine ⟨⟨st, ?_, by omega, h.q0, hle, h.qm, Yp, .inr ⟨q1, Y0, m1⟩⟩, by omega, q1, m1⟩
  rw [dd]; cases b <;> simp
/-- How great the numbers are. -/
theorem Cst.bound {x y X Y p q o r : Int} {b : Bool} (h : Cst x y X Y p q o r) (hd : p * r - q * o = if b then -1 else 1) (hq : 1 ≤ q) (hqy : q ≤ y) (hY : 0 ≤ Y) (hYy : Y < y) : p.natAbs ≤ x.natAbs := by
  have s := h.side hd
  have hq0 : 0 ≤ y - q := by omega
  have k1 : (x.natAbs : Int) * (y - q) ≥ 0 := Int.mul_nonneg (by omega) hq0
  have k2 : q * (-x) ≤ q * (x.natAbs : Int) := Int.mul_le_mul_of_nonneg_left (by omega) (by omega)
  have k3 : q * x ≤ q * (x.natAbs : Int) := Int.mul_le_mul_of_nonneg_left (by omega) (by omega)
  have e1 : q * (x.natAbs : Int) = (x.natAbs : Int) * y - (x.natAbs : Int) * (y - q) := by grind
  have hb : (p.natAbs : Int) * y ≤ (x.natAbs : Int) * y + Y := by
    have sY : p * y - q * x = Y ∨ p * y - q * x = -Y := by rw [s]; cases b <;> simp
    have e2 : q * (-x) = -(q * x) := by grind
    have : (p.natAbs : Int) = p ∨ (p.natAbs : Int) = -p := by omega
    rcases this with e | e
    · rw [e]; omega
    · rw [e]
      have e3 : -p * y = -(p * y) := by grind
      omega
  have hlt : (p.natAbs : Int) * y < ((x.natAbs : Int) + 1) * y := by
    have : ((x.natAbs : Int) + 1) * y = (x.natAbs : Int) * y + y := by grind
    omega
  have := Int.lt_of_mul_lt_mul_right hlt (by omega)
  omega
/-- What lastConvergent gives. -/
structure Lok (x y m X Y p q o r : Int) (b : Bool) : Prop where
  l : Lst x y m X Y p q o r b
  n : ∀ t, X / Y = t → m < t * q + r
  q1 : 1 ≤ q
  c : 0 < X ∧ Y < X
theorem Lst.ok {x y m X Y p q o r t q' : Int} {b : Bool} (h : Lst x y m X Y p q o r b) (ht : X / Y = t) (hq : t * q + r = q') (hm : 0 < m) (hgt : m < q') : Lok x y m X Y p q o r b := by
  rcases h.c with ⟨_, e1, _, _, e2⟩ | ⟨e1, e2, e3⟩
  · rw [e1, e2] at hq; omega
  · exact ⟨h, fun t' ht' => by rw [← ht', ht, hq]; exact hgt, e1, e2, e3⟩
/-- The two neighbours. -/
theorem Lok.encl {x y m X Y p q o r s u v : Int} {b : Bool} (h : Lok x y m X Y p q o r b) (hm : 0 < m) (hs : (m - r) / q = s) (hu : s * p + o = u) (hv : s * q + r = v) :
    0 < v ∧ v ≤ m ∧ m < q + v ∧ 0 ≤ s ∧ (s * q ≤ m) ∧ p * v - q * u = (if b then -1 else 1) ∧ (if b then p * y < q * x ∧ v * x < u * y else q * x < p * y ∧ u * y < v * x) ∧ u.natAbs ≤ s.natAbs * p.natAbs + o.natAbs ∧ s < X / Y := by
  have L := h.l
  have q1 := h.q1
  have d := L.d
  have a1 : (m - r) / q * q ≤ m - r := Int.ediv_mul_le _ (by omega)
  have a2 : m - r < ((m - r) / q + 1) * q := Int.lt_ediv_add_one_mul_self _ (by omega)
  rw [hs] at a1 a2
  have a3 : (s + 1) * q = s * q + q := by grind
  have s0 : 0 ≤ s := by rw [← hs]; exact Int.ediv_nonneg (by have := L.rm; omega) (by omega)
  have n1 := h.n _ rfl
  have st : s < X / Y := by
    have : s * q < (X / Y) * q := by omega
    exact Int.lt_of_mul_lt_mul_right this (by omega)
  have sY : s * Y < X := by
    have h1 : (s + 1) * Y ≤ (X / Y) * Y := Int.mul_le_mul_of_nonneg_right (by omega) (Int.le_of_lt L.Y0)
    have h2 : (X / Y) * Y ≤ X := Int.ediv_mul_le _ (by have := L.Y0; omega)
    have h3 : (s + 1) * Y = s * Y + Y := by grind
    have := L.Y0
    omega
  have sd := L.st.side d
  have sd2 := L.st.side2 d hu hv
  have dt : p * v - q * u = (if b then -1 else 1) := by rw [← d, ← hu, ← hv]; grind
  have v0 : 0 < v := by
    have s1 : 0 ≤ s * q := Int.mul_nonneg s0 (by omega)
    have := L.r0
    rcases Int.lt_or_eq_of_le (show 0 ≤ v by omega) with h0 | h0
    · exact h0
    · exfalso
      have e1 : s * q = 0 := by omega
      have := L.qm
      omega
  refine ⟨v0, by omega, by omega, s0, by have := L.r0; omega, dt, ?_, ?_, st⟩
  · have := L.Y0
    cases b
    · simp at sd sd2 ⊢; omega
    · simp at sd sd2 ⊢
      have e : -(s * Y - X) = X - s * Y := by omega
      omega
  · rw [← hu]
    have := Int.natAbs_add_le (s * p) o
    rw [Int.natAbs_mul] at this
    exact this
/-- Between two neighbours every denominator is at least the sum of theirs. -/
theorem between {p q u v N D : Int} (hdet : q * u - p * v = 1) (hq : 0 < q) (hv : 0 < v) (h1 : p * D < N * q) (h2 : N * v < u * D) : q + v ≤ D := by
  have e : D = q * (u * D - N * v) + v * (N * q - p * D) := by
    have : D = D * (q * u - p * v) := by rw [hdet, Int.mul_one]
    rw [this]; grind
  have k1 : q * 1 ≤ q * (u * D - N * v) := Int.mul_le_mul_of_nonneg_left (by omega) (by omega)
  have k2 : v * 1 ≤ v * (N * q - p * D) := Int.mul_le_mul_of_nonneg_left (by omega) (by omega)
  omega
theorem gcd_det {p q u v : Int} (h : q * u - p * v = 1 ∨ q * u - p * v = -1) : Int.gcd p q = 1 := by
  have h1 : ((Int.gcd p q : Nat) : Int) ∣ p := Int.gcd_dvd_left ..
  have h2 : ((Int.gcd p q : Nat) : Int) ∣ q := Int.gcd_dvd_right ..
  have h3 : ((Int.gcd p q : Nat) : Int) ∣ q * u - p * v := Int.dvd_sub (Int.dvd_mul_of_dvd_left h2) (Int.dvd_mul_of_dvd_left h1)
  have h4 : ((Int.gcd p q : Nat) : Int) ∣ 1 := by
    rcases h with h | h <;> rw [h] at h3
    · exact h3
    · exact (Int.dvd_neg).1 h3
  have := Int.natAbs_dvd_natAbs.2 h4
  simpa using this

/-- The loop of simplestPositive: both numbers begin alike. -/
structure Spo (x y x' y' X Y X' Y' p q o r : Int) : Prop where
  s1 : Cst x y X Y p q o r
  s2 : Cst x' y' X' Y' p q o r
  d : p * r - q * o = 1 ∨ p * r - q * o = -1
  p0 : 0 ≤ p
  q0 : 0 ≤ q
  o0 : 0 ≤ o
  r0 : 0 ≤ r
  X0 : 0 < X
  Y0 : 0 < Y
  X0' : 0 < X'
  Y0' : 0 < Y'
theorem Spo.start {x y x' y' : Int} (hx : 0 < x) (hy : 0 < y) (hx' : 0 < x') (hy' : 0 < y') : Spo x y x' y' x y x' y' 1 0 0 1 :=
  ⟨Cst.start _ _, Cst.start _ _, by simp, by omega, by omega, by omega, by omega, hx, hy, hx', hy'⟩
/-- The least integer that is not less. -/
def ceilz (X Y : Int) : Int := if X % Y = 0 then X / Y else X / Y + 1
theorem ceilz_spec {X Y : Int} (hX : 0 < X) (hY : 0 < Y) : X ≤ ceilz X Y * Y ∧ (ceilz X Y - 1) * Y < X ∧ 1 ≤ ceilz X Y ∧ X / Y * Y ≤ X ∧ 0 ≤ X / Y := by
  have e := Int.ediv_mul_add_emod X Y
  have m0 : 0 ≤ X % Y := Int.emod_nonneg _ (by omega)
  have m1 : X % Y < Y := Int.emod_lt_of_pos _ hY
  have d0 : 0 ≤ X / Y := Int.ediv_nonneg (by omega) (by omega)
  unfold ceilz
  split
  · rename_i h
    have k : (X / Y - 1) * Y = X / Y * Y - Y := by grind
    refine ⟨by omega, by omega, ?_, by omega, d0⟩
    rcases Int.lt_or_eq_of_le d0 with h0 | h0
    · omega
    · rw [← h0] at e; omega
  · rename_i h
    have k : (X / Y + 1) * Y = X / Y * Y + Y := by grind
    have k2 : (X / Y + 1 - 1) * Y = X / Y * Y := by congr 1; omega
    exact ⟨by omega, by omega, by omega, by omega, d0⟩
theorem Spo.step {x y x' y' X Y X' Y' p q o r t p' q' m : Int} (h : Spo x y x' y' X Y X' Y' p q o r) (ht : X / Y = t) (hm : min (ceilz X Y) (ceilz X' Y') = m) (h1 : t < m) (h2 : X' / Y' < m) (hp : t * p + o = p') (hq : t * q + r = q') :
    Spo x y x' y' Y (X % Y) Y' (X' % Y') p' q' p q ∧ (X % Y).natAbs < Y.natAbs := by
  have := h.X0; have Y0 := h.Y0; have := h.X0'; have Y0' := h.Y0'
  have m0 : 0 ≤ X % Y := Int.emod_nonneg _ (by omega)
  have m1 : X % Y < Y := Int.emod_lt_of_pos _ Y0
  have m0' : 0 ≤ X' % Y' := Int.emod_nonneg _ (by omega)
  have t0 : 0 ≤ t := by rw [← ht]; exact Int.ediv_nonneg (by omega) (by omega)
  have hne : X % Y ≠ 0 ∧ X' % Y' ≠ 0 ∧ X' / Y' = t := by
    unfold ceilz at hm
    rw [ht] at hm
    split at hm <;> split at hm <;> rename_i a b <;> refine ⟨?_, ?_, ?_⟩ <;> omega
  obtain ⟨n1, n2, e2⟩ := hne
  have dd : p' * q - q' * p = 1 ∨ p' * q - q' * p = -1 := by
    rcases h.d with d | d
    · exact .inr (det_step d hp hq)
    · exact .inl (by rw [det_step d hp hq]; rfl)
  have pp : 0 ≤ t * p := Int.mul_nonneg t0 h.p0
  have qq : 0 ≤ t * q := Int.mul_nonneg t0 h.q0
  have := h.o0; have := h.r0
  exact ⟨⟨h.s1.step ht rfl hp hq, h.s2.step e2 rfl hp hq, dd, by omega, by omega, h.p0, h.q0, Y0, by omega, Y0', by omega⟩, by omega⟩
/-- A linear function that is positive at both ends is positive between. -/
theorem lin_pos {f1 f2 x1 y1 x2 y2 N D : Int} (h1 : 0 < f1 * y1 + f2 * x1) (h2 : 0 < f1 * y2 + f2 * x2) (hy1 : 0 < y1) (hy2 : 0 < y2) (hD : 0 < D) (a1 : x1 * D ≤ N * y1) (a2 : N * y2 ≤ x2 * D) : 0 < f1 * D + f2 * N := by
  rcases Int.le_total 0 f2 with h | h
  · have e : (f1 * D + f2 * N) * y1 = D * (f1 * y1 + f2 * x1) + f2 * (N * y1 - x1 * D) := by grind
    have k1 := Int.mul_pos hD h1
    have k2 := Int.mul_nonneg h (show 0 ≤ N * y1 - x1 * D by omega)
    have : 0 < (f1 * D + f2 * N) * y1 := by omega
    exact Int.pos_of_mul_pos_left this hy1 |> fun h => h
  · have e : (f1 * D + f2 * N) * y2 = D * (f1 * y2 + f2 * x2) + (-f2) * (x2 * D - N * y2) := by grind
    have k1 := Int.mul_pos hD h2
    have k2 := Int.mul_nonneg (show 0 ≤ -f2 by omega) (show 0 ≤ x2 * D - N * y2 by omega)
    have : 0 < (f1 * D + f2 * N) * y2 := by omega
    exact Int.pos_of_mul_pos_left this hy2 |> fun h => h
/-- N / D lies between the two, whichever is greater. -/
def Btw (x y x' y' N D : Int) : Prop := (x * D ≤ N * y ∧ N * y' ≤ x' * D) ∨ (x' * D ≤ N * y' ∧ N * y ≤ x * D)
theorem lin_btw {f1 f2 x1 y1 x2 y2 N D : Int} (h1 : 0 < f1 * y1 + f2 * x1) (h2 : 0 < f1 * y2 + f2 * x2) (hy1 : 0 < y1) (hy2 : 0 < y2) (hD : 0 < D) (a : Btw x1 y1 x2 y2 N D) : 0 < f1 * D + f2 * N := by
  rcases a with ⟨a1, a2⟩ | ⟨a1, a2⟩
  · exact lin_pos h1 h2 hy1 hy2 hD a1 a2
  · exact lin_pos h2 h1 hy2 hy1 hD a1 a2
/-- The simplest number between two positive ones. -/
structure Spr (x y x' y' u v : Int) : Prop where
  v0 : 0 < v
  u0 : 0 < u
  g : Int.gcd u v = 1
  b : Btw x y x' y' u v
  m : ∀ N D, 0 < D → Btw x y x' y' N D → v ≤ D ∧ u ≤ N
theorem pos_of_det {q r d X Y p o : Int} (hd : p * r - q * o = d) (hd1 : d = 1 ∨ d = -1) (hq : 0 ≤ q) (hr : 0 ≤ r) : 1 ≤ q + r := by
  rcases Int.lt_or_le 0 q with h | h
  · omega
  · have e : q = 0 := by omega
    rcases Int.lt_or_le 0 r with h' | h'
    · omega
    · have e' : r = 0 := by omega
      rw [e, e'] at hd; simp at hd; omega
theorem Spo.ok {x y x' y' X Y X' Y' p q o r m u v : Int} (h : Spo x y x' y' X Y X' Y' p q o r) (hy : 0 < y) (hy' : 0 < y') (hm : min (ceilz X Y) (ceilz X' Y') = m) (hle : m ≤ X / Y ∨ m ≤ X' / Y') (hu : m * p + o = u) (hv : m * q + r = v) : Spr x y x' y' u v := by
  obtain ⟨c1, c2, c3, c4, c5⟩ := ceilz_spec h.X0 h.Y0
  obtain ⟨e1, e2, e3, e4, e5⟩ := ceilz_spec h.X0' h.Y0'
  have Y0 := h.Y0; have Y0' := h.Y0'; have X0 := h.X0; have X0' := h.X0'
  have m1 : 1 ≤ m := by omega
  obtain ⟨d, hd⟩ : ∃ d, p * r - q * o = d := ⟨_, rfl⟩
  have d1 : d = 1 ∨ d = -1 := by rw [← hd]; exact h.d
  have dd : d * d = 1 := by rcases d1 with e | e <;> rw [e] <;> rfl
  have pos1 := pos_of_det (X := 0) (Y := 0) hd d1 h.q0 h.r0
  have pos2 : 1 ≤ p + o := pos_of_det (q := p) (r := o) (d := -d) (X := 0) (Y := 0) (p := q) (o := r) (by rw [← hd]; grind) (by omega) h.p0 h.o0
  have mq : q ≤ m * q := by have := Int.mul_le_mul_of_nonneg_right m1 h.q0; omega
  have mp : p ≤ m * p := by have := Int.mul_le_mul_of_nonneg_right m1 h.p0; omega
  -- m - 1 lies below both rests
  have b1 : (m - 1) * Y < X := by
    have : (m - 1) * Y ≤ (ceilz X Y - 1) * Y := Int.mul_le_mul_of_nonneg_right (by omega) (by omega)
    omega
  have b2 : (m - 1) * Y' < X' := by
    have : (m - 1) * Y' ≤ (ceilz X' Y' - 1) * Y' := Int.mul_le_mul_of_nonneg_right (by omega) (by omega)
    omega
  -- m lies between the rests
  have bt : (X ≤ m * Y ∧ m * Y' ≤ X') ∨ (X' ≤ m * Y' ∧ m * Y ≤ X) := by
    have up1 : m ≤ X / Y → m * Y ≤ X := fun hh => by
      have := Int.mul_le_mul_of_nonneg_right hh (show 0 ≤ Y by omega); omega
    have up2 : m ≤ X' / Y' → m * Y' ≤ X' := fun hh => by
      have := Int.mul_le_mul_of_nonneg_right hh (show 0 ≤ Y' by omega); omega
    have dn : (m = ceilz X Y ∧ X ≤ m * Y) ∨ (m = ceilz X' Y' ∧ X' ≤ m * Y') := by
      rcases Int.le_total (ceilz X Y) (ceilz X' Y') with hh | hh
      · have e : m = ceilz X Y := by omega
        exact .inl ⟨e, by rw [e]; exact c1⟩
      · have e : m = ceilz X' Y' := by omega
        exact .inr ⟨e, by rw [e]; exact e1⟩
    rcases dn with ⟨e, k⟩ | ⟨e, k⟩ <;> rcases hle with g | g
    · have : X / Y * Y = X := by
        have := up1 g
        have : m ≤ X / Y → X / Y ≤ ceilz X Y := fun _ => by unfold ceilz; split <;> omega
        have : X / Y = m := by
          have := this g; omega
        rw [this]; omega
      have k2 : m * Y = X := by
        have := up1 g
        omega
      rcases Int.le_total X' (m * Y') with z | z
      · exact .inr ⟨z, by omega⟩
      · exact .inl ⟨k, z⟩
    · exact .inl ⟨k, up2 g⟩
    · exact .inr ⟨k, up1 g⟩
    · have k2 : m * Y' = X' := by
        have := up2 g
        omega
      rcases Int.le_total X (m * Y) with z | z
      · exact .inl ⟨z, by omega⟩
      · exact .inr ⟨k, z⟩
  have sa := h.s1.side2 hd hu hv
  have sb := h.s2.side2 hd hu hv
  refine ⟨by have := h.r0; omega, by have := h.o0; omega, ?_, ?_, ?_⟩
  · have dt : p * v - q * u = d := by rw [← hd, ← hu, ← hv]; grind
    have : v * p - u * q = 1 ∨ v * p - u * q = -1 := by
      rcases d1 with e | e <;> rw [e] at dt
      · exact .inl (by grind)
      · exact .inr (by grind)
    exact gcd_det this
  · unfold Btw
    have f1 : x * v = v * x := Int.mul_comm ..
    have f2 : x' * v = v * x' := Int.mul_comm ..
    rcases d1 with e | e <;> rw [e] at sa sb <;> simp at sa sb <;> rcases bt with ⟨z1, z2⟩ | ⟨z1, z2⟩
    · exact .inl ⟨by omega, by omega⟩
    · exact .inr ⟨by omega, by omega⟩
    · exact .inr ⟨by omega, by omega⟩
    · exact .inl ⟨by omega, by omega⟩
  · intro N D hD hb
    have k1 := h.s1.side hd
    have k2 := h.s2.side hd
    have g1 := h.s1.back hd
    have g2 := h.s2.back hd
    -- B = d (D p - N q) is positive
    have B1 : 0 < (d * p) * D + (-(d * q)) * N := by
      refine lin_btw (x1 := x) (y1 := y) (x2 := x') (y2 := y') ?_ ?_ hy hy' hD hb
      · have : d * p * y + -(d * q) * x = d * (p * y - q * x) := by grind
        rw [this, k1]
        have : d * (Y * d) = Y * (d * d) := by grind
        rw [this, dd]; omega
      · have : d * p * y' + -(d * q) * x' = d * (p * y' - q * x') := by grind
        rw [this, k2]
        have : d * (Y' * d) = Y' * (d * d) := by grind
        rw [this, dd]; omega
    have B2 : 0 < (-(d * o) - (m - 1) * (d * p)) * D + (d * r + (m - 1) * (d * q)) * N := by
      refine lin_btw (x1 := x) (y1 := y) (x2 := x') (y2 := y') ?_ ?_ hy hy' hD hb
      · have : (-(d * o) - (m - 1) * (d * p)) * y + (d * r + (m - 1) * (d * q)) * x = d * (x * r - y * o) - (m - 1) * (d * (p * y - q * x)) := by grind
        rw [this, k1, g1]
        have e1 : d * (d * X) = X * (d * d) := by grind
        have e2 : d * (Y * d) = Y * (d * d) := by grind
        rw [e1, e2, dd, Int.mul_one, Int.mul_one]; omega
      · have : (-(d * o) - (m - 1) * (d * p)) * y' + (d * r + (m - 1) * (d * q)) * x' = d * (x' * r - y' * o) - (m - 1) * (d * (p * y' - q * x')) := by grind
        rw [this, k2, g2]
        have e1 : d * (d * X') = X' * (d * d) := by grind
        have e2 : d * (Y' * d) = Y' * (d * d) := by grind
        rw [e1, e2, dd, Int.mul_one, Int.mul_one]; omega
    obtain ⟨Bv, hB⟩ : ∃ Bv, d * (D * p - N * q) = Bv := ⟨_, rfl⟩
    obtain ⟨Av, hA⟩ : ∃ Av, d * (N * r - D * o) = Av := ⟨_, rfl⟩
    have B1' : 0 < Bv := by rw [← hB]; have : d * (D * p - N * q) = d * p * D + -(d * q) * N := by grind
                            omega
    have B2' : 0 < Av - (m - 1) * Bv := by
      rw [← hA, ← hB]
      have : d * (N * r - D * o) - (m - 1) * (d * (D * p - N * q)) = (-(d * o) - (m - 1) * (d * p)) * D + (d * r + (m - 1) * (d * q)) * N := by grind
      omega
    have Am : m ≤ Av := by
      have : (m - 1) * 1 ≤ (m - 1) * Bv := Int.mul_le_mul_of_nonneg_left (by omega) (by omega)
      omega
    have eD : D = Av * q + Bv * r := by
      rw [← hA, ← hB]
      have : d * (N * r - D * o) * q + d * (D * p - N * q) * r = D * (d * (p * r - q * o)) := by grind
      rw [this, hd, dd, Int.mul_one]
    have eN : N = Av * p + Bv * o := by
      rw [← hA, ← hB]
      have : d * (N * r - D * o) * p + d * (D * p - N * q) * o = N * (d * (p * r - q * o)) := by grind
      rw [this, hd, dd, Int.mul_one]
    have w1 := Int.mul_le_mul_of_nonneg_right Am h.q0
    have w2 := Int.mul_le_mul_of_nonneg_right (show 1 ≤ Bv by omega) h.r0
    have w3 := Int.mul_le_mul_of_nonneg_right Am h.p0
    have w4 := Int.mul_le_mul_of_nonneg_right (show 1 ≤ Bv by omega) h.o0
    constructor
    · rw [eD, ← hv]; omega
    · rw [eN, ← hu]; omega
/-- A continued fraction. -/
inductive Cf : Int → Int → List Int → Prop
  | nil (x : Int) : Cf x 0 []
  | cons {x y : Int} {l : List Int} (h : y ≠ 0) (t : Cf y (x % y) l) : Cf x y (x / y :: l)
theorem Cf.ex (x y : Int) (hy : 0 ≤ y) : ∃ l, Cf x y l := by
  obtain ⟨n, hn⟩ : ∃ n, y.natAbs = n := ⟨_, rfl⟩
  induction n using Nat.strongRecOn generalizing x y with
  | ind n ih =>
    rcases Int.lt_or_eq_of_le hy with h | h
    · have m0 : 0 ≤ x % y := Int.emod_nonneg _ (by omega)
      have m1 : x % y < y := Int.emod_lt_of_pos _ h
      obtain ⟨l, hl⟩ := ih (x % y).natAbs (by omega) y (x % y) m0 rfl
      exact ⟨_, .cons (by omega) hl⟩
    · rw [← h]; exact ⟨_, .nil x⟩
end Go.Proofs.YtfmgbfdnmconiaaGreat
