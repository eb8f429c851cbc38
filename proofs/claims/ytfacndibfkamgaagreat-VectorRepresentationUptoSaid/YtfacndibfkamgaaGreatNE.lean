/-
  Lehm, Lrun, Lapp, Eucl, Gcd.
-/
import Derived.Test.YtfacndibfkamgaaGreatNA
import Derived.Test.YtfacndibfkamgaaGreatNB
import Derived.Test.YtfacndibfkamgaaGreatND
import Derived.Lib.SliceRun
import Derived.Test.YtfacndibfkamgaaGreatNC
/-
  Lehmer's method, over integers: a run of quotients that is found from leading bits is a run of Euclid's algorithm.
-/
namespace Go.Proofs.YtfacndibfkamgaaGreat
set_option linter.unusedVariables false

theorem sq_small {t s B : Int} (h0 : 0 ≤ t) (h1 : t ≤ s) (h2 : t * s ≤ B) (hB : B < 1152921504606846976) : t ≤ 1073741824 := by
  rcases Int.lt_or_le 1073741824 t with h | h
  · have a1 : 1073741824 * 1073741824 ≤ t * t := Int.mul_le_mul (by omega) (by omega) (by omega) (by omega)
    have a2 : t * t ≤ t * s := Int.mul_le_mul_of_nonneg_left h1 h0
    omega
  · exact h

/-- One quotient, where the factors a, d are not negative and b, c not positive. -/
theorem leh_even {h U V x0 y0 a b c d u v q : Int} (hh : 0 < h) (hx0 : 0 ≤ x0) (hx1 : x0 < h) (hy0 : 0 ≤ y0) (hy1 : y0 < h) (ha : 0 ≤ a) (hb : b ≤ 0) (hc : c ≤ 0) (hd : 0 ≤ d) (det : a * d - b * c = 1)
    (hu : u = a * U + b * V) (hv : v = c * U + d * V) (hU : U < 1152921504606846976) (hV : V < 1152921504606846976) (ea : 0 ≤ u + a) (eb : 0 ≤ u + b) (hP : 0 < v + c) (hQ : 0 < v + d)
    (q1 : q * (v + c) ≤ u + a) (q2 : u + a < (q + 1) * (v + c)) (q3 : q * (v + d) ≤ u + b) (q4 : u + b < (q + 1) * (v + d)) :
    0 ≤ q ∧ 0 ≤ a - q * c ∧ b - q * d ≤ 0 ∧ c * (b - q * d) - d * (a - q * c) = -1 ∧ 0 ≤ u - q * v ∧ u - q * v < v ∧ a - q * c ≤ 1073741824 ∧ -1073741824 ≤ b - q * d ∧
    q * (c * (h * U + x0) + d * (h * V + y0)) ≤ a * (h * U + x0) + b * (h * V + y0) ∧ a * (h * U + x0) + b * (h * V + y0) < (q + 1) * (c * (h * U + x0) + d * (h * V + y0)) := by
  have hq : 0 ≤ q := by
    rcases Int.lt_or_le q 0 with h1 | h1
    · have : (q + 1) * (v + c) ≤ 0 := Int.mul_nonpos_of_nonpos_of_nonneg (by omega) (by omega)
      omega
    · exact h1
  have qc : q * c ≤ 0 := Int.mul_nonpos_of_nonneg_of_nonpos hq hc
  have qd : 0 ≤ q * d := Int.mul_nonneg hq hd
  have r1 : q * (v + c) = q * v + q * c := Int.mul_add _ _ _
  have r2 : (q + 1) * (v + c) = q * v + q * c + v + c := by grind
  have r3 : q * (v + d) = q * v + q * d := Int.mul_add _ _ _
  have r4 : (q + 1) * (v + d) = q * v + q * d + v + d := by grind
  have v1 : 0 ≤ u - q * v := by omega
  have v2 : u - q * v < v := by omega
  have c1 : 0 ≤ a - q * c := by omega
  have d1 : b - q * d ≤ 0 := by omega
  have det' : c * (b - q * d) - d * (a - q * c) = -1 := by grind
  have eU : U = -(b - q * d) * v + d * (u - q * v) := by grind
  have eV : V = (a - q * c) * v - c * (u - q * v) := by grind
  have f1 : 0 ≤ d * (u - q * v) := Int.mul_nonneg hd v1
  have f2 : c * (u - q * v) ≤ 0 := Int.mul_nonpos_of_nonpos_of_nonneg hc v1
  have s1 : -(b - q * d) * v ≤ U := by omega
  have s2 : (a - q * c) * v ≤ V := by omega
  have t1 := sq_small (t := -(b - q * d)) (s := v) (by omega) (by omega) s1 hU
  have t2 := sq_small (t := a - q * c) (s := v) c1 (by omega) s2 hV
  -- the true numbers
  have g1 : a * x0 ≤ a * h := Int.mul_le_mul_of_nonneg_left (by omega) ha
  have g2 : 0 ≤ a * x0 := Int.mul_nonneg ha hx0
  have g3 : b * h ≤ b * y0 := Int.mul_le_mul_of_nonpos_left hb (by omega)
  have g4 : b * y0 ≤ 0 := Int.mul_nonpos_of_nonpos_of_nonneg hb hy0
  have g5 : c * h ≤ c * x0 := Int.mul_le_mul_of_nonpos_left hc (by omega)
  have g6 : c * x0 ≤ 0 := Int.mul_nonpos_of_nonpos_of_nonneg hc hx0
  have g7 : d * y0 ≤ d * h := Int.mul_le_mul_of_nonneg_left (by omega) hd
  have g8 : 0 ≤ d * y0 := Int.mul_nonneg hd hy0
  have X1 : a * (h * U + x0) + b * (h * V + y0) = h * u + a * x0 + b * y0 := by grind
  have Y1 : c * (h * U + x0) + d * (h * V + y0) = h * v + c * x0 + d * y0 := by grind
  rw [X1, Y1]
  have p1 : h * (q * (v + d)) ≤ h * (u + b) := Int.mul_le_mul_of_nonneg_left q3 (by omega)
  have p2 : h * (u + a) < h * ((q + 1) * (v + c)) := Int.mul_lt_mul_of_pos_left q2 hh
  have p3 : q * (h * v + c * x0 + d * y0) ≤ q * (h * v + d * h) := Int.mul_le_mul_of_nonneg_left (by omega) hq
  have p4 : (q + 1) * (h * v + c * h) ≤ (q + 1) * (h * v + c * x0 + d * y0) := Int.mul_le_mul_of_nonneg_left (by omega) (by omega)
  have i1 : q * (h * v + d * h) = h * (q * (v + d)) := by grind
  have i2 : (q + 1) * (h * v + c * h) = h * ((q + 1) * (v + c)) := by grind
  have i3 : h * (u + b) = h * u + b * h := by grind
  have i4 : h * (u + a) = h * u + a * h := by grind
  refine ⟨hq, c1, d1, det', v1, v2, t2, by omega, by omega, by omega⟩

/-- What holds while a run is found: (a, b; c, d) takes the leading bits U, V to u, v and the numbers X, Y to the numbers of the run. -/
def Leh (X Y U V a b c d u v : Int) : Prop :=
  u = a * U + b * V ∧ v = c * U + d * V ∧
  ((0 ≤ a ∧ b ≤ 0 ∧ c ≤ 0 ∧ 0 ≤ d ∧ a * d - b * c = 1) ∨ (a ≤ 0 ∧ 0 ≤ b ∧ 0 ≤ c ∧ d ≤ 0 ∧ b * c - a * d = 1)) ∧
  (-1073741824 ≤ a ∧ a ≤ 1073741824 ∧ -1073741824 ≤ b ∧ b ≤ 1073741824 ∧ -1073741824 ≤ c ∧ c ≤ 1073741824 ∧ -1073741824 ≤ d ∧ d ≤ 1073741824) ∧
  (0 ≤ v ∧ v ≤ u ∧ u < 1152921504606846976 ∧ 0 ≤ u + a ∧ 0 ≤ u + b ∧ 0 ≤ v + c ∧ 0 ≤ v + d) ∧
  (0 ≤ c * X + d * Y ∧ c * X + d * Y ≤ a * X + b * Y ∧ a * X + b * Y ≤ X ∧ Int.gcd (a * X + b * Y) (c * X + d * Y) = Int.gcd X Y) ∧
  ((a = 1 ∧ b = 0 ∧ c = 0 ∧ d = 1) ∨ (a * X + b * Y) + (c * X + d * Y) < X + Y)

theorem leh_start {X Y U V : Int} (h1 : 0 ≤ V) (h2 : V ≤ U) (h3 : U < 1152921504606846976) (h4 : 0 ≤ Y) (h5 : Y ≤ X) : Leh X Y U V 1 0 0 1 U V := by
  refine ⟨by omega, by omega, .inl ⟨by omega, by omega, by omega, by omega, by omega⟩, by omega, by omega, ⟨by omega, by omega, by omega, ?_⟩, .inl ⟨rfl, rfl, rfl, rfl⟩⟩
  rw [Int.one_mul, Int.zero_mul, Int.add_zero, Int.zero_mul, Int.zero_add, Int.one_mul]

theorem leh_step {h X Y U V x0 y0 a b c d u v q : Int} (L : Leh X Y U V a b c d u v) (hX : X = h * U + x0) (hY : Y = h * V + y0) (hh : 0 < h) (hx0 : 0 ≤ x0) (hx1 : x0 < h) (hy0 : 0 ≤ y0) (hy1 : y0 < h)
    (hU : U < 1152921504606846976) (hV : V < 1152921504606846976) (hP : v + c ≠ 0) (hQ : v + d ≠ 0) (e1 : q = (u + a) / (v + c)) (e2 : q = (u + b) / (v + d)) :
    Leh X Y U V c d (a - q * c) (b - q * d) v (u - q * v) ∧ u - q * v < v := by
  obtain ⟨hu, hv, hs, hbd, ⟨n1, n2, n3, n4, n5, n6, n7⟩, ⟨t1, t2, t3, t4⟩, hdec⟩ := L
  have P : 0 < v + c := by omega
  have Q : 0 < v + d := by omega
  have q1 : q * (v + c) ≤ u + a := by rw [e1]; exact Int.ediv_mul_le _ hP
  have q2 : u + a < (q + 1) * (v + c) := by rw [e1]; exact Int.lt_ediv_add_one_mul_self _ P
  have q3 : q * (v + d) ≤ u + b := by rw [e2]; exact Int.ediv_mul_le _ hQ
  have q4 : u + b < (q + 1) * (v + d) := by rw [e2]; exact Int.lt_ediv_add_one_mul_self _ Q
  clear e1 e2
  -- both signs give the same facts
  have K : 0 ≤ q ∧ ((a - q * c ≤ 0 ∧ 0 ≤ b - q * d ∧ d * (a - q * c) - c * (b - q * d) = -1 ∧ 0 ≤ c ∧ d ≤ 0) ∨ (0 ≤ a - q * c ∧ b - q * d ≤ 0 ∧ c * (b - q * d) - d * (a - q * c) = -1 ∧ c ≤ 0 ∧ 0 ≤ d)) ∧ 0 ≤ u - q * v ∧ u - q * v < v ∧
      (-1073741824 ≤ a - q * c ∧ a - q * c ≤ 1073741824 ∧ -1073741824 ≤ b - q * d ∧ b - q * d ≤ 1073741824) ∧ q * (c * X + d * Y) ≤ a * X + b * Y ∧ a * X + b * Y < (q + 1) * (c * X + d * Y) := by
    rcases hs with ⟨s1, s2, s3, s4, s5⟩ | ⟨s1, s2, s3, s4, s5⟩
    · obtain ⟨k1, k2, k3, k4, k5, k6, k7, k8, k9, k10⟩ := leh_even hh hx0 hx1 hy0 hy1 s1 s2 s3 s4 s5 hu hv hU hV n4 n5 P Q q1 q2 q3 q4
      rw [← hX, ← hY] at k9 k10
      exact ⟨k1, .inr ⟨k2, k3, k4, s3, s4⟩, k5, k6, by omega, k9, k10⟩
    · obtain ⟨k1, k2, k3, k4, k5, k6, k7, k8, k9, k10⟩ := leh_even (a := b) (b := a) (c := d) (d := c) hh hy0 hy1 hx0 hx1 s2 s1 s4 s3 s5 (by rw [hu]; omega) (by rw [hv]; omega) hV hU n5 n4 Q P q3 q4 q1 q2
      rw [← hX, ← hY] at k9 k10
      rw [Int.add_comm (b * Y), Int.add_comm (d * Y)] at k9 k10
      exact ⟨k1, .inl ⟨k3, k2, k4, s3, s4⟩, k5, k6, by omega, k9, k10⟩
  obtain ⟨kq, ks, kv, kv2, kb, kx1, kx2⟩ := K
  have E : (a - q * c) * X + (b - q * d) * Y = (a * X + b * Y) - q * (c * X + d * Y) := by grind
  have E2 : (q + 1) * (c * X + d * Y) = q * (c * X + d * Y) + (c * X + d * Y) := by grind
  have r1 : q * (v + c) = q * v + q * c := Int.mul_add _ _ _
  have r2 : (q + 1) * (v + c) = q * v + q * c + v + c := by grind
  have r3 : q * (v + d) = q * v + q * d := Int.mul_add _ _ _
  have r4 : (q + 1) * (v + d) = q * v + q * d + v + d := by grind
  have eu : (u - q * v) = (a - q * c) * U + (b - q * d) * V := by grind
  have hsum : (a * X + b * Y) + (c * X + d * Y) ≤ X + Y := by
    rcases hdec with ⟨h1, h2, h3, h4⟩ | h1
    · rw [h1, h2, h3, h4]; omega
    · omega
  clear hdec
  generalize hXX : a * X + b * Y = XX at *
  generalize hYY : c * X + d * Y = YY at *
  have hq1 : YY ≤ q * YY := by
    rcases Int.lt_or_le q 1 with h0 | h0
    · obtain rfl : q = 0 := by omega
      omega
    · have := Int.mul_le_mul_of_nonneg_right h0 t1
      omega
  refine ⟨⟨hv, eu, ?_, by omega, by omega, ⟨by omega, by omega, by omega, ?_⟩, .inr (by omega)⟩, kv2⟩
  · rcases ks with ⟨a1, a2, a3, a4, a5⟩ | ⟨a1, a2, a3, a4, a5⟩
    · exact .inl ⟨a4, a5, a1, a2, by omega⟩
    · exact .inr ⟨a4, a5, a1, a2, by omega⟩
  · rw [E, hYY, ← t4, Int.gcd_comm XX]
    exact Int.gcd_sub_mul_right_right _ _ _
end Go.Proofs.YtfacndibfkamgaaGreat

/-
  Contract of natural.findStep: the run of quotients.
-/
namespace Go.Proofs.YtfacndibfkamgaaGreat
open Go.RowKit
set_option linter.unusedVariables false

/-- What a run is good for. -/
def StepGood (X Y a b c d : Int) : Prop :=
  ((0 ≤ a ∧ b ≤ 0 ∧ c ≤ 0 ∧ 0 ≤ d) ∨ (a ≤ 0 ∧ 0 ≤ b ∧ 0 ≤ c ∧ d ≤ 0)) ∧
  (-1073741824 ≤ a ∧ a ≤ 1073741824 ∧ -1073741824 ≤ b ∧ b ≤ 1073741824 ∧ -1073741824 ≤ c ∧ c ≤ 1073741824 ∧ -1073741824 ≤ d ∧ d ≤ 1073741824) ∧
  (0 ≤ c * X + d * Y ∧ c * X + d * Y ≤ a * X + b * Y ∧ a * X + b * Y ≤ X ∧ Int.gcd (a * X + b * Y) (c * X + d * Y) = Int.gcd X Y) ∧
  (b = 0 ∨ (a * X + b * Y) + (c * X + d * Y) < X + Y)
theorem leh_good {X Y U V a b c d u v : Int} (L : Leh X Y U V a b c d u v) : StepGood X Y a b c d := by
  obtain ⟨hu, hv, hs, hbd, hn, ht, hdec⟩ := L
  refine ⟨by omega, hbd, ht, ?_⟩
  rcases hdec with ⟨_, h, _, _⟩ | h
  · exact .inl h
  · exact .inr h

/-- A run in memory. -/
def St (w : World) (g : Nat) (a b c d : Int) : Prop := w.heap[g]? = some (.cells #[.int .i64 a, .int .i64 b, .int .i64 c, .int .i64 d] 152 (0, 0))
theorem St.cells {w : World} {g : Nat} {a b c d : Int} (h : St w g a b c d) :
    w.cell? ⟨g, 0, none⟩ = some (.int .i64 a) ∧ w.cell? ⟨g, 1, none⟩ = some (.int .i64 b) ∧ w.cell? ⟨g, 2, none⟩ = some (.int .i64 c) ∧ w.cell? ⟨g, 3, none⟩ = some (.int .i64 d) := by
  refine ⟨?_, ?_, ?_, ?_⟩ <;> (rw [cell_of_row w g _ _ _ (0, 0) h]; rfl)

theorem St.frozen {w : World} {g : Nat} {a b c d : Int} (h : St w g a b c d) :
    w.frozen? ⟨g, 0, none⟩ = false ∧ w.frozen? ⟨g, 1, none⟩ = false ∧ w.frozen? ⟨g, 2, none⟩ = false ∧ w.frozen? ⟨g, 3, none⟩ = false := by
  unfold St at h
  refine ⟨?_, ?_, ?_, ?_⟩ <;> simp [World.frozen?, h]
theorem St.lit {w : World} {g : Nat} {a b c d : Int} (h : St w g a b c d) (a' b' c' d' : Int) :
    St ((((w.setCell ⟨g, 0, none⟩ (.int .i64 a')).setCell ⟨g, 1, none⟩ (.int .i64 b')).setCell ⟨g, 2, none⟩ (.int .i64 c')).setCell ⟨g, 3, none⟩ (.int .i64 d')) g a' b' c' d' := by
  unfold St at h ⊢
  have h1 := heap_setCell_same w g 0 _ _ (.int .i64 a') h
  have h2 := heap_setCell_same _ g 1 _ _ (.int .i64 b') h1
  have h3 := heap_setCell_same _ g 2 _ _ (.int .i64 c') h2
  have h4 := heap_setCell_same _ g 3 _ _ (.int .i64 d') h3
  exact h4
theorem Leh.bounds {X Y U V a b c d u v : Int} (L : Leh X Y U V a b c d u v) :
    -1073741824 ≤ a ∧ a ≤ 1073741824 ∧ -1073741824 ≤ b ∧ b ≤ 1073741824 ∧ -1073741824 ≤ c ∧ c ≤ 1073741824 ∧ -1073741824 ≤ d ∧ d ≤ 1073741824 ∧ 0 ≤ v ∧ v ≤ u ∧ u < 1152921504606846976 ∧ 0 ≤ u + a ∧ 0 ≤ u + b ∧ 0 ≤ v + c ∧ 0 ≤ v + d := by
  obtain ⟨hu, hv, hs, hbd, hn, ht, hdec⟩ := L
  omega

set_option maxHeartbeats 4000000 in
theorem findStep_any (A B : Option Addr) (ca cb : Nat) (xs ys : List Nat) (w : World) (h : Rd w A ca xs) (h' : Rd w B cb ys) (hn : xs.length ≤ 70368744177663) (hX : 18446744073709551616 ≤ val xs) (hle : val ys ≤ val xs) :
    Calls Tryz.prog 135 #[.slice A xs.length ca, .slice B ys.length cb] w fun e w' => ∃ a b c d : Int, e = .returned (.agg #[.int .i64 a, .int .i64 b, .int .i64 c, .int .i64 d]) ∧ StepGood (val xs) (val ys) a b c d ∧ Below w.heap.size w w' := by
  have nb := nbits_lt (val xs)
  have nb1 : 64 < nbits (val xs) := by
    rcases Nat.lt_or_ge 64 (nbits (val xs)) with h1 | h1
    · exact h1
    · have := Nat.pow_le_pow_right (n := 2) (by omega) h1
      have e : (2 : Nat) ^ 64 = 18446744073709551616 := rfl
      omega
  have nb2 : nbits (val xs) ≤ 32 * 70368744177663 := by
    have h1 := nbits_len (val xs)
    have h2 := len_ofv_le h.ok
    omega
  obtain ⟨be, hbe⟩ : ∃ be, nbits (val xs) = be + 60 := ⟨nbits (val xs) - 60, by omega⟩
  rw [hbe] at nb nb1 nb2
  have hp : 0 < 2 ^ be := Nat.pow_pos (by omega)
  have dX := Nat.div_add_mod (val xs) (2 ^ be)
  have dY := Nat.div_add_mod (val ys) (2 ^ be)
  have mX := Nat.mod_lt (val xs) hp
  have mY := Nat.mod_lt (val ys) hp
  have U1 : val xs / 2 ^ be < 1152921504606846976 := by
    apply Nat.div_lt_of_lt_mul
    rw [Nat.pow_add] at nb
    exact nb
  have UV : val ys / 2 ^ be ≤ val xs / 2 ^ be := Nat.div_le_div_right hle
  have HBE := Lib.hid hbe
  have HX := Lib.hid h
  have HY := Lib.hid h'
  have W1 := Lib.hid (Nat.mod_eq_of_lt (show val xs / 2 ^ be < 18446744073709551616 by omega))
  have W2 := Lib.hid (Nat.mod_eq_of_lt (show val ys / 2 ^ be < 18446744073709551616 by omega))
  have hca := h.capLe
  have hcb := h'.capLe
  have hla := h.len
  have hlb := h'.len
  clear h h' hbe nb
  have EX : ((val xs : Nat) : Int) = ((2 ^ be : Nat) : Int) * ((val xs / 2 ^ be : Nat) : Int) + ((val xs % 2 ^ be : Nat) : Int) := by
    rw [← Int.natCast_mul, ← Int.natCast_add, dX]
  have EY : ((val ys : Nat) : Int) = ((2 ^ be : Nat) : Int) * ((val ys / 2 ^ be : Nat) : Int) + ((val ys % 2 ^ be : Nat) : Int) := by
    rw [← Int.natCast_mul, ← Int.natCast_add, dY]
  generalize hU : val xs / 2 ^ be = U at *
  generalize hV : val ys / 2 ^ be = V at *
  have hU60 : (U : Int) < 1152921504606846976 := by omega
  have hV60 : (V : Int) < 1152921504606846976 := by omega
  have hh0 : (0 : Int) < ((2 ^ be : Nat) : Int) := by omega
  have mx1 : ((val xs % 2 ^ be : Nat) : Int) < ((2 ^ be : Nat) : Int) := by omega
  have my1 : ((val ys % 2 ^ be : Nat) : Int) < ((2 ^ be : Nat) : Int) := by omega
  have mx0 : (0 : Int) ≤ ((val xs % 2 ^ be : Nat) : Int) := by omega
  have my0 : (0 : Int) ≤ ((val ys % 2 ^ be : Nat) : Int) := by omega
  have KK := Lib.hid (And.intro EX (And.intro EY (And.intro hh0 (And.intro mx0 (And.intro mx1 (And.intro my0 my1))))))
  clear EX EY hh0 mx0 mx1 my0 my1 mX mY dX dY hp
  have HU := Lib.hid hU
  have HV := Lib.hid hV
  clear hU hV
  go_enter Tryz.func135, Tryz.ntmps135
  go_wp2_with fail
  generalize hw1 : w.alloc _ = w1
  have B1 : Hid (Below w.heap.size w w1) := by rw [← hw1]; exact (Below.refl _ _).alloc (Nat.le_refl _) _
  have R1 : Hid (St w1 w.heap.size 0 0 0 0) := by rw [← hw1]; exact heap_alloc_new w _
  have X1 := Lib.hid (HX.out.below B1.out)
  have Y1 := Lib.hid (HY.out.below B1.out)
  clear hw1 HX HY
  refine (bits_n X1.out rfl (by omega)).mono ?_
  rw [HBE.out]
  rintro e w' ⟨rfl, rfl⟩
  go_wp2_with fail
  refine (window_n X1.out rfl be rfl (by omega)).mono ?_
  rw [HU.out, W1.out]
  rintro e w2 ⟨rfl, hq⟩
  have hb := below_q hq
  have B2 : Hid (Below w.heap.size w w2) := B1.out.trans (hb.mono B1.out.size)
  have Y2 := Lib.hid (Y1.out.below hb)
  have R2 : Hid (St w2 w.heap.size 0 0 0 0) := (hb.block _ (lt_of_heap R1.out)).trans R1.out
  clear hb hq
  go_wp2_with fail
  refine (window_n Y2.out rfl be rfl (by omega)).mono ?_
  rw [HV.out, W2.out]
  rintro e w3 ⟨rfl, hq⟩
  have hb := below_q hq
  have B3 : Hid (Below w.heap.size w w3) := B2.out.trans (hb.mono B2.out.size)
  have R3 : Hid (St w3 w.heap.size 0 0 0 0) := (hb.block _ (lt_of_heap R2.out)).trans R2.out
  clear hb hq X1 Y1 Y2 B1 B2 R1 R2
  go_wp2
  generalize hw4 : w3.alloc _ = w4
  have G4 : Hid (w3.heap.size < w4.heap.size) := by rw [← hw4]; show _ < _; simp
  have B4 : Hid (Below w.heap.size w w4) := by rw [← hw4]; exact B3.out.alloc B3.out.size _
  have S4 : Hid (St w4 w3.heap.size 1 0 0 1) := by rw [← hw4]; exact heap_alloc_new w3 _
  have R4 : Hid (St w4 w.heap.size 0 0 0 0) := by rw [← hw4]; exact (Below.heap_alloc w3 _ _ (lt_of_heap R3.out)).trans R3.out
  have GL : w.heap.size < w3.heap.size := lt_of_heap R3.out
  clear hw4 B3 R3
  generalize w3.heap.size = gs at *
  have L0 : Hid (Leh (val xs) (val ys) U V 1 0 0 1 U V) := leh_start (by omega) (by omega) (by omega) (by omega) (by omega)
  go_loopw [6, 7] (fun uu vv wr => ∃ a b c d u v : Int, uu = .int .i64 u ∧ vv = .int .i64 v ∧ Hid (Leh (val xs) (val ys) U V a b c d u v) ∧ Hid (St wr gs a b c d) ∧ Hid (w4.grownBy wr (some gs))) (fun _ v _ => (intOf v).toNat)
  case atStart => exact ⟨1, 0, 0, 1, U, V, rfl, rfl, L0.out, S4.out, World.grownBy.refl _ _⟩
  case round =>
    obtain ⟨a, b, c, d, u, v, rfl, rfl, HL, HS, HG⟩ := hrel
    obtain ⟨a1, a2, b1, b2, c1, c2, d1, d2, n1, n2, n3, n4, n5, n6, n7⟩ := HL.out.bounds
    obtain ⟨m1, m2, m3, m4⟩ := HS.out.cells
    have GOOD := Lib.hid (leh_good HL.out)
    have hne : w.heap.size ≠ gs := by omega
    have RW : Hid (St wr w.heap.size 0 0 0 0) := (HG.out.block _ (lt_of_heap R4.out) (by simpa using hne)).trans R4.out
    have BR : Hid (Below w.heap.size w wr) := B4.out.trans (below_of_grown HG.out (by omega) B4.out.size)
    by_cases hP : v + c = 0
    · skip
      obtain ⟨k1, k2, k3, k4⟩ := RW.out.cells
      obtain ⟨f1, f2, f3, f4⟩ := RW.out.frozen
      have SZ := RW.out.lit a b c d
      have BZ : Below w.heap.size w _ := (((BR.out.setCell (p := ⟨w.heap.size, 0, none⟩) (by simp) (.int .i64 a)).setCell (p := ⟨w.heap.size, 1, none⟩) (by simp) (.int .i64 b)).setCell (p := ⟨w.heap.size, 2, none⟩) (by simp) (.int .i64 c)).setCell (p := ⟨w.heap.size, 3, none⟩) (by simp) (.int .i64 d)
      have HSZ := Lib.hid SZ
      have HBZ := Lib.hid BZ
      clear SZ BZ
      go_wp2
      generalize (((wr.setCell ⟨w.heap.size, 0, none⟩ (.int .i64 a)).setCell ⟨w.heap.size, 1, none⟩ (.int .i64 b)).setCell ⟨w.heap.size, 2, none⟩ (.int .i64 c)).setCell ⟨w.heap.size, 3, none⟩ (.int .i64 d) = wz at *
      obtain ⟨z1, z2, z3, z4⟩ := HSZ.out.cells
      refine bodyPost_ret (v := .agg #[.int .i64 a, .int .i64 b, .int .i64 c, .int .i64 d]) (by simp [results, Tryz.results135, go_sem, z1, z2, z3, z4]) rfl ⟨a, b, c, d, rfl, GOOD.out, HBZ.out⟩
    · have hP' : (v + c != 0) = true := by simpa using hP
      by_cases hQ : v + d = 0
      · skip
        obtain ⟨k1, k2, k3, k4⟩ := RW.out.cells
        obtain ⟨f1, f2, f3, f4⟩ := RW.out.frozen
        have SZ := RW.out.lit a b c d
        have BZ : Below w.heap.size w _ := (((BR.out.setCell (p := ⟨w.heap.size, 0, none⟩) (by simp) (.int .i64 a)).setCell (p := ⟨w.heap.size, 1, none⟩) (by simp) (.int .i64 b)).setCell (p := ⟨w.heap.size, 2, none⟩) (by simp) (.int .i64 c)).setCell (p := ⟨w.heap.size, 3, none⟩) (by simp) (.int .i64 d)
        have HSZ := Lib.hid SZ
        have HBZ := Lib.hid BZ
        clear SZ BZ
        go_wp2
        generalize (((wr.setCell ⟨w.heap.size, 0, none⟩ (.int .i64 a)).setCell ⟨w.heap.size, 1, none⟩ (.int .i64 b)).setCell ⟨w.heap.size, 2, none⟩ (.int .i64 c)).setCell ⟨w.heap.size, 3, none⟩ (.int .i64 d) = wz at *
        obtain ⟨z1, z2, z3, z4⟩ := HSZ.out.cells
        refine bodyPost_ret (v := .agg #[.int .i64 a, .int .i64 b, .int .i64 c, .int .i64 d]) (by simp [results, Tryz.results135, go_sem, z1, z2, z3, z4]) rfl ⟨a, b, c, d, rfl, GOOD.out, HBZ.out⟩
      · have hQ' : (v + d != 0) = true := by simpa using hQ
        by_cases hq : (u + a) / (v + c) = (u + b) / (v + d)
        · obtain ⟨EX, EY, hh0, mx0, mx1, my0, my1⟩ := KK.out
          obtain ⟨NL, NM⟩ := leh_step HL.out EX EY hh0 mx0 mx1 my0 my1 hU60 hV60 hP hQ hq.symm rfl
          obtain ⟨_, _, _, _, e1, e2, e3, e4, e5, e6, e7, _⟩ := NL.bounds
          have HNL := Lib.hid NL
          have hq' : ((u + a) / (v + c) != (u + b) / (v + d)) = false := by simpa using hq
          have SZ := HS.out.lit c d (a - (u + b) / (v + d) * c) (b - (u + b) / (v + d) * d)
          have HSZ := Lib.hid SZ
          obtain ⟨f1, f2, f3, f4⟩ := HS.out.frozen
          clear SZ NL EX EY hh0 mx0 mx1 my0 my1
          go_wp2
          go_roundw
          case rel => exact ⟨c, d, _, _, v, _, rfl, rfl, HNL.out, HSZ.out, grown_trans HG.out (grown_trans (grown_set _ _ _ _) (grown_trans (grown_set _ _ _ _) (grown_trans (grown_set _ _ _ _) (grown_set _ _ _ _))))⟩
          case measure => simp only [intOf]; omega
        · have hq' : ((u + a) / (v + c) != (u + b) / (v + d)) = true := by simpa using hq
          obtain ⟨k1, k2, k3, k4⟩ := RW.out.cells
          obtain ⟨f1, f2, f3, f4⟩ := RW.out.frozen
          have SZ := RW.out.lit a b c d
          have BZ : Below w.heap.size w _ := (((BR.out.setCell (p := ⟨w.heap.size, 0, none⟩) (by simp) (.int .i64 a)).setCell (p := ⟨w.heap.size, 1, none⟩) (by simp) (.int .i64 b)).setCell (p := ⟨w.heap.size, 2, none⟩) (by simp) (.int .i64 c)).setCell (p := ⟨w.heap.size, 3, none⟩) (by simp) (.int .i64 d)
          have HSZ := Lib.hid SZ
          have HBZ := Lib.hid BZ
          clear SZ BZ
          go_wp2
          generalize (((wr.setCell ⟨w.heap.size, 0, none⟩ (.int .i64 a)).setCell ⟨w.heap.size, 1, none⟩ (.int .i64 b)).setCell ⟨w.heap.size, 2, none⟩ (.int .i64 c)).setCell ⟨w.heap.size, 3, none⟩ (.int .i64 d) = wz at *
          obtain ⟨z1, z2, z3, z4⟩ := HSZ.out.cells
          refine bodyPost_ret (v := .agg #[.int .i64 a, .int .i64 b, .int .i64 c, .int .i64 d]) (by simp [results, Tryz.results135, go_sem, z1, z2, z3, z4]) rfl ⟨a, b, c, d, rfl, GOOD.out, HBZ.out⟩
theorem findStep_n {A B : Option Addr} {ca cb n m : Nat} {xs ys : List Nat} {w : World} (h : Rd w A ca xs) (h' : Rd w B cb ys) (hn : xs.length = n) (hm : ys.length = m) (hl : n ≤ 70368744177663) (hX : 18446744073709551616 ≤ val xs) (hle : val ys ≤ val xs) :
    Calls Tryz.prog 135 #[.slice A n ca, .slice B m cb] w fun e w' => ∃ a b c d : Int, e = .returned (.agg #[.int .i64 a, .int .i64 b, .int .i64 c, .int .i64 d]) ∧ StepGood (val xs) (val ys) a b c d ∧ Below w.heap.size w w' := by
  subst hn hm; exact findStep_any A B ca cb xs ys w h h' hl hX hle
end Go.Proofs.YtfacndibfkamgaaGreat

/-
  Contract of the method apply of natural's step: two rows in place.
-/
namespace Go.Proofs.YtfacndibfkamgaaGreat
open Go.RowKit
set_option linter.unusedVariables false

/-- Nothing that was there has changed, but blocks p and q. -/
def Two (w : World) (p q : Nat) (w' : World) : Prop :=
  w'.os = w.os ∧ w'.tape = w.tape ∧ w'.output = w.output ∧ w.heap.size ≤ w'.heap.size ∧ ∀ i, i < w.heap.size → i ≠ p → i ≠ q → w'.heap[i]? = w.heap[i]?
theorem Two.refl (w : World) (p q : Nat) : Two w p q w := ⟨rfl, rfl, rfl, Nat.le_refl _, fun _ _ _ _ => rfl⟩
theorem Two.set_ {w w' : World} {p q : Nat} (h : Two w p q w') (r o : Nat) (u : Value) (hr : r = p ∨ r = q) : Two w p q (w'.setCell ⟨r, o, none⟩ u) := by
  obtain ⟨h1, h2, h3, h4, h5⟩ := h
  refine ⟨h1, h2, h3, by simpa [World.setCell] using h4, fun i hi hp hq => ?_⟩
  rw [Below.heap_setCell _ _ _ _ (show i ≠ r by omega)]
  exact h5 i hi hp hq
theorem Two.below {w w' : World} {p q lo : Nat} (h : Two w p q w') (hp : lo ≤ p) (hq : lo ≤ q) (hl : lo ≤ w.heap.size) : Below lo w w' :=
  ⟨h.1, h.2.1, h.2.2.1, h.2.2.2.1, fun i hi => h.2.2.2.2 i (by omega) (by omega) (by omega)⟩
theorem Two.drewN {w w' : World} {p q n : Nat} (h : Two w p q w') : Two w p q (w'.drewN n) := h

theorem prod_up {a x : Int} (h0 : 0 ≤ a) (h1 : a ≤ 1073741824) (x0 : 0 ≤ x) (x1 : x ≤ 4294967295) : 0 ≤ a * x ∧ a * x ≤ 4611686018427387904 := by
  have := Int.mul_le_mul h1 x1 x0 (by omega)
  have := Int.mul_nonneg h0 x0
  omega
theorem prod_down {a x : Int} (h0 : a ≤ 0) (h1 : -1073741824 ≤ a) (x0 : 0 ≤ x) (x1 : x ≤ 4294967295) : -4611686018427387904 ≤ a * x ∧ a * x ≤ 0 := by
  have h := prod_up (a := -a) (x := x) (by omega) (by omega) x0 x1
  rw [Int.neg_mul] at h
  omega

def LaInv (w1 : World) (p q : Nat) (zs ws : List Nat) (a b c d : Int) (k : Nat) (cx cy : Int) (wr : World) : Prop :=
  ∃ us vs, Row wr p us ∧ Row wr q vs ∧ us.length = zs.length ∧ vs.length = ws.length ∧ okl us ∧ okl vs ∧ (∀ j, k ≤ j → lim us j = lim zs j) ∧ (∀ j, k ≤ j → lim vs j = lim ws j) ∧
    ((val (us.take k) : Nat) : Int) + cx * ((pw k : Nat) : Int) = a * ((val (zs.take k) : Nat) : Int) + b * ((val (ws.take k) : Nat) : Int) ∧
    ((val (vs.take k) : Nat) : Int) + cy * ((pw k : Nat) : Int) = c * ((val (zs.take k) : Nat) : Int) + d * ((val (ws.take k) : Nat) : Int) ∧ Two w1 p q wr

theorem la_half {us zs ws : List Nat} {a b cx t z : Int} {k : Nat} (hk : k < us.length)
    (he : ((val (us.take k) : Nat) : Int) + cx * ((pw k : Nat) : Int) = a * ((val (zs.take k) : Nat) : Int) + b * ((val (ws.take k) : Nat) : Int))
    (ht : t = cx + (a * ((lim zs k : Nat) : Int) + b * ((lim ws k : Nat) : Int))) (hz : z = t % 4294967296) :
    ((val ((us.set k z.toNat).take (k + 1)) : Nat) : Int) + t / 4294967296 * ((pw (k + 1) : Nat) : Int) = a * ((val (zs.take (k + 1)) : Nat) : Int) + b * ((val (ws.take (k + 1)) : Nat) : Int) := by
  rw [val_take_set hk, val_take_succ', val_take_succ', pw_succ]
  have hz0 : ((z.toNat : Nat) : Int) = t - 4294967296 * (t / 4294967296) := by omega
  simp only [Int.natCast_add, Int.natCast_mul, hz0]
  generalize t / 4294967296 = r at *
  simp only [Int.cast_ofNat_Int]
  grind

theorem la_step {w1 wr : World} {p q : Nat} {zs ws us vs : List Nat} {a b c d cx cy t1 t2 z1 z2 : Int} {k : Nat} (hpq : p ≠ q) (h1 : Row wr p us) (h2 : Row wr q vs) (h3 : us.length = zs.length) (h4 : vs.length = ws.length) (h5 : okl us) (h6 : okl vs)
    (h7 : ∀ j, k ≤ j → lim us j = lim zs j) (h8 : ∀ j, k ≤ j → lim vs j = lim ws j)
    (h9 : ((val (us.take k) : Nat) : Int) + cx * ((pw k : Nat) : Int) = a * ((val (zs.take k) : Nat) : Int) + b * ((val (ws.take k) : Nat) : Int))
    (h10 : ((val (vs.take k) : Nat) : Int) + cy * ((pw k : Nat) : Int) = c * ((val (zs.take k) : Nat) : Int) + d * ((val (ws.take k) : Nat) : Int)) (h11 : Two w1 p q wr) (hk : k < zs.length) (hk' : k < ws.length)
    (ht1 : t1 = cx + (a * ((lim zs k : Nat) : Int) + b * ((lim ws k : Nat) : Int))) (ht2 : t2 = cy + (c * ((lim zs k : Nat) : Int) + d * ((lim ws k : Nat) : Int))) (hz1 : z1 = t1 % 4294967296) (hz2 : z2 = t2 % 4294967296) :
    LaInv w1 p q zs ws a b c d (k + 1) (t1 / 4294967296) (t2 / 4294967296) ((wr.setCell ⟨p, k, none⟩ (.int .u32 z1)).setCell ⟨q, k, none⟩ (.int .u32 z2)) := by
  have e1 : z1 = ((z1.toNat : Nat) : Int) := by omega
  have e2 : z2 = ((z2.toNat : Nat) : Int) := by omega
  have l1 : z1.toNat < 4294967296 := by omega
  have l2 : z2.toNat < 4294967296 := by omega
  refine ⟨us.set k z1.toNat, vs.set k z2.toNat, ?_, ?_, by simpa using h3, by simpa using h4, okl_set h5 l1 _, okl_set h6 l2 _, fun j hj => ?_, fun j hj => ?_, la_half (by omega) h9 ht1 hz1, la_half (by omega) h10 ht2 hz2, (h11.set_ _ _ _ (.inl rfl)).set_ _ _ _ (.inr rfl)⟩
  · have := h1.set_ k z1.toNat
    rw [← e1] at this
    exact this.far (by simpa using hpq) _
  · have := (h2.far (p := ⟨p, k, none⟩) (by simpa using hpq.symm) (.int .u32 z1)).set_ k z2.toNat
    rw [← e2] at this
    exact this
  · rw [lim_set_other (by omega)]; exact h7 j (by omega)
  · rw [lim_set_other (by omega)]; exact h8 j (by omega)

theorem carry_none {V P C R : Int} (h0 : 0 ≤ V) (h1 : V < P) (r0 : 0 ≤ R) (r1 : R < P) (he : V + C * P = R) : V = R := by
  rcases Int.lt_trichotomy C 0 with h | h | h
  · have : C * P ≤ (-1) * P := Int.mul_le_mul_of_nonneg_right (by omega) (by omega)
    omega
  · subst h; omega
  · have : 1 * P ≤ C * P := Int.mul_le_mul_of_nonneg_right (by omega) (by omega)
    omega

/-- What apply leaves. -/
def LaPost (w : World) (p q n lo : Nat) (zs ws : List Nat) (a b c d : Int) (e : Ending) (w' : World) : Prop :=
  e = .returned (.tuple #[]) ∧ ∃ us vs, Row w' p us ∧ Row w' q vs ∧ us.length = zs.length ∧ vs.length = ws.length ∧ okl us ∧ okl vs ∧
    ((val (us.take n) : Nat) : Int) = a * ((val (zs.take n) : Nat) : Int) + b * ((val (ws.take n) : Nat) : Int) ∧
    ((val (vs.take n) : Nat) : Int) = c * ((val (zs.take n) : Nat) : Int) + d * ((val (ws.take n) : Nat) : Int) ∧ Below lo w w'

set_option maxHeartbeats 4000000 in
theorem apply_any (w : World) (p q n cx0 cy0 lo : Nat) (zs ws : List Nat) (a b c d : Int) (h1 : Row w p zs) (h2 : Row w q ws) (hz : okl zs) (hw : okl ws) (hpq : p ≠ q) (hn1 : n ≤ zs.length) (hn2 : n ≤ ws.length) (hn : n ≤ 70368744177664) (hlp : lo ≤ p) (hlq : lo ≤ q)
    (G : StepGood ((val (zs.take n) : Nat) : Int) ((val (ws.take n) : Nat) : Int) a b c d) :
    Calls Tryz.prog 137 #[.agg #[.int .i64 a, .int .i64 b, .int .i64 c, .int .i64 d], .slice (some ⟨p, 0, none⟩) n cx0, .slice (some ⟨q, 0, none⟩) n cy0] w (LaPost w p q n lo zs ws a b c d) := by
  have hpl := h1.lt
  have hql := h2.lt
  have HR1 := Lib.hid h1
  have HR2 := Lib.hid h2
  obtain ⟨gs, ⟨a1, a2, b1, b2, c1, c2, d1, d2⟩, ⟨t1, t2, t3, t4⟩, gd⟩ := G
  have XLT : Hid (((val (zs.take n) : Nat) : Int) < ((pw n : Nat) : Int)) := by
    have := val_lt (okl_take hz n)
    rw [List.length_take, Nat.min_eq_left hn1] at this
    show _ < _
    omega
  have HT := Lib.hid (And.intro t1 (And.intro t2 t3))
  have HZ := Lib.hid hz
  have HW := Lib.hid hw
  clear h1 h2 t1 t2 t3 t4 gd hz hw
  go_enter Tryz.func137, Tryz.ntmps137
  go_wp2
  generalize hw1 : w.alloc _ = w1
  have B1 : Hid (Below w.heap.size w w1) := by rw [← hw1]; exact (Below.refl _ _).alloc (Nat.le_refl _) _
  have S1 : Hid (St w1 w.heap.size a b c d) := by rw [← hw1]; exact heap_alloc_new w _
  have P1 := Lib.hid (HR1.out.below B1.out hpl)
  have Q1 := Lib.hid (HR2.out.below B1.out hql)
  have G1 : w.heap.size < w1.heap.size := lt_of_heap S1.out
  clear hw1
  generalize hg : w.heap.size = g at *
  clear hg
  go_loopw [6, 7, 13] (fun x y i wr => ∃ (k : Nat) (cx cy : Int), k ≤ n ∧ i = .int .i64 k ∧ x = .int .i64 cx ∧ y = .int .i64 cy ∧ -2147483648 ≤ cx ∧ cx ≤ 2147483648 ∧ -2147483648 ≤ cy ∧ cy ≤ 2147483648 ∧ Hid (LaInv w1 p q zs ws a b c d k cx cy wr)) (fun _ _ i _ => n - (intOf i).toNat)
  case atStart => exact ⟨0, 0, 0, Nat.zero_le _, rfl, rfl, rfl, by omega, by omega, by omega, by omega, zs, ws, P1.out, Q1.out, rfl, rfl, HZ.out, HW.out, fun _ _ => rfl, fun _ _ => rfl, by simp [val_nil], by simp [val_nil], Two.refl _ _ _⟩
  case round =>
    obtain ⟨k, cx, cy, hk, rfl, rfl, rfl, x1, x2, y1, y2, INV⟩ := hrel
    by_cases hlt : k < n
    · obtain ⟨us, vs, r1, r2, ul, vl, uo, vo, uj, vj, ue, ve, tw⟩ := INV.out
      have hc1 := r1.cell (i := k) (by omega)
      have hc2 := r2.cell (i := k) (by omega)
      rw [uj k (Nat.le_refl _)] at hc1
      rw [vj k (Nat.le_refl _)] at hc2
      have hf1 := r1.frozen k
      have hf2 := r2.frozen k
      have SW : St wr g a b c d := (tw.2.2.2.2 g G1 (by omega) (by omega)).trans S1.out
      obtain ⟨m1, m2, m3, m4⟩ := SW.cells
      have bx := lim_lt HZ.out k
      have by' := lim_lt HW.out k
      have STEP := Lib.hid (fun n => la_step (wr := wr.drewN n) (t1 := cx + (a * ((lim zs k : Nat) : Int) + b * ((lim ws k : Nat) : Int))) (t2 := cy + (c * ((lim zs k : Nat) : Int) + d * ((lim ws k : Nat) : Int))) hpq r1 r2 ul vl uo vo uj vj ue ve tw (by omega) (by omega) rfl rfl rfl rfl)
      clear r1 r2 ul vl uo vo uj vj ue ve tw SW
      have hqp : q ≠ p := fun e => hpq e.symm
      have X0 : (0 : Int) ≤ ((lim zs k : Nat) : Int) := by omega
      have X1 : ((lim zs k : Nat) : Int) ≤ 4294967295 := by omega
      have Y0 : (0 : Int) ≤ ((lim ws k : Nat) : Int) := by omega
      have Y1 : ((lim ws k : Nat) : Int) ≤ 4294967295 := by omega
      generalize lim zs k = x at *
      generalize lim ws k = y at *
      have SUM : -4611686018427387904 ≤ a * (x : Int) ∧ a * (x : Int) ≤ 4611686018427387904 ∧ -4611686018427387904 ≤ b * (y : Int) ∧ b * (y : Int) ≤ 4611686018427387904 ∧ -4611686018427387904 ≤ a * (x : Int) + b * (y : Int) ∧ a * (x : Int) + b * (y : Int) ≤ 4611686018427387904 ∧
          -4611686018427387904 ≤ c * (x : Int) ∧ c * (x : Int) ≤ 4611686018427387904 ∧ -4611686018427387904 ≤ d * (y : Int) ∧ d * (y : Int) ≤ 4611686018427387904 ∧ -4611686018427387904 ≤ c * (x : Int) + d * (y : Int) ∧ c * (x : Int) + d * (y : Int) ≤ 4611686018427387904 := by
        rcases gs with ⟨g1, g2, g3, g4⟩ | ⟨g1, g2, g3, g4⟩
        · have k1 := prod_up g1 a2 X0 X1
          have k2 := prod_down g2 b1 Y0 Y1
          have k3 := prod_down g3 c1 X0 X1
          have k4 := prod_up g4 d2 Y0 Y1
          omega
        · have k1 := prod_down g1 a1 X0 X1
          have k2 := prod_up g2 b2 Y0 Y1
          have k3 := prod_up g3 c2 X0 X1
          have k4 := prod_down g4 d1 Y0 Y1
          omega
      obtain ⟨u1, u2, u3, u4, u5, u6, u7, u8, u9, u10, u11, u12⟩ := SUM
      go_wp2
      go_quiet (fail)
      go_wp2
      go_roundw
      case rel => exact ⟨k + 1, _, _, by omega, by go_num, rfl, rfl, by omega, by omega, by omega, by omega, STEP.out _⟩
      case measure => simp [intOf]; omega
    · obtain rfl : k = n := by omega
      have FIN : Hid (LaPost w p q k lo zs ws a b c d (.returned (.tuple #[])) wr) := by
        obtain ⟨us, vs, r1, r2, ul, vl, uo, vo, uj, vj, ue, ve, tw⟩ := INV.out
        obtain ⟨t1, t2, t3⟩ := HT.out
        have xlt := XLT.out
        have v1 := val_lt (okl_take uo k)
        have v2 := val_lt (okl_take vo k)
        rw [List.length_take, Nat.min_eq_left (by omega)] at v1 v2
        refine ⟨rfl, us, vs, r1, r2, ul, vl, uo, vo, ?_, ?_, (B1.out.mono (by omega)).trans (tw.below hlp hlq (by omega))⟩
        · exact carry_none (by omega) (by omega) (by omega) (by omega) ue
        · exact carry_none (by omega) (by omega) (by omega) (by omega) ve
      clear INV
      go_wp2
      go_end0
      exact FIN.out
end Go.Proofs.YtfacndibfkamgaaGreat

/-
  Contract of natural.euclid: one step of Euclid's algorithm in two rows.
-/
namespace Go.Proofs.YtfacndibfkamgaaGreat
open Go.RowKit
set_option linter.unusedVariables false

theorem row_zeros (g : Nat) : ∀ (n o : Nat) (w : World) (zs : List Nat), Row w g zs → okl zs →
    ∃ us, Row (w.setCells g o (List.replicate n (.int .u32 0))) g us ∧ us.length = zs.length ∧ okl us ∧ (∀ j, o ≤ j → j < o + n → lim us j = 0) ∧ (∀ j, j < o ∨ o + n ≤ j → lim us j = lim zs j) ∧
      w.grownBy (w.setCells g o (List.replicate n (.int .u32 0))) (some g) := by
  intro n
  induction n with
  | zero => intro o w zs h hz; exact ⟨zs, h, rfl, hz, fun j h1 h2 => by omega, fun j _ => rfl, World.grownBy.refl _ _⟩
  | succ n ih =>
    intro o w zs h hz
    obtain ⟨us, h1, h2, h3, h4, h5, h6⟩ := ih (o + 1) _ _ (h.set_ o 0) (okl_set hz (by omega) o)
    have e : w.setCells g o (List.replicate (n + 1) (.int .u32 0)) = (w.setCell ⟨g, o, none⟩ (.int .u32 ((0 : Nat) : Int))).setCells g (o + 1) (List.replicate n (.int .u32 0)) := rfl
    rw [e]
    refine ⟨us, h1, by rw [h2, List.length_set], h3, fun j hj hj2 => ?_, fun j hj => ?_, grown_trans (grown_set _ _ _ _) h6⟩
    · rcases Nat.eq_or_lt_of_le hj with rfl | hlt
      · rw [h5 o (.inl (by omega))]
        rcases Nat.lt_or_ge o zs.length with h0 | h0
        · exact lim_set_same h0
        · exact lim_out (by rw [List.length_set]; exact h0)
      · exact h4 j hlt (by omega)
    · rw [h5 j (by omega), lim_set_other (by omega)]

theorem Tryz.zero118 (w : World) : (zeroValue 118).run Tryz.prog w = .ok (.int .u32 0) w := by
  simp [zeroValue, Tryz.t118]

/-- 'clear' of the first n places of a row. -/
theorem clear_row {w : World} {ops : Array Oper} {rest : List Oper} {o : Oper} {a : Act} {Q : Exit → Act → World → Prop} (hgd : o.guard = none) (s : Operand)
    (ho : o.op = .call { callee := .builtin .clear, args := #[s], argTypes := #[25] }) (g n c : Nat) (hs : a.eval s = .slice (some ⟨g, 0, none⟩) n c)
    (zs : List Nat) (hrow : Row w g zs) (hz : okl zs) (hn : 0 < n) (hfit : n ≤ zs.length)
    (hK : ∀ w' us, Row w' g us → us.length = zs.length → okl us → (∀ j, j < n → lim us j = 0) → (∀ j, n ≤ j → lim us j = lim zs j) → w.grownBy w' (some g) → wpList Tryz.prog ops Q rest (a.put o.dst (.tuple #[])) w') : wpList Tryz.prog ops Q (o :: rest) a w := by
  have hrun := Lib.run_clear_slice (P := Tryz.prog) w 25 118 o.type (.int .u32 0) Tryz.underlying25 Tryz.zero118 rfl rfl g 0 n c hn
    (fun j hj => by rw [Nat.zero_add, hrow.cell (by omega)]; rfl) (fun j hj => by rw [Nat.zero_add]; exact hrow.frozen j)
  obtain ⟨us, h1, h2, h3, h4, h5, h6⟩ := row_zeros g n 0 w zs hrow hz
  refine wpList_plain hgd fun K hKK => ?_
  unfold Oper.wp
  simp [execOp, ho, resolve, invoke, builtin, hs, hrun, Result.andThen]
  exact hKK _ _ (hK _ us h1 h2 h3 (fun j hj => h4 j (by omega) (by omega)) (fun j hj => h5 j (by omega)) h6)

/-- What euclid leaves: the rows have changed places. -/
def EuPost (w : World) (p q n cx cy lo : Nat) (zs ws : List Nat) (e : Ending) (w' : World) : Prop :=
  e = .returned (.tuple #[.slice (some ⟨q, 0, none⟩) n cy, .slice (some ⟨p, 0, none⟩) n cx]) ∧ ∃ us, Row w' p us ∧ Row w' q ws ∧ us.length = zs.length ∧ okl us ∧ val (us.take n) = val (zs.take n) % val (ws.take n) ∧ Below lo w w'

theorem rd_part {w : World} {g n c : Nat} {zs : List Nat} (h : Row w g zs) (hz : okl zs) (hn : n ≤ zs.length) (hc : n ≤ c) (hc2 : c ≤ 9223372036854775807) : Rd w (some ⟨g, 0, none⟩) c (zs.take n) :=
  (Own.part (lo := 0) h (okl_take hz n) (Nat.zero_le _) (by rw [List.length_take]; omega) hc2 (fun i hi => by
    rw [List.length_take] at hi
    rw [Nat.zero_add]
    exact ⟨by omega, (lim_take (by omega)).symm⟩)).rd

theorem Own.far {w : World} {lo cap p : Nat} {A : Option Addr} {xs : List Nat} (h : Own w lo A cap xs) (hp : p < lo) : ∀ b o, 0 < cap → A = some ⟨b, o, none⟩ → some b ≠ some p := by
  intro b o h0 hA e
  rcases h.2.2.2 with h3 | ⟨b', o', cur, hA', hl, _⟩
  · omega
  · rw [hA] at hA'
    simp at hA' e
    omega
theorem val_of_zeros {us : List Nat} {k : Nat} (h : ∀ j, k ≤ j → j < us.length → lim us j = 0) : val us = val (us.take k) := (val_take_of_zeros h).symm

set_option maxHeartbeats 4000000 in
theorem euclid_any (w : World) (p q n cx cy lo : Nat) (zs ws : List Nat) (h1 : Row w p zs) (h2 : Row w q ws) (hz : okl zs) (hw : okl ws) (hpq : p ≠ q) (hn1 : n ≤ zs.length) (hn2 : n ≤ ws.length) (hn : n ≤ 70368744177663) (hcx : n ≤ cx) (hcx2 : cx ≤ 9223372036854775807) (hcy : n ≤ cy) (hcy2 : cy ≤ 9223372036854775807) (hlp : lo ≤ p) (hlq : lo ≤ q)
    (hv : 0 < val (ws.take n)) (hn0 : 0 < n) (hle : val (ws.take n) ≤ val (zs.take n)) :
    Calls Tryz.prog 136 #[.slice (some ⟨p, 0, none⟩) n cx, .slice (some ⟨q, 0, none⟩) n cy] w (EuPost w p q n cx cy lo zs ws) := by
  have X := Lib.hid (rd_part h1 hz hn1 hcx hcx2)
  have Y := Lib.hid (rd_part h2 hw hn2 hcy hcy2)
  have hpl := h1.lt
  have hql := h2.lt
  have HR1 := Lib.hid h1
  have HR2 := Lib.hid h2
  have HZ := Lib.hid hz
  have HV := Lib.hid hv
  have LM : (ofv (val (zs.take n) % val (ws.take n))).length ≤ n := by
    apply len_ofv_le_of_lt
    have := val_lt (okl_take hw n)
    rw [List.length_take, Nat.min_eq_left hn2] at this
    exact Nat.lt_trans (Nat.mod_lt _ hv) this
  have LX : (zs.take n).length = n := by rw [List.length_take]; omega
  have LY : (ws.take n).length = n := by rw [List.length_take]; omega
  clear h1 h2 hz hw hv hle
  go_enter Tryz.func136, Tryz.ntmps136
  go_wp2_with fail
  refine (dm_n X.out Y.out LX LY hn HV.out).mono ?_
  rintro e w1 ⟨D, cD, M, cM, rfl, ho, ho2, hb⟩
  have B1 := Lib.hid hb
  have P1 := Lib.hid (HR1.out.below hb hpl)
  have Q1 := Lib.hid (HR2.out.below hb hql)
  have M1 := Lib.hid ho2.rd
  have ML := Lib.hid (ho2)
  clear ho ho2 hb X Y
  go_wp2_with (with_reducible refine clear_row rfl (.tmp 16) rfl p n cx rfl zs P1.out HZ.out hn0 hn1 ?_)
  intro w2 us hus hul huo hu0 hu1 hgr
  have M2 := Lib.hid (M1.out.grown hgr (ML.out.far hpl))
  have Q2 := Lib.hid (Q1.out.grown hgr (by simpa using hpq.symm))
  have B2 : Hid (Below lo w w2) := (B1.out.mono (by omega)).trans (below_of_grown hgr hlp (by have := B1.out.size; omega))
  have HU := Lib.hid hus
  have HUO := Lib.hid huo
  have HU0 := Lib.hid hu0
  clear hgr hus hu1 huo hu0 M1 ML P1 Q1 B1
  generalize hr : val (zs.take n) % val (ws.take n) = r at *
  have HRR := Lib.hid hr
  clear hr
  go_wp2_with (with_reducible refine copy_row rfl (.tmp 17) (.tmp 18) rfl p 0 n cx rfl us HU.out (by omega) _ (ofv r).length _ (ofv r) rfl M2.out rfl LM ?_)
  intro w3 hr3 hgr3
  have FIN : Hid (EuPost w p q n cx cy lo zs ws (.returned (.tuple #[.slice (some ⟨q, 0, none⟩) n cy, .slice (some ⟨p, 0, none⟩) n cx])) w3) := by
    have hl := hul
    refine ⟨rfl, _, hr3, Q2.out.grown hgr3 (by simpa using hpq.symm), ?_, ?_, ?_, B2.out.trans (below_of_grown hgr3 hlp (by have := HU.out.lt; omega))⟩
    · simp; omega
    · exact okl_append (okl_ofv _) (okl_drop HUO.out _)
    · rw [HRR.out]
      have z : ∀ i, (ofv r).length ≤ i → i < ((ofv r ++ us.drop (ofv r).length).take n).length → lim ((ofv r ++ us.drop (ofv r).length).take n) i = 0 := by
        intro i hi hi2
        rw [List.length_take] at hi2
        rw [lim_take (by omega), lim_append_right hi, lim_drop, show (ofv r).length + (i - (ofv r).length) = i from by omega]
        exact HU0.out i (by omega)
      show val ((ofv r ++ us.drop (ofv r).length).take n) = r
      rw [← val_take_of_zeros z, List.take_take, Nat.min_eq_left LM, List.take_left', val_ofv]
      rfl
  clear hr3 hgr3
  go_wp2
  go_ret2
  exact FIN.out
end Go.Proofs.YtfacndibfkamgaaGreat

/-
  Contract of natural.GCD.
-/
namespace Go.Proofs.YtfacndibfkamgaaGreat
open Go.RowKit
set_option linter.unusedVariables false

/-- The two rows that hold the working numbers, n limbs of each. -/
def GcInv (w : World) (N p q n X Y : Nat) (wr : World) : Prop :=
  ∃ zs ws, Row wr p zs ∧ Row wr q ws ∧ zs.length = N ∧ ws.length = N ∧ okl zs ∧ okl ws ∧ val (zs.take n) = X ∧ val (ws.take n) = Y ∧ p ≠ q ∧ w.heap.size ≤ p ∧ w.heap.size ≤ q ∧ Below w.heap.size w wr

theorem val_take_small {xs : List Nat} {k : Nat} (h : val xs < pw k) : val (xs.take k) = val xs := by
  rcases Nat.lt_or_ge k xs.length with h1 | h1
  · have e := val_split xs k (by omega)
    rcases Nat.eq_zero_or_pos (val (xs.drop k)) with h0 | h0
    · rw [h0] at e; omega
    · have : pw k * 1 ≤ pw k * val (xs.drop k) := Nat.mul_le_mul_left _ h0
      omega
  · rw [List.take_of_length_le h1]
theorem GcInv.less {w wr : World} {N p q n X Y : Nat} (h : GcInv w N p q n X Y wr) (hle : Y ≤ X) (hn : n ≤ N) : (ofv X).length ≤ n ∧ GcInv w N p q (ofv X).length X Y wr := by
  obtain ⟨zs, ws, h1, h2, h3, h4, h5, h6, h7, h8, h9⟩ := h
  have l1 := len_ofv_le (okl_take h5 n)
  rw [h7, List.length_take] at l1
  have hX := lt_pw_len X
  refine ⟨by omega, zs, ws, h1, h2, h3, h4, h5, h6, ?_, ?_, h9⟩
  · have e : zs.take (ofv X).length = (zs.take n).take (ofv X).length := by rw [List.take_take, Nat.min_eq_left (by omega)]
    rw [e, val_take_small (by rw [h7]; exact hX), h7]
  · have e : ws.take (ofv X).length = (ws.take n).take (ofv X).length := by rw [List.take_take, Nat.min_eq_left (by omega)]
    rw [e, val_take_small (by rw [h8]; omega), h8]
theorem GcInv.rds {w wr : World} {N p q n X Y : Nat} (h : GcInv w N p q n X Y wr) (hn : n ≤ N) (hN : N ≤ 9223372036854775807) :
    ∃ us vs, us.length = n ∧ vs.length = n ∧ val us = X ∧ val vs = Y ∧ Rd wr (some ⟨p, 0, none⟩) N us ∧ Rd wr (some ⟨q, 0, none⟩) N vs := by
  obtain ⟨zs, ws, h1, h2, h3, h4, h5, h6, h7, h8, h9⟩ := h
  exact ⟨zs.take n, ws.take n, by rw [List.length_take]; omega, by rw [List.length_take]; omega, h7, h8, rd_part h1 h5 (by omega) hn hN, rd_part h2 h6 (by omega) hn hN⟩
theorem GcInv.below {w wr wr' : World} {N p q n X Y : Nat} (h : GcInv w N p q n X Y wr) (hb : Below wr.heap.size wr wr') : GcInv w N p q n X Y wr' := by
  obtain ⟨zs, ws, h1, h2, h3, h4, h5, h6, h7, h8, h9, h10, h11, h12⟩ := h
  exact ⟨zs, ws, h1.below hb h1.lt, h2.below hb h2.lt, h3, h4, h5, h6, h7, h8, h9, h10, h11, h12.trans (hb.mono h12.size)⟩

theorem gc_euclid {w wr w' : World} {N p q n X Y cx cy : Nat} (hn0 : 0 < n) (hn : n ≤ N) (hN : N ≤ 70368744177663) (h : GcInv w N p q n X Y wr) (hle : Y ≤ X) (hY : 0 < Y) :
    Calls Tryz.prog 136 #[.slice (some ⟨p, 0, none⟩) n N, .slice (some ⟨q, 0, none⟩) n N] wr fun e w' => e = .returned (.tuple #[.slice (some ⟨q, 0, none⟩) n N, .slice (some ⟨p, 0, none⟩) n N]) ∧
      ∃ X' Y', GcInv w N q p n X' Y' w' ∧ Y' ≤ X' ∧ X' + Y' < X + Y ∧ Nat.gcd X' Y' = Nat.gcd X Y := by
  obtain ⟨zs, ws, h1, h2, h3, h4, h5, h6, h7, h8, h9, h10, h11, h12⟩ := h
  refine (euclid_any wr p q n N N w.heap.size zs ws h1 h2 h5 h6 h9 (by omega) (by omega) (by omega) (by omega) (by omega) (by omega) (by omega) h10 h11 (by rw [h8]; exact hY) hn0 (by rw [h7, h8]; exact hle)).mono ?_
  rintro e w2 ⟨rfl, us, r1, r2, l1, o1, v1, b1⟩
  have hm := Nat.mod_lt X hY
  rw [h7, h8] at v1
  refine ⟨rfl, Y, X % Y, ⟨ws, us, r2, r1, h4, by omega, h6, o1, h8, v1, h9.symm, h11, h10, h12.trans b1⟩, by omega, by omega, ?_⟩
  rw [Nat.gcd_comm Y, ← Nat.gcd_rec, Nat.gcd_comm]

theorem gc_apply {w wr w' : World} {N p q n X Y : Nat} {a b c d : Int} (hn : n ≤ N) (hN : N ≤ 70368744177663) (h : GcInv w N p q n X Y wr) (G : StepGood (X : Int) (Y : Int) a b c d) (hb : b ≠ 0) :
    Calls Tryz.prog 137 #[.agg #[.int .i64 a, .int .i64 b, .int .i64 c, .int .i64 d], .slice (some ⟨p, 0, none⟩) n N, .slice (some ⟨q, 0, none⟩) n N] wr fun e w' => e = .returned (.tuple #[]) ∧
      ∃ X' Y', GcInv w N p q n X' Y' w' ∧ Y' ≤ X' ∧ X' + Y' < X + Y ∧ Nat.gcd X' Y' = Nat.gcd X Y := by
  obtain ⟨zs, ws, h1, h2, h3, h4, h5, h6, h7, h8, h9, h10, h11, h12⟩ := h
  refine (apply_any wr p q n N N w.heap.size zs ws a b c d h1 h2 h5 h6 h9 (by omega) (by omega) (by omega) h10 h11 (by rw [h7, h8]; exact G)).mono ?_
  rintro e w2 ⟨rfl, us, vs, r1, r2, l1, l2, o1, o2, v1, v2, b1⟩
  rw [h7, h8] at v1 v2
  obtain ⟨_, _, ⟨t1, t2, t3, t4⟩, gd⟩ := G
  rw [← v1, ← v2] at gd t2 t4
  refine ⟨rfl, _, _, ⟨us, vs, r1, r2, by omega, by omega, o1, o2, rfl, rfl, h9, h10, h11, h12.trans b1⟩, by omega, ?_, ?_⟩
  · rcases gd with h | h
    · exact absurd h hb
    · omega
  · exact t4

set_option maxHeartbeats 8000000 in
theorem gcd_any (A B : Option Addr) (ca cb : Nat) (xs ys : List Nat) (w : World) (h : Rd w A ca xs) (h' : Rd w B cb ys) (hn : xs.length ≤ 70368744177663) (hn' : ys.length ≤ 70368744177663) :
    Calls Tryz.prog 103 #[.slice A xs.length ca, .slice B ys.length cb] w (Gives w (Nat.gcd (val xs) (val ys))) := by
  have W := Lib.hid (wp_any A B ca cb xs ys w h h' hn hn')
  have lx := len_ofv_le h.ok
  have ly := len_ofv_le h'.ok
  have e := gcd_max_min (val xs) (val ys)
  rw [← e]
  have hmin : min (val xs) (val ys) ≤ max (val xs) (val ys) := by omega
  have hN0 : (ofv (max (val xs) (val ys))).length ≤ 70368744177663 := by
    rcases Nat.le_total (val xs) (val ys) with h1 | h1
    · rw [Nat.max_eq_right h1]; omega
    · rw [Nat.max_eq_left h1]; omega
  clear e h h' lx ly
  generalize max (val xs) (val ys) = mx at *
  generalize min (val xs) (val ys) = mn at *
  have okx := Lib.hid (okl_ofv mx)
  have vx := Lib.hid (val_ofv mx)
  generalize hG : Nat.gcd mx mn = G at *
  have HG := Lib.hid hG
  clear hG
  generalize hNN : (ofv mx).length = N at *
  have HN := Lib.hid hNN
  clear hNN
  go_enter Tryz.func103, Tryz.ntmps103
  go_wp2_with fail
  refine W.out.mono ?_
  rintro e w1 ⟨g1, g2, yl, rfl, hg1, hg12, hr1, hr2, hyl, hyo, hyv, hb⟩
  have I0 : Hid (GcInv w N g1 g2 (ofv mx).length mx mn w1) := by
    refine ⟨ofv mx, yl, hr1, hr2, HN.out, by rw [hyl]; exact HN.out, okx.out, hyo, ?_, ?_, by omega, hg1, by omega, hb⟩
    · rw [List.take_length]; exact vx.out
    · rw [← hyl, List.take_length]; exact hyv
  have L0 := Lib.hid hmin
  clear hr1 hr2 hyl hyo hyv hb W
  rw [HN.out]
  have E0 : Hid (.slice (some ⟨g1, 0, none⟩) N N = (.slice (some ⟨g1, 0, none⟩) (ofv mx).length N : Value)) := by show _ = _; rw [HN.out]
  have E1 : Hid (.slice (some ⟨g2, 0, none⟩) N N = (.slice (some ⟨g2, 0, none⟩) (ofv mx).length N : Value)) := by show _ = _; rw [HN.out]
  have hNle : (ofv mx).length ≤ N := by rw [HN.out]; exact Nat.le_refl _
  go_wp2
  go_loopw [5, 6] (fun x y wr => ∃ p q X Y : Nat, x = .slice (some ⟨p, 0, none⟩) (ofv X).length N ∧ y = .slice (some ⟨q, 0, none⟩) (ofv X).length N ∧ (ofv X).length ≤ N ∧ Hid (Y ≤ X) ∧ Hid (Nat.gcd X Y = G) ∧ Hid (GcInv w N p q (ofv X).length X Y wr)) (fun x y wr => rdv wr x + rdv wr y)
  case atStart => exact ⟨g1, g2, mx, mn, E0.out, E1.out, hNle, L0.out, HG.out, I0.out⟩
  case round =>
    clear E0 E1 I0 L0 hmin
    obtain ⟨p, q, X, Y, rfl, rfl, hl, hle, hg, inv⟩ := hrel
    obtain ⟨us, vs, ul, vl, uv, vv, ru, rv⟩ := inv.out.rds hl (by omega)
    have RU := Lib.hid ru
    have RV := Lib.hid rv
    have UV := Lib.hid uv
    have VV := Lib.hid vv
    have BW : Hid (Below w.heap.size w wr) := by obtain ⟨zs, ws, _, _, _, _, _, _, _, _, _, _, _, b⟩ := inv.out; exact b
    have OU : Hid (Own wr w.heap.size (some ⟨p, 0, none⟩) N (ofv X)) := by
      obtain ⟨zs, ws, h1, h2, h3, h4, h5, h6, h7, h8, h9, h10, h11, h12⟩ := inv.out
      have e : zs.take (ofv X).length = ofv X := by
        have := take_len_ofv (okl_take h5 (ofv X).length)
        rw [h7, List.take_take, Nat.min_self] at this
        exact this
      have := Own.part (lo := w.heap.size) (xs := ofv X) (cap := N) (o := 0) h1 (okl_ofv X) h10 hl (by omega) (fun i hi => by
        rw [Nat.zero_add, ← e]
        exact ⟨by omega, (lim_take hi).symm⟩)
      exact this
    clear ru rv uv vv
    rcases Nat.lt_or_ge 2 (ofv X).length with h2 | h2
    · rcases Nat.eq_zero_or_pos Y with h0 | h0
      · have hg' := hg.out
        have HS := sig_n RV.out vl
        have e0 : (ofv (val vs)).length = 0 := by rw [VV.out, h0, ofv_zero]; rfl
        rw [e0] at HS
        have HHS := Lib.hid HS
        rw [h0, Nat.gcd_zero_right] at hg'
        have FIN : Hid (Gives w G (.returned (.slice (some ⟨p, 0, none⟩) (ofv X).length N)) wr) := by
          rw [← hg']; exact ⟨_, N, rfl, OU.out, BW.out⟩
        clear hg' HS e0
        go_wp2_with fail
        refine HHS.out.mono ?_
        rintro e w' ⟨rfl, rfl⟩
        go_wp2
        go_ret
        exact FIN.out
      · have hpos := len_pos h0
        have HS := sig_n RV.out vl
        rw [VV.out] at HS
        have HHS := Lib.hid HS
        have X64 : 18446744073709551616 ≤ X := by
          have := pw_le_of_len h2
          have e : pw 2 = 18446744073709551616 := by rw [pw_succ, pw_succ, pw_zero]
          omega
        have HX64 := Lib.hid X64
        clear HS X64
        go_wp2_with fail
        refine HHS.out.mono ?_
        rintro e w' ⟨rfl, rfl⟩
        go_wp2_with fail
        refine (findStep_n RU.out RV.out ul vl (by omega) (by rw [UV.out]; exact HX64.out) (by rw [UV.out, VV.out]; exact hle.out)).mono ?_
        rw [UV.out, VV.out]
        rintro e w2 ⟨a, b, c, d, rfl, good, hb⟩
        have GOOD := Lib.hid good
        have I2 := Lib.hid (inv.out.below hb)
        clear good hb
        have M1 : Hid (rdv wr (.slice (some ⟨p, 0, none⟩) (ofv X).length N) + rdv wr (.slice (some ⟨q, 0, none⟩) (ofv X).length N) = X + Y) := by
          show _ = _
          rw [rdv_rd RU.out ul, rdv_rd RV.out vl, UV.out, VV.out]
        have HY0 := Lib.hid h0
        clear h0 hpos RU RV UV VV ul vl
        by_cases hb0 : b = 0
        · subst hb0
          go_wp2_with fail
          generalize hw3 : w2.alloc _ = w3
          have I3 : Hid (GcInv w N p q (ofv X).length X Y w3) := by rw [← hw3]; exact I2.out.below ((Below.refl _ _).alloc (Nat.le_refl _) _)
          clear hw3 I2
          refine (gc_euclid (w' := w3) (cx := N) (cy := N) (by omega) hl hN0 I3.out hle.out HY0.out).mono ?_
          rintro e w4 ⟨rfl, X', Y', ni, nle, nlt, ng⟩
          obtain ⟨hn1, J⟩ := ni.less nle hl
          obtain ⟨us', vs', ul', vl', uv', vv', ru', rv'⟩ := ni.rds hl (by omega)
          have HS2 := sig_n ru' ul'
          rw [uv'] at HS2
          have HHS2 := Lib.hid HS2
          have HJ := Lib.hid J
          have NLE := Lib.hid nle
          have NLT := Lib.hid nlt
          have NG : Hid (Nat.gcd X' Y' = G) := by show _ = _; rw [ng]; exact hg.out
          have hn2 : (ofv X').length ≤ N := by omega
          have M2 : Hid (∀ w', w' = w4 → rdv w' (.slice (some ⟨q, 0, none⟩) (ofv X').length N) + rdv w' (.slice (some ⟨p, 0, none⟩) (ofv X').length N) = X' + Y') := by
            rintro w' rfl
            obtain ⟨us2, vs2, ul2, vl2, uv2, vv2, ru2, rv2⟩ := J.rds hn2 (by omega)
            rw [rdv_rd ru2 ul2, rdv_rd rv2 vl2, uv2, vv2]
          clear HS2 J nle nlt ng ru' rv' uv' vv' ni
          go_wp2_with fail
          refine HHS2.out.mono ?_
          rintro e w5 ⟨rfl, rfl⟩
          go_wp2
          go_roundw
          case rel => exact ⟨q, p, X', Y', rfl, rfl, hn2, NLE.out, NG.out, HJ.out⟩
          case measure =>
            rw [M2.out _ rfl, M1.out]
            exact NLT.out
        · have hb1 : (b == 0) = false := by simpa using hb0
          go_wp2_with fail
          generalize hw3 : w2.alloc _ = w3
          have I3 : Hid (GcInv w N p q (ofv X).length X Y w3) := by rw [← hw3]; exact I2.out.below ((Below.refl _ _).alloc (Nat.le_refl _) _)
          clear hw3 I2
          refine (gc_apply (w' := w3) hl hN0 I3.out GOOD.out hb0).mono ?_
          rintro e w4 ⟨rfl, X', Y', ni, nle, nlt, ng⟩
          obtain ⟨hn1, J⟩ := ni.less nle hl
          obtain ⟨us', vs', ul', vl', uv', vv', ru', rv'⟩ := ni.rds hl (by omega)
          have HS2 := sig_n ru' ul'
          rw [uv'] at HS2
          have HHS2 := Lib.hid HS2
          have HJ := Lib.hid J
          have NLE := Lib.hid nle
          have NLT := Lib.hid nlt
          have NG : Hid (Nat.gcd X' Y' = G) := by show _ = _; rw [ng]; exact hg.out
          have hn2 : (ofv X').length ≤ N := by omega
          have M2 : Hid (∀ w', w' = w4 → rdv w' (.slice (some ⟨p, 0, none⟩) (ofv X').length N) + rdv w' (.slice (some ⟨q, 0, none⟩) (ofv X').length N) = X' + Y') := by
            rintro w' rfl
            obtain ⟨us2, vs2, ul2, vl2, uv2, vv2, ru2, rv2⟩ := J.rds hn2 (by omega)
            rw [rdv_rd ru2 ul2, rdv_rd rv2 vl2, uv2, vv2]
          clear HS2 J nle nlt ng ru' rv' uv' vv' ni
          go_wp2_with fail
          refine HHS2.out.mono ?_
          rintro e w5 ⟨rfl, rfl⟩
          go_wp2
          go_roundw
          case rel => exact ⟨p, q, X', Y', rfl, rfl, hn2, NLE.out, NG.out, HJ.out⟩
          case measure =>
            rw [M2.out _ rfl, M1.out]
            exact NLT.out
    · have bX : X < 18446744073709551616 := by
        have := val_two (okl_ofv X) h2
        rwa [val_ofv] at this
      have b1 : X ≤ 18446744073709551615 := by omega
      have b2 : Y ≤ 18446744073709551615 := by have := hle.out; omega
      have bg : Nat.gcd X Y < 18446744073709551616 := by
        rcases Nat.eq_zero_or_pos X with e | e
        · rw [e, Nat.gcd_zero_left]; omega
        · have := Nat.le_of_dvd e (Nat.gcd_dvd_left X Y); omega
      have F := Lib.hid (fun w => from_z (w := w) (z := ((Nat.gcd X Y : Nat) : Int)) rfl bg)
      clear bg inv OU
      go_wp2_with fail
      refine (window_small RU.out ul h2).mono ?_
      rw [UV.out]
      rintro e w2 ⟨rfl, hq⟩
      have hb := below_q hq
      have B2 : Hid (Below w.heap.size w w2) := BW.out.trans (hb.mono BW.out.size)
      have RV2 := Lib.hid (RV.out.below hb)
      clear hq hb
      go_wp2_with fail
      refine (window_small RV2.out vl h2).mono ?_
      rw [VV.out]
      rintro e w3 ⟨rfl, hq⟩
      have hb := below_q hq
      have B3 : Hid (Below w.heap.size w w3) := B2.out.trans (hb.mono B2.out.size)
      clear hq hb B2
      go_wp2_with fail
      refine (gcd_words X Y _ b1 b2).mono ?_
      rintro e w4 ⟨rfl, hq⟩
      have hb := below_q hq
      have B4 : Hid (Below w.heap.size w w4) := B3.out.trans (hb.mono B3.out.size)
      clear hq hb B3
      go_wp2_with fail
      refine (F.out _).mono ?_
      rw [hg.out]
      rintro e w5 ⟨R, c, rfl, ho, hb5⟩
      have FIN : Hid (Gives w G (.returned (.slice R (ofv G).length c)) w5) := ⟨R, c, rfl, ho.mono B4.out.size, B4.out.trans (hb5.mono B4.out.size)⟩
      clear ho hb5
      go_wp2
      go_ret
      exact FIN.out
theorem gcd_n {A B : Option Addr} {ca cb n m : Nat} {xs ys : List Nat} {w : World} (h : Rd w A ca xs) (h' : Rd w B cb ys) (hn : xs.length = n) (hm : ys.length = m) (hl : n ≤ 70368744177663) (hl' : m ≤ 70368744177663) :
    Calls Tryz.prog 103 #[.slice A n ca, .slice B m cb] w (Gives w (Nat.gcd (val xs) (val ys))) := by
  subst hn hm; exact gcd_any A B ca cb xs ys w h h' hl hl'
end Go.Proofs.YtfacndibfkamgaaGreat
