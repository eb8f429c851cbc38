/-
  The walk of the law NaturalGCD: GCD returns the greatest common divisor, its cofactors have no common divisor, and a common factor can be taken out.
-/
import Derived.Test.YtmmlfmjelhninaaGcd
import Derived.Test.YtmmlfmjelhninaaNaturalScaling
import Derived.Test.YtmmlfmjelhninaaAwake
namespace Go.Proofs.Ytmmlfmjelhninaa
open Go.RowKit
set_option linter.unusedVariables false

theorem len_gcd (a b : Nat) : (ofv (Nat.gcd a b)).length ≤ (ofv a).length + (ofv b).length := by
  rcases Nat.eq_zero_or_pos a with h | h
  · rw [h, Nat.gcd_zero_left]; omega
  · have : Nat.gcd a b ≤ a := Nat.le_of_dvd h (Nat.gcd_dvd_left a b)
    have := len_ofv_le_of_lt (Nat.lt_of_le_of_lt this (lt_pw_len a))
    omega
theorem len_gcd_max (a b n : Nat) (ha : (ofv a).length ≤ n) (hb : (ofv b).length ≤ n) : (ofv (Nat.gcd a b)).length ≤ n := by
  rcases Nat.eq_zero_or_pos a with h | h
  · rw [h, Nat.gcd_zero_left]; exact hb
  · have : Nat.gcd a b ≤ a := Nat.le_of_dvd h (Nat.gcd_dvd_left a b)
    have := len_ofv_le_of_lt (Nat.lt_of_le_of_lt this (lt_pw_len a))
    omega

set_option maxHeartbeats 8000000 in
theorem naturalGCD_walk (A : Option Addr) (ca : Nat) (xs : List Nat) (B : Option Addr) (cb : Nat) (ys : List Nat) (C : Option Addr) (cc : Nat) (zs : List Nat) (w : World) (h : Rd w A ca xs) (hc : ca * 4 ≤ 140737488351232) (h' : Rd w B cb ys) (hc' : cb * 4 ≤ 140737488351232) (h'' : Rd w C cc zs) (hc'' : cc * 4 ≤ 140737488351232) :
    Calls Try.prog 9 #[.slice A xs.length ca, .slice B ys.length cb, .slice C zs.length cc] w fun e w' => e = .returned (.bool true) ∧ Below w.heap.size w w' := by
  have hn1 : xs.length ≤ 35184372087808 := by have := h.len; omega
  have hn2 : ys.length ≤ 35184372087808 := by have := h'.len; omega
  have hn3 : zs.length ≤ 35184372087808 := by have := h''.len; omega
  have k1 := len_ofv_le h.ok
  have k2 := len_ofv_le h'.ok
  have k3 := len_ofv_le h''.ok
  have m1 := len_mul (val xs) (val zs)
  have m2 := len_mul (val ys) (val zs)
  have lg := len_gcd_max (val xs) (val ys) 35184372087808 (by omega) (by omega)
  have mg := len_mul (Nat.gcd (val xs) (val ys)) (val zs)
  have E1 : Hid (Nat.gcd (val xs * val zs) (val ys * val zs) = Nat.gcd (val xs) (val ys) * val zs) := Nat.gcd_mul_right _ _ _
  have E0 : Hid ((ofv 0).length = 0) := by show _ = _; rw [ofv_zero]; rfl
  have D1 := Nat.gcd_dvd_left (val xs) (val ys)
  have D2 := Nat.gcd_dvd_right (val xs) (val ys)
  have R1 : Hid (val xs % Nat.gcd (val xs) (val ys) = 0) := Nat.mod_eq_zero_of_dvd D1
  have R2 : Hid (val ys % Nat.gcd (val xs) (val ys) = 0) := Nat.mod_eq_zero_of_dvd D2
  have H1 := Lib.hid h
  have H2 := Lib.hid h'
  have H3 := Lib.hid h''
  have hq1 := len_ofv_le_of_lt (Nat.lt_of_le_of_lt (Nat.div_le_self (val xs) (Nat.gcd (val xs) (val ys))) (lt_pw_len (val xs)))
  have hq2 := len_ofv_le_of_lt (Nat.lt_of_le_of_lt (Nat.div_le_self (val ys) (Nat.gcd (val xs) (val ys))) (lt_pw_len (val ys)))
  have ZX : Hid (Nat.gcd (val xs) (val ys) = 0 → nbits (val xs) = 0) := by
    intro e
    rw [Nat.eq_zero_of_gcd_eq_zero_left e, nbits_zero]
  have ZY : Hid (Nat.gcd (val xs) (val ys) = 0 → nbits (val ys) = 0) := by
    intro e
    rw [Nat.eq_zero_of_gcd_eq_zero_right e, nbits_zero]
  have C1 : Hid (0 < Nat.gcd (val xs) (val ys) → Nat.gcd (val xs / Nat.gcd (val xs) (val ys)) (val ys / Nat.gcd (val xs) (val ys)) = 1) := by
    intro e
    rcases Nat.eq_zero_or_pos (val xs) with h1 | h1
    · refine Nat.gcd_div_gcd_div_gcd_of_pos_right ?_
      rw [h1, Nat.gcd_zero_left] at e
      exact e
    · exact Nat.gcd_div_gcd_div_gcd_of_pos_left h1
  clear h h' h'' hc hc' hc'' D1 D2
  generalize hg : Nat.gcd (val xs) (val ys) = g at *
  have HG := Lib.hid hg
  clear hg
  rcases Nat.eq_zero_or_pos g with h0 | h0
  · have HV := Lib.hid h0
    have ZX2 : Hid (nbits (val xs) = 0) := ZX.out h0
    have ZY2 : Hid (nbits (val ys) = 0) := ZY.out h0
    clear h0 ZX ZY
    go_enter Try.func9, Try.ntmps9
    go_wp2_with fail
    refine (gcd_n H1.out H2.out rfl rfl (by omega) (by omega)).mono ?_
    rw [HG.out]
    rintro e w1 ⟨G, cG, rfl, ho, hb⟩
    have B1 : Hid (Below w.heap.size w w1) := hb
    have P_1 := Lib.hid (H1.out.below hb)
    have Q_1 := Lib.hid (H2.out.below hb)
    have R_1 := Lib.hid (H3.out.below hb)
    have G_1 := Lib.hid ho.rd
    clear hb ho
    go_wp2_with fail
    refine (awake_any _).mono ?_
    rintro e w2 ⟨rfl, hb⟩
    have B2 : Hid (Below w.heap.size w w2) := B1.out.trans (hb.mono B1.out.size)
    have P_2 := Lib.hid (P_1.out.below hb)
    have Q_2 := Lib.hid (Q_1.out.below hb)
    have R_2 := Lib.hid (R_1.out.below hb)
    have G_2 := Lib.hid (G_1.out.below hb)
    clear hb P_1 Q_1 R_1 G_1 B1
    go_wp2_with fail
    refine (rgcd_n P_2.out Q_2.out rfl rfl (by omega) (by omega)).mono ?_
    rw [HG.out]
    rintro e w3 ⟨S, cS, rfl, ho, hb⟩
    have B3 : Hid (Below w.heap.size w w3) := B2.out.trans (hb.mono B2.out.size)
    have P_3 := Lib.hid (P_2.out.below hb)
    have Q_3 := Lib.hid (Q_2.out.below hb)
    have R_3 := Lib.hid (R_2.out.below hb)
    have G_3 := Lib.hid (G_2.out.below hb)
    have S_3 := Lib.hid ho.rd
    clear hb ho P_2 Q_2 R_2 G_2 B2
    go_wp2_with fail
    refine (equal_n G_3.out S_3.out rfl rfl rfl).mono ?_
    rintro e w4 ⟨rfl, hq⟩
    have hb := below_q hq
    have B4 : Hid (Below w.heap.size w w4) := B3.out.trans (hb.mono B3.out.size)
    have P_4 := Lib.hid (P_3.out.below hb)
    have Q_4 := Lib.hid (Q_3.out.below hb)
    have R_4 := Lib.hid (R_3.out.below hb)
    have G_4 := Lib.hid (G_3.out.below hb)
    clear hb hq P_3 Q_3 R_3 G_3 S_3 B3
    go_wp2_with fail
    refine (mul_n P_4.out R_4.out rfl rfl (by omega)).mono ?_
    rintro e w5 ⟨S, cS, rfl, ho, hb⟩
    have B5 : Hid (Below w.heap.size w w5) := B4.out.trans (hb.mono B4.out.size)
    have P_5 := Lib.hid (P_4.out.below hb)
    have Q_5 := Lib.hid (Q_4.out.below hb)
    have R_5 := Lib.hid (R_4.out.below hb)
    have G_5 := Lib.hid (G_4.out.below hb)
    have S_5 := Lib.hid ho.rd
    clear hb ho P_4 Q_4 R_4 G_4 B4
    go_wp2_with fail
    refine (mul_n Q_5.out R_5.out rfl rfl (by omega)).mono ?_
    rintro e w6 ⟨T, cT, rfl, ho, hb⟩
    have B6 : Hid (Below w.heap.size w w6) := B5.out.trans (hb.mono B5.out.size)
    have P_6 := Lib.hid (P_5.out.below hb)
    have Q_6 := Lib.hid (Q_5.out.below hb)
    have R_6 := Lib.hid (R_5.out.below hb)
    have G_6 := Lib.hid (G_5.out.below hb)
    have S_6 := Lib.hid (S_5.out.below hb)
    have T_6 := Lib.hid ho.rd
    clear hb ho P_5 Q_5 R_5 G_5 S_5 B5
    go_wp2_with fail
    refine (gcd_n S_6.out T_6.out rfl rfl (by omega) (by omega)).mono ?_
    rw [val_ofv, val_ofv, E1.out]
    rintro e w7 ⟨U, cU, rfl, ho, hb⟩
    have B7 : Hid (Below w.heap.size w w7) := B6.out.trans (hb.mono B6.out.size)
    have P_7 := Lib.hid (P_6.out.below hb)
    have Q_7 := Lib.hid (Q_6.out.below hb)
    have R_7 := Lib.hid (R_6.out.below hb)
    have G_7 := Lib.hid (G_6.out.below hb)
    have U_7 := Lib.hid ho.rd
    clear hb ho P_6 Q_6 R_6 G_6 S_6 T_6 B6
    go_wp2_with fail
    refine (mul_n G_7.out R_7.out rfl rfl (by omega)).mono ?_
    rw [val_ofv]
    rintro e w8 ⟨S, cS, rfl, ho, hb⟩
    have B8 : Hid (Below w.heap.size w w8) := B7.out.trans (hb.mono B7.out.size)
    have P_8 := Lib.hid (P_7.out.below hb)
    have Q_8 := Lib.hid (Q_7.out.below hb)
    have G_8 := Lib.hid (G_7.out.below hb)
    have U_8 := Lib.hid (U_7.out.below hb)
    have S_8 := Lib.hid ho.rd
    clear hb ho P_7 Q_7 R_7 G_7 U_7 B7
    go_wp2_with fail
    refine (equal_n U_8.out S_8.out rfl rfl rfl).mono ?_
    rintro e w9 ⟨rfl, hq⟩
    have hb := below_q hq
    have B9 : Hid (Below w.heap.size w w9) := B8.out.trans (hb.mono B8.out.size)
    have P_9 := Lib.hid (P_8.out.below hb)
    have Q_9 := Lib.hid (Q_8.out.below hb)
    have G_9 := Lib.hid (G_8.out.below hb)
    clear hb hq P_8 Q_8 G_8 U_8 S_8 B8
    go_wp2_with fail
    refine (dm_zero _ _ _ _ _ _ _ P_9.out G_9.out (by rw [val_ofv]; exact HV.out)).mono ?_
    rintro e w10 ⟨rfl, hb⟩
    have B10 : Hid (Below w.heap.size w w10) := B9.out.trans (hb.mono B9.out.size)
    have P_10 := Lib.hid (P_9.out.below hb)
    have Q_10 := Lib.hid (Q_9.out.below hb)
    have G_10 := Lib.hid (G_9.out.below hb)
    clear hb P_9 Q_9 G_9 B9
    go_wp2_with fail
    refine (dm_zero _ _ _ _ _ _ _ Q_10.out G_10.out (by rw [val_ofv]; exact HV.out)).mono ?_
    rintro e w11 ⟨rfl, hb⟩
    have B11 : Hid (Below w.heap.size w w11) := B10.out.trans (hb.mono B10.out.size)
    have P_11 := Lib.hid (P_10.out.below hb)
    have Q_11 := Lib.hid (Q_10.out.below hb)
    clear hb P_10 Q_10 G_10 B10
    go_wp2_with fail
    refine (bits_n P_11.out rfl (by omega)).mono ?_
    rw [ZX2.out]
    rintro e w' ⟨rfl, rfl⟩
    go_wp2_with fail
    refine (bits_n Q_11.out rfl (by omega)).mono ?_
    rw [ZY2.out]
    rintro e w' ⟨rfl, rfl⟩
    go_wp2
    go_ret
    exact ⟨rfl, B11.out⟩
  · have HV := Lib.hid h0
    have C2 : Hid (Nat.gcd (val xs / g) (val ys / g) = 1) := C1.out h0
    clear h0 C1 ZX ZY
    go_enter Try.func9, Try.ntmps9
    go_wp2_with fail
    refine (gcd_n H1.out H2.out rfl rfl (by omega) (by omega)).mono ?_
    rw [HG.out]
    rintro e w1 ⟨G, cG, rfl, ho, hb⟩
    have B1 : Hid (Below w.heap.size w w1) := hb
    have P_1 := Lib.hid (H1.out.below hb)
    have Q_1 := Lib.hid (H2.out.below hb)
    have R_1 := Lib.hid (H3.out.below hb)
    have G_1 := Lib.hid ho.rd
    clear hb ho
    go_wp2_with fail
    refine (awake_any _).mono ?_
    rintro e w2 ⟨rfl, hb⟩
    have B2 : Hid (Below w.heap.size w w2) := B1.out.trans (hb.mono B1.out.size)
    have P_2 := Lib.hid (P_1.out.below hb)
    have Q_2 := Lib.hid (Q_1.out.below hb)
    have R_2 := Lib.hid (R_1.out.below hb)
    have G_2 := Lib.hid (G_1.out.below hb)
    clear hb P_1 Q_1 R_1 G_1 B1
    go_wp2_with fail
    refine (rgcd_n P_2.out Q_2.out rfl rfl (by omega) (by omega)).mono ?_
    rw [HG.out]
    rintro e w3 ⟨S, cS, rfl, ho, hb⟩
    have B3 : Hid (Below w.heap.size w w3) := B2.out.trans (hb.mono B2.out.size)
    have P_3 := Lib.hid (P_2.out.below hb)
    have Q_3 := Lib.hid (Q_2.out.below hb)
    have R_3 := Lib.hid (R_2.out.below hb)
    have G_3 := Lib.hid (G_2.out.below hb)
    have S_3 := Lib.hid ho.rd
    clear hb ho P_2 Q_2 R_2 G_2 B2
    go_wp2_with fail
    refine (equal_n G_3.out S_3.out rfl rfl rfl).mono ?_
    rintro e w4 ⟨rfl, hq⟩
    have hb := below_q hq
    have B4 : Hid (Below w.heap.size w w4) := B3.out.trans (hb.mono B3.out.size)
    have P_4 := Lib.hid (P_3.out.below hb)
    have Q_4 := Lib.hid (Q_3.out.below hb)
    have R_4 := Lib.hid (R_3.out.below hb)
    have G_4 := Lib.hid (G_3.out.below hb)
    clear hb hq P_3 Q_3 R_3 G_3 S_3 B3
    go_wp2_with fail
    refine (mul_n P_4.out R_4.out rfl rfl (by omega)).mono ?_
    rintro e w5 ⟨S, cS, rfl, ho, hb⟩
    have B5 : Hid (Below w.heap.size w w5) := B4.out.trans (hb.mono B4.out.size)
    have P_5 := Lib.hid (P_4.out.below hb)
    have Q_5 := Lib.hid (Q_4.out.below hb)
    have R_5 := Lib.hid (R_4.out.below hb)
    have G_5 := Lib.hid (G_4.out.below hb)
    have S_5 := Lib.hid ho.rd
    clear hb ho P_4 Q_4 R_4 G_4 B4
    go_wp2_with fail
    refine (mul_n Q_5.out R_5.out rfl rfl (by omega)).mono ?_
    rintro e w6 ⟨T, cT, rfl, ho, hb⟩
    have B6 : Hid (Below w.heap.size w w6) := B5.out.trans (hb.mono B5.out.size)
    have P_6 := Lib.hid (P_5.out.below hb)
    have Q_6 := Lib.hid (Q_5.out.below hb)
    have R_6 := Lib.hid (R_5.out.below hb)
    have G_6 := Lib.hid (G_5.out.below hb)
    have S_6 := Lib.hid (S_5.out.below hb)
    have T_6 := Lib.hid ho.rd
    clear hb ho P_5 Q_5 R_5 G_5 S_5 B5
    go_wp2_with fail
    refine (gcd_n S_6.out T_6.out rfl rfl (by omega) (by omega)).mono ?_
    rw [val_ofv, val_ofv, E1.out]
    rintro e w7 ⟨U, cU, rfl, ho, hb⟩
    have B7 : Hid (Below w.heap.size w w7) := B6.out.trans (hb.mono B6.out.size)
    have P_7 := Lib.hid (P_6.out.below hb)
    have Q_7 := Lib.hid (Q_6.out.below hb)
    have R_7 := Lib.hid (R_6.out.below hb)
    have G_7 := Lib.hid (G_6.out.below hb)
    have U_7 := Lib.hid ho.rd
    clear hb ho P_6 Q_6 R_6 G_6 S_6 T_6 B6
    go_wp2_with fail
    refine (mul_n G_7.out R_7.out rfl rfl (by omega)).mono ?_
    rw [val_ofv]
    rintro e w8 ⟨S, cS, rfl, ho, hb⟩
    have B8 : Hid (Below w.heap.size w w8) := B7.out.trans (hb.mono B7.out.size)
    have P_8 := Lib.hid (P_7.out.below hb)
    have Q_8 := Lib.hid (Q_7.out.below hb)
    have G_8 := Lib.hid (G_7.out.below hb)
    have U_8 := Lib.hid (U_7.out.below hb)
    have S_8 := Lib.hid ho.rd
    clear hb ho P_7 Q_7 R_7 G_7 U_7 B7
    go_wp2_with fail
    refine (equal_n U_8.out S_8.out rfl rfl rfl).mono ?_
    rintro e w9 ⟨rfl, hq⟩
    have hb := below_q hq
    have B9 : Hid (Below w.heap.size w w9) := B8.out.trans (hb.mono B8.out.size)
    have P_9 := Lib.hid (P_8.out.below hb)
    have Q_9 := Lib.hid (Q_8.out.below hb)
    have G_9 := Lib.hid (G_8.out.below hb)
    clear hb hq P_8 Q_8 G_8 U_8 S_8 B8
    go_wp2_with fail
    refine (dm_n P_9.out G_9.out rfl rfl (by omega) (by rw [val_ofv]; exact HV.out)).mono ?_
    rw [val_ofv, R1.out]
    rintro e w10 ⟨D, cD, M, cM, rfl, ho, ho2, hb⟩
    have B10 : Hid (Below w.heap.size w w10) := B9.out.trans (hb.mono B9.out.size)
    have Q_10 := Lib.hid (Q_9.out.below hb)
    have G_10 := Lib.hid (G_9.out.below hb)
    have D_10 := Lib.hid ho.rd
    have M_10 := Lib.hid ho2.rd
    clear hb ho ho2 P_9 Q_9 G_9 B9
    rw [E0.out]
    go_wp2_with fail
    refine (dm_n Q_10.out G_10.out rfl rfl (by omega) (by rw [val_ofv]; exact HV.out)).mono ?_
    rw [val_ofv, R2.out]
    rintro e w11 ⟨E, cE, N, cN, rfl, ho, ho2, hb⟩
    have B11 : Hid (Below w.heap.size w w11) := B10.out.trans (hb.mono B10.out.size)
    have D_11 := Lib.hid (D_10.out.below hb)
    have E_11 := Lib.hid ho.rd
    have N_11 := Lib.hid ho2.rd
    clear hb ho ho2 Q_10 G_10 D_10 M_10 B10
    rw [E0.out]
    go_wp2_with fail
    refine (gcd_n D_11.out E_11.out rfl rfl (by omega) (by omega)).mono ?_
    rw [val_ofv, val_ofv, C2.out]
    rintro e w12 ⟨S, cS, rfl, ho, hb⟩
    have B12 : Hid (Below w.heap.size w w12) := B11.out.trans (hb.mono B11.out.size)
    have S_12 := Lib.hid ho.rd
    clear hb ho D_11 E_11 N_11 B11
    go_wp2_with fail
    refine (equal_n (S_12.out.below ((Below.refl _ _).alloc (Nat.le_refl _) _)) (rd_row (row_new rfl rfl) (okl1 (by omega)) rfl (by simp)) o1 rfl rfl).mono ?_
    rintro e w13 ⟨rfl, hq⟩
    have hb0 := below_q hq
    have hb : Below w12.heap.size w12 w13 := ((Below.refl _ w12).alloc (Nat.le_refl _) _).trans (hb0.mono (by simp <;> omega))
    clear hb0
    have B13 : Hid (Below w.heap.size w w13) := B12.out.trans (hb.mono B12.out.size)
    clear hb hq S_12 B12
    go_wp2
    go_ret
    exact ⟨rfl, B13.out⟩
end Go.Proofs.Ytmmlfmjelhninaa
