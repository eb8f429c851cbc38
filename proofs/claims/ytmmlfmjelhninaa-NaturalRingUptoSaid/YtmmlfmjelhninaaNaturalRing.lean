/-
  The walk of the law NaturalRing, for arguments of at most 1048576 places: addition and multiplication are commutative, associative and distributive.
-/
import Derived.Test.YtmmlfmjelhninaaNaturalDivides
import Derived.Test.YtmmlfmjelhninaaNaturalScaling
namespace Go.Proofs.Ytmmlfmjelhninaa
open Go.RowKit
set_option linter.unusedVariables false

theorem len_add (a b : Nat) : (ofv (a + b)).length ≤ (ofv a).length + (ofv b).length + 1 := by
  apply len_ofv_le_of_lt
  have h1 := lt_pw_len a
  have h2 := lt_pw_len b
  have h3 := pw_le (show (ofv a).length ≤ (ofv a).length + (ofv b).length by omega)
  have h4 := pw_le (show (ofv b).length ≤ (ofv a).length + (ofv b).length by omega)
  rw [pw_succ]
  omega

set_option maxHeartbeats 8000000 in
theorem naturalRing_walk (A : Option Addr) (ca : Nat) (xs : List Nat) (B : Option Addr) (cb : Nat) (ys : List Nat) (C : Option Addr) (cc : Nat) (zs : List Nat) (w : World) (h : Rd w A ca xs) (hc : ca ≤ 1048576) (h' : Rd w B cb ys) (hc' : cb ≤ 1048576) (h'' : Rd w C cc zs) (hc'' : cc ≤ 1048576) :
    Calls Try.prog 8 #[.slice A xs.length ca, .slice B ys.length cb, .slice C zs.length cc] w fun e w' => e = .returned (.bool true) ∧ Below w.heap.size w w' := by
  have hn1 : xs.length ≤ 1048576 := by have := h.len; omega
  have hn2 : ys.length ≤ 1048576 := by have := h'.len; omega
  have hn3 : zs.length ≤ 1048576 := by have := h''.len; omega
  have k1 := len_ofv_le h.ok
  have k2 := len_ofv_le h'.ok
  have k3 := len_ofv_le h''.ok
  have a1 := len_add (val xs) (val ys)
  have a2 := len_add (val ys) (val zs)
  have m1 := len_mul (val xs) (val ys)
  have m2 := len_mul (val ys) (val zs)
  have m3 := len_mul (val xs) (val zs)
  have H1 := Lib.hid h
  have H2 := Lib.hid h'
  have H3 := Lib.hid h''
  clear h h' h'' hc hc' hc''
  go_enter Try.func8, Try.ntmps8
  go_wp2_with fail
  refine (awake_any _).mono ?_
  rintro e w1 ⟨rfl, hb⟩
  have B1 : Hid (Below w.heap.size w w1) := hb
  have P_1 := Lib.hid (H1.out.below hb)
  have Q_1 := Lib.hid (H2.out.below hb)
  have R_1 := Lib.hid (H3.out.below hb)
  clear hb
  go_wp2_with fail
  refine (add_n P_1.out Q_1.out rfl rfl (by omega) (by omega)).mono ?_
  rintro e w2 ⟨S, cS, rfl, ho, hb⟩
  have B2 : Hid (Below w.heap.size w w2) := B1.out.trans (hb.mono B1.out.size)
  have P_2 := Lib.hid (P_1.out.below hb)
  have Q_2 := Lib.hid (Q_1.out.below hb)
  have R_2 := Lib.hid (R_1.out.below hb)
  have S_2 := Lib.hid ho.rd
  clear hb ho P_1 Q_1 R_1 B1
  go_wp2_with fail
  refine (add_n Q_2.out P_2.out rfl rfl (by omega) (by omega)).mono ?_
  rintro e w3 ⟨T, cT, rfl, ho, hb⟩
  have B3 : Hid (Below w.heap.size w w3) := B2.out.trans (hb.mono B2.out.size)
  have P_3 := Lib.hid (P_2.out.below hb)
  have Q_3 := Lib.hid (Q_2.out.below hb)
  have R_3 := Lib.hid (R_2.out.below hb)
  have S_3 := Lib.hid (S_2.out.below hb)
  have T_3 := Lib.hid ho.rd
  clear hb ho P_2 Q_2 R_2 S_2 B2
  go_wp2_with fail
  refine (equal_n S_3.out T_3.out (by rw [Nat.add_comm]) rfl rfl).mono ?_
  rintro e w4 ⟨rfl, hq⟩
  have hb := below_q hq
  have B4 : Hid (Below w.heap.size w w4) := B3.out.trans (hb.mono B3.out.size)
  have P_4 := Lib.hid (P_3.out.below hb)
  have Q_4 := Lib.hid (Q_3.out.below hb)
  have R_4 := Lib.hid (R_3.out.below hb)
  clear hb hq P_3 Q_3 R_3 S_3 T_3 B3
  go_wp2_with fail
  refine (mul_n P_4.out Q_4.out rfl rfl (by omega)).mono ?_
  rintro e w5 ⟨S, cS, rfl, ho, hb⟩
  have B5 : Hid (Below w.heap.size w w5) := B4.out.trans (hb.mono B4.out.size)
  have P_5 := Lib.hid (P_4.out.below hb)
  have Q_5 := Lib.hid (Q_4.out.below hb)
  have R_5 := Lib.hid (R_4.out.below hb)
  have S_5 := Lib.hid ho.rd
  clear hb ho P_4 Q_4 R_4 B4
  go_wp2_with fail
  refine (mul_n Q_5.out P_5.out rfl rfl (by omega)).mono ?_
  rintro e w6 ⟨T, cT, rfl, ho, hb⟩
  have B6 : Hid (Below w.heap.size w w6) := B5.out.trans (hb.mono B5.out.size)
  have P_6 := Lib.hid (P_5.out.below hb)
  have Q_6 := Lib.hid (Q_5.out.below hb)
  have R_6 := Lib.hid (R_5.out.below hb)
  have S_6 := Lib.hid (S_5.out.below hb)
  have T_6 := Lib.hid ho.rd
  clear hb ho P_5 Q_5 R_5 S_5 B5
  go_wp2_with fail
  refine (equal_n S_6.out T_6.out (by rw [Nat.mul_comm]) rfl rfl).mono ?_
  rintro e w7 ⟨rfl, hq⟩
  have hb := below_q hq
  have B7 : Hid (Below w.heap.size w w7) := B6.out.trans (hb.mono B6.out.size)
  have P_7 := Lib.hid (P_6.out.below hb)
  have Q_7 := Lib.hid (Q_6.out.below hb)
  have R_7 := Lib.hid (R_6.out.below hb)
  clear hb hq P_6 Q_6 R_6 S_6 T_6 B6
  go_wp2_with fail
  refine (add_n P_7.out Q_7.out rfl rfl (by omega) (by omega)).mono ?_
  rintro e w8 ⟨S, cS, rfl, ho, hb⟩
  have B8 : Hid (Below w.heap.size w w8) := B7.out.trans (hb.mono B7.out.size)
  have P_8 := Lib.hid (P_7.out.below hb)
  have Q_8 := Lib.hid (Q_7.out.below hb)
  have R_8 := Lib.hid (R_7.out.below hb)
  have S_8 := Lib.hid ho.rd
  clear hb ho P_7 Q_7 R_7 B7
  go_wp2_with fail
  refine (add_n S_8.out R_8.out rfl rfl (by omega) (by omega)).mono ?_
  rw [val_ofv]
  rintro e w9 ⟨T, cT, rfl, ho, hb⟩
  have B9 : Hid (Below w.heap.size w w9) := B8.out.trans (hb.mono B8.out.size)
  have P_9 := Lib.hid (P_8.out.below hb)
  have Q_9 := Lib.hid (Q_8.out.below hb)
  have R_9 := Lib.hid (R_8.out.below hb)
  have T_9 := Lib.hid ho.rd
  clear hb ho P_8 Q_8 R_8 S_8 B8
  go_wp2_with fail
  refine (add_n Q_9.out R_9.out rfl rfl (by omega) (by omega)).mono ?_
  rintro e w10 ⟨S, cS, rfl, ho, hb⟩
  have B10 : Hid (Below w.heap.size w w10) := B9.out.trans (hb.mono B9.out.size)
  have P_10 := Lib.hid (P_9.out.below hb)
  have Q_10 := Lib.hid (Q_9.out.below hb)
  have R_10 := Lib.hid (R_9.out.below hb)
  have T_10 := Lib.hid (T_9.out.below hb)
  have S_10 := Lib.hid ho.rd
  clear hb ho P_9 Q_9 R_9 T_9 B9
  go_wp2_with fail
  refine (add_n P_10.out S_10.out rfl rfl (by omega) (by omega)).mono ?_
  rw [val_ofv]
  rintro e w11 ⟨U, cU, rfl, ho, hb⟩
  have B11 : Hid (Below w.heap.size w w11) := B10.out.trans (hb.mono B10.out.size)
  have P_11 := Lib.hid (P_10.out.below hb)
  have Q_11 := Lib.hid (Q_10.out.below hb)
  have R_11 := Lib.hid (R_10.out.below hb)
  have T_11 := Lib.hid (T_10.out.below hb)
  have U_11 := Lib.hid ho.rd
  clear hb ho P_10 Q_10 R_10 T_10 S_10 B10
  go_wp2_with fail
  refine (equal_n T_11.out U_11.out (by rw [Nat.add_assoc]) rfl rfl).mono ?_
  rintro e w12 ⟨rfl, hq⟩
  have hb := below_q hq
  have B12 : Hid (Below w.heap.size w w12) := B11.out.trans (hb.mono B11.out.size)
  have P_12 := Lib.hid (P_11.out.below hb)
  have Q_12 := Lib.hid (Q_11.out.below hb)
  have R_12 := Lib.hid (R_11.out.below hb)
  clear hb hq P_11 Q_11 R_11 T_11 U_11 B11
  go_wp2_with fail
  refine (mul_n P_12.out Q_12.out rfl rfl (by omega)).mono ?_
  rintro e w13 ⟨S, cS, rfl, ho, hb⟩
  have B13 : Hid (Below w.heap.size w w13) := B12.out.trans (hb.mono B12.out.size)
  have P_13 := Lib.hid (P_12.out.below hb)
  have Q_13 := Lib.hid (Q_12.out.below hb)
  have R_13 := Lib.hid (R_12.out.below hb)
  have S_13 := Lib.hid ho.rd
  clear hb ho P_12 Q_12 R_12 B12
  go_wp2_with fail
  refine (mul_n S_13.out R_13.out rfl rfl (by omega)).mono ?_
  rw [val_ofv]
  rintro e w14 ⟨T, cT, rfl, ho, hb⟩
  have B14 : Hid (Below w.heap.size w w14) := B13.out.trans (hb.mono B13.out.size)
  have P_14 := Lib.hid (P_13.out.below hb)
  have Q_14 := Lib.hid (Q_13.out.below hb)
  have R_14 := Lib.hid (R_13.out.below hb)
  have T_14 := Lib.hid ho.rd
  clear hb ho P_13 Q_13 R_13 S_13 B13
  go_wp2_with fail
  refine (mul_n Q_14.out R_14.out rfl rfl (by omega)).mono ?_
  rintro e w15 ⟨S, cS, rfl, ho, hb⟩
  have B15 : Hid (Below w.heap.size w w15) := B14.out.trans (hb.mono B14.out.size)
  have P_15 := Lib.hid (P_14.out.below hb)
  have Q_15 := Lib.hid (Q_14.out.below hb)
  have R_15 := Lib.hid (R_14.out.below hb)
  have T_15 := Lib.hid (T_14.out.below hb)
  have S_15 := Lib.hid ho.rd
  clear hb ho P_14 Q_14 R_14 T_14 B14
  go_wp2_with fail
  refine (mul_n P_15.out S_15.out rfl rfl (by omega)).mono ?_
  rw [val_ofv]
  rintro e w16 ⟨U, cU, rfl, ho, hb⟩
  have B16 : Hid (Below w.heap.size w w16) := B15.out.trans (hb.mono B15.out.size)
  have P_16 := Lib.hid (P_15.out.below hb)
  have Q_16 := Lib.hid (Q_15.out.below hb)
  have R_16 := Lib.hid (R_15.out.below hb)
  have T_16 := Lib.hid (T_15.out.below hb)
  have U_16 := Lib.hid ho.rd
  clear hb ho P_15 Q_15 R_15 T_15 S_15 B15
  go_wp2_with fail
  refine (equal_n T_16.out U_16.out (by rw [Nat.mul_assoc]) rfl rfl).mono ?_
  rintro e w17 ⟨rfl, hq⟩
  have hb := below_q hq
  have B17 : Hid (Below w.heap.size w w17) := B16.out.trans (hb.mono B16.out.size)
  have P_17 := Lib.hid (P_16.out.below hb)
  have Q_17 := Lib.hid (Q_16.out.below hb)
  have R_17 := Lib.hid (R_16.out.below hb)
  clear hb hq P_16 Q_16 R_16 T_16 U_16 B16
  go_wp2_with fail
  refine (add_n Q_17.out R_17.out rfl rfl (by omega) (by omega)).mono ?_
  rintro e w18 ⟨S, cS, rfl, ho, hb⟩
  have B18 : Hid (Below w.heap.size w w18) := B17.out.trans (hb.mono B17.out.size)
  have P_18 := Lib.hid (P_17.out.below hb)
  have Q_18 := Lib.hid (Q_17.out.below hb)
  have R_18 := Lib.hid (R_17.out.below hb)
  have S_18 := Lib.hid ho.rd
  clear hb ho P_17 Q_17 R_17 B17
  go_wp2_with fail
  refine (mul_n P_18.out S_18.out rfl rfl (by omega)).mono ?_
  rw [val_ofv]
  rintro e w19 ⟨T, cT, rfl, ho, hb⟩
  have B19 : Hid (Below w.heap.size w w19) := B18.out.trans (hb.mono B18.out.size)
  have P_19 := Lib.hid (P_18.out.below hb)
  have Q_19 := Lib.hid (Q_18.out.below hb)
  have R_19 := Lib.hid (R_18.out.below hb)
  have T_19 := Lib.hid ho.rd
  clear hb ho P_18 Q_18 R_18 S_18 B18
  go_wp2_with fail
  refine (mul_n P_19.out Q_19.out rfl rfl (by omega)).mono ?_
  rintro e w20 ⟨S, cS, rfl, ho, hb⟩
  have B20 : Hid (Below w.heap.size w w20) := B19.out.trans (hb.mono B19.out.size)
  have P_20 := Lib.hid (P_19.out.below hb)
  have Q_20 := Lib.hid (Q_19.out.below hb)
  have R_20 := Lib.hid (R_19.out.below hb)
  have T_20 := Lib.hid (T_19.out.below hb)
  have S_20 := Lib.hid ho.rd
  clear hb ho P_19 Q_19 R_19 T_19 B19
  go_wp2_with fail
  refine (mul_n P_20.out R_20.out rfl rfl (by omega)).mono ?_
  rintro e w21 ⟨V, cV, rfl, ho, hb⟩
  have B21 : Hid (Below w.heap.size w w21) := B20.out.trans (hb.mono B20.out.size)
  have P_21 := Lib.hid (P_20.out.below hb)
  have Q_21 := Lib.hid (Q_20.out.below hb)
  have R_21 := Lib.hid (R_20.out.below hb)
  have T_21 := Lib.hid (T_20.out.below hb)
  have S_21 := Lib.hid (S_20.out.below hb)
  have V_21 := Lib.hid ho.rd
  clear hb ho P_20 Q_20 R_20 T_20 S_20 B20
  go_wp2_with fail
  refine (add_n S_21.out V_21.out rfl rfl (by omega) (by omega)).mono ?_
  rw [val_ofv, val_ofv]
  rintro e w22 ⟨U, cU, rfl, ho, hb⟩
  have B22 : Hid (Below w.heap.size w w22) := B21.out.trans (hb.mono B21.out.size)
  have P_22 := Lib.hid (P_21.out.below hb)
  have Q_22 := Lib.hid (Q_21.out.below hb)
  have R_22 := Lib.hid (R_21.out.below hb)
  have T_22 := Lib.hid (T_21.out.below hb)
  have U_22 := Lib.hid ho.rd
  clear hb ho P_21 Q_21 R_21 T_21 S_21 V_21 B21
  go_wp2_with fail
  refine (equal_n T_22.out U_22.out (by rw [Nat.mul_add]) rfl rfl).mono ?_
  rintro e w23 ⟨rfl, hq⟩
  have hb := below_q hq
  have B23 : Hid (Below w.heap.size w w23) := B22.out.trans (hb.mono B22.out.size)
  have P_23 := Lib.hid (P_22.out.below hb)
  have Q_23 := Lib.hid (Q_22.out.below hb)
  have R_23 := Lib.hid (R_22.out.below hb)
  clear hb hq P_22 Q_22 R_22 T_22 U_22 B22
  go_wp2
  go_ret
  exact ⟨rfl, B23.out⟩
end Go.Proofs.Ytmmlfmjelhninaa
