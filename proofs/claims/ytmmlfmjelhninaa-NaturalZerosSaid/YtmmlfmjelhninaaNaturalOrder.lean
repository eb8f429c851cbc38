/-
  The walk of the law NaturalOrder: Compare is a total order that agrees with subtraction and is kept by addition and multiplication.
-/
import Derived.Test.YtmmlfmjelhninaaBits
namespace Go.Proofs.Ytmmlfmjelhninaa
open Go.RowKit
set_option linter.unusedVariables false

theorem compare_n {A B : Option Addr} {ca cb n m : Nat} {xs ys : List Nat} {w : World} (h : Rd w A ca xs) (h' : Rd w B cb ys) (hn : xs.length = n) (hm : ys.length = m) :
    Calls Try.prog 22 #[.slice A n ca, .slice B m cb] w fun e w' => e = .returned (.int .i64 (cmp (val xs) (val ys))) ∧ ∃ n, w' = w.drewN n := by
  subst hn hm; exact compare_any A B ca cb xs ys w h h'

set_option maxHeartbeats 4000000 in
theorem naturalOrder_lt_zero (A : Option Addr) (ca : Nat) (xs : List Nat) (B : Option Addr) (cb : Nat) (ys : List Nat) (C : Option Addr) (cc : Nat) (zs : List Nat) (w : World) (h : Rd w A ca xs) (hn1 : xs.length ≤ 35184372087808) (h' : Rd w B cb ys) (hn2 : ys.length ≤ 35184372087808) (h'' : Rd w C cc zs) (hn3 : zs.length ≤ 35184372087808)
    (hv : val xs < val ys) (hz : val zs = 0) :
    Calls Try.prog 10 #[.slice A xs.length ca, .slice B ys.length cb, .slice C zs.length cc] w fun e w' => e = .returned (.bool true) ∧ Below w.heap.size w w' := by
  have F1 := Lib.hid (cmp_lt hv)
  have F2 := Lib.hid (cmp_gt hv)
  have F3 := Lib.hid (cmp_lt (show val xs + val zs < val ys + val zs by omega))
  have FZ : Hid (nbits (val zs) = 0) := by show _ = _; rw [hz, nbits_zero]
  have H1 := Lib.hid h
  have H2 := Lib.hid h'
  have H3 := Lib.hid h''
  have HV := Lib.hid hv
  clear h h' h'' hv hz
  go_enter Try.func10, Try.ntmps10
  go_wp2_with fail
  refine (compare_any A B ca cb xs ys _ H1.out H2.out).mono ?_
  rw [F1.out]
  rintro e w1 ⟨rfl, hq⟩
  have hb := below_q hq
  have B1 : Hid (Below w.heap.size w w1) := hb
  have P_1 := Lib.hid (H1.out.below hb)
  have Q_1 := Lib.hid (H2.out.below hb)
  have R_1 := Lib.hid (H3.out.below hb)
  clear hb hq
  go_wp2_with fail
  refine (sub_no A B ca cb xs ys _ P_1.out Q_1.out HV.out).mono ?_
  rintro e w2 ⟨rfl, hb⟩
  have B2 : Hid (Below w.heap.size w w2) := B1.out.trans (hb.mono B1.out.size)
  have P_2 := Lib.hid (P_1.out.below hb)
  have Q_2 := Lib.hid (Q_1.out.below hb)
  have R_2 := Lib.hid (R_1.out.below hb)
  clear hb P_1 Q_1 R_1 B1
  go_wp2_with fail
  refine (awake_any _).mono ?_
  rintro e w3 ⟨rfl, hb⟩
  have B3 : Hid (Below w.heap.size w w3) := B2.out.trans (hb.mono B2.out.size)
  have P_3 := Lib.hid (P_2.out.below hb)
  have Q_3 := Lib.hid (Q_2.out.below hb)
  have R_3 := Lib.hid (R_2.out.below hb)
  clear hb P_2 Q_2 R_2 B2
  go_wp2_with fail
  refine (compare_any B A cb ca ys xs _ Q_3.out P_3.out).mono ?_
  rw [F2.out]
  rintro e w4 ⟨rfl, hq⟩
  have hb := below_q hq
  have B4 : Hid (Below w.heap.size w w4) := B3.out.trans (hb.mono B3.out.size)
  have P_4 := Lib.hid (P_3.out.below hb)
  have Q_4 := Lib.hid (Q_3.out.below hb)
  have R_4 := Lib.hid (R_3.out.below hb)
  clear hb hq P_3 Q_3 R_3 B3
  go_wp2_with fail
  refine (add_n P_4.out R_4.out rfl rfl (by omega) (by omega)).mono ?_
  rintro e w5 ⟨S, cS, rfl, ho, hb⟩
  have B5 : Hid (Below w.heap.size w w5) := B4.out.trans (hb.mono B4.out.size)
  have P_5 := Lib.hid (P_4.out.below hb)
  have Q_5 := Lib.hid (Q_4.out.below hb)
  have R_5 := Lib.hid (R_4.out.below hb)
  have S_5 := Lib.hid ho.rd
  clear hb ho P_4 Q_4 R_4 B4
  go_wp2_with fail
  refine (add_n Q_5.out R_5.out rfl rfl (by omega) (by omega)).mono ?_
  rintro e w6 ⟨T, cT, rfl, ho, hb⟩
  have B6 : Hid (Below w.heap.size w w6) := B5.out.trans (hb.mono B5.out.size)
  have P_6 := Lib.hid (P_5.out.below hb)
  have Q_6 := Lib.hid (Q_5.out.below hb)
  have R_6 := Lib.hid (R_5.out.below hb)
  have S_6 := Lib.hid (S_5.out.below hb)
  have T_6 := Lib.hid ho.rd
  clear hb ho P_5 Q_5 R_5 S_5 B5
  go_wp2_with fail
  refine (compare_n S_6.out T_6.out rfl rfl).mono ?_
  rw [val_ofv, val_ofv, F3.out]
  rintro e w7 ⟨rfl, hq⟩
  have hb := below_q hq
  have B7 : Hid (Below w.heap.size w w7) := B6.out.trans (hb.mono B6.out.size)
  have P_7 := Lib.hid (P_6.out.below hb)
  have Q_7 := Lib.hid (Q_6.out.below hb)
  have R_7 := Lib.hid (R_6.out.below hb)
  clear hb hq P_6 Q_6 R_6 S_6 T_6 B6
  go_wp2_with fail
  refine (bits_n R_7.out rfl (by omega)).mono ?_
  rw [FZ.out]
  rintro e w' ⟨rfl, rfl⟩
  go_wp2
  go_ret
  exact ⟨rfl, B7.out⟩

set_option maxHeartbeats 4000000 in
theorem naturalOrder_lt_pos (A : Option Addr) (ca : Nat) (xs : List Nat) (B : Option Addr) (cb : Nat) (ys : List Nat) (C : Option Addr) (cc : Nat) (zs : List Nat) (w : World) (h : Rd w A ca xs) (hn1 : xs.length ≤ 35184372087808) (h' : Rd w B cb ys) (hn2 : ys.length ≤ 35184372087808) (h'' : Rd w C cc zs) (hn3 : zs.length ≤ 35184372087808)
    (hv : val xs < val ys) (hz : 0 < val zs) :
    Calls Try.prog 10 #[.slice A xs.length ca, .slice B ys.length cb, .slice C zs.length cc] w fun e w' => e = .returned (.bool true) ∧ Below w.heap.size w w' := by
  have F1 := Lib.hid (cmp_lt hv)
  have F2 := Lib.hid (cmp_gt hv)
  have F3 := Lib.hid (cmp_lt (show val xs + val zs < val ys + val zs by omega))
  have F4 := Lib.hid (cmp_lt (show val xs * val zs < val ys * val zs from Nat.mul_lt_mul_of_pos_right hv hz))
  have FZ : Hid (nbits (val zs) ≠ 0) := fun e => by have := nbits_eq_zero.1 e; omega
  have H1 := Lib.hid h
  have H2 := Lib.hid h'
  have H3 := Lib.hid h''
  have HV := Lib.hid hv
  clear h h' h'' hv hz
  go_enter Try.func10, Try.ntmps10
  go_wp2_with fail
  refine (compare_any A B ca cb xs ys _ H1.out H2.out).mono ?_
  rw [F1.out]
  rintro e w1 ⟨rfl, hq⟩
  have hb := below_q hq
  have B1 : Hid (Below w.heap.size w w1) := hb
  have P_1 := Lib.hid (H1.out.below hb)
  have Q_1 := Lib.hid (H2.out.below hb)
  have R_1 := Lib.hid (H3.out.below hb)
  clear hb hq
  go_wp2_with fail
  refine (sub_no A B ca cb xs ys _ P_1.out Q_1.out HV.out).mono ?_
  rintro e w2 ⟨rfl, hb⟩
  have B2 : Hid (Below w.heap.size w w2) := B1.out.trans (hb.mono B1.out.size)
  have P_2 := Lib.hid (P_1.out.below hb)
  have Q_2 := Lib.hid (Q_1.out.below hb)
  have R_2 := Lib.hid (R_1.out.below hb)
  clear hb P_1 Q_1 R_1 B1
  go_wp2_with fail
  refine (awake_any _).mono ?_
  rintro e w3 ⟨rfl, hb⟩
  have B3 : Hid (Below w.heap.size w w3) := B2.out.trans (hb.mono B2.out.size)
  have P_3 := Lib.hid (P_2.out.below hb)
  have Q_3 := Lib.hid (Q_2.out.below hb)
  have R_3 := Lib.hid (R_2.out.below hb)
  clear hb P_2 Q_2 R_2 B2
  go_wp2_with fail
  refine (compare_any B A cb ca ys xs _ Q_3.out P_3.out).mono ?_
  rw [F2.out]
  rintro e w4 ⟨rfl, hq⟩
  have hb := below_q hq
  have B4 : Hid (Below w.heap.size w w4) := B3.out.trans (hb.mono B3.out.size)
  have P_4 := Lib.hid (P_3.out.below hb)
  have Q_4 := Lib.hid (Q_3.out.below hb)
  have R_4 := Lib.hid (R_3.out.below hb)
  clear hb hq P_3 Q_3 R_3 B3
  go_wp2_with fail
  refine (add_n P_4.out R_4.out rfl rfl (by omega) (by omega)).mono ?_
  rintro e w5 ⟨S, cS, rfl, ho, hb⟩
  have B5 : Hid (Below w.heap.size w w5) := B4.out.trans (hb.mono B4.out.size)
  have P_5 := Lib.hid (P_4.out.below hb)
  have Q_5 := Lib.hid (Q_4.out.below hb)
  have R_5 := Lib.hid (R_4.out.below hb)
  have S_5 := Lib.hid ho.rd
  clear hb ho P_4 Q_4 R_4 B4
  go_wp2_with fail
  refine (add_n Q_5.out R_5.out rfl rfl (by omega) (by omega)).mono ?_
  rintro e w6 ⟨T, cT, rfl, ho, hb⟩
  have B6 : Hid (Below w.heap.size w w6) := B5.out.trans (hb.mono B5.out.size)
  have P_6 := Lib.hid (P_5.out.below hb)
  have Q_6 := Lib.hid (Q_5.out.below hb)
  have R_6 := Lib.hid (R_5.out.below hb)
  have S_6 := Lib.hid (S_5.out.below hb)
  have T_6 := Lib.hid ho.rd
  clear hb ho P_5 Q_5 R_5 S_5 B5
  go_wp2_with fail
  refine (compare_n S_6.out T_6.out rfl rfl).mono ?_
  rw [val_ofv, val_ofv, F3.out]
  rintro e w7 ⟨rfl, hq⟩
  have hb := below_q hq
  have B7 : Hid (Below w.heap.size w w7) := B6.out.trans (hb.mono B6.out.size)
  have P_7 := Lib.hid (P_6.out.below hb)
  have Q_7 := Lib.hid (Q_6.out.below hb)
  have R_7 := Lib.hid (R_6.out.below hb)
  clear hb hq P_6 Q_6 R_6 S_6 T_6 B6
  go_wp2_with fail
  refine (bits_n R_7.out rfl (by omega)).mono ?_
  generalize nbits (val zs) = nb at *
  have hb0 : ((nb : Int) == 0) = false := by have := FZ.out; simp; exact this
  rintro e w' ⟨rfl, rfl⟩
  go_wp2_with fail
  refine (mul_n P_7.out R_7.out rfl rfl (by omega)).mono ?_
  rintro e w8 ⟨S, cS, rfl, ho, hb⟩
  have B8 : Hid (Below w.heap.size w w8) := B7.out.trans (hb.mono B7.out.size)
  have P_8 := Lib.hid (P_7.out.below hb)
  have Q_8 := Lib.hid (Q_7.out.below hb)
  have R_8 := Lib.hid (R_7.out.below hb)
  have S_8 := Lib.hid ho.rd
  clear hb ho P_7 Q_7 R_7 B7
  go_wp2_with fail
  refine (mul_n Q_8.out R_8.out rfl rfl (by omega)).mono ?_
  rintro e w9 ⟨T, cT, rfl, ho, hb⟩
  have B9 : Hid (Below w.heap.size w w9) := B8.out.trans (hb.mono B8.out.size)
  have P_9 := Lib.hid (P_8.out.below hb)
  have Q_9 := Lib.hid (Q_8.out.below hb)
  have R_9 := Lib.hid (R_8.out.below hb)
  have S_9 := Lib.hid (S_8.out.below hb)
  have T_9 := Lib.hid ho.rd
  clear hb ho P_8 Q_8 R_8 S_8 B8
  go_wp2_with fail
  refine (compare_n S_9.out T_9.out rfl rfl).mono ?_
  rw [val_ofv, val_ofv, F4.out]
  rintro e w10 ⟨rfl, hq⟩
  have hb := below_q hq
  have B10 : Hid (Below w.heap.size w w10) := B9.out.trans (hb.mono B9.out.size)
  clear hb hq P_9 Q_9 R_9 S_9 T_9 B9
  go_wp2
  go_ret
  exact ⟨rfl, B10.out⟩

set_option maxHeartbeats 4000000 in
theorem naturalOrder_eq_zero (A : Option Addr) (ca : Nat) (xs : List Nat) (B : Option Addr) (cb : Nat) (ys : List Nat) (C : Option Addr) (cc : Nat) (zs : List Nat) (w : World) (h : Rd w A ca xs) (hn1 : xs.length ≤ 35184372087808) (h' : Rd w B cb ys) (hn2 : ys.length ≤ 35184372087808) (h'' : Rd w C cc zs) (hn3 : zs.length ≤ 35184372087808)
    (hv : val xs = val ys) (hz : val zs = 0) :
    Calls Try.prog 10 #[.slice A xs.length ca, .slice B ys.length cb, .slice C zs.length cc] w fun e w' => e = .returned (.bool true) ∧ Below w.heap.size w w' := by
  have F1 := Lib.hid (cmp_eq hv)
  have F2 := Lib.hid (cmp_eq hv.symm)
  have F3 := Lib.hid (cmp_eq (show val xs + val zs = val ys + val zs by omega))
  have FZ : Hid (nbits (val zs) = 0) := by show _ = _; rw [hz, nbits_zero]
  have H1 := Lib.hid h
  have H2 := Lib.hid h'
  have H3 := Lib.hid h''
  have HV := Lib.hid hv
  clear h h' h'' hv hz
  go_enter Try.func10, Try.ntmps10
  go_wp2_with fail
  refine (compare_any A B ca cb xs ys _ H1.out H2.out).mono ?_
  rw [F1.out]
  rintro e w1 ⟨rfl, hq⟩
  have hb := below_q hq
  have B1 : Hid (Below w.heap.size w w1) := hb
  have P_1 := Lib.hid (H1.out.below hb)
  have Q_1 := Lib.hid (H2.out.below hb)
  have R_1 := Lib.hid (H3.out.below hb)
  clear hb hq
  go_wp2_with fail
  refine (sub_yes_n P_1.out Q_1.out rfl rfl (by omega) (Nat.le_of_eq HV.out.symm)).mono ?_
  rintro e w2 ⟨D, cD, rfl, ho, hb⟩
  have B2 : Hid (Below w.heap.size w w2) := B1.out.trans (hb.mono B1.out.size)
  have P_2 := Lib.hid (P_1.out.below hb)
  have Q_2 := Lib.hid (Q_1.out.below hb)
  have R_2 := Lib.hid (R_1.out.below hb)
  have D_2 := Lib.hid ho.rd
  clear hb ho P_1 Q_1 R_1 B1
  go_wp2_with fail
  refine (awake_any _).mono ?_
  rintro e w3 ⟨rfl, hb⟩
  have B3 : Hid (Below w.heap.size w w3) := B2.out.trans (hb.mono B2.out.size)
  have P_3 := Lib.hid (P_2.out.below hb)
  have Q_3 := Lib.hid (Q_2.out.below hb)
  have R_3 := Lib.hid (R_2.out.below hb)
  clear hb P_2 Q_2 R_2 B2
  go_wp2_with fail
  refine (compare_any B A cb ca ys xs _ Q_3.out P_3.out).mono ?_
  rw [F2.out]
  rintro e w4 ⟨rfl, hq⟩
  have hb := below_q hq
  have B4 : Hid (Below w.heap.size w w4) := B3.out.trans (hb.mono B3.out.size)
  have P_4 := Lib.hid (P_3.out.below hb)
  have Q_4 := Lib.hid (Q_3.out.below hb)
  have R_4 := Lib.hid (R_3.out.below hb)
  clear hb hq P_3 Q_3 R_3 B3
  go_wp2_with fail
  refine (add_n P_4.out R_4.out rfl rfl (by omega) (by omega)).mono ?_
  rintro e w5 ⟨S, cS, rfl, ho, hb⟩
  have B5 : Hid (Below w.heap.size w w5) := B4.out.trans (hb.mono B4.out.size)
  have P_5 := Lib.hid (P_4.out.below hb)
  have Q_5 := Lib.hid (Q_4.out.below hb)
  have R_5 := Lib.hid (R_4.out.below hb)
  have S_5 := Lib.hid ho.rd
  clear hb ho P_4 Q_4 R_4 B4
  go_wp2_with fail
  refine (add_n Q_5.out R_5.out rfl rfl (by omega) (by omega)).mono ?_
  rintro e w6 ⟨T, cT, rfl, ho, hb⟩
  have B6 : Hid (Below w.heap.size w w6) := B5.out.trans (hb.mono B5.out.size)
  have P_6 := Lib.hid (P_5.out.below hb)
  have Q_6 := Lib.hid (Q_5.out.below hb)
  have R_6 := Lib.hid (R_5.out.below hb)
  have S_6 := Lib.hid (S_5.out.below hb)
  have T_6 := Lib.hid ho.rd
  clear hb ho P_5 Q_5 R_5 S_5 B5
  go_wp2_with fail
  refine (compare_n S_6.out T_6.out rfl rfl).mono ?_
  rw [val_ofv, val_ofv, F3.out]
  rintro e w7 ⟨rfl, hq⟩
  have hb := below_q hq
  have B7 : Hid (Below w.heap.size w w7) := B6.out.trans (hb.mono B6.out.size)
  have P_7 := Lib.hid (P_6.out.below hb)
  have Q_7 := Lib.hid (Q_6.out.below hb)
  have R_7 := Lib.hid (R_6.out.below hb)
  clear hb hq P_6 Q_6 R_6 S_6 T_6 B6
  go_wp2_with fail
  refine (bits_n R_7.out rfl (by omega)).mono ?_
  rw [FZ.out]
  rintro e w' ⟨rfl, rfl⟩
  go_wp2
  go_ret
  exact ⟨rfl, B7.out⟩

set_option maxHeartbeats 4000000 in
theorem naturalOrder_eq_pos (A : Option Addr) (ca : Nat) (xs : List Nat) (B : Option Addr) (cb : Nat) (ys : List Nat) (C : Option Addr) (cc : Nat) (zs : List Nat) (w : World) (h : Rd w A ca xs) (hn1 : xs.length ≤ 35184372087808) (h' : Rd w B cb ys) (hn2 : ys.length ≤ 35184372087808) (h'' : Rd w C cc zs) (hn3 : zs.length ≤ 35184372087808)
    (hv : val xs = val ys) (hz : 0 < val zs) :
    Calls Try.prog 10 #[.slice A xs.length ca, .slice B ys.length cb, .slice C zs.length cc] w fun e w' => e = .returned (.bool true) ∧ Below w.heap.size w w' := by
  have F1 := Lib.hid (cmp_eq hv)
  have F2 := Lib.hid (cmp_eq hv.symm)
  have F3 := Lib.hid (cmp_eq (show val xs + val zs = val ys + val zs by omega))
  have F4 := Lib.hid (cmp_eq (show val xs * val zs = val ys * val zs from by rw [hv]))
  have FZ : Hid (nbits (val zs) ≠ 0) := fun e => by have := nbits_eq_zero.1 e; omega
  have H1 := Lib.hid h
  have H2 := Lib.hid h'
  have H3 := Lib.hid h''
  have HV := Lib.hid hv
  clear h h' h'' hv hz
  go_enter Try.func10, Try.ntmps10
  go_wp2_with fail
  refine (compare_any A B ca cb xs ys _ H1.out H2.out).mono ?_
  rw [F1.out]
  rintro e w1 ⟨rfl, hq⟩
  have hb := below_q hq
  have B1 : Hid (Below w.heap.size w w1) := hb
  have P_1 := Lib.hid (H1.out.below hb)
  have Q_1 := Lib.hid (H2.out.below hb)
  have R_1 := Lib.hid (H3.out.below hb)
  clear hb hq
  go_wp2_with fail
  refine (sub_yes_n P_1.out Q_1.out rfl rfl (by omega) (Nat.le_of_eq HV.out.symm)).mono ?_
  rintro e w2 ⟨D, cD, rfl, ho, hb⟩
  have B2 : Hid (Below w.heap.size w w2) := B1.out.trans (hb.mono B1.out.size)
  have P_2 := Lib.hid (P_1.out.below hb)
  have Q_2 := Lib.hid (Q_1.out.below hb)
  have R_2 := Lib.hid (R_1.out.below hb)
  have D_2 := Lib.hid ho.rd
  clear hb ho P_1 Q_1 R_1 B1
  go_wp2_with fail
  refine (awake_any _).mono ?_
  rintro e w3 ⟨rfl, hb⟩
  have B3 : Hid (Below w.heap.size w w3) := B2.out.trans (hb.mono B2.out.size)
  have P_3 := Lib.hid (P_2.out.below hb)
  have Q_3 := Lib.hid (Q_2.out.below hb)
  have R_3 := Lib.hid (R_2.out.below hb)
  clear hb P_2 Q_2 R_2 B2
  go_wp2_with fail
  refine (compare_any B A cb ca ys xs _ Q_3.out P_3.out).mono ?_
  rw [F2.out]
  rintro e w4 ⟨rfl, hq⟩
  have hb := below_q hq
  have B4 : Hid (Below w.heap.size w w4) := B3.out.trans (hb.mono B3.out.size)
  have P_4 := Lib.hid (P_3.out.below hb)
  have Q_4 := Lib.hid (Q_3.out.below hb)
  have R_4 := Lib.hid (R_3.out.below hb)
  clear hb hq P_3 Q_3 R_3 B3
  go_wp2_with fail
  refine (add_n P_4.out R_4.out rfl rfl (by omega) (by omega)).mono ?_
  rintro e w5 ⟨S, cS, rfl, ho, hb⟩
  have B5 : Hid (Below w.heap.size w w5) := B4.out.trans (hb.mono B4.out.size)
  have P_5 := Lib.hid (P_4.out.below hb)
  have Q_5 := Lib.hid (Q_4.out.below hb)
  have R_5 := Lib.hid (R_4.out.below hb)
  have S_5 := Lib.hid ho.rd
  clear hb ho P_4 Q_4 R_4 B4
  go_wp2_with fail
  refine (add_n Q_5.out R_5.out rfl rfl (by omega) (by omega)).mono ?_
  rintro e w6 ⟨T, cT, rfl, ho, hb⟩
  have B6 : Hid (Below w.heap.size w w6) := B5.out.trans (hb.mono B5.out.size)
  have P_6 := Lib.hid (P_5.out.below hb)
  have Q_6 := Lib.hid (Q_5.out.below hb)
  have R_6 := Lib.hid (R_5.out.below hb)
  have S_6 := Lib.hid (S_5.out.below hb)
  have T_6 := Lib.hid ho.rd
  clear hb ho P_5 Q_5 R_5 S_5 B5
  go_wp2_with fail
  refine (compare_n S_6.out T_6.out rfl rfl).mono ?_
  rw [val_ofv, val_ofv, F3.out]
  rintro e w7 ⟨rfl, hq⟩
  have hb := below_q hq
  have B7 : Hid (Below w.heap.size w w7) := B6.out.trans (hb.mono B6.out.size)
  have P_7 := Lib.hid (P_6.out.below hb)
  have Q_7 := Lib.hid (Q_6.out.below hb)
  have R_7 := Lib.hid (R_6.out.below hb)
  clear hb hq P_6 Q_6 R_6 S_6 T_6 B6
  go_wp2_with fail
  refine (bits_n R_7.out rfl (by omega)).mono ?_
  generalize nbits (val zs) = nb at *
  have hb0 : ((nb : Int) == 0) = false := by have := FZ.out; simp; exact this
  rintro e w' ⟨rfl, rfl⟩
  go_wp2_with fail
  refine (mul_n P_7.out R_7.out rfl rfl (by omega)).mono ?_
  rintro e w8 ⟨S, cS, rfl, ho, hb⟩
  have B8 : Hid (Below w.heap.size w w8) := B7.out.trans (hb.mono B7.out.size)
  have P_8 := Lib.hid (P_7.out.below hb)
  have Q_8 := Lib.hid (Q_7.out.below hb)
  have R_8 := Lib.hid (R_7.out.below hb)
  have S_8 := Lib.hid ho.rd
  clear hb ho P_7 Q_7 R_7 B7
  go_wp2_with fail
  refine (mul_n Q_8.out R_8.out rfl rfl (by omega)).mono ?_
  rintro e w9 ⟨T, cT, rfl, ho, hb⟩
  have B9 : Hid (Below w.heap.size w w9) := B8.out.trans (hb.mono B8.out.size)
  have P_9 := Lib.hid (P_8.out.below hb)
  have Q_9 := Lib.hid (Q_8.out.below hb)
  have R_9 := Lib.hid (R_8.out.below hb)
  have S_9 := Lib.hid (S_8.out.below hb)
  have T_9 := Lib.hid ho.rd
  clear hb ho P_8 Q_8 R_8 S_8 B8
  go_wp2_with fail
  refine (compare_n S_9.out T_9.out rfl rfl).mono ?_
  rw [val_ofv, val_ofv, F4.out]
  rintro e w10 ⟨rfl, hq⟩
  have hb := below_q hq
  have B10 : Hid (Below w.heap.size w w10) := B9.out.trans (hb.mono B9.out.size)
  clear hb hq P_9 Q_9 R_9 S_9 T_9 B9
  go_wp2
  go_ret
  exact ⟨rfl, B10.out⟩

set_option maxHeartbeats 4000000 in
theorem naturalOrder_gt_zero (A : Option Addr) (ca : Nat) (xs : List Nat) (B : Option Addr) (cb : Nat) (ys : List Nat) (C : Option Addr) (cc : Nat) (zs : List Nat) (w : World) (h : Rd w A ca xs) (hn1 : xs.length ≤ 35184372087808) (h' : Rd w B cb ys) (hn2 : ys.length ≤ 35184372087808) (h'' : Rd w C cc zs) (hn3 : zs.length ≤ 35184372087808)
    (hv : val ys < val xs) (hz : val zs = 0) :
    Calls Try.prog 10 #[.slice A xs.length ca, .slice B ys.length cb, .slice C zs.length cc] w fun e w' => e = .returned (.bool true) ∧ Below w.heap.size w w' := by
  have F1 := Lib.hid (cmp_gt hv)
  have F2 := Lib.hid (cmp_lt hv)
  have F3 := Lib.hid (cmp_gt (show val xs + val zs > val ys + val zs by omega))
  have FZ : Hid (nbits (val zs) = 0) := by show _ = _; rw [hz, nbits_zero]
  have H1 := Lib.hid h
  have H2 := Lib.hid h'
  have H3 := Lib.hid h''
  have HV := Lib.hid hv
  clear h h' h'' hv hz
  go_enter Try.func10, Try.ntmps10
  go_wp2_with fail
  refine (compare_any A B ca cb xs ys _ H1.out H2.out).mono ?_
  rw [F1.out]
  rintro e w1 ⟨rfl, hq⟩
  have hb := below_q hq
  have B1 : Hid (Below w.heap.size w w1) := hb
  have P_1 := Lib.hid (H1.out.below hb)
  have Q_1 := Lib.hid (H2.out.below hb)
  have R_1 := Lib.hid (H3.out.below hb)
  clear hb hq
  go_wp2_with fail
  refine (sub_yes_n P_1.out Q_1.out rfl rfl (by omega) (Nat.le_of_lt HV.out)).mono ?_
  rintro e w2 ⟨D, cD, rfl, ho, hb⟩
  have B2 : Hid (Below w.heap.size w w2) := B1.out.trans (hb.mono B1.out.size)
  have P_2 := Lib.hid (P_1.out.below hb)
  have Q_2 := Lib.hid (Q_1.out.below hb)
  have R_2 := Lib.hid (R_1.out.below hb)
  have D_2 := Lib.hid ho.rd
  clear hb ho P_1 Q_1 R_1 B1
  go_wp2_with fail
  refine (awake_any _).mono ?_
  rintro e w3 ⟨rfl, hb⟩
  have B3 : Hid (Below w.heap.size w w3) := B2.out.trans (hb.mono B2.out.size)
  have P_3 := Lib.hid (P_2.out.below hb)
  have Q_3 := Lib.hid (Q_2.out.below hb)
  have R_3 := Lib.hid (R_2.out.below hb)
  clear hb P_2 Q_2 R_2 B2
  go_wp2_with fail
  refine (compare_any B A cb ca ys xs _ Q_3.out P_3.out).mono ?_
  rw [F2.out]
  rintro e w4 ⟨rfl, hq⟩
  have hb := below_q hq
  have B4 : Hid (Below w.heap.size w w4) := B3.out.trans (hb.mono B3.out.size)
  have P_4 := Lib.hid (P_3.out.below hb)
  have Q_4 := Lib.hid (Q_3.out.below hb)
  have R_4 := Lib.hid (R_3.out.below hb)
  clear hb hq P_3 Q_3 R_3 B3
  go_wp2_with fail
  refine (add_n P_4.out R_4.out rfl rfl (by omega) (by omega)).mono ?_
  rintro e w5 ⟨S, cS, rfl, ho, hb⟩
  have B5 : Hid (Below w.heap.size w w5) := B4.out.trans (hb.mono B4.out.size)
  have P_5 := Lib.hid (P_4.out.below hb)
  have Q_5 := Lib.hid (Q_4.out.below hb)
  have R_5 := Lib.hid (R_4.out.below hb)
  have S_5 := Lib.hid ho.rd
  clear hb ho P_4 Q_4 R_4 B4
  go_wp2_with fail
  refine (add_n Q_5.out R_5.out rfl rfl (by omega) (by omega)).mono ?_
  rintro e w6 ⟨T, cT, rfl, ho, hb⟩
  have B6 : Hid (Below w.heap.size w w6) := B5.out.trans (hb.mono B5.out.size)
  have P_6 := Lib.hid (P_5.out.below hb)
  have Q_6 := Lib.hid (Q_5.out.below hb)
  have R_6 := Lib.hid (R_5.out.below hb)
  have S_6 := Lib.hid (S_5.out.below hb)
  have T_6 := Lib.hid ho.rd
  clear hb ho P_5 Q_5 R_5 S_5 B5
  go_wp2_with fail
  refine (compare_n S_6.out T_6.out rfl rfl).mono ?_
  rw [val_ofv, val_ofv, F3.out]
  rintro e w7 ⟨rfl, hq⟩
  have hb := below_q hq
  have B7 : Hid (Below w.heap.size w w7) := B6.out.trans (hb.mono B6.out.size)
  have P_7 := Lib.hid (P_6.out.below hb)
  have Q_7 := Lib.hid (Q_6.out.below hb)
  have R_7 := Lib.hid (R_6.out.below hb)
  clear hb hq P_6 Q_6 R_6 S_6 T_6 B6
  go_wp2_with fail
  refine (bits_n R_7.out rfl (by omega)).mono ?_
  rw [FZ.out]
  rintro e w' ⟨rfl, rfl⟩
  go_wp2
  go_ret
  exact ⟨rfl, B7.out⟩

set_option maxHeartbeats 4000000 in
theorem naturalOrder_gt_pos (A : Option Addr) (ca : Nat) (xs : List Nat) (B : Option Addr) (cb : Nat) (ys : List Nat) (C : Option Addr) (cc : Nat) (zs : List Nat) (w : World) (h : Rd w A ca xs) (hn1 : xs.length ≤ 35184372087808) (h' : Rd w B cb ys) (hn2 : ys.length ≤ 35184372087808) (h'' : Rd w C cc zs) (hn3 : zs.length ≤ 35184372087808)
    (hv : val ys < val xs) (hz : 0 < val zs) :
    Calls Try.prog 10 #[.slice A xs.length ca, .slice B ys.length cb, .slice C zs.length cc] w fun e w' => e = .returned (.bool true) ∧ Below w.heap.size w w' := by
  have F1 := Lib.hid (cmp_gt hv)
  have F2 := Lib.hid (cmp_lt hv)
  have F3 := Lib.hid (cmp_gt (show val xs + val zs > val ys + val zs by omega))
  have F4 := Lib.hid (cmp_gt (show val xs * val zs > val ys * val zs from Nat.mul_lt_mul_of_pos_right hv hz))
  have FZ : Hid (nbits (val zs) ≠ 0) := fun e => by have := nbits_eq_zero.1 e; omega
  have H1 := Lib.hid h
  have H2 := Lib.hid h'
  have H3 := Lib.hid h''
  have HV := Lib.hid hv
  clear h h' h'' hv hz
  go_enter Try.func10, Try.ntmps10
  go_wp2_with fail
  refine (compare_any A B ca cb xs ys _ H1.out H2.out).mono ?_
  rw [F1.out]
  rintro e w1 ⟨rfl, hq⟩
  have hb := below_q hq
  have B1 : Hid (Below w.heap.size w w1) := hb
  have P_1 := Lib.hid (H1.out.below hb)
  have Q_1 := Lib.hid (H2.out.below hb)
  have R_1 := Lib.hid (H3.out.below hb)
  clear hb hq
  go_wp2_with fail
  refine (sub_yes_n P_1.out Q_1.out rfl rfl (by omega) (Nat.le_of_lt HV.out)).mono ?_
  rintro e w2 ⟨D, cD, rfl, ho, hb⟩
  have B2 : Hid (Below w.heap.size w w2) := B1.out.trans (hb.mono B1.out.size)
  have P_2 := Lib.hid (P_1.out.below hb)
  have Q_2 := Lib.hid (Q_1.out.below hb)
  have R_2 := Lib.hid (R_1.out.below hb)
  have D_2 := Lib.hid ho.rd
  clear hb ho P_1 Q_1 R_1 B1
  go_wp2_with fail
  refine (awake_any _).mono ?_
  rintro e w3 ⟨rfl, hb⟩
  have B3 : Hid (Below w.heap.size w w3) := B2.out.trans (hb.mono B2.out.size)
  have P_3 := Lib.hid (P_2.out.below hb)
  have Q_3 := Lib.hid (Q_2.out.below hb)
  have R_3 := Lib.hid (R_2.out.below hb)
  clear hb P_2 Q_2 R_2 B2
  go_wp2_with fail
  refine (compare_any B A cb ca ys xs _ Q_3.out P_3.out).mono ?_
  rw [F2.out]
  rintro e w4 ⟨rfl, hq⟩
  have hb := below_q hq
  have B4 : Hid (Below w.heap.size w w4) := B3.out.trans (hb.mono B3.out.size)
  have P_4 := Lib.hid (P_3.out.below hb)
  have Q_4 := Lib.hid (Q_3.out.below hb)
  have R_4 := Lib.hid (R_3.out.below hb)
  clear hb hq P_3 Q_3 R_3 B3
  go_wp2_with fail
  refine (add_n P_4.out R_4.out rfl rfl (by omega) (by omega)).mono ?_
  rintro e w5 ⟨S, cS, rfl, ho, hb⟩
  have B5 : Hid (Below w.heap.size w w5) := B4.out.trans (hb.mono B4.out.size)
  have P_5 := Lib.hid (P_4.out.below hb)
  have Q_5 := Lib.hid (Q_4.out.below hb)
  have R_5 := Lib.hid (R_4.out.below hb)
  have S_5 := Lib.hid ho.rd
  clear hb ho P_4 Q_4 R_4 B4
  go_wp2_with fail
  refine (add_n Q_5.out R_5.out rfl rfl (by omega) (by omega)).mono ?_
  rintro e w6 ⟨T, cT, rfl, ho, hb⟩
  have B6 : Hid (Below w.heap.size w w6) := B5.out.trans (hb.mono B5.out.size)
  have P_6 := Lib.hid (P_5.out.below hb)
  have Q_6 := Lib.hid (Q_5.out.below hb)
  have R_6 := Lib.hid (R_5.out.below hb)
  have S_6 := Lib.hid (S_5.out.below hb)
  have T_6 := Lib.hid ho.rd
  clear hb ho P_5 Q_5 R_5 S_5 B5
  go_wp2_with fail
  refine (compare_n S_6.out T_6.out rfl rfl).mono ?_
  rw [val_ofv, val_ofv, F3.out]
  rintro e w7 ⟨rfl, hq⟩
  have hb := below_q hq
  have B7 : Hid (Below w.heap.size w w7) := B6.out.trans (hb.mono B6.out.size)
  have P_7 := Lib.hid (P_6.out.below hb)
  have Q_7 := Lib.hid (Q_6.out.below hb)
  have R_7 := Lib.hid (R_6.out.below hb)
  clear hb hq P_6 Q_6 R_6 S_6 T_6 B6
  go_wp2_with fail
  refine (bits_n R_7.out rfl (by omega)).mono ?_
  generalize nbits (val zs) = nb at *
  have hb0 : ((nb : Int) == 0) = false := by have := FZ.out; simp; exact this
  rintro e w' ⟨rfl, rfl⟩
  go_wp2_with fail
  refine (mul_n P_7.out R_7.out rfl rfl (by omega)).mono ?_
  rintro e w8 ⟨S, cS, rfl, ho, hb⟩
  have B8 : Hid (Below w.heap.size w w8) := B7.out.trans (hb.mono B7.out.size)
  have P_8 := Lib.hid (P_7.out.below hb)
  have Q_8 := Lib.hid (Q_7.out.below hb)
  have R_8 := Lib.hid (R_7.out.below hb)
  have S_8 := Lib.hid ho.rd
  clear hb ho P_7 Q_7 R_7 B7
  go_wp2_with fail
  refine (mul_n Q_8.out R_8.out rfl rfl (by omega)).mono ?_
  rintro e w9 ⟨T, cT, rfl, ho, hb⟩
  have B9 : Hid (Below w.heap.size w w9) := B8.out.trans (hb.mono B8.out.size)
  have P_9 := Lib.hid (P_8.out.below hb)
  have Q_9 := Lib.hid (Q_8.out.below hb)
  have R_9 := Lib.hid (R_8.out.below hb)
  have S_9 := Lib.hid (S_8.out.below hb)
  have T_9 := Lib.hid ho.rd
  clear hb ho P_8 Q_8 R_8 S_8 B8
  go_wp2_with fail
  refine (compare_n S_9.out T_9.out rfl rfl).mono ?_
  rw [val_ofv, val_ofv, F4.out]
  rintro e w10 ⟨rfl, hq⟩
  have hb := below_q hq
  have B10 : Hid (Below w.heap.size w w10) := B9.out.trans (hb.mono B9.out.size)
  clear hb hq P_9 Q_9 R_9 S_9 T_9 B9
  go_wp2
  go_ret
  exact ⟨rfl, B10.out⟩

theorem naturalOrder_walk (A : Option Addr) (ca : Nat) (xs : List Nat) (B : Option Addr) (cb : Nat) (ys : List Nat) (C : Option Addr) (cc : Nat) (zs : List Nat) (w : World) (h : Rd w A ca xs) (hc : ca * 4 ≤ 140737488351232) (h' : Rd w B cb ys) (hc' : cb * 4 ≤ 140737488351232) (h'' : Rd w C cc zs) (hc'' : cc * 4 ≤ 140737488351232) :
    Calls Try.prog 10 #[.slice A xs.length ca, .slice B ys.length cb, .slice C zs.length cc] w fun e w' => e = .returned (.bool true) ∧ Below w.heap.size w w' := by
  have n1 : xs.length ≤ 35184372087808 := by have := h.len; omega
  have n2 : ys.length ≤ 35184372087808 := by have := h'.len; omega
  have n3 : zs.length ≤ 35184372087808 := by have := h''.len; omega
  rcases Nat.eq_zero_or_pos (val zs) with z | z
  · rcases (show val xs < val ys ∨ val xs = val ys ∨ val ys < val xs by omega) with v | v | v
    · exact naturalOrder_lt_zero A ca xs B cb ys C cc zs w h n1 h' n2 h'' n3 v z
    · exact naturalOrder_eq_zero A ca xs B cb ys C cc zs w h n1 h' n2 h'' n3 v z
    · exact naturalOrder_gt_zero A ca xs B cb ys C cc zs w h n1 h' n2 h'' n3 v z
  · rcases (show val xs < val ys ∨ val xs = val ys ∨ val ys < val xs by omega) with v | v | v
    · exact naturalOrder_lt_pos A ca xs B cb ys C cc zs w h n1 h' n2 h'' n3 v z
    · exact naturalOrder_eq_pos A ca xs B cb ys C cc zs w h n1 h' n2 h'' n3 v z
    · exact naturalOrder_gt_pos A ca xs B cb ys C cc zs w h n1 h' n2 h'' n3 v z
end Go.Proofs.Ytmmlfmjelhninaa
