/-
  The walk of the law NaturalScaling: a shift to the left multiplies by a power of two, and a shift to the right undoes it.
-/
import Derived.Test.YtmmlfmjelhninaaShifts
import Derived.Test.YtmmlfmjelhninaaRsum
namespace Go.Proofs.Ytmmlfmjelhninaa
open Go.RowKit
set_option linter.unusedVariables false

theorem len_mul (a b : Nat) : (ofv (a * b)).length ≤ (ofv a).length + (ofv b).length := by
  apply len_ofv_le_of_lt
  rw [pw_add]
  exact Nat.mul_lt_mul'' (lt_pw_len a) (lt_pw_len b)
theorem len_two_pow {n : Nat} (h : n ≤ 255) : (ofv (2 ^ n)).length ≤ 8 := by
  apply len_ofv_le_of_lt
  rw [← two_pow_32]
  exact Nat.pow_lt_pow_right (by omega) (by omega)

set_option maxHeartbeats 4000000 in
theorem naturalScaling_walk (A : Option Addr) (ca : Nat) (xs : List Nat) (n : Int) (w : World) (h : Rd w A ca xs) (hc : ca * 4 ≤ 140737488351232) (hn0 : 0 ≤ n ∧ n ≤ 255) :
    Calls Try.prog 11 #[.slice A xs.length ca, .int .u8 n] w fun e w' => e = .returned (.bool true) ∧ Below w.heap.size w w' := by
  obtain ⟨n, rfl⟩ : ∃ k : Nat, n = (k : Int) := Int.eq_ofNat_of_zero_le hn0.1
  have hn : n ≤ 255 := by omega
  have hn1 : xs.length ≤ 35184372087808 := by have := h.len; omega
  have hl1 := len_ofv_le h.ok
  have hl2 := len_mul (val xs) (2 ^ n)
  have hl3 := len_two_pow hn
  have hlx : (ofv (val xs * 2 ^ n)).length ≤ 35184372087816 := by omega
  have H1 := Lib.hid h
  have HD : Hid (val xs * 2 ^ n / 2 ^ n = val xs) := Nat.mul_div_cancel _ (Nat.pow_pos (by omega))
  have HB := Lib.hid (nbits_two_pow n)
  clear h hc hn0 hl1 hl2
  go_enter Try.func11, Try.ntmps11
  go_wp2_with fail
  refine (shl_n (xs := [1]) (rd_row (row_new rfl rfl) (okl1 (by omega)) rfl (by simp)) rfl n rfl (by omega) (by simp)).mono ?_
  rw [v1, Nat.one_mul]
  rintro e w1 ⟨S, cS, rfl, ho, hb0⟩
  have hb : Below w.heap.size w w1 := ((Below.refl _ w).alloc (Nat.le_refl _) _).trans (hb0.mono (by simp <;> omega))
  clear hb0
  have B1 : Hid (Below w.heap.size w w1) := hb
  have P_1 := Lib.hid (H1.out.below hb)
  have S_1 := Lib.hid ho.rd
  clear hb ho
  go_wp2_with fail
  refine (shl_n P_1.out rfl n rfl (by omega) (by omega)).mono ?_
  rintro e w2 ⟨X, cX, rfl, ho, hb⟩
  have B2 : Hid (Below w.heap.size w w2) := B1.out.trans (hb.mono B1.out.size)
  have P_2 := Lib.hid (P_1.out.below hb)
  have S_2 := Lib.hid (S_1.out.below hb)
  have X_2 := Lib.hid ho.rd
  clear hb ho P_1 S_1 B1
  go_wp2_with fail
  refine (shr_n X_2.out rfl n rfl (by omega) (by omega)).mono ?_
  rw [val_ofv, HD.out]
  rintro e w3 ⟨Y, cY, rfl, ho, hb⟩
  have B3 : Hid (Below w.heap.size w w3) := B2.out.trans (hb.mono B2.out.size)
  have P_3 := Lib.hid (P_2.out.below hb)
  have S_3 := Lib.hid (S_2.out.below hb)
  have X_3 := Lib.hid (X_2.out.below hb)
  have Y_3 := Lib.hid ho.rd
  clear hb ho P_2 S_2 X_2 B2
  go_wp2_with fail
  refine (awake_any _).mono ?_
  rintro e w4 ⟨rfl, hb⟩
  have B4 : Hid (Below w.heap.size w w4) := B3.out.trans (hb.mono B3.out.size)
  have P_4 := Lib.hid (P_3.out.below hb)
  have S_4 := Lib.hid (S_3.out.below hb)
  have X_4 := Lib.hid (X_3.out.below hb)
  have Y_4 := Lib.hid (Y_3.out.below hb)
  clear hb P_3 S_3 X_3 Y_3 B3
  go_wp2_with fail
  refine (bits_n S_4.out rfl (by omega)).mono ?_
  rw [val_ofv, HB.out]
  rintro e w' ⟨rfl, rfl⟩
  go_wp2_with fail
  refine (mul_n P_4.out S_4.out rfl rfl (by omega)).mono ?_
  rw [val_ofv]
  rintro e w5 ⟨M, cM, rfl, ho, hb⟩
  have B5 : Hid (Below w.heap.size w w5) := B4.out.trans (hb.mono B4.out.size)
  have P_5 := Lib.hid (P_4.out.below hb)
  have X_5 := Lib.hid (X_4.out.below hb)
  have Y_5 := Lib.hid (Y_4.out.below hb)
  have M_5 := Lib.hid ho.rd
  clear hb ho P_4 S_4 X_4 Y_4 B4
  go_wp2_with fail
  refine (equal_n X_5.out M_5.out rfl rfl rfl).mono ?_
  rintro e w6 ⟨rfl, hq⟩
  have hb := below_q hq
  have B6 : Hid (Below w.heap.size w w6) := B5.out.trans (hb.mono B5.out.size)
  have P_6 := Lib.hid (P_5.out.below hb)
  have Y_6 := Lib.hid (Y_5.out.below hb)
  clear hb hq P_5 X_5 Y_5 M_5 B5
  go_wp2_with fail
  refine (rtrim_n P_6.out rfl (by omega)).mono ?_
  rintro e w7 ⟨M, cM, rfl, ho, hb⟩
  have B7 : Hid (Below w.heap.size w w7) := B6.out.trans (hb.mono B6.out.size)
  have Y_7 := Lib.hid (Y_6.out.below hb)
  have M_7 := Lib.hid ho.rd
  clear hb ho P_6 Y_6 B6
  go_wp2_with fail
  refine (equal_n Y_7.out M_7.out rfl rfl rfl).mono ?_
  rintro e w8 ⟨rfl, hq⟩
  have hb := below_q hq
  have B8 : Hid (Below w.heap.size w w8) := B7.out.trans (hb.mono B7.out.size)
  clear hb hq Y_7 M_7 B7
  go_wp2
  go_ret
  exact ⟨rfl, B8.out⟩
end Go.Proofs.Ytmmlfmjelhninaa
