/-
  The walk of the law NaturalDivides: the quotient times the divisor plus the remainder is the dividend, and the remainder is less than the divisor.
-/
import Derived.Test.YtmmlfmjelhninaaDmany
import Derived.Test.YtmmlfmjelhninaaNaturalOrder
namespace Go.Proofs.Ytmmlfmjelhninaa
open Go.RowKit
set_option linter.unusedVariables false

theorem len_mono {u v : Nat} (h : u ≤ v) : (ofv u).length ≤ (ofv v).length := len_ofv_le_of_lt (Nat.lt_of_le_of_lt h (lt_pw_len v))

set_option maxHeartbeats 4000000 in
theorem naturalDivides_walk (A : Option Addr) (ca : Nat) (xs : List Nat) (B : Option Addr) (cb : Nat) (ys : List Nat) (w : World) (h : Rd w A ca xs) (hc : ca * 4 ≤ 140737488351232) (h' : Rd w B cb ys) (hc' : cb * 4 ≤ 140737488351232) :
    Calls Try.prog 7 #[.slice A xs.length ca, .slice B ys.length cb] w fun e w' => e = .returned (.bool true) ∧ Below w.heap.size w w' := by
  have hn1 : xs.length ≤ 35184372087808 := by have := h.len; omega
  have hn2 : ys.length ≤ 35184372087808 := by have := h'.len; omega
  have hlx := len_ofv_le h.ok
  have H1 := Lib.hid h
  have H2 := Lib.hid h'
  clear h h' hc hc'
  rcases Nat.eq_zero_or_pos (val ys) with h0 | h0
  · have HV := Lib.hid h0
    clear h0
    have HB : Hid (nbits (val ys) = 0) := by show _ = _; rw [HV.out, nbits_zero]
    go_enter Try.func7, Try.ntmps7
    go_wp2_with fail
    refine (dm_zero A B ca cb xs ys _ H1.out H2.out HV.out).mono ?_
    rintro e w1 ⟨rfl, hb⟩
    have B1 : Hid (Below w.heap.size w w1) := hb
    have Q_1 := Lib.hid (H2.out.below hb)
    clear hb
    go_wp2_with fail
    refine (bits_n Q_1.out rfl (by omega)).mono ?_
    rw [HB.out]
    rintro e w' ⟨rfl, rfl⟩
    go_wp2_with fail
    refine (awake_any _).mono ?_
    rintro e w2 ⟨rfl, hb⟩
    have B2 : Hid (Below w.heap.size w w2) := B1.out.trans (hb.mono B1.out.size)
    clear hb Q_1 B1
    go_wp2
    go_ret
    exact ⟨rfl, B2.out⟩
  · have hq := len_mono (Nat.div_le_self (val xs) (val ys))
    have hm := len_mono (Nat.mod_le (val xs) (val ys))
    have hp := len_mono (Nat.div_mul_le_self (val xs) (val ys))
    have HV := Lib.hid h0
    have F1 : Hid (cmp (val xs / val ys * val ys + val xs % val ys) (val xs) = 0) := by
      apply cmp_eq
      rw [Nat.mul_comm]; exact Nat.div_add_mod _ _
    have F2 := Lib.hid (cmp_lt (Nat.mod_lt (val xs) h0))
    clear h0
    go_enter Try.func7, Try.ntmps7
    go_wp2_with fail
    refine (dm_any A B ca cb xs ys _ H1.out H2.out (by omega) HV.out).mono ?_
    rintro e w1 ⟨D, cD, M, cM, rfl, ho, ho2, hb⟩
    have B1 : Hid (Below w.heap.size w w1) := hb
    have P_1 := Lib.hid (H1.out.below hb)
    have Q_1 := Lib.hid (H2.out.below hb)
    have D_1 := Lib.hid ho.rd
    have M_1 := Lib.hid ho2.rd
    clear hb ho ho2
    go_wp2_with fail
    refine (mul_n D_1.out Q_1.out rfl rfl (by omega)).mono ?_
    rw [val_ofv]
    rintro e w2 ⟨S, cS, rfl, ho, hb⟩
    have B2 : Hid (Below w.heap.size w w2) := B1.out.trans (hb.mono B1.out.size)
    have P_2 := Lib.hid (P_1.out.below hb)
    have Q_2 := Lib.hid (Q_1.out.below hb)
    have M_2 := Lib.hid (M_1.out.below hb)
    have S_2 := Lib.hid ho.rd
    clear hb ho P_1 Q_1 D_1 M_1 B1
    go_wp2_with fail
    refine (add_n S_2.out M_2.out rfl rfl (by omega) (by omega)).mono ?_
    rw [val_ofv, val_ofv]
    rintro e w3 ⟨T, cT, rfl, ho, hb⟩
    have B3 : Hid (Below w.heap.size w w3) := B2.out.trans (hb.mono B2.out.size)
    have P_3 := Lib.hid (P_2.out.below hb)
    have Q_3 := Lib.hid (Q_2.out.below hb)
    have M_3 := Lib.hid (M_2.out.below hb)
    have T_3 := Lib.hid ho.rd
    clear hb ho P_2 Q_2 M_2 S_2 B2
    go_wp2_with fail
    refine (compare_n T_3.out P_3.out rfl rfl).mono ?_
    rw [val_ofv, F1.out]
    rintro e w4 ⟨rfl, hq⟩
    have hb := below_q hq
    have B4 : Hid (Below w.heap.size w w4) := B3.out.trans (hb.mono B3.out.size)
    have Q_4 := Lib.hid (Q_3.out.below hb)
    have M_4 := Lib.hid (M_3.out.below hb)
    clear hb hq P_3 Q_3 M_3 T_3 B3
    go_wp2_with fail
    refine (compare_n M_4.out Q_4.out rfl rfl).mono ?_
    rw [val_ofv, F2.out]
    rintro e w5 ⟨rfl, hq⟩
    have hb := below_q hq
    have B5 : Hid (Below w.heap.size w w5) := B4.out.trans (hb.mono B4.out.size)
    clear hb hq Q_4 M_4 B4
    go_wp2_with fail
    refine (awake_any _).mono ?_
    rintro e w6 ⟨rfl, hb⟩
    have B6 : Hid (Below w.heap.size w w6) := B5.out.trans (hb.mono B5.out.size)
    clear hb B5
    go_wp2
    go_ret
    exact ⟨rfl, B6.out⟩
end Go.Proofs.Ytmmlfmjelhninaa
