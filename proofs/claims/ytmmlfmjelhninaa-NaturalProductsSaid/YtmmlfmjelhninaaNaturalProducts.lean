/-
  The walk of the law NaturalProducts: Mul and DivMod agree with the reference's.
-/
import Derived.Test.YtmmlfmjelhninaaDmany
import Derived.Test.YtmmlfmjelhninaaRdmt
import Derived.Test.YtmmlfmjelhninaaRmul
namespace Go.Proofs.Ytmmlfmjelhninaa
open Go.RowKit
set_option linter.unusedVariables false

theorem pr_len_mono {u v : Nat} (h : u ≤ v) : (ofv u).length ≤ (ofv v).length := len_ofv_le_of_lt (Nat.lt_of_le_of_lt h (lt_pw_len v))

set_option maxHeartbeats 4000000 in
theorem naturalProducts_walk (A : Option Addr) (ca : Nat) (xs : List Nat) (B : Option Addr) (cb : Nat) (ys : List Nat) (w : World) (h : Rd w A ca xs) (hc : ca * 4 ≤ 140737488351232) (h' : Rd w B cb ys) (hc' : cb * 4 ≤ 140737488351232) :
    Calls Try.prog 5 #[.slice A xs.length ca, .slice B ys.length cb] w fun e w' => e = .returned (.bool true) ∧ Below w.heap.size w w' := by
  have hn1 : xs.length ≤ 35184372087808 := by have := h.len; omega
  have hn2 : ys.length ≤ 35184372087808 := by have := h'.len; omega
  have hlx := len_ofv_le h.ok
  have H1 := Lib.hid h
  have H2 := Lib.hid h'
  clear h h' hc hc'
  rcases Nat.eq_zero_or_pos (val ys) with h0 | h0
  · have HV := Lib.hid h0
    clear h0
    go_enter Try.func5, Try.ntmps5
    go_wp2_with fail
    refine (dm_zero A B ca cb xs ys _ H1.out H2.out HV.out).mono ?_
    rintro e w1 ⟨rfl, hb⟩
    have B1 : Hid (Below w.heap.size w w1) := hb
    have P_1 := Lib.hid (H1.out.below hb)
    have Q_1 := Lib.hid (H2.out.below hb)
    clear hb
    go_wp2_with fail
    refine (rdm_zero A B ca cb xs ys _ Q_1.out (by omega) HV.out).mono ?_
    rintro e w2 ⟨rfl, hb⟩
    have B2 : Hid (Below w.heap.size w w2) := B1.out.trans (hb.mono B1.out.size)
    have P_2 := Lib.hid (P_1.out.below hb)
    have Q_2 := Lib.hid (Q_1.out.below hb)
    clear hb P_1 Q_1 B1
    go_wp2_with fail
    refine (awake_any _).mono ?_
    rintro e w3 ⟨rfl, hb⟩
    have B3 : Hid (Below w.heap.size w w3) := B2.out.trans (hb.mono B2.out.size)
    have P_3 := Lib.hid (P_2.out.below hb)
    have Q_3 := Lib.hid (Q_2.out.below hb)
    clear hb P_2 Q_2 B2
    go_wp2_with fail
    refine (mul_n P_3.out Q_3.out rfl rfl (by omega)).mono ?_
    rintro e w4 ⟨S, cS, rfl, ho, hb⟩
    have B4 : Hid (Below w.heap.size w w4) := B3.out.trans (hb.mono B3.out.size)
    have P_4 := Lib.hid (P_3.out.below hb)
    have Q_4 := Lib.hid (Q_3.out.below hb)
    have S_4 := Lib.hid ho.rd
    clear hb ho P_3 Q_3 B3
    go_wp2_with fail
    refine (rmul_n P_4.out Q_4.out rfl rfl (by omega)).mono ?_
    rintro e w5 ⟨T, cT, rfl, ho, hb⟩
    have B5 : Hid (Below w.heap.size w w5) := B4.out.trans (hb.mono B4.out.size)
    have S_5 := Lib.hid (S_4.out.below hb)
    have T_5 := Lib.hid ho.rd
    clear hb ho P_4 Q_4 S_4 B4
    go_wp2_with fail
    refine (equal_n S_5.out T_5.out rfl rfl rfl).mono ?_
    rintro e w6 ⟨rfl, hq⟩
    have hb := below_q hq
    have B6 : Hid (Below w.heap.size w w6) := B5.out.trans (hb.mono B5.out.size)
    clear hb hq S_5 T_5 B5
    go_wp2_with fail
    refine (equal_n (Rd.nil _ _) (Rd.nil _ _) rfl rfl rfl).mono ?_
    rintro e w7 ⟨rfl, hq⟩
    have hb := below_q hq
    have B7 : Hid (Below w.heap.size w w7) := B6.out.trans (hb.mono B6.out.size)
    clear hb hq B6
    go_wp2_with fail
    refine (equal_n (Rd.nil _ _) (Rd.nil _ _) rfl rfl rfl).mono ?_
    rintro e w8 ⟨rfl, hq⟩
    have hb := below_q hq
    have B8 : Hid (Below w.heap.size w w8) := B7.out.trans (hb.mono B7.out.size)
    clear hb hq B7
    go_wp2
    go_ret
    exact ⟨rfl, B8.out⟩
  · have hq := pr_len_mono (Nat.div_le_self (val xs) (val ys))
    have hm := pr_len_mono (Nat.mod_le (val xs) (val ys))
    have HV := Lib.hid h0
    clear h0
    go_enter Try.func5, Try.ntmps5
    go_wp2_with fail
    refine (dm_any A B ca cb xs ys _ H1.out H2.out (by omega) HV.out).mono ?_
    rintro e w1 ⟨D, cD, M, cM, rfl, ho, ho2, hb⟩
    have B1 : Hid (Below w.heap.size w w1) := hb
    have P_1 := Lib.hid (H1.out.below hb)
    have Q_1 := Lib.hid (H2.out.below hb)
    have D_1 := Lib.hid ho.rd
    have M_1 := Lib.hid ho2.rd
    clear hb ho ho2
    go_wp2_with fail
    refine (rdm_any A B ca cb xs ys _ P_1.out Q_1.out (by omega) (by omega) HV.out).mono ?_
    rintro e w2 ⟨E, cE, N, cN, rfl, ho, ho2, hb⟩
    have B2 : Hid (Below w.heap.size w w2) := B1.out.trans (hb.mono B1.out.size)
    have P_2 := Lib.hid (P_1.out.below hb)
    have Q_2 := Lib.hid (Q_1.out.below hb)
    have D_2 := Lib.hid (D_1.out.below hb)
    have M_2 := Lib.hid (M_1.out.below hb)
    have E_2 := Lib.hid ho.rd
    have N_2 := Lib.hid ho2.rd
    clear hb ho ho2 P_1 Q_1 D_1 M_1 B1
    go_wp2_with fail
    refine (awake_any _).mono ?_
    rintro e w3 ⟨rfl, hb⟩
    have B3 : Hid (Below w.heap.size w w3) := B2.out.trans (hb.mono B2.out.size)
    have P_3 := Lib.hid (P_2.out.below hb)
    have Q_3 := Lib.hid (Q_2.out.below hb)
    have D_3 := Lib.hid (D_2.out.below hb)
    have M_3 := Lib.hid (M_2.out.below hb)
    have E_3 := Lib.hid (E_2.out.below hb)
    have N_3 := Lib.hid (N_2.out.below hb)
    clear hb P_2 Q_2 D_2 M_2 E_2 N_2 B2
    go_wp2_with fail
    refine (mul_n P_3.out Q_3.out rfl rfl (by omega)).mono ?_
    rintro e w4 ⟨S, cS, rfl, ho, hb⟩
    have B4 : Hid (Below w.heap.size w w4) := B3.out.trans (hb.mono B3.out.size)
    have P_4 := Lib.hid (P_3.out.below hb)
    have Q_4 := Lib.hid (Q_3.out.below hb)
    have D_4 := Lib.hid (D_3.out.below hb)
    have M_4 := Lib.hid (M_3.out.below hb)
    have E_4 := Lib.hid (E_3.out.below hb)
    have N_4 := Lib.hid (N_3.out.below hb)
    have S_4 := Lib.hid ho.rd
    clear hb ho P_3 Q_3 D_3 M_3 E_3 N_3 B3
    go_wp2_with fail
    refine (rmul_n P_4.out Q_4.out rfl rfl (by omega)).mono ?_
    rintro e w5 ⟨T, cT, rfl, ho, hb⟩
    have B5 : Hid (Below w.heap.size w w5) := B4.out.trans (hb.mono B4.out.size)
    have D_5 := Lib.hid (D_4.out.below hb)
    have M_5 := Lib.hid (M_4.out.below hb)
    have E_5 := Lib.hid (E_4.out.below hb)
    have N_5 := Lib.hid (N_4.out.below hb)
    have S_5 := Lib.hid (S_4.out.below hb)
    have T_5 := Lib.hid ho.rd
    clear hb ho P_4 Q_4 D_4 M_4 E_4 N_4 S_4 B4
    go_wp2_with fail
    refine (equal_n S_5.out T_5.out rfl rfl rfl).mono ?_
    rintro e w6 ⟨rfl, hq⟩
    have hb := below_q hq
    have B6 : Hid (Below w.heap.size w w6) := B5.out.trans (hb.mono B5.out.size)
    have D_6 := Lib.hid (D_5.out.below hb)
    have M_6 := Lib.hid (M_5.out.below hb)
    have E_6 := Lib.hid (E_5.out.below hb)
    have N_6 := Lib.hid (N_5.out.below hb)
    clear hb hq D_5 M_5 E_5 N_5 S_5 T_5 B5
    go_wp2_with fail
    refine (equal_n D_6.out E_6.out rfl rfl rfl).mono ?_
    rintro e w7 ⟨rfl, hq⟩
    have hb := below_q hq
    have B7 : Hid (Below w.heap.size w w7) := B6.out.trans (hb.mono B6.out.size)
    have M_7 := Lib.hid (M_6.out.below hb)
    have N_7 := Lib.hid (N_6.out.below hb)
    clear hb hq D_6 M_6 E_6 N_6 B6
    go_wp2_with fail
    refine (equal_n M_7.out N_7.out rfl rfl rfl).mono ?_
    rintro e w8 ⟨rfl, hq⟩
    have hb := below_q hq
    have B8 : Hid (Below w.heap.size w w8) := B7.out.trans (hb.mono B7.out.size)
    clear hb hq M_7 N_7 B7
    go_wp2
    go_ret
    exact ⟨rfl, B8.out⟩
end Go.Proofs.Ytmmlfmjelhninaa
