/-
  The walk of the law NaturalValues: Trim, FromUint64, Uint64 and Compare answer as the reference.
-/
import Derived.Test.YtmmlfmjelhninaaAwake
import Derived.Test.YtmmlfmjelhninaaRsum
namespace Go.Proofs.Ytmmlfmjelhninaa
open Go.RowKit
set_option linter.unusedVariables false

theorem uint64_yes_n {A : Option Addr} {cap n : Nat} {xs : List Nat} {w : World} (h : Rd w A cap xs) (hn : xs.length = n) (hv : val xs < 18446744073709551616) :
    Calls Try.prog 14 #[.slice A n cap] w fun e w' => e = .returned (.tuple #[.int .u64 ((val xs : Nat) : Int), .bool true]) ∧ ∃ n, w' = w.drewN n := by
  subst hn; exact uint64_yes A cap xs w h hv
theorem uint64_of {A : Option Addr} {cap n v : Nat} {w : World} (h : Rd w A cap (ofv v)) (hn : (ofv v).length = n) (hv : v < 18446744073709551616) :
    Calls Try.prog 14 #[.slice A n cap] w fun e w' => e = .returned (.tuple #[.int .u64 (v : Int), .bool true]) ∧ ∃ n, w' = w.drewN n := by
  have := uint64_yes_n h hn (by rw [val_ofv]; exact hv)
  rwa [val_ofv] at this

set_option maxHeartbeats 4000000 in
theorem naturalValues_walk (A : Option Addr) (ca : Nat) (xs : List Nat) (B : Option Addr) (cb : Nat) (ys : List Nat) (v : Int) (w : World) (h : Rd w A ca xs) (hc : ca * 4 ≤ 140737488351232) (h' : Rd w B cb ys) (hc' : cb * 4 ≤ 140737488351232) (hv0 : 0 ≤ v ∧ v ≤ 18446744073709551615) :
    Calls Try.prog 3 #[.slice A xs.length ca, .slice B ys.length cb, .int .u64 v] w fun e w' => e = .returned (.bool true) ∧ Below w.heap.size w w' := by
  obtain ⟨v, rfl⟩ : ∃ n : Nat, v = (n : Int) := Int.eq_ofNat_of_zero_le hv0.1
  have hv1 : v < 18446744073709551616 := by omega
  have hn1 : xs.length ≤ 35184372087808 := by have := h.len; omega
  have hn2 : ys.length ≤ 35184372087808 := by have := h'.len; omega
  have H := Lib.hid h
  have H' := Lib.hid h'
  have HV := Lib.hid hv1
  clear h h' hc hc' hv0 hv1
  rcases Nat.lt_or_ge (val xs) 18446744073709551616 with hlt | hge
  · have hx := Lib.hid hlt
    clear hlt
    go_enter Try.func3, Try.ntmps3
    go_wp2_with fail
    refine (uint64_yes A ca xs _ H.out hx.out).mono ?_
    rintro e w1 ⟨rfl, hq⟩
    have hb := below_q hq
    have B1 : Hid (Below w.heap.size w w1) := hb
    have P_1 := Lib.hid (H.out.below hb)
    have Q_1 := Lib.hid (H'.out.below hb)
    clear hb hq
    go_wp2_with fail
    refine (ruint64_yes A ca xs _ P_1.out (by omega) hx.out).mono ?_
    rintro e w2 ⟨rfl, hb⟩
    have B2 : Hid (Below w.heap.size w w2) := B1.out.trans (hb.mono B1.out.size)
    have P_2 := Lib.hid (P_1.out.below hb)
    have Q_2 := Lib.hid (Q_1.out.below hb)
    clear hb P_1 Q_1 B1
    go_wp2_with fail
    refine (from_any v _ HV.out).mono ?_
    rintro e w3 ⟨F, cF, rfl, ho, hb⟩
    have B3 : Hid (Below w.heap.size w w3) := B2.out.trans (hb.mono B2.out.size)
    have P_3 := Lib.hid (P_2.out.below hb)
    have Q_3 := Lib.hid (Q_2.out.below hb)
    have F_3 := Lib.hid ho.rd
    clear hb ho P_2 Q_2 B2
    go_wp2_with fail
    refine (uint64_of F_3.out rfl HV.out).mono ?_
    rintro e w4 ⟨rfl, hq⟩
    have hb := below_q hq
    have B4 : Hid (Below w.heap.size w w4) := B3.out.trans (hb.mono B3.out.size)
    have P_4 := Lib.hid (P_3.out.below hb)
    have Q_4 := Lib.hid (Q_3.out.below hb)
    clear hb hq P_3 Q_3 F_3 B3
    go_wp2_with fail
    refine (awake_any _).mono ?_
    rintro e w5 ⟨rfl, hb⟩
    have B5 : Hid (Below w.heap.size w w5) := B4.out.trans (hb.mono B4.out.size)
    have P_5 := Lib.hid (P_4.out.below hb)
    have Q_5 := Lib.hid (Q_4.out.below hb)
    clear hb P_4 Q_4 B4
    go_wp2_with fail
    refine (trim_n P_5.out rfl (by omega)).mono ?_
    rintro e w6 ⟨S, cS, rfl, ho, hb⟩
    have B6 : Hid (Below w.heap.size w w6) := B5.out.trans (hb.mono B5.out.size)
    have P_6 := Lib.hid (P_5.out.below hb)
    have Q_6 := Lib.hid (Q_5.out.below hb)
    have S_6 := Lib.hid ho.rd
    clear hb ho P_5 Q_5 B5
    go_wp2_with fail
    refine (rtrim_n P_6.out rfl (by omega)).mono ?_
    rintro e w7 ⟨T, cT, rfl, ho, hb⟩
    have B7 : Hid (Below w.heap.size w w7) := B6.out.trans (hb.mono B6.out.size)
    have P_7 := Lib.hid (P_6.out.below hb)
    have Q_7 := Lib.hid (Q_6.out.below hb)
    have S_7 := Lib.hid (S_6.out.below hb)
    have T_7 := Lib.hid ho.rd
    clear hb ho P_6 Q_6 S_6 B6
    go_wp2_with fail
    refine (equal_n S_7.out T_7.out rfl rfl rfl).mono ?_
    rintro e w8 ⟨rfl, hq⟩
    have hb := below_q hq
    have B8 : Hid (Below w.heap.size w w8) := B7.out.trans (hb.mono B7.out.size)
    have P_8 := Lib.hid (P_7.out.below hb)
    have Q_8 := Lib.hid (Q_7.out.below hb)
    clear hb hq P_7 Q_7 S_7 T_7 B7
    go_wp2_with fail
    refine (from_any v _ HV.out).mono ?_
    rintro e w9 ⟨S, cS, rfl, ho, hb⟩
    have B9 : Hid (Below w.heap.size w w9) := B8.out.trans (hb.mono B8.out.size)
    have P_9 := Lib.hid (P_8.out.below hb)
    have Q_9 := Lib.hid (Q_8.out.below hb)
    have S_9 := Lib.hid ho.rd
    clear hb ho P_8 Q_8 B8
    go_wp2_with fail
    refine (rfrom_any v _ HV.out).mono ?_
    rintro e w10 ⟨T, cT, rfl, ho, hb⟩
    have B10 : Hid (Below w.heap.size w w10) := B9.out.trans (hb.mono B9.out.size)
    have P_10 := Lib.hid (P_9.out.below hb)
    have Q_10 := Lib.hid (Q_9.out.below hb)
    have S_10 := Lib.hid (S_9.out.below hb)
    have T_10 := Lib.hid ho.rd
    clear hb ho P_9 Q_9 S_9 B9
    go_wp2_with fail
    refine (equal_n S_10.out T_10.out rfl rfl rfl).mono ?_
    rintro e w11 ⟨rfl, hq⟩
    have hb := below_q hq
    have B11 : Hid (Below w.heap.size w w11) := B10.out.trans (hb.mono B10.out.size)
    have P_11 := Lib.hid (P_10.out.below hb)
    have Q_11 := Lib.hid (Q_10.out.below hb)
    clear hb hq P_10 Q_10 S_10 T_10 B10
    go_wp2_with fail
    refine (compare_any A B ca cb xs ys _ P_11.out Q_11.out).mono ?_
    rintro e w12 ⟨rfl, hq⟩
    have hb := below_q hq
    have B12 : Hid (Below w.heap.size w w12) := B11.out.trans (hb.mono B11.out.size)
    have P_12 := Lib.hid (P_11.out.below hb)
    have Q_12 := Lib.hid (Q_11.out.below hb)
    clear hb hq P_11 Q_11 B11
    go_wp2_with fail
    refine (rcompare_any A B ca cb xs ys _ P_12.out Q_12.out (by omega) (by omega)).mono ?_
    rintro e w13 ⟨rfl, hb⟩
    have B13 : Hid (Below w.heap.size w w13) := B12.out.trans (hb.mono B12.out.size)
    clear hb P_12 Q_12 B12
    go_wp2
    go_ret
    exact ⟨rfl, B13.out⟩
  · have hx := Lib.hid hge
    clear hge
    go_enter Try.func3, Try.ntmps3
    go_wp2_with fail
    refine (uint64_no A ca xs _ H.out hx.out).mono ?_
    rintro e w1 ⟨rfl, hq⟩
    have hb := below_q hq
    have B1 : Hid (Below w.heap.size w w1) := hb
    have P_1 := Lib.hid (H.out.below hb)
    have Q_1 := Lib.hid (H'.out.below hb)
    clear hb hq
    go_wp2_with fail
    refine (ruint64_no A ca xs _ P_1.out (by omega) hx.out).mono ?_
    rintro e w2 ⟨rfl, hb⟩
    have B2 : Hid (Below w.heap.size w w2) := B1.out.trans (hb.mono B1.out.size)
    have P_2 := Lib.hid (P_1.out.below hb)
    have Q_2 := Lib.hid (Q_1.out.below hb)
    clear hb P_1 Q_1 B1
    go_wp2_with fail
    refine (from_any v _ HV.out).mono ?_
    rintro e w3 ⟨F, cF, rfl, ho, hb⟩
    have B3 : Hid (Below w.heap.size w w3) := B2.out.trans (hb.mono B2.out.size)
    have P_3 := Lib.hid (P_2.out.below hb)
    have Q_3 := Lib.hid (Q_2.out.below hb)
    have F_3 := Lib.hid ho.rd
    clear hb ho P_2 Q_2 B2
    go_wp2_with fail
    refine (uint64_of F_3.out rfl HV.out).mono ?_
    rintro e w4 ⟨rfl, hq⟩
    have hb := below_q hq
    have B4 : Hid (Below w.heap.size w w4) := B3.out.trans (hb.mono B3.out.size)
    have P_4 := Lib.hid (P_3.out.below hb)
    have Q_4 := Lib.hid (Q_3.out.below hb)
    clear hb hq P_3 Q_3 F_3 B3
    go_wp2_with fail
    refine (awake_any _).mono ?_
    rintro e w5 ⟨rfl, hb⟩
    have B5 : Hid (Below w.heap.size w w5) := B4.out.trans (hb.mono B4.out.size)
    have P_5 := Lib.hid (P_4.out.below hb)
    have Q_5 := Lib.hid (Q_4.out.below hb)
    clear hb P_4 Q_4 B4
    go_wp2_with fail
    refine (trim_n P_5.out rfl (by omega)).mono ?_
    rintro e w6 ⟨S, cS, rfl, ho, hb⟩
    have B6 : Hid (Below w.heap.size w w6) := B5.out.trans (hb.mono B5.out.size)
    have P_6 := Lib.hid (P_5.out.below hb)
    have Q_6 := Lib.hid (Q_5.out.below hb)
    have S_6 := Lib.hid ho.rd
    clear hb ho P_5 Q_5 B5
    go_wp2_with fail
    refine (rtrim_n P_6.out rfl (by omega)).mono ?_
    rintro e w7 ⟨T, cT, rfl, ho, hb⟩
    have B7 : Hid (Below w.heap.size w w7) := B6.out.trans (hb.mono B6.out.size)
    have P_7 := Lib.hid (P_6.out.below hb)
    have Q_7 := Lib.hid (Q_6.out.below hb)
    have S_7 := Lib.hid (S_6.out.below hb)
    have T_7 := Lib.hid ho.rd
    clear hb ho P_6 Q_6 S_6 B6
    go_wp2_with fail
    refine (equal_n S_7.out T_7.out rfl rfl rfl).mono ?_
    rintro e w8 ⟨rfl, hq⟩
    have hb := below_q hq
    have B8 : Hid (Below w.heap.size w w8) := B7.out.trans (hb.mono B7.out.size)
    have P_8 := Lib.hid (P_7.out.below hb)
    have Q_8 := Lib.hid (Q_7.out.below hb)
    clear hb hq P_7 Q_7 S_7 T_7 B7
    go_wp2_with fail
    refine (from_any v _ HV.out).mono ?_
    rintro e w9 ⟨S, cS, rfl, ho, hb⟩
    have B9 : Hid (Below w.heap.size w w9) := B8.out.trans (hb.mono B8.out.size)
    have P_9 := Lib.hid (P_8.out.below hb)
    have Q_9 := Lib.hid (Q_8.out.below hb)
    have S_9 := Lib.hid ho.rd
    clear hb ho P_8 Q_8 B8
    go_wp2_with fail
    refine (rfrom_any v _ HV.out).mono ?_
    rintro e w10 ⟨T, cT, rfl, ho, hb⟩
    have B10 : Hid (Below w.heap.size w w10) := B9.out.trans (hb.mono B9.out.size)
    have P_10 := Lib.hid (P_9.out.below hb)
    have Q_10 := Lib.hid (Q_9.out.below hb)
    have S_10 := Lib.hid (S_9.out.below hb)
    have T_10 := Lib.hid ho.rd
    clear hb ho P_9 Q_9 S_9 B9
    go_wp2_with fail
    refine (equal_n S_10.out T_10.out rfl rfl rfl).mono ?_
    rintro e w11 ⟨rfl, hq⟩
    have hb := below_q hq
    have B11 : Hid (Below w.heap.size w w11) := B10.out.trans (hb.mono B10.out.size)
    have P_11 := Lib.hid (P_10.out.below hb)
    have Q_11 := Lib.hid (Q_10.out.below hb)
    clear hb hq P_10 Q_10 S_10 T_10 B10
    go_wp2_with fail
    refine (compare_any A B ca cb xs ys _ P_11.out Q_11.out).mono ?_
    rintro e w12 ⟨rfl, hq⟩
    have hb := below_q hq
    have B12 : Hid (Below w.heap.size w w12) := B11.out.trans (hb.mono B11.out.size)
    have P_12 := Lib.hid (P_11.out.below hb)
    have Q_12 := Lib.hid (Q_11.out.below hb)
    clear hb hq P_11 Q_11 B11
    go_wp2_with fail
    refine (rcompare_any A B ca cb xs ys _ P_12.out Q_12.out (by omega) (by omega)).mono ?_
    rintro e w13 ⟨rfl, hb⟩
    have B13 : Hid (Below w.heap.size w w13) := B12.out.trans (hb.mono B12.out.size)
    clear hb P_12 Q_12 B12
    go_wp2
    go_ret
    exact ⟨rfl, B13.out⟩
end Go.Proofs.Ytmmlfmjelhninaa
