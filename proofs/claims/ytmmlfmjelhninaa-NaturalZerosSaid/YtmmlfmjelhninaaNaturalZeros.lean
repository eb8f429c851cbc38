/-
  The walk of the law NaturalZeros: trailing zero limbs of the arguments do not change any result.
-/
import Derived.Test.YtmmlfmjelhninaaGcd
import Derived.Test.YtmmlfmjelhninaaZeros
import Derived.Test.YtmmlfmjelhninaaNaturalDivides
import Derived.Test.YtmmlfmjelhninaaAwake
namespace Go.Proofs.Ytmmlfmjelhninaa
open Go.RowKit
set_option linter.unusedVariables false

theorem empty_row (w : World) : (w.alloc (.cells #[] 42)).ownsRow w.heap.size 42 1 (.slice (some ⟨w.heap.size, 0, none⟩) 0 0) 0 (([] : List Nat).map lv) :=
  World.ownsRow_made w #[] 0 (Nat.le_refl _) (by unfold maxLen; omega) rfl
theorem sub_no_n {A B : Option Addr} {ca cb n m : Nat} {xs ys : List Nat} {w : World} (h : Rd w A ca xs) (h' : Rd w B cb ys) (hn : xs.length = n) (hm : ys.length = m) (hv : val xs < val ys) :
    Calls Try.prog 24 #[.slice A n ca, .slice B m cb] w (GivesF w) := by
  subst hn hm; exact sub_no A B ca cb xs ys w h h' hv
theorem dm_zero_n {A B : Option Addr} {ca cb n m : Nat} {xs ys : List Nat} {w : World} (h : Rd w A ca xs) (h' : Rd w B cb ys) (hn : xs.length = n) (hm : ys.length = m) (hv : val ys = 0) :
    Calls Try.prog 28 #[.slice A n ca, .slice B m cb] w (GivesF2 w) := by
  subst hn hm; exact dm_zero A B ca cb xs ys w h h' hv
theorem val_zeros (xs : List Nat) (k : Nat) : val (xs ++ List.replicate k 0) = val xs := by
  rw [val_append, val_replicate]; omega

set_option maxHeartbeats 8000000 in
theorem naturalZeros_walk (A : Option Addr) (ca : Nat) (xs : List Nat) (B : Option Addr) (cb : Nat) (ys : List Nat) (n : Int) (w : World) (h : Rd w A ca xs) (hc : ca * 4 ≤ 140737488351232) (h' : Rd w B cb ys) (hc' : cb * 4 ≤ 140737488351232) (hn0 : 0 ≤ n ∧ n ≤ 255) :
    Calls Try.prog 12 #[.slice A xs.length ca, .slice B ys.length cb, .int .u8 n] w fun e w' => e = .returned (.bool true) ∧ Below w.heap.size w w' := by
  obtain ⟨n, rfl⟩ : ∃ k : Nat, n = (k : Int) := Int.eq_ofNat_of_zero_le hn0.1
  have hn : n ≤ 255 := by omega
  have hn1 : xs.length ≤ 35184372087808 := by have := h.len; omega
  have hn2 : ys.length ≤ 35184372087808 := by have := h'.len; omega
  have k1 := len_ofv_le h.ok
  have k2 := len_ofv_le h'.ok
  have H1 := Lib.hid h
  have H2 := Lib.hid h'
  clear h h' hc hc' hn0
  rcases Nat.eq_zero_or_pos (val ys) with h0 | h0
  · have HZ := Lib.hid h0
    have HLE : Hid (val ys ≤ val xs) := by show _ ≤ _; omega
    clear h0
    go_enter Try.func12, Try.ntmps12
    go_wp2_with (at_builtin; refine append_rd rfl _ _ rfl w.heap.size (.slice (some ⟨w.heap.size, 0, none⟩) 0 0) 0 [] rfl (empty_row w) _ _ _ xs rfl (H1.out.below ((Below.refl _ _).alloc (Nat.le_refl _) _)) rfl (by omega) (by simp) ?_)
    intro v1 w1 hown hgr
    have HO1 := Lib.hid hown
    have B1 : Hid (Below w.heap.size w w1) := ((Below.refl _ _).alloc (Nat.le_refl _) _).grown hgr (by simp) (fun k hk => by cases hk; exact Nat.le_refl _)
    have OK1 : Hid (okl xs) := H1.out.ok
    clear hown hgr
    go_wp2_with (at_builtin; refine append_zeros rfl _ _ rfl w.heap.size v1 xs.length xs rfl HO1.out OK1.out (n % 5) (xs.length + n % 5) _ rfl (by omega) rfl (by omega) (by omega) B1.out.size ?_)
    intro RX cX w2 ho hb
    have B2 : Hid (Below w.heap.size w w2) := B1.out.trans hb
    have X2 := Lib.hid ho.rd
    have LX : Hid ((xs ++ List.replicate (n % 5) 0).length = xs.length + n % 5) := by show _ = _; simp
    have HU : Hid (val (xs ++ List.replicate (n % 5) 0) = val xs) := by show _ = _; rw [val_zeros]
    clear ho hb HO1 B1 OK1
    generalize xs ++ List.replicate (n % 5) 0 = us at *
    go_wp2_with (at_builtin; refine append_rd rfl _ _ rfl w2.heap.size (.slice (some ⟨w2.heap.size, 0, none⟩) 0 0) 0 [] rfl (empty_row w2) _ _ _ ys rfl (H2.out.keep (Nat.le_refl _) (B2.out.alloc B2.out.size _)) rfl (by omega) (by simp) ?_)
    intro v3 w3 hown hgr
    have HO3 := Lib.hid hown
    have B3 : Hid (Below w2.heap.size w2 w3) := ((Below.refl _ _).alloc (Nat.le_refl _) _).grown hgr (by simp) (fun k hk => by cases hk; exact Nat.le_refl _)
    have OK3 : Hid (okl ys) := H2.out.ok
    clear hown hgr
    go_wp2_with (at_builtin; refine append_zeros rfl _ _ rfl w2.heap.size v3 ys.length ys rfl HO3.out OK3.out (n % 3) (ys.length + n % 3) _ rfl (by omega) rfl (by omega) (by omega) B3.out.size ?_)
    intro RY cY w4 ho hb
    have B4 : Hid (Below w2.heap.size w2 w4) := B3.out.trans hb
    have Y4R := Lib.hid ho.rd
    have X4R := Lib.hid (X2.out.below B4.out)
    have B4R : Hid (Below w.heap.size w w4) := B2.out.trans (B4.out.mono B2.out.size)
    have P4R := Lib.hid (H1.out.below B4R.out)
    have Q4R := Lib.hid (H2.out.below B4R.out)
    have LY : Hid ((ys ++ List.replicate (n % 3) 0).length = ys.length + n % 3) := by show _ = _; simp
    have HV : Hid (val (ys ++ List.replicate (n % 3) 0) = val ys) := by show _ = _; rw [val_zeros]
    clear ho hb HO3 B3 OK3 B2 X2 B4
    generalize ys ++ List.replicate (n % 3) 0 = vs at *
    go_wp2_with fail
    refine (sub_yes_n P4R.out Q4R.out rfl rfl (by omega) HLE.out).mono ?_
    rintro e w1 ⟨D, cD, rfl, ho, hb⟩
    have B1 : Hid (Below w.heap.size w w1) := B4R.out.trans (hb.mono B4R.out.size)
    have P_1 := Lib.hid (P4R.out.below hb)
    have Q_1 := Lib.hid (Q4R.out.below hb)
    have X_1 := Lib.hid (X4R.out.below hb)
    have Y_1 := Lib.hid (Y4R.out.below hb)
    have D_1 := Lib.hid ho.rd
    clear hb ho
    go_wp2_with fail
    refine (sub_yes_n X_1.out Y_1.out LX.out LY.out (by omega) (by rw [HU.out, HV.out]; exact HLE.out)).mono ?_
    rw [HU.out, HV.out]
    rintro e w2 ⟨E, cE, rfl, ho, hb⟩
    have B2 : Hid (Below w.heap.size w w2) := B1.out.trans (hb.mono B1.out.size)
    have P_2 := Lib.hid (P_1.out.below hb)
    have Q_2 := Lib.hid (Q_1.out.below hb)
    have X_2 := Lib.hid (X_1.out.below hb)
    have Y_2 := Lib.hid (Y_1.out.below hb)
    have D_2 := Lib.hid (D_1.out.below hb)
    have E_2 := Lib.hid ho.rd
    clear hb ho P_1 Q_1 X_1 Y_1 D_1 B1
    go_wp2_with fail
    refine (dm_zero_n P_2.out Q_2.out rfl rfl HZ.out).mono ?_
    rintro e w3 ⟨rfl, hb⟩
    have B3 : Hid (Below w.heap.size w w3) := B2.out.trans (hb.mono B2.out.size)
    have P_3 := Lib.hid (P_2.out.below hb)
    have Q_3 := Lib.hid (Q_2.out.below hb)
    have X_3 := Lib.hid (X_2.out.below hb)
    have Y_3 := Lib.hid (Y_2.out.below hb)
    have D_3 := Lib.hid (D_2.out.below hb)
    have E_3 := Lib.hid (E_2.out.below hb)
    clear hb P_2 Q_2 X_2 Y_2 D_2 E_2 B2
    go_wp2_with fail
    refine (dm_zero_n X_3.out Y_3.out LX.out LY.out (by rw [HV.out]; exact HZ.out)).mono ?_
    rintro e w4 ⟨rfl, hb⟩
    have B4 : Hid (Below w.heap.size w w4) := B3.out.trans (hb.mono B3.out.size)
    have P_4 := Lib.hid (P_3.out.below hb)
    have Q_4 := Lib.hid (Q_3.out.below hb)
    have X_4 := Lib.hid (X_3.out.below hb)
    have Y_4 := Lib.hid (Y_3.out.below hb)
    have D_4 := Lib.hid (D_3.out.below hb)
    have E_4 := Lib.hid (E_3.out.below hb)
    clear hb P_3 Q_3 X_3 Y_3 D_3 E_3 B3
    go_wp2_with fail
    refine (awake_any _).mono ?_
    rintro e w5 ⟨rfl, hb⟩
    have B5 : Hid (Below w.heap.size w w5) := B4.out.trans (hb.mono B4.out.size)
    have P_5 := Lib.hid (P_4.out.below hb)
    have Q_5 := Lib.hid (Q_4.out.below hb)
    have X_5 := Lib.hid (X_4.out.below hb)
    have Y_5 := Lib.hid (Y_4.out.below hb)
    have D_5 := Lib.hid (D_4.out.below hb)
    have E_5 := Lib.hid (E_4.out.below hb)
    clear hb P_4 Q_4 X_4 Y_4 D_4 E_4 B4
    go_wp2_with fail
    refine (add_n P_5.out Q_5.out rfl rfl (by omega) (by omega)).mono ?_
    rintro e w6 ⟨S, cS, rfl, ho, hb⟩
    have B6 : Hid (Below w.heap.size w w6) := B5.out.trans (hb.mono B5.out.size)
    have P_6 := Lib.hid (P_5.out.below hb)
    have Q_6 := Lib.hid (Q_5.out.below hb)
    have X_6 := Lib.hid (X_5.out.below hb)
    have Y_6 := Lib.hid (Y_5.out.below hb)
    have D_6 := Lib.hid (D_5.out.below hb)
    have E_6 := Lib.hid (E_5.out.below hb)
    have S_6 := Lib.hid ho.rd
    clear hb ho P_5 Q_5 X_5 Y_5 D_5 E_5 B5
    go_wp2_with fail
    refine (add_n X_6.out Y_6.out LX.out LY.out (by omega) (by omega)).mono ?_
    rw [HU.out, HV.out]
    rintro e w7 ⟨T, cT, rfl, ho, hb⟩
    have B7 : Hid (Below w.heap.size w w7) := B6.out.trans (hb.mono B6.out.size)
    have P_7 := Lib.hid (P_6.out.below hb)
    have Q_7 := Lib.hid (Q_6.out.below hb)
    have X_7 := Lib.hid (X_6.out.below hb)
    have Y_7 := Lib.hid (Y_6.out.below hb)
    have D_7 := Lib.hid (D_6.out.below hb)
    have E_7 := Lib.hid (E_6.out.below hb)
    have S_7 := Lib.hid (S_6.out.below hb)
    have T_7 := Lib.hid ho.rd
    clear hb ho P_6 Q_6 X_6 Y_6 D_6 E_6 S_6 B6
    go_wp2_with fail
    refine (equal_n S_7.out T_7.out rfl rfl rfl).mono ?_
    rintro e w8 ⟨rfl, hq⟩
    have hb := below_q hq
    have B8 : Hid (Below w.heap.size w w8) := B7.out.trans (hb.mono B7.out.size)
    have P_8 := Lib.hid (P_7.out.below hb)
    have Q_8 := Lib.hid (Q_7.out.below hb)
    have X_8 := Lib.hid (X_7.out.below hb)
    have Y_8 := Lib.hid (Y_7.out.below hb)
    have D_8 := Lib.hid (D_7.out.below hb)
    have E_8 := Lib.hid (E_7.out.below hb)
    clear hb hq P_7 Q_7 X_7 Y_7 D_7 E_7 S_7 T_7 B7
    go_wp2_with fail
    refine (equal_n D_8.out E_8.out rfl rfl rfl).mono ?_
    rintro e w9 ⟨rfl, hq⟩
    have hb := below_q hq
    have B9 : Hid (Below w.heap.size w w9) := B8.out.trans (hb.mono B8.out.size)
    have P_9 := Lib.hid (P_8.out.below hb)
    have Q_9 := Lib.hid (Q_8.out.below hb)
    have X_9 := Lib.hid (X_8.out.below hb)
    have Y_9 := Lib.hid (Y_8.out.below hb)
    clear hb hq P_8 Q_8 X_8 Y_8 D_8 E_8 B8
    go_wp2_with fail
    refine (mul_n P_9.out Q_9.out rfl rfl (by omega)).mono ?_
    rintro e w10 ⟨S, cS, rfl, ho, hb⟩
    have B10 : Hid (Below w.heap.size w w10) := B9.out.trans (hb.mono B9.out.size)
    have P_10 := Lib.hid (P_9.out.below hb)
    have Q_10 := Lib.hid (Q_9.out.below hb)
    have X_10 := Lib.hid (X_9.out.below hb)
    have Y_10 := Lib.hid (Y_9.out.below hb)
    have S_10 := Lib.hid ho.rd
    clear hb ho P_9 Q_9 X_9 Y_9 B9
    go_wp2_with fail
    refine (mul_n X_10.out Y_10.out LX.out LY.out (by omega)).mono ?_
    rw [HU.out, HV.out]
    rintro e w11 ⟨T, cT, rfl, ho, hb⟩
    have B11 : Hid (Below w.heap.size w w11) := B10.out.trans (hb.mono B10.out.size)
    have P_11 := Lib.hid (P_10.out.below hb)
    have Q_11 := Lib.hid (Q_10.out.below hb)
    have X_11 := Lib.hid (X_10.out.below hb)
    have Y_11 := Lib.hid (Y_10.out.below hb)
    have S_11 := Lib.hid (S_10.out.below hb)
    have T_11 := Lib.hid ho.rd
    clear hb ho P_10 Q_10 X_10 Y_10 S_10 B10
    go_wp2_with fail
    refine (equal_n S_11.out T_11.out rfl rfl rfl).mono ?_
    rintro e w12 ⟨rfl, hq⟩
    have hb := below_q hq
    have B12 : Hid (Below w.heap.size w w12) := B11.out.trans (hb.mono B11.out.size)
    have P_12 := Lib.hid (P_11.out.below hb)
    have Q_12 := Lib.hid (Q_11.out.below hb)
    have X_12 := Lib.hid (X_11.out.below hb)
    have Y_12 := Lib.hid (Y_11.out.below hb)
    clear hb hq P_11 Q_11 X_11 Y_11 S_11 T_11 B11
    go_wp2_with fail
    refine (equal_n (Rd.nil _ _) (Rd.nil _ _) rfl rfl rfl).mono ?_
    rintro e w13 ⟨rfl, hq⟩
    have hb := below_q hq
    have B13 : Hid (Below w.heap.size w w13) := B12.out.trans (hb.mono B12.out.size)
    have P_13 := Lib.hid (P_12.out.below hb)
    have Q_13 := Lib.hid (Q_12.out.below hb)
    have X_13 := Lib.hid (X_12.out.below hb)
    have Y_13 := Lib.hid (Y_12.out.below hb)
    clear hb hq P_12 Q_12 X_12 Y_12 B12
    go_wp2_with fail
    refine (equal_n (Rd.nil _ _) (Rd.nil _ _) rfl rfl rfl).mono ?_
    rintro e w14 ⟨rfl, hq⟩
    have hb := below_q hq
    have B14 : Hid (Below w.heap.size w w14) := B13.out.trans (hb.mono B13.out.size)
    have P_14 := Lib.hid (P_13.out.below hb)
    have Q_14 := Lib.hid (Q_13.out.below hb)
    have X_14 := Lib.hid (X_13.out.below hb)
    have Y_14 := Lib.hid (Y_13.out.below hb)
    clear hb hq P_13 Q_13 X_13 Y_13 B13
    go_wp2_with fail
    refine (gcd_n P_14.out Q_14.out rfl rfl (by omega) (by omega)).mono ?_
    rintro e w15 ⟨S, cS, rfl, ho, hb⟩
    have B15 : Hid (Below w.heap.size w w15) := B14.out.trans (hb.mono B14.out.size)
    have P_15 := Lib.hid (P_14.out.below hb)
    have Q_15 := Lib.hid (Q_14.out.below hb)
    have X_15 := Lib.hid (X_14.out.below hb)
    have Y_15 := Lib.hid (Y_14.out.below hb)
    have S_15 := Lib.hid ho.rd
    clear hb ho P_14 Q_14 X_14 Y_14 B14
    go_wp2_with fail
    refine (gcd_n X_15.out Y_15.out LX.out LY.out (by omega) (by omega)).mono ?_
    rw [HU.out, HV.out]
    rintro e w16 ⟨T, cT, rfl, ho, hb⟩
    have B16 : Hid (Below w.heap.size w w16) := B15.out.trans (hb.mono B15.out.size)
    have P_16 := Lib.hid (P_15.out.below hb)
    have Q_16 := Lib.hid (Q_15.out.below hb)
    have X_16 := Lib.hid (X_15.out.below hb)
    have Y_16 := Lib.hid (Y_15.out.below hb)
    have S_16 := Lib.hid (S_15.out.below hb)
    have T_16 := Lib.hid ho.rd
    clear hb ho P_15 Q_15 X_15 Y_15 S_15 B15
    go_wp2_with fail
    refine (equal_n S_16.out T_16.out rfl rfl rfl).mono ?_
    rintro e w17 ⟨rfl, hq⟩
    have hb := below_q hq
    have B17 : Hid (Below w.heap.size w w17) := B16.out.trans (hb.mono B16.out.size)
    have P_17 := Lib.hid (P_16.out.below hb)
    have Q_17 := Lib.hid (Q_16.out.below hb)
    have X_17 := Lib.hid (X_16.out.below hb)
    have Y_17 := Lib.hid (Y_16.out.below hb)
    clear hb hq P_16 Q_16 X_16 Y_16 S_16 T_16 B16
    go_wp2_with fail
    refine (bits_n P_17.out rfl (by omega)).mono ?_
    rintro e w' ⟨rfl, rfl⟩
    go_wp2_with fail
    refine (bits_n X_17.out LX.out (by omega)).mono ?_
    rw [HU.out]
    rintro e w' ⟨rfl, rfl⟩
    go_wp2_with fail
    refine (compare_n P_17.out Q_17.out rfl rfl).mono ?_
    rintro e w18 ⟨rfl, hq⟩
    have hb := below_q hq
    have B18 : Hid (Below w.heap.size w w18) := B17.out.trans (hb.mono B17.out.size)
    have X_18 := Lib.hid (X_17.out.below hb)
    have Y_18 := Lib.hid (Y_17.out.below hb)
    clear hb hq P_17 Q_17 X_17 Y_17 B17
    go_wp2_with fail
    refine (compare_n X_18.out Y_18.out LX.out LY.out).mono ?_
    rw [HU.out, HV.out]
    rintro e w19 ⟨rfl, hq⟩
    have hb := below_q hq
    have B19 : Hid (Below w.heap.size w w19) := B18.out.trans (hb.mono B18.out.size)
    clear hb hq X_18 Y_18 B18
    go_wp2
    go_ret
    exact ⟨rfl, B19.out⟩
  · have hq := len_mono (Nat.div_le_self (val xs) (val ys))
    have hm := len_mono (Nat.mod_le (val xs) (val ys))
    have HZ := Lib.hid h0
    clear h0
    rcases Nat.lt_or_ge (val xs) (val ys) with hlt | hge
    · have HLT := Lib.hid hlt
      clear hlt
      go_enter Try.func12, Try.ntmps12
      go_wp2_with (at_builtin; refine append_rd rfl _ _ rfl w.heap.size (.slice (some ⟨w.heap.size, 0, none⟩) 0 0) 0 [] rfl (empty_row w) _ _ _ xs rfl (H1.out.below ((Below.refl _ _).alloc (Nat.le_refl _) _)) rfl (by omega) (by simp) ?_)
      intro v1 w1 hown hgr
      have HO1 := Lib.hid hown
      have B1 : Hid (Below w.heap.size w w1) := ((Below.refl _ _).alloc (Nat.le_refl _) _).grown hgr (by simp) (fun k hk => by cases hk; exact Nat.le_refl _)
      have OK1 : Hid (okl xs) := H1.out.ok
      clear hown hgr
      go_wp2_with (at_builtin; refine append_zeros rfl _ _ rfl w.heap.size v1 xs.length xs rfl HO1.out OK1.out (n % 5) (xs.length + n % 5) _ rfl (by omega) rfl (by omega) (by omega) B1.out.size ?_)
      intro RX cX w2 ho hb
      have B2 : Hid (Below w.heap.size w w2) := B1.out.trans hb
      have X2 := Lib.hid ho.rd
      have LX : Hid ((xs ++ List.replicate (n % 5) 0).length = xs.length + n % 5) := by show _ = _; simp
      have HU : Hid (val (xs ++ List.replicate (n % 5) 0) = val xs) := by show _ = _; rw [val_zeros]
      clear ho hb HO1 B1 OK1
      generalize xs ++ List.replicate (n % 5) 0 = us at *
      go_wp2_with (at_builtin; refine append_rd rfl _ _ rfl w2.heap.size (.slice (some ⟨w2.heap.size, 0, none⟩) 0 0) 0 [] rfl (empty_row w2) _ _ _ ys rfl (H2.out.keep (Nat.le_refl _) (B2.out.alloc B2.out.size _)) rfl (by omega) (by simp) ?_)
      intro v3 w3 hown hgr
      have HO3 := Lib.hid hown
      have B3 : Hid (Below w2.heap.size w2 w3) := ((Below.refl _ _).alloc (Nat.le_refl _) _).grown hgr (by simp) (fun k hk => by cases hk; exact Nat.le_refl _)
      have OK3 : Hid (okl ys) := H2.out.ok
      clear hown hgr
      go_wp2_with (at_builtin; refine append_zeros rfl _ _ rfl w2.heap.size v3 ys.length ys rfl HO3.out OK3.out (n % 3) (ys.length + n % 3) _ rfl (by omega) rfl (by omega) (by omega) B3.out.size ?_)
      intro RY cY w4 ho hb
      have B4 : Hid (Below w2.heap.size w2 w4) := B3.out.trans hb
      have Y4R := Lib.hid ho.rd
      have X4R := Lib.hid (X2.out.below B4.out)
      have B4R : Hid (Below w.heap.size w w4) := B2.out.trans (B4.out.mono B2.out.size)
      have P4R := Lib.hid (H1.out.below B4R.out)
      have Q4R := Lib.hid (H2.out.below B4R.out)
      have LY : Hid ((ys ++ List.replicate (n % 3) 0).length = ys.length + n % 3) := by show _ = _; simp
      have HV : Hid (val (ys ++ List.replicate (n % 3) 0) = val ys) := by show _ = _; rw [val_zeros]
      clear ho hb HO3 B3 OK3 B2 X2 B4
      generalize ys ++ List.replicate (n % 3) 0 = vs at *
      go_wp2_with fail
      refine (sub_no_n P4R.out Q4R.out rfl rfl HLT.out).mono ?_
      rintro e w1 ⟨rfl, hb⟩
      have B1 : Hid (Below w.heap.size w w1) := B4R.out.trans (hb.mono B4R.out.size)
      have P_1 := Lib.hid (P4R.out.below hb)
      have Q_1 := Lib.hid (Q4R.out.below hb)
      have X_1 := Lib.hid (X4R.out.below hb)
      have Y_1 := Lib.hid (Y4R.out.below hb)
      clear hb
      go_wp2_with fail
      refine (sub_no_n X_1.out Y_1.out LX.out LY.out (by rw [HU.out, HV.out]; exact HLT.out)).mono ?_
      rintro e w2 ⟨rfl, hb⟩
      have B2 : Hid (Below w.heap.size w w2) := B1.out.trans (hb.mono B1.out.size)
      have P_2 := Lib.hid (P_1.out.below hb)
      have Q_2 := Lib.hid (Q_1.out.below hb)
      have X_2 := Lib.hid (X_1.out.below hb)
      have Y_2 := Lib.hid (Y_1.out.below hb)
      clear hb P_1 Q_1 X_1 Y_1 B1
      go_wp2_with fail
      refine (dm_n P_2.out Q_2.out rfl rfl (by omega) HZ.out).mono ?_
      rintro e w3 ⟨F, cF, M, cM, rfl, ho, ho2, hb⟩
      have B3 : Hid (Below w.heap.size w w3) := B2.out.trans (hb.mono B2.out.size)
      have P_3 := Lib.hid (P_2.out.below hb)
      have Q_3 := Lib.hid (Q_2.out.below hb)
      have X_3 := Lib.hid (X_2.out.below hb)
      have Y_3 := Lib.hid (Y_2.out.below hb)
      have F_3 := Lib.hid ho.rd
      have M_3 := Lib.hid ho2.rd
      clear hb ho ho2 P_2 Q_2 X_2 Y_2 B2
      go_wp2_with fail
      refine (dm_n X_3.out Y_3.out LX.out LY.out (by omega) (by rw [HV.out]; exact HZ.out)).mono ?_
      rw [HU.out, HV.out]
      rintro e w4 ⟨G, cG, N, cN, rfl, ho, ho2, hb⟩
      have B4 : Hid (Below w.heap.size w w4) := B3.out.trans (hb.mono B3.out.size)
      have P_4 := Lib.hid (P_3.out.below hb)
      have Q_4 := Lib.hid (Q_3.out.below hb)
      have X_4 := Lib.hid (X_3.out.below hb)
      have Y_4 := Lib.hid (Y_3.out.below hb)
      have F_4 := Lib.hid (F_3.out.below hb)
      have M_4 := Lib.hid (M_3.out.below hb)
      have G_4 := Lib.hid ho.rd
      have N_4 := Lib.hid ho2.rd
      clear hb ho ho2 P_3 Q_3 X_3 Y_3 F_3 M_3 B3
      go_wp2_with fail
      refine (awake_any _).mono ?_
      rintro e w5 ⟨rfl, hb⟩
      have B5 : Hid (Below w.heap.size w w5) := B4.out.trans (hb.mono B4.out.size)
      have P_5 := Lib.hid (P_4.out.below hb)
      have Q_5 := Lib.hid (Q_4.out.below hb)
      have X_5 := Lib.hid (X_4.out.below hb)
      have Y_5 := Lib.hid (Y_4.out.below hb)
      have F_5 := Lib.hid (F_4.out.below hb)
      have M_5 := Lib.hid (M_4.out.below hb)
      have G_5 := Lib.hid (G_4.out.below hb)
      have N_5 := Lib.hid (N_4.out.below hb)
      clear hb P_4 Q_4 X_4 Y_4 F_4 M_4 G_4 N_4 B4
      go_wp2_with fail
      refine (add_n P_5.out Q_5.out rfl rfl (by omega) (by omega)).mono ?_
      rintro e w6 ⟨S, cS, rfl, ho, hb⟩
      have B6 : Hid (Below w.heap.size w w6) := B5.out.trans (hb.mono B5.out.size)
      have P_6 := Lib.hid (P_5.out.below hb)
      have Q_6 := Lib.hid (Q_5.out.below hb)
      have X_6 := Lib.hid (X_5.out.below hb)
      have Y_6 := Lib.hid (Y_5.out.below hb)
      have F_6 := Lib.hid (F_5.out.below hb)
      have M_6 := Lib.hid (M_5.out.below hb)
      have G_6 := Lib.hid (G_5.out.below hb)
      have N_6 := Lib.hid (N_5.out.below hb)
      have S_6 := Lib.hid ho.rd
      clear hb ho P_5 Q_5 X_5 Y_5 F_5 M_5 G_5 N_5 B5
      go_wp2_with fail
      refine (add_n X_6.out Y_6.out LX.out LY.out (by omega) (by omega)).mono ?_
      rw [HU.out, HV.out]
      rintro e w7 ⟨T, cT, rfl, ho, hb⟩
      have B7 : Hid (Below w.heap.size w w7) := B6.out.trans (hb.mono B6.out.size)
      have P_7 := Lib.hid (P_6.out.below hb)
      have Q_7 := Lib.hid (Q_6.out.below hb)
      have X_7 := Lib.hid (X_6.out.below hb)
      have Y_7 := Lib.hid (Y_6.out.below hb)
      have F_7 := Lib.hid (F_6.out.below hb)
      have M_7 := Lib.hid (M_6.out.below hb)
      have G_7 := Lib.hid (G_6.out.below hb)
      have N_7 := Lib.hid (N_6.out.below hb)
      have S_7 := Lib.hid (S_6.out.below hb)
      have T_7 := Lib.hid ho.rd
      clear hb ho P_6 Q_6 X_6 Y_6 F_6 M_6 G_6 N_6 S_6 B6
      go_wp2_with fail
      refine (equal_n S_7.out T_7.out rfl rfl rfl).mono ?_
      rintro e w8 ⟨rfl, hq⟩
      have hb := below_q hq
      have B8 : Hid (Below w.heap.size w w8) := B7.out.trans (hb.mono B7.out.size)
      have P_8 := Lib.hid (P_7.out.below hb)
      have Q_8 := Lib.hid (Q_7.out.below hb)
      have X_8 := Lib.hid (X_7.out.below hb)
      have Y_8 := Lib.hid (Y_7.out.below hb)
      have F_8 := Lib.hid (F_7.out.below hb)
      have M_8 := Lib.hid (M_7.out.below hb)
      have G_8 := Lib.hid (G_7.out.below hb)
      have N_8 := Lib.hid (N_7.out.below hb)
      clear hb hq P_7 Q_7 X_7 Y_7 F_7 M_7 G_7 N_7 S_7 T_7 B7
      go_wp2_with fail
      refine (equal_n (Rd.nil _ _) (Rd.nil _ _) rfl rfl rfl).mono ?_
      rintro e w9 ⟨rfl, hq⟩
      have hb := below_q hq
      have B9 : Hid (Below w.heap.size w w9) := B8.out.trans (hb.mono B8.out.size)
      have P_9 := Lib.hid (P_8.out.below hb)
      have Q_9 := Lib.hid (Q_8.out.below hb)
      have X_9 := Lib.hid (X_8.out.below hb)
      have Y_9 := Lib.hid (Y_8.out.below hb)
      have F_9 := Lib.hid (F_8.out.below hb)
      have M_9 := Lib.hid (M_8.out.below hb)
      have G_9 := Lib.hid (G_8.out.below hb)
      have N_9 := Lib.hid (N_8.out.below hb)
      clear hb hq P_8 Q_8 X_8 Y_8 F_8 M_8 G_8 N_8 B8
      go_wp2_with fail
      refine (mul_n P_9.out Q_9.out rfl rfl (by omega)).mono ?_
      rintro e w10 ⟨S, cS, rfl, ho, hb⟩
      have B10 : Hid (Below w.heap.size w w10) := B9.out.trans (hb.mono B9.out.size)
      have P_10 := Lib.hid (P_9.out.below hb)
      have Q_10 := Lib.hid (Q_9.out.below hb)
      have X_10 := Lib.hid (X_9.out.below hb)
      have Y_10 := Lib.hid (Y_9.out.below hb)
      have F_10 := Lib.hid (F_9.out.below hb)
      have M_10 := Lib.hid (M_9.out.below hb)
      have G_10 := Lib.hid (G_9.out.below hb)
      have N_10 := Lib.hid (N_9.out.below hb)
      have S_10 := Lib.hid ho.rd
      clear hb ho P_9 Q_9 X_9 Y_9 F_9 M_9 G_9 N_9 B9
      go_wp2_with fail
      refine (mul_n X_10.out Y_10.out LX.out LY.out (by omega)).mono ?_
      rw [HU.out, HV.out]
      rintro e w11 ⟨T, cT, rfl, ho, hb⟩
      have B11 : Hid (Below w.heap.size w w11) := B10.out.trans (hb.mono B10.out.size)
      have P_11 := Lib.hid (P_10.out.below hb)
      have Q_11 := Lib.hid (Q_10.out.below hb)
      have X_11 := Lib.hid (X_10.out.below hb)
      have Y_11 := Lib.hid (Y_10.out.below hb)
      have F_11 := Lib.hid (F_10.out.below hb)
      have M_11 := Lib.hid (M_10.out.below hb)
      have G_11 := Lib.hid (G_10.out.below hb)
      have N_11 := Lib.hid (N_10.out.below hb)
      have S_11 := Lib.hid (S_10.out.below hb)
      have T_11 := Lib.hid ho.rd
      clear hb ho P_10 Q_10 X_10 Y_10 F_10 M_10 G_10 N_10 S_10 B10
      go_wp2_with fail
      refine (equal_n S_11.out T_11.out rfl rfl rfl).mono ?_
      rintro e w12 ⟨rfl, hq⟩
      have hb := below_q hq
      have B12 : Hid (Below w.heap.size w w12) := B11.out.trans (hb.mono B11.out.size)
      have P_12 := Lib.hid (P_11.out.below hb)
      have Q_12 := Lib.hid (Q_11.out.below hb)
      have X_12 := Lib.hid (X_11.out.below hb)
      have Y_12 := Lib.hid (Y_11.out.below hb)
      have F_12 := Lib.hid (F_11.out.below hb)
      have M_12 := Lib.hid (M_11.out.below hb)
      have G_12 := Lib.hid (G_11.out.below hb)
      have N_12 := Lib.hid (N_11.out.below hb)
      clear hb hq P_11 Q_11 X_11 Y_11 F_11 M_11 G_11 N_11 S_11 T_11 B11
      go_wp2_with fail
      refine (equal_n F_12.out G_12.out rfl rfl rfl).mono ?_
      rintro e w13 ⟨rfl, hq⟩
      have hb := below_q hq
      have B13 : Hid (Below w.heap.size w w13) := B12.out.trans (hb.mono B12.out.size)
      have P_13 := Lib.hid (P_12.out.below hb)
      have Q_13 := Lib.hid (Q_12.out.below hb)
      have X_13 := Lib.hid (X_12.out.below hb)
      have Y_13 := Lib.hid (Y_12.out.below hb)
      have M_13 := Lib.hid (M_12.out.below hb)
      have N_13 := Lib.hid (N_12.out.below hb)
      clear hb hq P_12 Q_12 X_12 Y_12 F_12 M_12 G_12 N_12 B12
      go_wp2_with fail
      refine (equal_n M_13.out N_13.out rfl rfl rfl).mono ?_
      rintro e w14 ⟨rfl, hq⟩
      have hb := below_q hq
      have B14 : Hid (Below w.heap.size w w14) := B13.out.trans (hb.mono B13.out.size)
      have P_14 := Lib.hid (P_13.out.below hb)
      have Q_14 := Lib.hid (Q_13.out.below hb)
      have X_14 := Lib.hid (X_13.out.below hb)
      have Y_14 := Lib.hid (Y_13.out.below hb)
      clear hb hq P_13 Q_13 X_13 Y_13 M_13 N_13 B13
      go_wp2_with fail
      refine (gcd_n P_14.out Q_14.out rfl rfl (by omega) (by omega)).mono ?_
      rintro e w15 ⟨S, cS, rfl, ho, hb⟩
      have B15 : Hid (Below w.heap.size w w15) := B14.out.trans (hb.mono B14.out.size)
      have P_15 := Lib.hid (P_14.out.below hb)
      have Q_15 := Lib.hid (Q_14.out.below hb)
      have X_15 := Lib.hid (X_14.out.below hb)
      have Y_15 := Lib.hid (Y_14.out.below hb)
      have S_15 := Lib.hid ho.rd
      clear hb ho P_14 Q_14 X_14 Y_14 B14
      go_wp2_with fail
      refine (gcd_n X_15.out Y_15.out LX.out LY.out (by omega) (by omega)).mono ?_
      rw [HU.out, HV.out]
      rintro e w16 ⟨T, cT, rfl, ho, hb⟩
      have B16 : Hid (Below w.heap.size w w16) := B15.out.trans (hb.mono B15.out.size)
      have P_16 := Lib.hid (P_15.out.below hb)
      have Q_16 := Lib.hid (Q_15.out.below hb)
      have X_16 := Lib.hid (X_15.out.below hb)
      have Y_16 := Lib.hid (Y_15.out.below hb)
      have S_16 := Lib.hid (S_15.out.below hb)
      have T_16 := Lib.hid ho.rd
      clear hb ho P_15 Q_15 X_15 Y_15 S_15 B15
      go_wp2_with fail
      refine (equal_n S_16.out T_16.out rfl rfl rfl).mono ?_
      rintro e w17 ⟨rfl, hq⟩
      have hb := below_q hq
      have B17 : Hid (Below w.heap.size w w17) := B16.out.trans (hb.mono B16.out.size)
      have P_17 := Lib.hid (P_16.out.below hb)
      have Q_17 := Lib.hid (Q_16.out.below hb)
      have X_17 := Lib.hid (X_16.out.below hb)
      have Y_17 := Lib.hid (Y_16.out.below hb)
      clear hb hq P_16 Q_16 X_16 Y_16 S_16 T_16 B16
      go_wp2_with fail
      refine (bits_n P_17.out rfl (by omega)).mono ?_
      rintro e w' ⟨rfl, rfl⟩
      go_wp2_with fail
      refine (bits_n X_17.out LX.out (by omega)).mono ?_
      rw [HU.out]
      rintro e w' ⟨rfl, rfl⟩
      go_wp2_with fail
      refine (compare_n P_17.out Q_17.out rfl rfl).mono ?_
      rintro e w18 ⟨rfl, hq⟩
      have hb := below_q hq
      have B18 : Hid (Below w.heap.size w w18) := B17.out.trans (hb.mono B17.out.size)
      have X_18 := Lib.hid (X_17.out.below hb)
      have Y_18 := Lib.hid (Y_17.out.below hb)
      clear hb hq P_17 Q_17 X_17 Y_17 B17
      go_wp2_with fail
      refine (compare_n X_18.out Y_18.out LX.out LY.out).mono ?_
      rw [HU.out, HV.out]
      rintro e w19 ⟨rfl, hq⟩
      have hb := below_q hq
      have B19 : Hid (Below w.heap.size w w19) := B18.out.trans (hb.mono B18.out.size)
      clear hb hq X_18 Y_18 B18
      go_wp2
      go_ret
      exact ⟨rfl, B19.out⟩
    · have HLE := Lib.hid hge
      clear hge
      go_enter Try.func12, Try.ntmps12
      go_wp2_with (at_builtin; refine append_rd rfl _ _ rfl w.heap.size (.slice (some ⟨w.heap.size, 0, none⟩) 0 0) 0 [] rfl (empty_row w) _ _ _ xs rfl (H1.out.below ((Below.refl _ _).alloc (Nat.le_refl _) _)) rfl (by omega) (by simp) ?_)
      intro v1 w1 hown hgr
      have HO1 := Lib.hid hown
      have B1 : Hid (Below w.heap.size w w1) := ((Below.refl _ _).alloc (Nat.le_refl _) _).grown hgr (by simp) (fun k hk => by cases hk; exact Nat.le_refl _)
      have OK1 : Hid (okl xs) := H1.out.ok
      clear hown hgr
      go_wp2_with (at_builtin; refine append_zeros rfl _ _ rfl w.heap.size v1 xs.length xs rfl HO1.out OK1.out (n % 5) (xs.length + n % 5) _ rfl (by omega) rfl (by omega) (by omega) B1.out.size ?_)
      intro RX cX w2 ho hb
      have B2 : Hid (Below w.heap.size w w2) := B1.out.trans hb
      have X2 := Lib.hid ho.rd
      have LX : Hid ((xs ++ List.replicate (n % 5) 0).length = xs.length + n % 5) := by show _ = _; simp
      have HU : Hid (val (xs ++ List.replicate (n % 5) 0) = val xs) := by show _ = _; rw [val_zeros]
      clear ho hb HO1 B1 OK1
      generalize xs ++ List.replicate (n % 5) 0 = us at *
      go_wp2_with (at_builtin; refine append_rd rfl _ _ rfl w2.heap.size (.slice (some ⟨w2.heap.size, 0, none⟩) 0 0) 0 [] rfl (empty_row w2) _ _ _ ys rfl (H2.out.keep (Nat.le_refl _) (B2.out.alloc B2.out.size _)) rfl (by omega) (by simp) ?_)
      intro v3 w3 hown hgr
      have HO3 := Lib.hid hown
      have B3 : Hid (Below w2.heap.size w2 w3) := ((Below.refl _ _).alloc (Nat.le_refl _) _).grown hgr (by simp) (fun k hk => by cases hk; exact Nat.le_refl _)
      have OK3 : Hid (okl ys) := H2.out.ok
      clear hown hgr
      go_wp2_with (at_builtin; refine append_zeros rfl _ _ rfl w2.heap.size v3 ys.length ys rfl HO3.out OK3.out (n % 3) (ys.length + n % 3) _ rfl (by omega) rfl (by omega) (by omega) B3.out.size ?_)
      intro RY cY w4 ho hb
      have B4 : Hid (Below w2.heap.size w2 w4) := B3.out.trans hb
      have Y4R := Lib.hid ho.rd
      have X4R := Lib.hid (X2.out.below B4.out)
      have B4R : Hid (Below w.heap.size w w4) := B2.out.trans (B4.out.mono B2.out.size)
      have P4R := Lib.hid (H1.out.below B4R.out)
      have Q4R := Lib.hid (H2.out.below B4R.out)
      have LY : Hid ((ys ++ List.replicate (n % 3) 0).length = ys.length + n % 3) := by show _ = _; simp
      have HV : Hid (val (ys ++ List.replicate (n % 3) 0) = val ys) := by show _ = _; rw [val_zeros]
      clear ho hb HO3 B3 OK3 B2 X2 B4
      generalize ys ++ List.replicate (n % 3) 0 = vs at *
      go_wp2_with fail
      refine (sub_yes_n P4R.out Q4R.out rfl rfl (by omega) HLE.out).mono ?_
      rintro e w1 ⟨D, cD, rfl, ho, hb⟩
      have B1 : Hid (Below w.heap.size w w1) := B4R.out.trans (hb.mono B4R.out.size)
      have P_1 := Lib.hid (P4R.out.below hb)
      have Q_1 := Lib.hid (Q4R.out.below hb)
      have X_1 := Lib.hid (X4R.out.below hb)
      have Y_1 := Lib.hid (Y4R.out.below hb)
      have D_1 := Lib.hid ho.rd
      clear hb ho
      go_wp2_with fail
      refine (sub_yes_n X_1.out Y_1.out LX.out LY.out (by omega) (by rw [HU.out, HV.out]; exact HLE.out)).mono ?_
      rw [HU.out, HV.out]
      rintro e w2 ⟨E, cE, rfl, ho, hb⟩
      have B2 : Hid (Below w.heap.size w w2) := B1.out.trans (hb.mono B1.out.size)
      have P_2 := Lib.hid (P_1.out.below hb)
      have Q_2 := Lib.hid (Q_1.out.below hb)
      have X_2 := Lib.hid (X_1.out.below hb)
      have Y_2 := Lib.hid (Y_1.out.below hb)
      have D_2 := Lib.hid (D_1.out.below hb)
      have E_2 := Lib.hid ho.rd
      clear hb ho P_1 Q_1 X_1 Y_1 D_1 B1
      go_wp2_with fail
      refine (dm_n P_2.out Q_2.out rfl rfl (by omega) HZ.out).mono ?_
      rintro e w3 ⟨F, cF, M, cM, rfl, ho, ho2, hb⟩
      have B3 : Hid (Below w.heap.size w w3) := B2.out.trans (hb.mono B2.out.size)
      have P_3 := Lib.hid (P_2.out.below hb)
      have Q_3 := Lib.hid (Q_2.out.below hb)
      have X_3 := Lib.hid (X_2.out.below hb)
      have Y_3 := Lib.hid (Y_2.out.below hb)
      have D_3 := Lib.hid (D_2.out.below hb)
      have E_3 := Lib.hid (E_2.out.below hb)
      have F_3 := Lib.hid ho.rd
      have M_3 := Lib.hid ho2.rd
      clear hb ho ho2 P_2 Q_2 X_2 Y_2 D_2 E_2 B2
      go_wp2_with fail
      refine (dm_n X_3.out Y_3.out LX.out LY.out (by omega) (by rw [HV.out]; exact HZ.out)).mono ?_
      rw [HU.out, HV.out]
      rintro e w4 ⟨G, cG, N, cN, rfl, ho, ho2, hb⟩
      have B4 : Hid (Below w.heap.size w w4) := B3.out.trans (hb.mono B3.out.size)
      have P_4 := Lib.hid (P_3.out.below hb)
      have Q_4 := Lib.hid (Q_3.out.below hb)
      have X_4 := Lib.hid (X_3.out.below hb)
      have Y_4 := Lib.hid (Y_3.out.below hb)
      have D_4 := Lib.hid (D_3.out.below hb)
      have E_4 := Lib.hid (E_3.out.below hb)
      have F_4 := Lib.hid (F_3.out.below hb)
      have M_4 := Lib.hid (M_3.out.below hb)
      have G_4 := Lib.hid ho.rd
      have N_4 := Lib.hid ho2.rd
      clear hb ho ho2 P_3 Q_3 X_3 Y_3 D_3 E_3 F_3 M_3 B3
      go_wp2_with fail
      refine (awake_any _).mono ?_
      rintro e w5 ⟨rfl, hb⟩
      have B5 : Hid (Below w.heap.size w w5) := B4.out.trans (hb.mono B4.out.size)
      have P_5 := Lib.hid (P_4.out.below hb)
      have Q_5 := Lib.hid (Q_4.out.below hb)
      have X_5 := Lib.hid (X_4.out.below hb)
      have Y_5 := Lib.hid (Y_4.out.below hb)
      have D_5 := Lib.hid (D_4.out.below hb)
      have E_5 := Lib.hid (E_4.out.below hb)
      have F_5 := Lib.hid (F_4.out.below hb)
      have M_5 := Lib.hid (M_4.out.below hb)
      have G_5 := Lib.hid (G_4.out.below hb)
      have N_5 := Lib.hid (N_4.out.below hb)
      clear hb P_4 Q_4 X_4 Y_4 D_4 E_4 F_4 M_4 G_4 N_4 B4
      go_wp2_with fail
      refine (add_n P_5.out Q_5.out rfl rfl (by omega) (by omega)).mono ?_
      rintro e w6 ⟨S, cS, rfl, ho, hb⟩
      have B6 : Hid (Below w.heap.size w w6) := B5.out.trans (hb.mono B5.out.size)
      have P_6 := Lib.hid (P_5.out.below hb)
      have Q_6 := Lib.hid (Q_5.out.below hb)
      have X_6 := Lib.hid (X_5.out.below hb)
      have Y_6 := Lib.hid (Y_5.out.below hb)
      have D_6 := Lib.hid (D_5.out.below hb)
      have E_6 := Lib.hid (E_5.out.below hb)
      have F_6 := Lib.hid (F_5.out.below hb)
      have M_6 := Lib.hid (M_5.out.below hb)
      have G_6 := Lib.hid (G_5.out.below hb)
      have N_6 := Lib.hid (N_5.out.below hb)
      have S_6 := Lib.hid ho.rd
      clear hb ho P_5 Q_5 X_5 Y_5 D_5 E_5 F_5 M_5 G_5 N_5 B5
      go_wp2_with fail
      refine (add_n X_6.out Y_6.out LX.out LY.out (by omega) (by omega)).mono ?_
      rw [HU.out, HV.out]
      rintro e w7 ⟨T, cT, rfl, ho, hb⟩
      have B7 : Hid (Below w.heap.size w w7) := B6.out.trans (hb.mono B6.out.size)
      have P_7 := Lib.hid (P_6.out.below hb)
      have Q_7 := Lib.hid (Q_6.out.below hb)
      have X_7 := Lib.hid (X_6.out.below hb)
      have Y_7 := Lib.hid (Y_6.out.below hb)
      have D_7 := Lib.hid (D_6.out.below hb)
      have E_7 := Lib.hid (E_6.out.below hb)
      have F_7 := Lib.hid (F_6.out.below hb)
      have M_7 := Lib.hid (M_6.out.below hb)
      have G_7 := Lib.hid (G_6.out.below hb)
      have N_7 := Lib.hid (N_6.out.below hb)
      have S_7 := Lib.hid (S_6.out.below hb)
      have T_7 := Lib.hid ho.rd
      clear hb ho P_6 Q_6 X_6 Y_6 D_6 E_6 F_6 M_6 G_6 N_6 S_6 B6
      go_wp2_with fail
      refine (equal_n S_7.out T_7.out rfl rfl rfl).mono ?_
      rintro e w8 ⟨rfl, hq⟩
      have hb := below_q hq
      have B8 : Hid (Below w.heap.size w w8) := B7.out.trans (hb.mono B7.out.size)
      have P_8 := Lib.hid (P_7.out.below hb)
      have Q_8 := Lib.hid (Q_7.out.below hb)
      have X_8 := Lib.hid (X_7.out.below hb)
      have Y_8 := Lib.hid (Y_7.out.below hb)
      have D_8 := Lib.hid (D_7.out.below hb)
      have E_8 := Lib.hid (E_7.out.below hb)
      have F_8 := Lib.hid (F_7.out.below hb)
      have M_8 := Lib.hid (M_7.out.below hb)
      have G_8 := Lib.hid (G_7.out.below hb)
      have N_8 := Lib.hid (N_7.out.below hb)
      clear hb hq P_7 Q_7 X_7 Y_7 D_7 E_7 F_7 M_7 G_7 N_7 S_7 T_7 B7
      go_wp2_with fail
      refine (equal_n D_8.out E_8.out rfl rfl rfl).mono ?_
      rintro e w9 ⟨rfl, hq⟩
      have hb := below_q hq
      have B9 : Hid (Below w.heap.size w w9) := B8.out.trans (hb.mono B8.out.size)
      have P_9 := Lib.hid (P_8.out.below hb)
      have Q_9 := Lib.hid (Q_8.out.below hb)
      have X_9 := Lib.hid (X_8.out.below hb)
      have Y_9 := Lib.hid (Y_8.out.below hb)
      have F_9 := Lib.hid (F_8.out.below hb)
      have M_9 := Lib.hid (M_8.out.below hb)
      have G_9 := Lib.hid (G_8.out.below hb)
      have N_9 := Lib.hid (N_8.out.below hb)
      clear hb hq P_8 Q_8 X_8 Y_8 D_8 E_8 F_8 M_8 G_8 N_8 B8
      go_wp2_with fail
      refine (mul_n P_9.out Q_9.out rfl rfl (by omega)).mono ?_
      rintro e w10 ⟨S, cS, rfl, ho, hb⟩
      have B10 : Hid (Below w.heap.size w w10) := B9.out.trans (hb.mono B9.out.size)
      have P_10 := Lib.hid (P_9.out.below hb)
      have Q_10 := Lib.hid (Q_9.out.below hb)
      have X_10 := Lib.hid (X_9.out.below hb)
      have Y_10 := Lib.hid (Y_9.out.below hb)
      have F_10 := Lib.hid (F_9.out.below hb)
      have M_10 := Lib.hid (M_9.out.below hb)
      have G_10 := Lib.hid (G_9.out.below hb)
      have N_10 := Lib.hid (N_9.out.below hb)
      have S_10 := Lib.hid ho.rd
      clear hb ho P_9 Q_9 X_9 Y_9 F_9 M_9 G_9 N_9 B9
      go_wp2_with fail
      refine (mul_n X_10.out Y_10.out LX.out LY.out (by omega)).mono ?_
      rw [HU.out, HV.out]
      rintro e w11 ⟨T, cT, rfl, ho, hb⟩
      have B11 : Hid (Below w.heap.size w w11) := B10.out.trans (hb.mono B10.out.size)
      have P_11 := Lib.hid (P_10.out.below hb)
      have Q_11 := Lib.hid (Q_10.out.below hb)
      have X_11 := Lib.hid (X_10.out.below hb)
      have Y_11 := Lib.hid (Y_10.out.below hb)
      have F_11 := Lib.hid (F_10.out.below hb)
      have M_11 := Lib.hid (M_10.out.below hb)
      have G_11 := Lib.hid (G_10.out.below hb)
      have N_11 := Lib.hid (N_10.out.below hb)
      have S_11 := Lib.hid (S_10.out.below hb)
      have T_11 := Lib.hid ho.rd
      clear hb ho P_10 Q_10 X_10 Y_10 F_10 M_10 G_10 N_10 S_10 B10
      go_wp2_with fail
      refine (equal_n S_11.out T_11.out rfl rfl rfl).mono ?_
      rintro e w12 ⟨rfl, hq⟩
      have hb := below_q hq
      have B12 : Hid (Below w.heap.size w w12) := B11.out.trans (hb.mono B11.out.size)
      have P_12 := Lib.hid (P_11.out.below hb)
      have Q_12 := Lib.hid (Q_11.out.below hb)
      have X_12 := Lib.hid (X_11.out.below hb)
      have Y_12 := Lib.hid (Y_11.out.below hb)
      have F_12 := Lib.hid (F_11.out.below hb)
      have M_12 := Lib.hid (M_11.out.below hb)
      have G_12 := Lib.hid (G_11.out.below hb)
      have N_12 := Lib.hid (N_11.out.below hb)
      clear hb hq P_11 Q_11 X_11 Y_11 F_11 M_11 G_11 N_11 S_11 T_11 B11
      go_wp2_with fail
      refine (equal_n F_12.out G_12.out rfl rfl rfl).mono ?_
      rintro e w13 ⟨rfl, hq⟩
      have hb := below_q hq
      have B13 : Hid (Below w.heap.size w w13) := B12.out.trans (hb.mono B12.out.size)
      have P_13 := Lib.hid (P_12.out.below hb)
      have Q_13 := Lib.hid (Q_12.out.below hb)
      have X_13 := Lib.hid (X_12.out.below hb)
      have Y_13 := Lib.hid (Y_12.out.below hb)
      have M_13 := Lib.hid (M_12.out.below hb)
      have N_13 := Lib.hid (N_12.out.below hb)
      clear hb hq P_12 Q_12 X_12 Y_12 F_12 M_12 G_12 N_12 B12
      go_wp2_with fail
      refine (equal_n M_13.out N_13.out rfl rfl rfl).mono ?_
      rintro e w14 ⟨rfl, hq⟩
      have hb := below_q hq
      have B14 : Hid (Below w.heap.size w w14) := B13.out.trans (hb.mono B13.out.size)
      have P_14 := Lib.hid (P_13.out.below hb)
      have Q_14 := Lib.hid (Q_13.out.below hb)
      have X_14 := Lib.hid (X_13.out.below hb)
      have Y_14 := Lib.hid (Y_13.out.below hb)
      clear hb hq P_13 Q_13 X_13 Y_13 M_13 N_13 B13
      go_wp2_with fail
      refine (gcd_n P_14.out Q_14.out rfl rfl (by omega) (by omega)).mono ?_
      rintro e w15 ⟨S, cS, rfl, ho, hb⟩
      have B15 : Hid (Below w.heap.size w w15) := B14.out.trans (hb.mono B14.out.size)
      have P_15 := Lib.hid (P_14.out.below hb)
      have Q_15 := Lib.hid (Q_14.out.below hb)
      have X_15 := Lib.hid (X_14.out.below hb)
      have Y_15 := Lib.hid (Y_14.out.below hb)
      have S_15 := Lib.hid ho.rd
      clear hb ho P_14 Q_14 X_14 Y_14 B14
      go_wp2_with fail
      refine (gcd_n X_15.out Y_15.out LX.out LY.out (by omega) (by omega)).mono ?_
      rw [HU.out, HV.out]
      rintro e w16 ⟨T, cT, rfl, ho, hb⟩
      have B16 : Hid (Below w.heap.size w w16) := B15.out.trans (hb.mono B15.out.size)
      have P_16 := Lib.hid (P_15.out.below hb)
      have Q_16 := Lib.hid (Q_15.out.below hb)
      have X_16 := Lib.hid (X_15.out.below hb)
      have Y_16 := Lib.hid (Y_15.out.below hb)
      have S_16 := Lib.hid (S_15.out.below hb)
      have T_16 := Lib.hid ho.rd
      clear hb ho P_15 Q_15 X_15 Y_15 S_15 B15
      go_wp2_with fail
      refine (equal_n S_16.out T_16.out rfl rfl rfl).mono ?_
      rintro e w17 ⟨rfl, hq⟩
      have hb := below_q hq
      have B17 : Hid (Below w.heap.size w w17) := B16.out.trans (hb.mono B16.out.size)
      have P_17 := Lib.hid (P_16.out.below hb)
      have Q_17 := Lib.hid (Q_16.out.below hb)
      have X_17 := Lib.hid (X_16.out.below hb)
      have Y_17 := Lib.hid (Y_16.out.below hb)
      clear hb hq P_16 Q_16 X_16 Y_16 S_16 T_16 B16
      go_wp2_with fail
      refine (bits_n P_17.out rfl (by omega)).mono ?_
      rintro e w' ⟨rfl, rfl⟩
      go_wp2_with fail
      refine (bits_n X_17.out LX.out (by omega)).mono ?_
      rw [HU.out]
      rintro e w' ⟨rfl, rfl⟩
      go_wp2_with fail
      refine (compare_n P_17.out Q_17.out rfl rfl).mono ?_
      rintro e w18 ⟨rfl, hq⟩
      have hb := below_q hq
      have B18 : Hid (Below w.heap.size w w18) := B17.out.trans (hb.mono B17.out.size)
      have X_18 := Lib.hid (X_17.out.below hb)
      have Y_18 := Lib.hid (Y_17.out.below hb)
      clear hb hq P_17 Q_17 X_17 Y_17 B17
      go_wp2_with fail
      refine (compare_n X_18.out Y_18.out LX.out LY.out).mono ?_
      rw [HU.out, HV.out]
      rintro e w19 ⟨rfl, hq⟩
      have hb := below_q hq
      have B19 : Hid (Below w.heap.size w w19) := B18.out.trans (hb.mono B18.out.size)
      clear hb hq X_18 Y_18 B18
      go_wp2
      go_ret
      exact ⟨rfl, B19.out⟩
end Go.Proofs.Ytmmlfmjelhninaa
