/-
  Contract of the reference's DivMod: a divisor of more than 64 bits; all cases.
-/
import Derived.Test.YtmmlfmjelhninaaRdml
namespace Go.Proofs.Ytmmlfmjelhninaa
open Go.RowKit
set_option linter.unusedVariables false

set_option maxHeartbeats 8000000 in
theorem rdm_large (A B : Option Addr) (ca cb : Nat) (xs ys : List Nat) (w : World) (h : Rd w A ca xs) (h' : Rd w B cb ys) (hn : xs.length ≤ 70368744177664) (hn' : ys.length ≤ 70368744177000) (hv : 0 < val ys) (h1 : val xs < 18446744073709551616) (h2 : 18446744073709551616 ≤ val ys) :
    Calls Try.prog 29 #[.slice A xs.length ca, .slice B ys.length cb] w (Gives2 w (val xs / val ys) (val xs % val ys)) := by
  have S := Lib.hid (rtrim_any B cb ys w h' (by omega))
  have X := Lib.hid h
  have hlx := h.len
  have hcx := h.capLe
  have hp := len_pos hv
  have hl := len_ofv_le h'.ok
  have HVD := Lib.hid (val_ofv (val ys))
  have hbits : nbits (val xs) ≤ 32 * xs.length := by have := nbits_len (val xs); have := len_ofv_le h.ok; omega
  have HLTV := Lib.hid (nbits_lt (val xs))
  have LD2 : (ofv (2 * val ys)).length ≤ (ofv (val ys)).length + 1 := len_ofv_le_of_lt (by
    have := lt_pw_len (val ys)
    rw [pw_succ]
    omega)
  have HD := Lib.hid hv
  clear h h' hv
  generalize hu : ofv (val ys) = vs at *
  have HU := Lib.hid hu
  clear hu
  generalize hD : val ys = D at *
  have HYD := Lib.hid hD
  generalize hV : val xs = V at *
  have HXV := Lib.hid hV
  clear hD hV
  go_enter Try.func29, Try.ntmps29
  go_wp2_with fail
  refine S.out.mono ?_
  rintro e w1 ⟨R, c, rfl, ho, hb⟩
  rw [HU.out] at ho ⊢
  have hcl := ho.rd.len
  have hcl2 := ho.rd.capLe
  have B1 := Lib.hid hb
  have X1 := Lib.hid (X.out.below hb)
  have Y1 := Lib.hid ho.rd
  clear ho hb
  go_wp2_with fail
  refine (ruint64_yes A ca xs _ X1.out hn (by rw [HXV.out]; exact h1)).mono ?_
  rw [HXV.out]
  rintro e w2 ⟨rfl, hb⟩
  have B2 : Hid (Below w.heap.size w w2) := B1.out.trans (hb.mono B1.out.size)
  have X2 := Lib.hid (X1.out.below hb)
  have Y2 := Lib.hid (Y1.out.below hb)
  clear hb
  go_wp2_with fail
  refine (ruint64_no R c vs _ Y2.out (by omega) (by rw [HVD.out]; exact h2)).mono ?_
  rintro e w3 ⟨rfl, hb⟩
  have B3 : Hid (Below w.heap.size w w3) := B2.out.trans (hb.mono B2.out.size)
  have X3 := Lib.hid (X2.out.below hb)
  have Y3 := Lib.hid (Y2.out.below hb)
  clear hb X1 Y1 Y2 X2 B1 B2
  go_wp2_with (at_make; refine make_row rfl _ _ rfl _ _ xs.length rfl rfl (by omega) (by omega) (by omega) ?_)
  intro w4 hrow hbel
  have B4 : Hid (Below w.heap.size w w4) := B3.out.trans (hbel.mono B3.out.size)
  have G3 := Lib.hid B3.out.size
  have X := Lib.hid (X3.out.below hbel)
  have Y := Lib.hid (Y3.out.below hbel)
  have NEX : Hid (∀ b o, 0 < ca → A = some ⟨b, o, none⟩ → some b ≠ some w3.heap.size) := by
    intro b o h0 hA e
    have := X3.out.old b o h0 hA
    have e' : b = w3.heap.size := by simpa using e
    omega
  have NE : Hid (∀ b o, 0 < c → R = some ⟨b, o, none⟩ → some b ≠ some w3.heap.size) := by
    intro b o h0 hA e
    have := Y3.out.old b o h0 hA
    have e' : b = w3.heap.size := by simpa using e
    omega
  have HR := Lib.hid hrow
  have GSZ := Lib.hid hrow.lt
  clear hrow hbel X3 Y3 B3
  go_wp2_with fail
  refine (rbits_n X.out rfl (by omega)).mono ?_
  rw [HXV.out]
  rintro e w5 ⟨rfl, hb⟩
  have X := Lib.hid (X.out.below hb)
  have Y := Lib.hid (Y.out.below hb)
  have HR := Lib.hid (HR.out.below hb GSZ.out)
  have B5 : Hid (Below w.heap.size w w5) := B4.out.trans (hb.mono B4.out.size)
  have GSZ := Lib.hid (Nat.lt_of_lt_of_le GSZ.out hb.size)
  clear hb B4
  generalize hg : w3.heap.size = g at *
  clear hg
  go_wp2
  go_loopw [5, 11] (fun r i wr => ∃ (k : Nat) (R : Option Addr) (c : Nat), k ≤ nbits V ∧ i = .int .i64 ((k : Int) - 1) ∧ r = .slice R (ofv (V / 2 ^ k % D)).length c ∧ DvInv w5 g xs.length V D k R c wr) (fun _ i _ => (intOf i + 1).toNat)
  case atStart =>
    have e0 : V / 2 ^ nbits V = 0 := Nat.div_eq_of_lt HLTV.out
    refine ⟨nbits V, none, 0, Nat.le_refl _, by first | rfl | (congr 1; omega), by rw [e0, Nat.zero_mod, ofv_zero]; rfl, _, HR.out, by simp, okl_replicate _, ?_, ?_, World.grownBy.refl _ _⟩
    · rw [val_replicate, e0, Nat.zero_div, Nat.zero_mul]
    · rw [e0, Nat.zero_mod, ofv_zero]; exact Own.nil _ _ _
  case round =>
    obtain ⟨k, R1, c1, hk, rfl, rfl, zs, hzr, hzl, hzo, hzv, how, hgr⟩ := hrel
    have ZR := Lib.hid hzr
    have ZL := Lib.hid hzl
    have ZO := Lib.hid hzo
    have ZV := Lib.hid hzv
    have OW := Lib.hid how
    have GR := Lib.hid hgr
    clear hzr hzl hzo hzv how hgr
    rcases Nat.eq_zero_or_pos k with hk0 | hk0
    · subst hk0
      have ow := Own.of_row (lo := w.heap.size) ZR.out ZO.out G3.out (by have := ZL.out; omega)
      have rd := ow.rd
      rw [ZL.out] at rd
      have S1 := rtrim_n rd ZL.out (by omega)
      have hv1 := ZV.out
      have OW1 := OW.out
      rw [Nat.pow_zero, Nat.div_one, Nat.mul_one] at hv1
      rw [Nat.pow_zero, Nat.div_one] at OW1 ⊢
      rw [hv1] at S1
      have HS1 := Lib.hid S1
      have LM := len_ofv_le_of_lt (Nat.lt_trans (Nat.mod_lt V HD.out) (lt_pw_len D))
      rw [HU.out] at LM
      have lm1 := OW1.rd.len
      have HO := Lib.hid OW1
      have BR : Hid (Below w.heap.size w wr) := B5.out.trans (below_of_grown GR.out G3.out B5.out.size)
      clear ow rd S1 hv1 OW1 OW GR ZR ZL ZO ZV
      go_wp2_with fail
      refine HS1.out.mono ?_
      rintro e w6 ⟨Q, cq, rfl, ho, hb⟩
      have HO2 := Lib.hid (HO.out.below hb)
      have BR2 : Hid (Below w.heap.size w w6) := BR.out.trans (hb.mono BR.out.size)
      have HQ := Lib.hid (ho.mono BR.out.size)
      clear ho hb HO
      have T2 := rtrim_n HO2.out.rd rfl (by omega)
      rw [val_ofv] at T2
      have HT2 := Lib.hid T2
      clear T2
      go_wp2_with fail
      refine HT2.out.mono ?_
      rintro e w7 ⟨Q2, cq2, rfl, ho, hb⟩
      have FIN : Hid (Gives2 w (V / D) (V % D) (.returned (.tuple #[.slice Q (ofv (V / D)).length cq, .slice Q2 (ofv (V % D)).length cq2, .bool true])) w7) :=
        ⟨Q, cq, Q2, cq2, rfl, HQ.out.below hb, ho.mono BR2.out.size, BR2.out.trans (hb.mono BR2.out.size)⟩
      clear ho hb
      go_wp2
      go_ret3
      exact FIN.out
    · obtain ⟨j, rfl⟩ : ∃ j, k = j + 1 := ⟨k - 1, by omega⟩
      have hj32 : j / 32 < xs.length := by omega
      have tl := Nat.mod_lt (V / 2 ^ (j + 1)) HD.out
      generalize hT : V / 2 ^ (j + 1) % D = T at *
      have HT := Lib.hid hT
      clear hT
      have LT := len_ofv_le_of_lt (Nat.lt_trans tl (lt_pw_len D))
      rw [HU.out] at LT
      have LT2 : (ofv (T + T)).length ≤ vs.length + 1 := Nat.le_trans (len_ofv_le_of_lt (Nat.lt_of_le_of_lt (show T + T ≤ 2 * D by omega) (lt_pw_len _))) LD2
      have LT3 : (ofv (T + T + 1)).length ≤ vs.length + 1 := Nat.le_trans (len_ofv_le_of_lt (Nat.lt_of_le_of_lt (show T + T + 1 ≤ 2 * D by omega) (lt_pw_len _))) LD2
      have ol := OW.out.rd.len
      have ol2 := OW.out.rd.capLe
      go_wp2_with fail
      refine (radd_n OW.out.rd OW.out.rd rfl rfl (by omega) (by omega)).mono ?_
      rw [val_ofv]
      rintro e wa ⟨R2, c2, rfl, ho, hb⟩
      have zlt := ZR.out.lt
      have ZR := Lib.hid (ZR.out.below hb ZR.out.lt)
      have GR := Lib.hid (grown_trans GR.out (grown_below hb))
      have OW := Lib.hid (ho.mono (show g + 1 ≤ wr.heap.size by omega))
      have LO : Hid (g < wa.heap.size) := ZR.out.lt
      clear ho hb
      have BL := Lib.hid (bitOf_lt V j)
      have BE := bit_e (X.out.grown GR.out NEX.out) rfl j rfl (by omega)
      rw [HXV.out] at BE
      rcases (show bitOf V j = 0 ∨ bitOf V j = 1 by have := BL.out; omega) with h0 | h0
      · rw [h0] at BE
        have HBIT := Lib.hid h0
        have HBE := Lib.hid BE
        clear BE h0
        go_wp2_with fail
        refine HBE.out.mono ?_
        rintro e wb ⟨rfl, rfl⟩
        rcases Nat.lt_or_ge (T + T) D with hlt | hge
        · have NX := dv_zero ZR.out ZL.out ZO.out ZV.out HD.out (by rw [HBIT.out, HT.out]; exact OW.out) GR.out (by rw [HBIT.out, HT.out]; exact hlt)
          rw [HBIT.out, HT.out, Nat.add_zero] at NX
          have NL := Lib.hid NX.1
          have NI := NX.2
          have NB := OW.out.rd.len
          clear NX
          go_wp2_with fail
          refine (rsub_no_n OW.out.rd (Y.out.grown GR.out NE.out) rfl rfl (by omega) (by omega) (by rw [val_ofv, HVD.out]; exact hlt)).mono ?_
          rintro e wd ⟨rfl, hb⟩
          have NI2 := Lib.hid (dv_below NI hb)
          clear NI hb OW GR ZR
          go_wp2
          go_roundw
          case rel => exact ⟨j, _, _, by omega, rfl, by rw [NL.out], NI2.out⟩
          case measure => simp [intOf]
        · go_wp2_with fail
          refine (rsub_yes_n OW.out.rd (Y.out.grown GR.out NE.out) rfl rfl (by omega) (by omega) (by rw [val_ofv, HVD.out]; exact hge)).mono ?_
          rw [val_ofv, HVD.out]
          rintro e wd ⟨R3, c3, rfl, ho, hb⟩
          have ZR3 := ZR.out.below hb (ZR.out.lt)
          have GS := GR.out.size
          have GR3 := grown_trans GR.out (grown_below hb)
          have hfz := ZR3.frozen (j / 32)
          have hcw := ZR3.cell (i := j / 32) (by have := ZL.out; omega)
          have lz := lim_lt ZO.out (j / 32)
          have ST := dv_one ZR3 ZL.out ZO.out ZV.out HD.out (by rw [HBIT.out, HT.out]; exact ho.mono (by have := LO.out; omega)) GR3 (by rw [HBIT.out, HT.out]; exact hge) (by omega)
          simp only [HBIT.out, HT.out, Nat.add_zero] at ST
          have HST := Lib.hid ST
          have NL := Lib.hid (ST _ rfl).1
          have s1 : 2 ^ (j % 32) ≤ 2147483648 := by
            have := Nat.pow_le_pow_right (n := 2) (by omega) (show j % 32 ≤ 31 by omega)
            have e : (2 : Nat) ^ 31 = 2147483648 := rfl
            omega
          have e32 : bits .or .u32 ((lim zs (j / 32) : Nat) : Int) ((2 ^ (j % 32) : Nat) : Int) = ((lim zs (j / 32) ||| 2 ^ (j % 32) : Nat) : Int) := u32_or_nat _ _ lz (by omega)
          have e33 : Hid ((2 : Int) ^ (j % 32) % 4294967296 = ((2 ^ (j % 32) : Nat) : Int)) := by
            have e : (2 : Int) ^ (j % 32) = ((2 ^ (j % 32) : Nat) : Int) := by simp
            show _ = _
            rw [e]
            clear e e32
            generalize 2 ^ (j % 32) = P at s1 ⊢
            omega
          clear ST ho hb ZR3 GR3 OW GR ZR
          go_wp2
          go_roundw
          case rel => exact ⟨j, _, _, by omega, rfl, by rw [NL.out], (HST.out _ (by rw [e33.out]; exact e32)).2⟩
          case measure => simp [intOf]
      · rw [h0] at BE
        have HBIT := Lib.hid h0
        have HBE := Lib.hid BE
        clear BE h0
        have ol3 := OW.out.rd.len
        go_wp2_with fail
        refine HBE.out.mono ?_
        rintro e wb ⟨rfl, rfl⟩
        go_wp2_with fail
        refine (radd_n (ys := [1]) (OW.out.rd.below ((Below.refl _ _).alloc (Nat.le_refl _) _)) (rd_row (row_new rfl rfl) (okl1 (by omega)) rfl (by simp)) rfl rfl (by omega) (by simp)).mono ?_
        rw [val_ofv, v1]
        rintro e wc ⟨R3, c3, rfl, ho, hb0⟩
        have hb : Below wa.heap.size wa wc := ((Below.refl _ wa).alloc (Nat.le_refl _) _).trans (hb0.mono (by simp <;> omega))
        clear hb0
        have ZR := Lib.hid (ZR.out.below hb ZR.out.lt)
        have GR := Lib.hid (grown_trans GR.out (grown_below hb))
        have OW := Lib.hid (ho.mono (show g + 1 ≤ _ by have := LO.out; simp; omega))
        have LO : Hid (g < wc.heap.size) := ZR.out.lt
        clear ho hb
        rcases Nat.lt_or_ge (T + T + 1) D with hlt | hge
        · have NX := dv_zero ZR.out ZL.out ZO.out ZV.out HD.out (by rw [HBIT.out, HT.out]; exact OW.out) GR.out (by rw [HBIT.out, HT.out]; exact hlt)
          rw [HBIT.out, HT.out] at NX
          have NL := Lib.hid NX.1
          have NI := NX.2
          have NB := OW.out.rd.len
          clear NX
          go_wp2_with fail
          refine (rsub_no_n OW.out.rd (Y.out.grown GR.out NE.out) rfl rfl (by omega) (by omega) (by rw [val_ofv, HVD.out]; exact hlt)).mono ?_
          rintro e wd ⟨rfl, hb⟩
          have NI2 := Lib.hid (dv_below NI hb)
          clear NI hb OW GR ZR
          go_wp2
          go_roundw
          case rel => exact ⟨j, _, _, by omega, rfl, by rw [NL.out], NI2.out⟩
          case measure => simp [intOf]
        · go_wp2_with fail
          refine (rsub_yes_n OW.out.rd (Y.out.grown GR.out NE.out) rfl rfl (by omega) (by omega) (by rw [val_ofv, HVD.out]; exact hge)).mono ?_
          rw [val_ofv, HVD.out]
          rintro e wd ⟨R3, c3, rfl, ho, hb⟩
          have ZR3 := ZR.out.below hb (ZR.out.lt)
          have GS := GR.out.size
          have GR3 := grown_trans GR.out (grown_below hb)
          have hfz := ZR3.frozen (j / 32)
          have hcw := ZR3.cell (i := j / 32) (by have := ZL.out; omega)
          have lz := lim_lt ZO.out (j / 32)
          have ST := dv_one ZR3 ZL.out ZO.out ZV.out HD.out (by rw [HBIT.out, HT.out]; exact ho.mono (by have := LO.out; omega)) GR3 (by rw [HBIT.out, HT.out]; exact hge) (by omega)
          rw [HBIT.out, HT.out] at ST
          have HST := Lib.hid ST
          have NL := Lib.hid (ST _ rfl).1
          have s1 : 2 ^ (j % 32) ≤ 2147483648 := by
            have := Nat.pow_le_pow_right (n := 2) (by omega) (show j % 32 ≤ 31 by omega)
            have e : (2 : Nat) ^ 31 = 2147483648 := rfl
            omega
          have e32 : bits .or .u32 ((lim zs (j / 32) : Nat) : Int) ((2 ^ (j % 32) : Nat) : Int) = ((lim zs (j / 32) ||| 2 ^ (j % 32) : Nat) : Int) := u32_or_nat _ _ lz (by omega)
          have e33 : Hid ((2 : Int) ^ (j % 32) % 4294967296 = ((2 ^ (j % 32) : Nat) : Int)) := by
            have e : (2 : Int) ^ (j % 32) = ((2 ^ (j % 32) : Nat) : Int) := by simp
            show _ = _
            rw [e]
            clear e e32
            generalize 2 ^ (j % 32) = P at s1 ⊢
            omega
          clear ST ho hb ZR3 GR3 OW GR ZR
          go_wp2
          go_roundw
          case rel => exact ⟨j, _, _, by omega, rfl, by rw [NL.out], (HST.out _ (by rw [e33.out]; exact e32)).2⟩
          case measure => simp [intOf]

/-- The reference's DivMod, divisor not 0. -/
theorem rdm_any (A B : Option Addr) (ca cb : Nat) (xs ys : List Nat) (w : World) (h : Rd w A ca xs) (h' : Rd w B cb ys) (hn : xs.length ≤ 70368744177664) (hn' : ys.length ≤ 70368744177000) (hv : 0 < val ys) :
    Calls Try.prog 29 #[.slice A xs.length ca, .slice B ys.length cb] w (Gives2 w (val xs / val ys) (val xs % val ys)) := by
  rcases Nat.lt_or_ge (val xs) 18446744073709551616 with h1 | h1
  · rcases Nat.lt_or_ge (val ys) 18446744073709551616 with h2 | h2
    · exact rdm_short A B ca cb xs ys w h h' hn (by omega) hv h1 h2
    · exact rdm_large A B ca cb xs ys w h h' hn hn' hv h1 h2
  · exact rdm_long A B ca cb xs ys w h h' hn hn' hv h1
theorem rdm_n {A B : Option Addr} {ca cb n m : Nat} {xs ys : List Nat} {w : World} (h : Rd w A ca xs) (h' : Rd w B cb ys) (hn : xs.length = n) (hm : ys.length = m) (hl : n ≤ 70368744177664) (hl' : m ≤ 70368744177000) (hv : 0 < val ys) :
    Calls Try.prog 29 #[.slice A n ca, .slice B m cb] w (Gives2 w (val xs / val ys) (val xs % val ys)) := by
  subst hn hm; exact rdm_any A B ca cb xs ys w h h' hl hl' hv
end Go.Proofs.Ytmmlfmjelhninaa
