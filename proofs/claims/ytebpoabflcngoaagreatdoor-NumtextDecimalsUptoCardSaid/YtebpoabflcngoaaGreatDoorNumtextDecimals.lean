/-
  The walk of the law NumtextDecimals.
-/
import Derived.Test.YtebpoabflcngoaaGreatDoorNrq
import Derived.Test.YtebpoabflcngoaaGreatDoorNV
namespace Go.Proofs.YtebpoabflcngoaaGreatDoor
open Go.RowKit
set_option linter.unusedVariables false
set_option linter.unusedSimpArgs false

/-- The numbers of places. -/
def Ac (w : World) (g : Nat) (a b : Int) : Prop := w.cell? ⟨g, 0, none⟩ = some (.int .i64 a) ∧ w.cell? ⟨g, 1, none⟩ = some (.int .i64 b)
theorem Ac.below {w w' : World} {g : Nat} {a b : Int} (h : Ac w g a b) (hb : Below w.heap.size w w') : Ac w' g a b := ⟨(hb.cell (lt_of_cell h.1)).trans h.1, (hb.cell (lt_of_cell h.2)).trans h.2⟩
theorem Ac.new (w : World) (a1 a2 : Int) : Ac (w.alloc (.cells #[.int .i64 a1, .int .i64 a2] 3)) w.heap.size a1 a2 := by
  have h := heap_alloc_new w (.cells #[.int .i64 a1, .int .i64 a2] 3)
  exact ⟨by rw [cell_of_row _ _ _ _ _ _ h]; rfl, by rw [cell_of_row _ _ _ _ _ _ h]; rfl⟩
set_option maxRecDepth 100000 in
set_option maxHeartbeats 16000000 in
theorem numtextDecimals_yes {t : Bool} {B : Option Addr} {m d : Nat} {y : Int} {D : Option Addr} {k f : Nat} {p : Nat} {a1 a2 : Int} (w : World) (h2 : Zin w t B m d y) (hm : m ≤ 1048576) (h3 : Nin w D k f p) (hk : k ≤ 1048576) (ha1 : -9223372036854775808 ≤ a1 ∧ a1 ≤ 9223372036854775807) (ha2 : 0 ≤ a2 ∧ a2 ≤ 255) (hE : Env w) {k1 r1 k2 : Nat} (f1 : Facs (mkRat y p).den 2 k1 r1) (f2 : Facs r1 5 k2 1) {v : Int} (hv : rndR (mkRat y p * mkRat ((10 ^ max k1 k2 : Nat) : Int) 1) = v) (hv2 : Rat.divInt v ((10 ^ max k1 k2 : Nat) : Int) = mkRat y p) {l : List UInt8} (hl : ptxt v (max k1 k2) = l) :
    Calls Tryz.prog 4 #[.agg #[.bool t, .slice B m d, .slice D k f], .int .i64 a1, .int .u8 a2] w fun e w' => e = .returned (.bool true) ∧ Below w.heap.size w w' := by
  obtain ⟨B1, V0⟩ := start_nR w t B m d D k f
  have HY := Lib.hid (h2.below B1.out)
  have HP := Lib.hid (h3.below B1.out)
  have HE := Lib.hid (hE.below B1.out)
  have F1 := Lib.hid f1
  have F2 := Lib.hid f2
  have KM : Hid (m ≤ 1500000) := Nat.le_trans hm (by decide)
  have KK : Hid (k ≤ 1500000) := Nat.le_trans hk (by decide)
  have KM2 : Hid (m ≤ 2000000) := Nat.le_trans hm (by decide)
  have KK2 : Hid (k ≤ 2000000) := Nat.le_trans hk (by decide)
  have A1 := Lib.hid ha1
  have A2 := Lib.hid ha2
  have hw : IntKind.i64.wrap a2 = a2 := IntWalk.i64_in _ (by omega)
  have HV := Lib.hid hv
  have HV2 := Lib.hid hv2
  have HL := Lib.hid hl
  clear hv hv2 hl
  clear h2 hm h3 hk hE f1 f2 ha1 ha2
  go_enter Tryz.func4, Tryz.ntmps4
  go_wp2_with fail
  generalize (w.alloc (.cells #[.bool t, .slice B m d, .slice D k f] 26)) = w2 at *
  go_wp2_with (refine wpList_ldR (by rfl) _ rfl (by rfl) V0.out ?_)
  refine (decimal_yes HY.out HP.out KM.out KK.out HE.out F1.out F2.out HV.out HL.out).mono ?_
  rintro e w3 ⟨rfl, hb⟩
  replace V0 := Lib.hid (V0.out.below hb V0.out.lt)
  replace HY := Lib.hid (HY.out.below hb)
  replace HP := Lib.hid (HP.out.below hb)
  replace HE := Lib.hid (HE.out.below hb)
  replace B1 := Lib.hid (B1.out.trans (hb.mono B1.out.size))
  clear hb
  go_wp2_with (refine wpList_ldR (by rfl) _ rfl (by rfl) V0.out ?_)
  refine (rdecimal_yes HY.out HP.out KM.out KK.out F1.out F2.out HV2.out HL.out).mono ?_
  rintro e w4 ⟨rfl, hb⟩
  replace V0 := Lib.hid (V0.out.below hb V0.out.lt)
  replace HY := Lib.hid (HY.out.below hb)
  replace HP := Lib.hid (HP.out.below hb)
  replace HE := Lib.hid (HE.out.below hb)
  replace B1 := Lib.hid (B1.out.trans (hb.mono B1.out.size))
  clear hb
  go_wp2_with fail
  have hb : Below w4.heap.size w4 (w4.alloc (.cells #[.int .i64 a1, .int .i64 a2] 3)) := (Below.refl _ _).alloc (Nat.le_refl _) _
  replace V0 := Lib.hid (V0.out.below hb V0.out.lt)
  replace HY := Lib.hid (HY.out.below hb)
  replace HP := Lib.hid (HP.out.below hb)
  replace HE := Lib.hid (HE.out.below hb)
  replace B1 := Lib.hid (B1.out.trans (hb.mono B1.out.size))
  have CA := Lib.hid (Ac.new w4 a1 a2)
  clear hb
  generalize (w4.alloc (.cells #[.int .i64 a1, .int .i64 a2] 3)) = w5 at *
  generalize w4.heap.size = gA at *
  go_loopw [32] (fun a wr => ∃ i : Int, (i = 0 ∨ i = 1 ∨ i = 2) ∧ Hid (Ac wr gA a1 a2) ∧ Hid (Rb wr w.heap.size t B m d D k f) ∧ Hid (Zin wr t B m d y) ∧ Hid (Nin wr D k f p) ∧ Hid (Env wr) ∧ Hid (Below w.heap.size w wr) ∧ a = .int .i64 i) (fun a _ => (3 - intOf a).toNat)
  case atStart => exact ⟨0, .inl rfl, CA, V0, HY, HP, HE, B1, rfl⟩
  case round =>
    clear CA V0 HY HP HE B1
    obtain ⟨i, hcase, CA, V0, HY, HP, HE, B1, rfl⟩ := hrel
    rcases hcase with rfl | rfl | rfl
    · by_cases hbad : a1 < 0 ∨ 100 < a1
      · have HBAD := Lib.hid hbad
        clear hbad
        have c0 := CA.out.1
        go_wp2_with (refine wpList_ldR (by rfl) _ rfl (by rfl) V0.out ?_)
        clear c0
        refine (fixed_bad HBAD.out _).mono ?_
        rintro e w6 ⟨rfl, hb⟩
        replace CA := Lib.hid (CA.out.below hb)
        replace V0 := Lib.hid (V0.out.below hb V0.out.lt)
        replace HY := Lib.hid (HY.out.below hb)
        replace HP := Lib.hid (HP.out.below hb)
        replace HE := Lib.hid (HE.out.below hb)
        replace B1 := Lib.hid (B1.out.trans (hb.mono B1.out.size))
        clear hb
        go_wp2_with (refine wpList_ldR (by rfl) _ rfl (by rfl) V0.out ?_)
        refine (rfixed_bad HBAD.out _).mono ?_
        rintro e w7 ⟨rfl, hb⟩
        replace CA := Lib.hid (CA.out.below hb)
        replace V0 := Lib.hid (V0.out.below hb V0.out.lt)
        replace HY := Lib.hid (HY.out.below hb)
        replace HP := Lib.hid (HP.out.below hb)
        replace HE := Lib.hid (HE.out.below hb)
        replace B1 := Lib.hid (B1.out.trans (hb.mono B1.out.size))
        clear hb
        go_wp2
        go_roundw
        case rel => exact ⟨1, .inr (.inl rfl), CA, V0, HY, HP, HE, B1, rfl⟩
        case measure => simp [intOf]
      · have HBAD := Lib.hid hbad
        obtain ⟨pl, hpl⟩ : ∃ pl : Nat, a1 = (pl : Int) := ⟨a1.toNat, by omega⟩
        obtain ⟨v3, hv3⟩ : ∃ z, rndR (mkRat y p * mkRat ((10 ^ pl : Nat) : Int) 1) = z := ⟨_, rfl⟩
        obtain ⟨l3, hl3⟩ : ∃ z, ptxt v3 pl = z := ⟨_, rfl⟩
        have HPL := Lib.hid hpl
        have PL : Hid (pl ≤ 100) := by show _ ≤ _; omega
        have HV3 := Lib.hid hv3
        have HL3 := Lib.hid hl3
        clear hpl hv3 hl3
        clear hbad
        have c0 := CA.out.1
        go_wp2_with (refine wpList_ldR (by rfl) _ rfl (by rfl) V0.out ?_)
        clear c0
        refine (fixed_at HY.out HP.out KM2.out KK2.out HE.out PL.out HPL.out HV3.out HL3.out).mono ?_
        rintro e w6 ⟨rfl, hb⟩
        replace CA := Lib.hid (CA.out.below hb)
        replace V0 := Lib.hid (V0.out.below hb V0.out.lt)
        replace HY := Lib.hid (HY.out.below hb)
        replace HP := Lib.hid (HP.out.below hb)
        replace HE := Lib.hid (HE.out.below hb)
        replace B1 := Lib.hid (B1.out.trans (hb.mono B1.out.size))
        clear hb
        go_wp2_with (refine wpList_ldR (by rfl) _ rfl (by rfl) V0.out ?_)
        refine (rfixed_ok HY.out HP.out KM2.out KK2.out PL.out HPL.out HV3.out HL3.out).mono ?_
        rintro e w7 ⟨rfl, hb⟩
        replace CA := Lib.hid (CA.out.below hb)
        replace V0 := Lib.hid (V0.out.below hb V0.out.lt)
        replace HY := Lib.hid (HY.out.below hb)
        replace HP := Lib.hid (HP.out.below hb)
        replace HE := Lib.hid (HE.out.below hb)
        replace B1 := Lib.hid (B1.out.trans (hb.mono B1.out.size))
        clear hb
        go_wp2
        go_roundw
        case rel => exact ⟨1, .inr (.inl rfl), CA, V0, HY, HP, HE, B1, rfl⟩
        case measure => simp [intOf]
    · by_cases hbad : a2 < 0 ∨ 100 < a2
      · have HBAD := Lib.hid hbad
        clear hbad
        have c0 := CA.out.2
        go_wp2_with (refine wpList_ldR (by rfl) _ rfl (by rfl) V0.out ?_)
        clear c0
        refine (fixed_bad HBAD.out _).mono ?_
        rintro e w6 ⟨rfl, hb⟩
        replace CA := Lib.hid (CA.out.below hb)
        replace V0 := Lib.hid (V0.out.below hb V0.out.lt)
        replace HY := Lib.hid (HY.out.below hb)
        replace HP := Lib.hid (HP.out.below hb)
        replace HE := Lib.hid (HE.out.below hb)
        replace B1 := Lib.hid (B1.out.trans (hb.mono B1.out.size))
        clear hb
        go_wp2_with (refine wpList_ldR (by rfl) _ rfl (by rfl) V0.out ?_)
        refine (rfixed_bad HBAD.out _).mono ?_
        rintro e w7 ⟨rfl, hb⟩
        replace CA := Lib.hid (CA.out.below hb)
        replace V0 := Lib.hid (V0.out.below hb V0.out.lt)
        replace HY := Lib.hid (HY.out.below hb)
        replace HP := Lib.hid (HP.out.below hb)
        replace HE := Lib.hid (HE.out.below hb)
        replace B1 := Lib.hid (B1.out.trans (hb.mono B1.out.size))
        clear hb
        go_wp2
        go_roundw
        case rel => exact ⟨2, .inr (.inr rfl), CA, V0, HY, HP, HE, B1, rfl⟩
        case measure => simp [intOf]
      · have HBAD := Lib.hid hbad
        obtain ⟨pl, hpl⟩ : ∃ pl : Nat, a2 = (pl : Int) := ⟨a2.toNat, by omega⟩
        obtain ⟨v3, hv3⟩ : ∃ z, rndR (mkRat y p * mkRat ((10 ^ pl : Nat) : Int) 1) = z := ⟨_, rfl⟩
        obtain ⟨l3, hl3⟩ : ∃ z, ptxt v3 pl = z := ⟨_, rfl⟩
        have HPL := Lib.hid hpl
        have PL : Hid (pl ≤ 100) := by show _ ≤ _; omega
        have HV3 := Lib.hid hv3
        have HL3 := Lib.hid hl3
        clear hpl hv3 hl3
        clear hbad
        have c0 := CA.out.2
        go_wp2_with (refine wpList_ldR (by rfl) _ rfl (by rfl) V0.out ?_)
        clear c0
        refine (fixed_at HY.out HP.out KM2.out KK2.out HE.out PL.out HPL.out HV3.out HL3.out).mono ?_
        rintro e w6 ⟨rfl, hb⟩
        replace CA := Lib.hid (CA.out.below hb)
        replace V0 := Lib.hid (V0.out.below hb V0.out.lt)
        replace HY := Lib.hid (HY.out.below hb)
        replace HP := Lib.hid (HP.out.below hb)
        replace HE := Lib.hid (HE.out.below hb)
        replace B1 := Lib.hid (B1.out.trans (hb.mono B1.out.size))
        clear hb
        go_wp2_with (refine wpList_ldR (by rfl) _ rfl (by rfl) V0.out ?_)
        refine (rfixed_ok HY.out HP.out KM2.out KK2.out PL.out HPL.out HV3.out HL3.out).mono ?_
        rintro e w7 ⟨rfl, hb⟩
        replace CA := Lib.hid (CA.out.below hb)
        replace V0 := Lib.hid (V0.out.below hb V0.out.lt)
        replace HY := Lib.hid (HY.out.below hb)
        replace HP := Lib.hid (HP.out.below hb)
        replace HE := Lib.hid (HE.out.below hb)
        replace B1 := Lib.hid (B1.out.trans (hb.mono B1.out.size))
        clear hb
        go_wp2
        go_roundw
        case rel => exact ⟨2, .inr (.inr rfl), CA, V0, HY, HP, HE, B1, rfl⟩
        case measure => simp [intOf]
    · skip
      go_wp2_with fail
      refine (nawake_any HE.out).mono ?_
      rintro e w8 ⟨rfl, hb⟩
      replace CA := Lib.hid (CA.out.below hb)
      replace V0 := Lib.hid (V0.out.below hb V0.out.lt)
      replace HY := Lib.hid (HY.out.below hb)
      replace HP := Lib.hid (HP.out.below hb)
      replace HE := Lib.hid (HE.out.below hb)
      replace B1 := Lib.hid (B1.out.trans (hb.mono B1.out.size))
      clear hb
      go_wp2
      go_ret
      exact ⟨rfl, B1.out⟩
set_option maxRecDepth 100000 in
set_option maxHeartbeats 16000000 in
theorem numtextDecimals_no {t : Bool} {B : Option Addr} {m d : Nat} {y : Int} {D : Option Addr} {k f : Nat} {p : Nat} {a1 a2 : Int} (w : World) (h2 : Zin w t B m d y) (hm : m ≤ 1048576) (h3 : Nin w D k f p) (hk : k ≤ 1048576) (ha1 : -9223372036854775808 ≤ a1 ∧ a1 ≤ 9223372036854775807) (ha2 : 0 ≤ a2 ∧ a2 ≤ 255) (hE : Env w) {k1 r1 k2 r2 : Nat} (f1 : Facs (mkRat y p).den 2 k1 r1) (f2 : Facs r1 5 k2 r2) (hr2 : r2 ≠ 1) :
    Calls Tryz.prog 4 #[.agg #[.bool t, .slice B m d, .slice D k f], .int .i64 a1, .int .u8 a2] w fun e w' => e = .returned (.bool true) ∧ Below w.heap.size w w' := by
  obtain ⟨B1, V0⟩ := start_nR w t B m d D k f
  have HY := Lib.hid (h2.below B1.out)
  have HP := Lib.hid (h3.below B1.out)
  have HE := Lib.hid (hE.below B1.out)
  have F1 := Lib.hid f1
  have F2 := Lib.hid f2
  have KM : Hid (m ≤ 1500000) := Nat.le_trans hm (by decide)
  have KK : Hid (k ≤ 1500000) := Nat.le_trans hk (by decide)
  have KM2 : Hid (m ≤ 2000000) := Nat.le_trans hm (by decide)
  have KK2 : Hid (k ≤ 2000000) := Nat.le_trans hk (by decide)
  have A1 := Lib.hid ha1
  have A2 := Lib.hid ha2
  have hw : IntKind.i64.wrap a2 = a2 := IntWalk.i64_in _ (by omega)
  have HR2 := Lib.hid hr2
  clear hr2
  clear h2 hm h3 hk hE f1 f2 ha1 ha2
  go_enter Tryz.func4, Tryz.ntmps4
  go_wp2_with fail
  generalize (w.alloc (.cells #[.bool t, .slice B m d, .slice D k f] 26)) = w2 at *
  go_wp2_with (refine wpList_ldR (by rfl) _ rfl (by rfl) V0.out ?_)
  refine (decimal_no HY.out HP.out KM.out KK.out HE.out F1.out F2.out HR2.out).mono ?_
  rintro e w3 ⟨rfl, hb⟩
  replace V0 := Lib.hid (V0.out.below hb V0.out.lt)
  replace HY := Lib.hid (HY.out.below hb)
  replace HP := Lib.hid (HP.out.below hb)
  replace HE := Lib.hid (HE.out.below hb)
  replace B1 := Lib.hid (B1.out.trans (hb.mono B1.out.size))
  clear hb
  go_wp2_with (refine wpList_ldR (by rfl) _ rfl (by rfl) V0.out ?_)
  refine (rdecimal_no HY.out HP.out KM.out KK.out F1.out F2.out HR2.out).mono ?_
  rintro e w4 ⟨rfl, hb⟩
  replace V0 := Lib.hid (V0.out.below hb V0.out.lt)
  replace HY := Lib.hid (HY.out.below hb)
  replace HP := Lib.hid (HP.out.below hb)
  replace HE := Lib.hid (HE.out.below hb)
  replace B1 := Lib.hid (B1.out.trans (hb.mono B1.out.size))
  clear hb
  go_wp2_with fail
  have hb : Below w4.heap.size w4 (w4.alloc (.cells #[.int .i64 a1, .int .i64 a2] 3)) := (Below.refl _ _).alloc (Nat.le_refl _) _
  replace V0 := Lib.hid (V0.out.below hb V0.out.lt)
  replace HY := Lib.hid (HY.out.below hb)
  replace HP := Lib.hid (HP.out.below hb)
  replace HE := Lib.hid (HE.out.below hb)
  replace B1 := Lib.hid (B1.out.trans (hb.mono B1.out.size))
  have CA := Lib.hid (Ac.new w4 a1 a2)
  clear hb
  generalize (w4.alloc (.cells #[.int .i64 a1, .int .i64 a2] 3)) = w5 at *
  generalize w4.heap.size = gA at *
  go_loopw [32] (fun a wr => ∃ i : Int, (i = 0 ∨ i = 1 ∨ i = 2) ∧ Hid (Ac wr gA a1 a2) ∧ Hid (Rb wr w.heap.size t B m d D k f) ∧ Hid (Zin wr t B m d y) ∧ Hid (Nin wr D k f p) ∧ Hid (Env wr) ∧ Hid (Below w.heap.size w wr) ∧ a = .int .i64 i) (fun a _ => (3 - intOf a).toNat)
  case atStart => exact ⟨0, .inl rfl, CA, V0, HY, HP, HE, B1, rfl⟩
  case round =>
    clear CA V0 HY HP HE B1
    obtain ⟨i, hcase, CA, V0, HY, HP, HE, B1, rfl⟩ := hrel
    rcases hcase with rfl | rfl | rfl
    · by_cases hbad : a1 < 0 ∨ 100 < a1
      · have HBAD := Lib.hid hbad
        clear hbad
        have c0 := CA.out.1
        go_wp2_with (refine wpList_ldR (by rfl) _ rfl (by rfl) V0.out ?_)
        clear c0
        refine (fixed_bad HBAD.out _).mono ?_
        rintro e w6 ⟨rfl, hb⟩
        replace CA := Lib.hid (CA.out.below hb)
        replace V0 := Lib.hid (V0.out.below hb V0.out.lt)
        replace HY := Lib.hid (HY.out.below hb)
        replace HP := Lib.hid (HP.out.below hb)
        replace HE := Lib.hid (HE.out.below hb)
        replace B1 := Lib.hid (B1.out.trans (hb.mono B1.out.size))
        clear hb
        go_wp2_with (refine wpList_ldR (by rfl) _ rfl (by rfl) V0.out ?_)
        refine (rfixed_bad HBAD.out _).mono ?_
        rintro e w7 ⟨rfl, hb⟩
        replace CA := Lib.hid (CA.out.below hb)
        replace V0 := Lib.hid (V0.out.below hb V0.out.lt)
        replace HY := Lib.hid (HY.out.below hb)
        replace HP := Lib.hid (HP.out.below hb)
        replace HE := Lib.hid (HE.out.below hb)
        replace B1 := Lib.hid (B1.out.trans (hb.mono B1.out.size))
        clear hb
        go_wp2
        go_roundw
        case rel => exact ⟨1, .inr (.inl rfl), CA, V0, HY, HP, HE, B1, rfl⟩
        case measure => simp [intOf]
      · have HBAD := Lib.hid hbad
        obtain ⟨pl, hpl⟩ : ∃ pl : Nat, a1 = (pl : Int) := ⟨a1.toNat, by omega⟩
        obtain ⟨v3, hv3⟩ : ∃ z, rndR (mkRat y p * mkRat ((10 ^ pl : Nat) : Int) 1) = z := ⟨_, rfl⟩
        obtain ⟨l3, hl3⟩ : ∃ z, ptxt v3 pl = z := ⟨_, rfl⟩
        have HPL := Lib.hid hpl
        have PL : Hid (pl ≤ 100) := by show _ ≤ _; omega
        have HV3 := Lib.hid hv3
        have HL3 := Lib.hid hl3
        clear hpl hv3 hl3
        clear hbad
        have c0 := CA.out.1
        go_wp2_with (refine wpList_ldR (by rfl) _ rfl (by rfl) V0.out ?_)
        clear c0
        refine (fixed_at HY.out HP.out KM2.out KK2.out HE.out PL.out HPL.out HV3.out HL3.out).mono ?_
        rintro e w6 ⟨rfl, hb⟩
        replace CA := Lib.hid (CA.out.below hb)
        replace V0 := Lib.hid (V0.out.below hb V0.out.lt)
        replace HY := Lib.hid (HY.out.below hb)
        replace HP := Lib.hid (HP.out.below hb)
        replace HE := Lib.hid (HE.out.below hb)
        replace B1 := Lib.hid (B1.out.trans (hb.mono B1.out.size))
        clear hb
        go_wp2_with (refine wpList_ldR (by rfl) _ rfl (by rfl) V0.out ?_)
        refine (rfixed_ok HY.out HP.out KM2.out KK2.out PL.out HPL.out HV3.out HL3.out).mono ?_
        rintro e w7 ⟨rfl, hb⟩
        replace CA := Lib.hid (CA.out.below hb)
        replace V0 := Lib.hid (V0.out.below hb V0.out.lt)
        replace HY := Lib.hid (HY.out.below hb)
        replace HP := Lib.hid (HP.out.below hb)
        replace HE := Lib.hid (HE.out.below hb)
        replace B1 := Lib.hid (B1.out.trans (hb.mono B1.out.size))
        clear hb
        go_wp2
        go_roundw
        case rel => exact ⟨1, .inr (.inl rfl), CA, V0, HY, HP, HE, B1, rfl⟩
        case measure => simp [intOf]
    · by_cases hbad : a2 < 0 ∨ 100 < a2
      · have HBAD := Lib.hid hbad
        clear hbad
        have c0 := CA.out.2
        go_wp2_with (refine wpList_ldR (by rfl) _ rfl (by rfl) V0.out ?_)
        clear c0
        refine (fixed_bad HBAD.out _).mono ?_
        rintro e w6 ⟨rfl, hb⟩
        replace CA := Lib.hid (CA.out.below hb)
        replace V0 := Lib.hid (V0.out.below hb V0.out.lt)
        replace HY := Lib.hid (HY.out.below hb)
        replace HP := Lib.hid (HP.out.below hb)
        replace HE := Lib.hid (HE.out.below hb)
        replace B1 := Lib.hid (B1.out.trans (hb.mono B1.out.size))
        clear hb
        go_wp2_with (refine wpList_ldR (by rfl) _ rfl (by rfl) V0.out ?_)
        refine (rfixed_bad HBAD.out _).mono ?_
        rintro e w7 ⟨rfl, hb⟩
        replace CA := Lib.hid (CA.out.below hb)
        replace V0 := Lib.hid (V0.out.below hb V0.out.lt)
        replace HY := Lib.hid (HY.out.below hb)
        replace HP := Lib.hid (HP.out.below hb)
        replace HE := Lib.hid (HE.out.below hb)
        replace B1 := Lib.hid (B1.out.trans (hb.mono B1.out.size))
        clear hb
        go_wp2
        go_roundw
        case rel => exact ⟨2, .inr (.inr rfl), CA, V0, HY, HP, HE, B1, rfl⟩
        case measure => simp [intOf]
      · have HBAD := Lib.hid hbad
        obtain ⟨pl, hpl⟩ : ∃ pl : Nat, a2 = (pl : Int) := ⟨a2.toNat, by omega⟩
        obtain ⟨v3, hv3⟩ : ∃ z, rndR (mkRat y p * mkRat ((10 ^ pl : Nat) : Int) 1) = z := ⟨_, rfl⟩
        obtain ⟨l3, hl3⟩ : ∃ z, ptxt v3 pl = z := ⟨_, rfl⟩
        have HPL := Lib.hid hpl
        have PL : Hid (pl ≤ 100) := by show _ ≤ _; omega
        have HV3 := Lib.hid hv3
        have HL3 := Lib.hid hl3
        clear hpl hv3 hl3
        clear hbad
        have c0 := CA.out.2
        go_wp2_with (refine wpList_ldR (by rfl) _ rfl (by rfl) V0.out ?_)
        clear c0
        refine (fixed_at HY.out HP.out KM2.out KK2.out HE.out PL.out HPL.out HV3.out HL3.out).mono ?_
        rintro e w6 ⟨rfl, hb⟩
        replace CA := Lib.hid (CA.out.below hb)
        replace V0 := Lib.hid (V0.out.below hb V0.out.lt)
        replace HY := Lib.hid (HY.out.below hb)
        replace HP := Lib.hid (HP.out.below hb)
        replace HE := Lib.hid (HE.out.below hb)
        replace B1 := Lib.hid (B1.out.trans (hb.mono B1.out.size))
        clear hb
        go_wp2_with (refine wpList_ldR (by rfl) _ rfl (by rfl) V0.out ?_)
        refine (rfixed_ok HY.out HP.out KM2.out KK2.out PL.out HPL.out HV3.out HL3.out).mono ?_
        rintro e w7 ⟨rfl, hb⟩
        replace CA := Lib.hid (CA.out.below hb)
        replace V0 := Lib.hid (V0.out.below hb V0.out.lt)
        replace HY := Lib.hid (HY.out.below hb)
        replace HP := Lib.hid (HP.out.below hb)
        replace HE := Lib.hid (HE.out.below hb)
        replace B1 := Lib.hid (B1.out.trans (hb.mono B1.out.size))
        clear hb
        go_wp2
        go_roundw
        case rel => exact ⟨2, .inr (.inr rfl), CA, V0, HY, HP, HE, B1, rfl⟩
        case measure => simp [intOf]
    · skip
      go_wp2_with fail
      refine (nawake_any HE.out).mono ?_
      rintro e w8 ⟨rfl, hb⟩
      replace CA := Lib.hid (CA.out.below hb)
      replace V0 := Lib.hid (V0.out.below hb V0.out.lt)
      replace HY := Lib.hid (HY.out.below hb)
      replace HP := Lib.hid (HP.out.below hb)
      replace HE := Lib.hid (HE.out.below hb)
      replace B1 := Lib.hid (B1.out.trans (hb.mono B1.out.size))
      clear hb
      go_wp2
      go_ret
      exact ⟨rfl, B1.out⟩
theorem numtextDecimals_walk {t : Bool} {B : Option Addr} {m d : Nat} {y : Int} {D : Option Addr} {k f : Nat} {p : Nat} {a1 a2 : Int} (w : World) (h2 : Zin w t B m d y) (hm : m ≤ 1048576) (h3 : Nin w D k f p) (hk : k ≤ 1048576) (ha1 : -9223372036854775808 ≤ a1 ∧ a1 ≤ 9223372036854775807) (ha2 : 0 ≤ a2 ∧ a2 ≤ 255) (hE : Env w) : Calls Tryz.prog 4 #[.agg #[.bool t, .slice B m d, .slice D k f], .int .i64 a1, .int .u8 a2] w fun e w' => e = .returned (.bool true) ∧ Below w.heap.size w w' := by
  obtain ⟨k1, r1, f1⟩ := facs_exists 2 (by omega) (mkRat y p).den (den_pos _)
  obtain ⟨k2, r2, f2⟩ := facs_exists 5 (by omega) r1 (f1.pos (den_pos _))
  by_cases h1 : r2 = 1
  · subst h1
    obtain ⟨v, hv, hv2⟩ := dec_exact f1 f2 (Nat.le_max_left k1 k2) (Nat.le_max_right k1 k2)
    exact numtextDecimals_yes w h2 hm h3 hk ha1 ha2 hE f1 f2 hv hv2 rfl
  · exact numtextDecimals_no w h2 hm h3 hk ha1 ha2 hE f1 f2 h1
end Go.Proofs.YtebpoabflcngoaaGreatDoor
