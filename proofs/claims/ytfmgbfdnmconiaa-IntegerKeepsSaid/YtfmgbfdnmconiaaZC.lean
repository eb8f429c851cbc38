/-
  Zrop, Zradd, Zrval, Zawake.
-/
import Derived.Test.YtfmgbfdnmconiaaZA
import Derived.Test.YtfmgbfdnmconiaaNC
import Derived.Test.YtfmgbfdnmconiaaZB
/-
  Contracts of the reference's package 2: Norm, Neg, Abs, Mul, GCD.
-/
namespace Go.Proofs.Ytfmgbfdnmconiaa
open Go.RowKit
set_option linter.unusedVariables false

end Go.Proofs.Ytfmgbfdnmconiaa

/-
  Contracts of the reference's package 2: Add.
-/
namespace Go.Proofs.Ytfmgbfdnmconiaa
open Go.RowKit
set_option linter.unusedVariables false

end Go.Proofs.Ytfmgbfdnmconiaa

/-
  Contracts of the reference's package 2: Sub, Sign, Compare, FromInt, Value, Canonical.
-/
namespace Go.Proofs.Ytfmgbfdnmconiaa
open Go.RowKit
set_option linter.unusedVariables false

theorem len_zero_iff {v : Nat} : (ofv v).length = 0 ↔ v = 0 := by
  rw [List.length_eq_zero_iff]; exact ofv_eq_nil
set_option maxHeartbeats 2000000 in
theorem rfromInt_z {v z : Int} (hv : -9223372036854775808 ≤ v ∧ v ≤ 9223372036854775807) (hz : v = z) (w : World) :
    Calls Try.prog 28 #[.int .i64 v] w (GivesZ w z) := by
  have R2 := Lib.hid (Zb.new w false none 0 0)
  have B2 := Lib.hid ((Below.refl w.heap.size w).alloc (Nat.le_refl _) (.cells #[.bool false, .slice none 0 0] 24))
  obtain ⟨v0, v1⟩ := hv
  have LN : Hid ((ofv v.natAbs).length ≤ 70368744177664) := by
    show _ ≤ _
    have : (ofv v.natAbs).length ≤ 2 := len_ofv_le_of_lt (by rw [pw_succ, pw_succ, pw_zero]; omega)
    omega
  rcases Int.lt_or_le v 0 with h0 | h0
  · have HV : Hid (v.natAbs < 18446744073709551616) := by show _ < _; omega
    have E : Hid (zv true v.natAbs = z) := by show _ = _; unfold zv; simp; omega
    clear hz
    go_enter Try.func28, Try.ntmps28
    go_wp2_with fail
    generalize (w.alloc (.cells #[.bool false, .slice none 0 0] 24)) = w2 at *
    have LT := Lib.hid R2.out.lt
    go_wp2_with (first | (go_at_call 45; refine Calls.mono (rfrom_n (v := v.natAbs) (by omega) (by omega)) ?_; rintro e w3 ⟨R, c3, rfl, ho, hb⟩) | (go_at_call 44; refine Calls.mono (make_gives (w0 := w2) (v := v.natAbs) ho hb E.out rfl LN.out) ?_; rintro e w4 ⟨R', c4, rfl, ho', hb'⟩; obtain ⟨f0, f1⟩ := (R2.out.below hb' LT.out).frozen; obtain ⟨k0, k1⟩ := (R2.out.below hb' LT.out).cells))
    exact end_z Try.results28 rfl rfl R2 B2 (Nat.le_refl _) ho' hb'
  · have HW : Hid (v = ((v.natAbs : Nat) : Int)) := by show _ = _; omega
    have HV : Hid (v.natAbs ≤ 18446744073709551615) := by show _ ≤ _; omega
    have E : Hid (zv false v.natAbs = z) := by show _ = _; unfold zv; simp; omega
    clear hz
    go_enter Try.func28, Try.ntmps28
    go_wp2_with fail
    generalize (w.alloc (.cells #[.bool false, .slice none 0 0] 24)) = w2 at *
    have LT := Lib.hid R2.out.lt
    go_wp2_with (first | (go_at_call 45; refine Calls.mono (rfrom_n (v := v.natAbs) HW.out HV.out) ?_; rintro e w3 ⟨R, c3, rfl, ho, hb⟩) | (go_at_call 44; refine Calls.mono (make_gives (w0 := w2) (v := v.natAbs) ho hb E.out rfl LN.out) ?_; rintro e w4 ⟨R', c4, rfl, ho', hb'⟩; obtain ⟨f0, f1⟩ := (R2.out.below hb' LT.out).frozen; obtain ⟨k0, k1⟩ := (R2.out.below hb' LT.out).cells))
    exact end_z Try.results28 rfl rfl R2 B2 (Nat.le_refl _) ho' hb'
end Go.Proofs.Ytfmgbfdnmconiaa

/-
  The statements' own sanity check of package integer: two divisions with negative numbers.
-/
namespace Go.Proofs.Ytfmgbfdnmconiaa
open Go.RowKit
set_option linter.unusedVariables false

/-- What four blocks hold. -/
theorem keep4 {w w' : World} {B g1 g2 g3 g4 n1 c1 n2 c2 n3 c3 n4 c4 : Nat} {s1 s2 s3 s4 : Bool} {A1 A2 A3 A4 : Option Addr} (X1 : Hid (Zb w g1 s1 A1 n1 c1)) (X2 : Hid (Zb w g2 s2 A2 n2 c2)) (X3 : Hid (Zb w g3 s3 A3 n3 c3)) (X4 : Hid (Zb w g4 s4 A4 n4 c4)) (hb : Below B w w') (h1 : g1 < B) (h2 : g2 < B) (h3 : g3 < B) (h4 : g4 < B) :
    w'.cell? ⟨g1, 0, none⟩ = some (.bool s1) ∧ w'.cell? ⟨g1, 1, none⟩ = some (.slice A1 n1 c1) ∧ w'.cell? ⟨g2, 0, none⟩ = some (.bool s2) ∧ w'.cell? ⟨g2, 1, none⟩ = some (.slice A2 n2 c2) ∧ w'.cell? ⟨g3, 0, none⟩ = some (.bool s3) ∧ w'.cell? ⟨g3, 1, none⟩ = some (.slice A3 n3 c3) ∧ w'.cell? ⟨g4, 0, none⟩ = some (.bool s4) ∧ w'.cell? ⟨g4, 1, none⟩ = some (.slice A4 n4 c4) := by
  obtain ⟨a, b⟩ := (X1.out.below hb h1).cells
  obtain ⟨c, d⟩ := (X2.out.below hb h2).cells
  obtain ⟨e, f⟩ := (X3.out.below hb h3).cells
  obtain ⟨g, h⟩ := (X4.out.below hb h4).cells
  exact ⟨a, b, c, d, e, f, g, h⟩
theorem Zo.of_own {w : World} {lo c : Nat} {R : Option Addr} {z : Int} (h : Own w lo R c (ofv z.natAbs)) : Zo w R c z := h.rd
theorem Zo.len_small {w : World} {R : Option Addr} {c : Nat} {z : Int} (h : Zo w R c z) (hz : z.natAbs < 4294967296) : (ofv z.natAbs).length ≤ 70368744177660 := by
  have : (ofv z.natAbs).length ≤ 1 := len_ofv_le_of_lt (by rw [pw_succ, pw_zero]; omega)
  omega

set_option maxHeartbeats 8000000 in
theorem zawake_any (w : World) : Calls Try.prog 15 #[] w fun e w' => e = .returned (.bool true) ∧ Below w.heap.size w w' := by
  obtain ⟨a, ha⟩ : ∃ a : Int, -7 = a := ⟨_, rfl⟩
  obtain ⟨b, hb0⟩ : ∃ b : Int, 2 = b := ⟨_, rfl⟩
  obtain ⟨b', hb1⟩ : ∃ b : Int, -2 = b := ⟨_, rfl⟩
  obtain ⟨q, hq⟩ : ∃ q : Int, -4 = q := ⟨_, rfl⟩
  obtain ⟨s, hs⟩ : ∃ q : Int, 4 = q := ⟨_, rfl⟩
  obtain ⟨r, hr⟩ : ∃ q : Int, 1 = q := ⟨_, rfl⟩
  have DA := Lib.hid ha
  have DB := Lib.hid hb0
  have DC := Lib.hid hb1
  have DQ := Lib.hid hq
  have DS := Lib.hid hs
  have DR := Lib.hid hr
  have E1 : Hid (a / b = q) := by show _ = _; subst ha hb0 hq; decide
  have E2 : Hid (a % b = r) := by show _ = _; subst ha hb0 hr; decide
  have E3 : Hid (a / b' = s) := by show _ = _; subst ha hb1 hs; decide
  have E4 : Hid (a % b' = r) := by show _ = _; subst ha hb1 hr; decide
  have SA : Hid (a.natAbs < 4294967296) := by show _ < _; omega
  have SB : Hid (b.natAbs < 4294967296) := by show _ < _; omega
  have SC : Hid (b'.natAbs < 4294967296) := by show _ < _; omega
  have NB : Hid (b ≠ 0) := by show _ ≠ _; omega
  have NC : Hid (b' ≠ 0) := by show _ ≠ _; omega
  have Iq : Hid (-9223372036854775808 ≤ q ∧ q ≤ 9223372036854775807) := by show _ ∧ _; omega
  have Ir : Hid (-9223372036854775808 ≤ r ∧ r ≤ 9223372036854775807) := by show _ ∧ _; omega
  have Is : Hid (-9223372036854775808 ≤ s ∧ s ≤ 9223372036854775807) := by show _ ∧ _; omega
  clear ha hb0 hb1 hq hs hr
  have B0 := Lib.hid (Below.refl w.heap.size w)
  go_enter Try.func15, Try.ntmps15
  go_wp2_with fail
  refine (rfromInt_z (z := a) (by omega) DA.out _).mono ?_
  rintro e w1 ⟨A, ca, rfl, ho, hb⟩
  have B1 := Lib.hid (B0.out.trans (hb.mono B0.out.size))
  have ZA := Lib.hid (show Zo w1 _ _ _ from ho.rd)
  clear hb ho  B0
  go_wp2_with fail
  refine (rfromInt_z (z := b) (by omega) DB.out _).mono ?_
  rintro e w2 ⟨Bb, cb, rfl, ho, hb⟩
  have B2 := Lib.hid (B1.out.trans (hb.mono B1.out.size))
  have ZA' := Lib.hid (ZA.out.below hb)
  have ZB := Lib.hid (show Zo w2 _ _ _ from ho.rd)
  clear hb ho ZA B1
  have ZA := ZA'
  clear ZA'
  go_wp2_with fail
  refine (dm_z ZA.out.in_ ZB.out.in_ (ZA.out.len_small SA.out) (ZB.out.len_small SB.out) NB.out E1.out E2.out).mono ?_
  rintro e w3 ⟨Q, cq, R, cr, rfl, ho, ho2, hb⟩
  have B3 := Lib.hid (B2.out.trans (hb.mono B2.out.size))
  have ZA' := Lib.hid (ZA.out.below hb)
  have ZB' := Lib.hid (ZB.out.below hb)
  have ZQ := Lib.hid (show Zo w3 _ _ _ from ho.rd)
  have ZR := Lib.hid (show Zo w3 _ _ _ from ho2.rd)
  clear hb ho ho2 ZA ZB B2
  have ZA := ZA'
  clear ZA'
  have ZB := ZB'
  clear ZB'
  clear ZA ZB
  go_wp2_with fail
  obtain ⟨hb, V1, V2⟩ := begin2 w3 (decide (q < 0)) Q (ofv (q).natAbs).length cq (decide (r < 0)) R (ofv (r).natAbs).length cr
  generalize hg1 : w3.heap.size = g1 at V1 V2 ⊢
  generalize ((w3.alloc (.cells #[.bool (decide (q < 0)), .slice Q (ofv (q).natAbs).length cq] 24)).alloc (.cells #[.bool (decide (r < 0)), .slice R (ofv (r).natAbs).length cr] 24)) = w4 at *
  have B4 := Lib.hid (B3.out.trans (hb.out.mono B3.out.size))
  have ZQ' := Lib.hid (ZQ.out.below hb.out)
  have ZR' := Lib.hid (ZR.out.below hb.out)
  clear hb hg1 ZQ ZR B3
  have ZQ := ZQ'
  clear ZQ'
  have ZR := ZR'
  clear ZR'
  go_wp2_with fail
  refine (rfromInt_z (z := a) (by omega) DA.out _).mono ?_
  rintro e w5 ⟨A, ca, rfl, ho, hb⟩
  have B5 := Lib.hid (B4.out.trans (hb.mono B4.out.size))
  have ZQ' := Lib.hid (ZQ.out.below hb)
  have ZR' := Lib.hid (ZR.out.below hb)
  have V1' := Lib.hid (V1.out.below hb V1.out.lt)
  have V2' := Lib.hid (V2.out.below hb V2.out.lt)
  have ZA := Lib.hid (show Zo w5 _ _ _ from ho.rd)
  clear hb ho ZQ ZR V1 V2 B4
  have ZQ := ZQ'
  clear ZQ'
  have ZR := ZR'
  clear ZR'
  have V1 := V1'
  clear V1'
  have V2 := V2'
  clear V2'
  go_wp2_with fail
  refine (rfromInt_z (z := b') (by omega) DC.out _).mono ?_
  rintro e w6 ⟨Bb, cb, rfl, ho, hb⟩
  have B6 := Lib.hid (B5.out.trans (hb.mono B5.out.size))
  have ZQ' := Lib.hid (ZQ.out.below hb)
  have ZR' := Lib.hid (ZR.out.below hb)
  have V1' := Lib.hid (V1.out.below hb V1.out.lt)
  have V2' := Lib.hid (V2.out.below hb V2.out.lt)
  have ZA' := Lib.hid (ZA.out.below hb)
  have ZB := Lib.hid (show Zo w6 _ _ _ from ho.rd)
  clear hb ho ZQ ZR V1 V2 ZA B5
  have ZQ := ZQ'
  clear ZQ'
  have ZR := ZR'
  clear ZR'
  have V1 := V1'
  clear V1'
  have V2 := V2'
  clear V2'
  have ZA := ZA'
  clear ZA'
  go_wp2_with fail
  refine (dm_z ZA.out.in_ ZB.out.in_ (ZA.out.len_small SA.out) (ZB.out.len_small SC.out) NC.out E3.out E4.out).mono ?_
  rintro e w7 ⟨S, cs, T, ct, rfl, ho, ho2, hb⟩
  have B7 := Lib.hid (B6.out.trans (hb.mono B6.out.size))
  have ZQ' := Lib.hid (ZQ.out.below hb)
  have ZR' := Lib.hid (ZR.out.below hb)
  have V1' := Lib.hid (V1.out.below hb V1.out.lt)
  have V2' := Lib.hid (V2.out.below hb V2.out.lt)
  have ZA' := Lib.hid (ZA.out.below hb)
  have ZB' := Lib.hid (ZB.out.below hb)
  have ZS := Lib.hid (show Zo w7 _ _ _ from ho.rd)
  have ZT := Lib.hid (show Zo w7 _ _ _ from ho2.rd)
  clear hb ho ho2 ZQ ZR V1 V2 ZA ZB B6
  have ZQ := ZQ'
  clear ZQ'
  have ZR := ZR'
  clear ZR'
  have V1 := V1'
  clear V1'
  have V2 := V2'
  clear V2'
  have ZA := ZA'
  clear ZA'
  have ZB := ZB'
  clear ZB'
  clear ZA ZB
  go_wp2_with fail
  obtain ⟨hb, V3, V4⟩ := begin2 w7 (decide (s < 0)) S (ofv (s).natAbs).length cs (decide (r < 0)) T (ofv (r).natAbs).length ct
  generalize hg3 : w7.heap.size = g3 at V3 V4 ⊢
  generalize ((w7.alloc (.cells #[.bool (decide (s < 0)), .slice S (ofv (s).natAbs).length cs] 24)).alloc (.cells #[.bool (decide (r < 0)), .slice T (ofv (r).natAbs).length ct] 24)) = w8 at *
  have B8 := Lib.hid (B7.out.trans (hb.out.mono B7.out.size))
  have ZQ' := Lib.hid (ZQ.out.below hb.out)
  have ZR' := Lib.hid (ZR.out.below hb.out)
  have V1' := Lib.hid (V1.out.below hb.out V1.out.lt)
  have V2' := Lib.hid (V2.out.below hb.out V2.out.lt)
  have ZS' := Lib.hid (ZS.out.below hb.out)
  have ZT' := Lib.hid (ZT.out.below hb.out)
  clear hb hg3 ZQ ZR V1 V2 ZS ZT B7
  have ZQ := ZQ'
  clear ZQ'
  have ZR := ZR'
  clear ZR'
  have V1 := V1'
  clear V1'
  have V2 := V2'
  clear V2'
  have ZS := ZS'
  clear ZS'
  have ZT := ZT'
  clear ZT'
  have BW := Lib.hid (Below.refl w8.heap.size w8)
  have S2 := Lib.hid (keep4 V1 V2 V3 V4 BW.out V1.out.lt V2.out.lt V3.out.lt V4.out.lt)
  go_region_held3 (fun w' => w'.cell? ⟨g1, 0, none⟩ = some (.bool (decide (q < 0))) ∧ w'.cell? ⟨g1, 1, none⟩ = some (.slice Q (ofv (q).natAbs).length cq) ∧ w'.cell? ⟨g1 + 1, 0, none⟩ = some (.bool (decide (r < 0))) ∧ w'.cell? ⟨g1 + 1, 1, none⟩ = some (.slice R (ofv (r).natAbs).length cr) ∧ w'.cell? ⟨g3, 0, none⟩ = some (.bool (decide (s < 0))) ∧ w'.cell? ⟨g3, 1, none⟩ = some (.slice S (ofv (s).natAbs).length cs) ∧ w'.cell? ⟨g3 + 1, 0, none⟩ = some (.bool (decide (r < 0))) ∧ w'.cell? ⟨g3 + 1, 1, none⟩ = some (.slice T (ofv (r).natAbs).length ct))
    (first | exact keep4 V1 V2 V3 V4 BW.out V1.out.lt V2.out.lt V3.out.lt V4.out.lt | exact S2.out)
    (first
      | (go_at_call 28; (with_reducible refine Calls.mono (rfromInt_z (v := -4) (z := q) ?_ ?_ _) ?_); (rw [DQ.out]; exact Iq.out); exact DQ.out; rintro e wf ⟨F, cf, rfl, ho, hb⟩; have ZF := Lib.hid (Zo.of_own ho); clear ho; (first | (have BX := Lib.hid (BW.out.trans (hb.mono BW.out.size))) | (have BX := below_drew hb)); clear hb BW; have BW := BX; clear BX)
      | (go_at_call 28; (with_reducible refine Calls.mono (rfromInt_z (v := 1) (z := r) ?_ ?_ _) ?_); (rw [DR.out]; exact Ir.out); exact DR.out; rintro e wf ⟨F, cf, rfl, ho, hb⟩; have ZF := Lib.hid (Zo.of_own ho); clear ho; (first | (have BX := Lib.hid (BW.out.trans (hb.mono BW.out.size))) | (have BX := below_drew hb)); clear hb BW; have BW := BX; clear BX)
      | (go_at_call 28; (with_reducible refine Calls.mono (rfromInt_z (v := 4) (z := s) ?_ ?_ _) ?_); (rw [DS.out]; exact Is.out); exact DS.out; rintro e wf ⟨F, cf, rfl, ho, hb⟩; have ZF := Lib.hid (Zo.of_own ho); clear ho; (first | (have BX := Lib.hid (BW.out.trans (hb.mono BW.out.size))) | (have BX := below_drew hb)); clear hb BW; have BW := BX; clear BX)
      | (go_at_call 29; (with_reducible refine Calls.mono (requal_z (R := Q) (c := cq) (z := q) ?_ ?_) ?_); (exact ZQ.out.below BW.out); (exact ZF.out); rintro e we ⟨rfl, hb⟩; clear ZF; (first | (have BX := Lib.hid (BW.out.trans (hb.mono BW.out.size))) | (have BX := below_drew hb)); clear hb BW; have BW := BX; clear BX)
      | (go_at_call 29; (with_reducible refine Calls.mono (requal_z (R := R) (c := cr) (z := r) ?_ ?_) ?_); (exact ZR.out.below BW.out); (exact ZF.out); rintro e we ⟨rfl, hb⟩; clear ZF; (first | (have BX := Lib.hid (BW.out.trans (hb.mono BW.out.size))) | (have BX := below_drew hb)); clear hb BW; have BW := BX; clear BX)
      | (go_at_call 29; (with_reducible refine Calls.mono (requal_z (R := S) (c := cs) (z := s) ?_ ?_) ?_); (exact ZS.out.below BW.out); (exact ZF.out); rintro e we ⟨rfl, hb⟩; clear ZF; (first | (have BX := Lib.hid (BW.out.trans (hb.mono BW.out.size))) | (have BX := below_drew hb)); clear hb BW; have BW := BX; clear BX)
      | (go_at_call 29; (with_reducible refine Calls.mono (requal_z (R := T) (c := ct) (z := r) ?_ ?_) ?_); (exact ZT.out.below BW.out); (exact ZF.out); rintro e we ⟨rfl, hb⟩; clear ZF; (first | (have BX := Lib.hid (BW.out.trans (hb.mono BW.out.size))) | (have BX := below_drew hb)); clear hb BW; have BW := BX; clear BX))
  have FIN := Lib.hid (B8.out.trans (BW.out.mono B8.out.size))
  clear BW
  go_wp2
  go_ret
  exact ⟨rfl, FIN.out⟩
end Go.Proofs.Ytfmgbfdnmconiaa
