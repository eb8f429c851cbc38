/-
  The walk of the law IntegerValues: Norm, FromInt, Value, Sign and Compare return the specified results.
-/
import Derived.Test.YtakgflgfdoahcaaZtri
import Derived.Test.YtakgflgfdoahcaaZrv
namespace Go.Proofs.Ytakgflgfdoahcaa
open Go.RowKit
set_option linter.unusedVariables false

theorem rsign_k {A : Option Addr} {n c : Nat} {s : Bool} {w : World} {x r : Int} (h : Zin w s A n c x) (hl : n ≤ 70368744177664) (hr : sg x = r) :
    Calls Try.prog 21 #[.agg #[.bool s, .slice A n c]] w fun e w' => e = .returned (.int .i64 r) ∧ Below w.heap.size w w' := by
  subst hr; exact rsign_z h hl
theorem rcompare_k {A B : Option Addr} {n c m d : Nat} {s t : Bool} {w : World} {x y r : Int} (h : Zin w s A n c x) (h' : Zin w t B m d y) (hl : n ≤ 70368744177663) (hl' : m ≤ 70368744177663) (hr : sg (x - y) = r) :
    Calls Try.prog 23 #[.agg #[.bool s, .slice A n c], .agg #[.bool t, .slice B m d]] w fun e w' => e = .returned (.int .i64 r) ∧ Below w.heap.size w w' := by
  subst hr; exact rcompare_z h h' hl hl'
set_option maxHeartbeats 16000000 in
theorem integerValues_walk (s : Bool) (A : Option Addr) (n c : Nat) (x : Int) (t : Bool) (B : Option Addr) (m d : Nat) (y v : Int) (w : World) (h : Zin w s A n c x) (hn : n ≤ 35184372087808) (h' : Zin w t B m d y) (hm : m ≤ 35184372087808) (hv : -9223372036854775808 ≤ v ∧ v ≤ 9223372036854775807) :
    Calls Try.prog 3 #[.agg #[.bool s, .slice A n c], .agg #[.bool t, .slice B m d], .int .i64 v] w fun e w' => e = .returned (.bool true) ∧ Below w.heap.size w w' := by
  obtain ⟨B1, V1, V2⟩ := begin2 w s A n c t B m d
  have HX := Lib.hid (h.below B1.out)
  have HY := Lib.hid (h'.below B1.out)
  have L1 : Hid (n ≤ 70368744177664) := by show _ ≤ _; omega
  have L2 : Hid (n ≤ 70368744177663) := by show _ ≤ _; omega
  have L3 : Hid (m ≤ 70368744177663) := by show _ ≤ _; omega
  obtain ⟨zf, ef⟩ : ∃ z, v = z := ⟨_, rfl⟩
  obtain ⟨p, kp⟩ : ∃ z, sg x = z := ⟨_, rfl⟩
  obtain ⟨q, kq⟩ : ∃ z, sg (x - y) = z := ⟨_, rfl⟩
  obtain ⟨v0, ok0, hv0⟩ := value_ex x
  have HV := Lib.hid hv0
  have HF : Hid (v = zf ∧ -9223372036854775808 ≤ zf ∧ zf ≤ 9223372036854775807) := ⟨ef, by omega, by omega⟩
  have RV := Lib.hid hv
  have EF := Lib.hid ef
  have KP := Lib.hid kp
  have KQ := Lib.hid kq
  clear h h' ef kp kq hn hm hv hv0
  go_enter Try.func3, Try.ntmps3
  go_wp2_with fail
  generalize ((w.alloc (.cells #[.bool s, .slice A n c] 24)).alloc (.cells #[.bool t, .slice B m d] 24)) = w1 at *
  obtain ⟨V1a, V1b⟩ := V1.out.cells
  obtain ⟨V2a, V2b⟩ := V2.out.cells
  go_wp2_with fail
  refine (value_any HX.out HV.out).mono ?_
  rintro e w2 ⟨rfl, hb⟩
  clear V1a V1b V2a V2b
  have B2 := Lib.hid (B1.out.trans (hb.mono B1.out.size))
  have HX' := Lib.hid (HX.out.below hb)
  have HY' := Lib.hid (HY.out.below hb)
  have V1' := Lib.hid (V1.out.below hb V1.out.lt)
  have V2' := Lib.hid (V2.out.below hb V2.out.lt)
  clear hb B1
  clear HX HY V1 V2
  have HX := HX'
  clear HX'
  have HY := HY'
  clear HY'
  have V1 := V1'
  clear V1'
  have V2 := V2'
  clear V2'
  obtain ⟨V1a, V1b⟩ := V1.out.cells
  obtain ⟨V2a, V2b⟩ := V2.out.cells
  go_wp2_with fail
  refine (rvalue_any HX.out L1.out HV.out).mono ?_
  rintro e w3 ⟨rfl, hb⟩
  clear V1a V1b V2a V2b
  have B3 := Lib.hid (B2.out.trans (hb.mono B2.out.size))
  have HX' := Lib.hid (HX.out.below hb)
  have HY' := Lib.hid (HY.out.below hb)
  have V1' := Lib.hid (V1.out.below hb V1.out.lt)
  have V2' := Lib.hid (V2.out.below hb V2.out.lt)
  clear hb B2
  clear HX HY V1 V2
  have HX := HX'
  clear HX'
  have HY := HY'
  clear HY'
  have V1 := V1'
  clear V1'
  have V2 := V2'
  clear V2'
  obtain ⟨V1a, V1b⟩ := V1.out.cells
  obtain ⟨V2a, V2b⟩ := V2.out.cells
  go_wp2_with fail
  refine (fromInt_z (z := zf) RV.out EF.out _).mono ?_
  rintro e w4 ⟨Z, cZ, rfl, ho, hb⟩
  clear V1a V1b V2a V2b
  have B4 := Lib.hid (B3.out.trans (hb.mono B3.out.size))
  have HX' := Lib.hid (HX.out.below hb)
  have HY' := Lib.hid (HY.out.below hb)
  have V1' := Lib.hid (V1.out.below hb V1.out.lt)
  have V2' := Lib.hid (V2.out.below hb V2.out.lt)
  have ZZ := Lib.hid (Zo.of_own ho)
  clear ho
  clear hb B3
  clear HX HY V1 V2
  have HX := HX'
  clear HX'
  have HY := HY'
  clear HY'
  have V1 := V1'
  clear V1'
  have V2 := V2'
  clear V2'
  obtain ⟨V1a, V1b⟩ := V1.out.cells
  obtain ⟨V2a, V2b⟩ := V2.out.cells
  go_wp2_with fail
  refine (value_any ZZ.out.in_ (.inl ⟨rfl, HF.out⟩)).mono ?_
  rintro e w5 ⟨rfl, hb⟩
  clear V1a V1b V2a V2b
  have B5 := Lib.hid (B4.out.trans (hb.mono B4.out.size))
  have HX' := Lib.hid (HX.out.below hb)
  have HY' := Lib.hid (HY.out.below hb)
  have V1' := Lib.hid (V1.out.below hb V1.out.lt)
  have V2' := Lib.hid (V2.out.below hb V2.out.lt)
  have ZZ' := Lib.hid (ZZ.out.below hb)
  clear hb B4
  clear HX HY V1 V2 ZZ
  have HX := HX'
  clear HX'
  have HY := HY'
  clear HY'
  have V1 := V1'
  clear V1'
  have V2 := V2'
  clear V2'
  have ZZ := ZZ'
  clear ZZ'
  obtain ⟨V1a, V1b⟩ := V1.out.cells
  obtain ⟨V2a, V2b⟩ := V2.out.cells
  clear ZZ
  clear V1a V1b V2a V2b
  have BW := Lib.hid (Below.refl w5.heap.size w5)
  have S2 := Lib.hid (keep2 V1 V2 BW.out V1.out.lt V2.out.lt)
  go_wp2_with fail
  go_region_held3 (fun w' => w'.cell? ⟨w.heap.size, 0, none⟩ = some (.bool s) ∧ w'.cell? ⟨w.heap.size, 1, none⟩ = some (.slice A n c) ∧ w'.cell? ⟨w.heap.size + 1, 0, none⟩ = some (.bool t) ∧ w'.cell? ⟨w.heap.size + 1, 1, none⟩ = some (.slice B m d))
    (first | exact keep2 V1 V2 BW.out V1.out.lt V2.out.lt | exact S2.out)
    (first
      | (go_at_call 15; (with_reducible refine Calls.mono (zawake_any _) ?_); rintro e wa ⟨rfl, hb⟩; (first | (have BX := Lib.hid (BW.out.trans (hb.mono BW.out.size))) | (have BX := below_drew hb)); clear hb BW; have BW := BX; clear BX)
      | (go_at_call 17; (with_reducible refine Calls.mono (nrm_z (x := x) (z := x) ?_ ?_ ?_) ?_); (exact HX.out.below BW.out); (exact L1.out); (exact rfl); rintro e wx ⟨P1, cP1, rfl, ho, hb⟩; have ZP1 := Lib.hid (Zo.of_own ho); clear ho; (first | (have BX := Lib.hid (BW.out.trans (hb.mono BW.out.size))) | (have BX := below_drew hb)); clear hb BW; have BW := BX; clear BX)
      | (go_at_call 18; (with_reducible refine Calls.mono (rnrm_z (x := x) (z := x) ?_ ?_ ?_) ?_); (exact HX.out.below BW.out); (exact L1.out); (exact rfl); rintro e wx ⟨Q1, cQ1, rfl, ho, hb⟩; have ZQ1 := Lib.hid (Zo.of_own ho); clear ho; have ZP1' := Lib.hid (ZP1.out.below hb); clear ZP1; have ZP1 := ZP1'; clear ZP1'; (first | (have BX := Lib.hid (BW.out.trans (hb.mono BW.out.size))) | (have BX := below_drew hb)); clear hb BW; have BW := BX; clear BX)
      | (go_at_call 16; (with_reducible refine Calls.mono (requal_z (R := P1) (R' := Q1) (z := x) ?_ ?_) ?_); (exact ZP1.out); (exact ZQ1.out); rintro e wx ⟨rfl, hb⟩; clear ZP1 ZQ1; (first | (have BX := Lib.hid (BW.out.trans (hb.mono BW.out.size))) | (have BX := below_drew hb)); clear hb BW; have BW := BX; clear BX)
      | (go_at_call 14; (with_reducible refine Calls.mono (fromInt_z (v := v) (z := zf) ?_ ?_ _) ?_); (exact RV.out); (exact EF.out); rintro e wx ⟨P2, cP2, rfl, ho, hb⟩; have ZP2 := Lib.hid (Zo.of_own ho); clear ho; (first | (have BX := Lib.hid (BW.out.trans (hb.mono BW.out.size))) | (have BX := below_drew hb)); clear hb BW; have BW := BX; clear BX)
      | (go_at_call 19; (with_reducible refine Calls.mono (rfromInt_z (v := v) (z := zf) ?_ ?_ _) ?_); (exact RV.out); (exact EF.out); rintro e wx ⟨Q2, cQ2, rfl, ho, hb⟩; have ZQ2 := Lib.hid (Zo.of_own ho); clear ho; have ZP2' := Lib.hid (ZP2.out.below hb); clear ZP2; have ZP2 := ZP2'; clear ZP2'; (first | (have BX := Lib.hid (BW.out.trans (hb.mono BW.out.size))) | (have BX := below_drew hb)); clear hb BW; have BW := BX; clear BX)
      | (go_at_call 16; (with_reducible refine Calls.mono (requal_z (R := P2) (R' := Q2) (z := zf) ?_ ?_) ?_); (exact ZP2.out); (exact ZQ2.out); rintro e wx ⟨rfl, hb⟩; clear ZP2 ZQ2; (first | (have BX := Lib.hid (BW.out.trans (hb.mono BW.out.size))) | (have BX := below_drew hb)); clear hb BW; have BW := BX; clear BX)
      | (go_at_call 20; (with_reducible refine Calls.mono (sign_k (z := x) (r := p) ?_ ?_) ?_); (exact HX.out.below BW.out); (exact KP.out); rintro e wx ⟨rfl, hb⟩; (first | (have BX := Lib.hid (BW.out.trans (hb.mono BW.out.size))) | (have BX := below_drew hb)); clear hb BW; have BW := BX; clear BX)
      | (go_at_call 21; (with_reducible refine Calls.mono (rsign_k (x := x) (r := p) ?_ ?_ ?_) ?_); (exact HX.out.below BW.out); (exact L1.out); (exact KP.out); rintro e wx ⟨rfl, hb⟩; (first | (have BX := Lib.hid (BW.out.trans (hb.mono BW.out.size))) | (have BX := below_drew hb)); clear hb BW; have BW := BX; clear BX)
      | (go_at_call 22; (with_reducible refine Calls.mono (compare_k (x := x) (y := y) (r := q) ?_ ?_ ?_) ?_); (exact HX.out.below BW.out); (exact HY.out.below BW.out); (exact KQ.out); rintro e wx ⟨rfl, hb⟩; (first | (have BX := Lib.hid (BW.out.trans (hb.mono BW.out.size))) | (have BX := below_drew hb)); clear hb BW; have BW := BX; clear BX)
      | (go_at_call 23; (with_reducible refine Calls.mono (rcompare_k (x := x) (y := y) (r := q) ?_ ?_ ?_ ?_ ?_) ?_); (exact HX.out.below BW.out); (exact HY.out.below BW.out); (exact L2.out); (exact L3.out); (exact KQ.out); rintro e wx ⟨rfl, hb⟩; (first | (have BX := Lib.hid (BW.out.trans (hb.mono BW.out.size))) | (have BX := below_drew hb)); clear hb BW; have BW := BX; clear BX))
  have FIN := Lib.hid (B5.out.trans (BW.out.mono B5.out.size))
  clear BW
  go_wp2
  go_ret
  exact ⟨rfl, FIN.out⟩
end Go.Proofs.Ytakgflgfdoahcaa
