/-
  The walk of the law IntegerOrder: Compare is a total order that is kept by addition and agrees with the sign of the difference.
-/
import Derived.Test.YtakgflgfdoahcaaZtri
namespace Go.Proofs.Ytakgflgfdoahcaa
open Go.RowKit
set_option linter.unusedVariables false

set_option maxRecDepth 2000 in
set_option maxHeartbeats 16000000 in
theorem integerOrder_walk (s : Bool) (A : Option Addr) (n c : Nat) (x : Int) (t : Bool) (B : Option Addr) (m d : Nat) (y : Int) (u : Bool) (C : Option Addr) (k e : Nat) (z : Int) (w : World) (h : Zin w s A n c x) (hn : n ≤ 35184372087808) (h' : Zin w t B m d y) (hm : m ≤ 35184372087808) (h'' : Zin w u C k e z) (hk : k ≤ 35184372087808) :
    Calls Try.prog 8 #[.agg #[.bool s, .slice A n c], .agg #[.bool t, .slice B m d], .agg #[.bool u, .slice C k e]] w fun e w' => e = .returned (.bool true) ∧ Below w.heap.size w w' := by
  obtain ⟨B1, V1, V2, V3⟩ := begin3 w s A n c t B m d u C k e
  have HX := Lib.hid (h.below B1.out)
  have HY := Lib.hid (h'.below B1.out)
  have HZ := Lib.hid (h''.below B1.out)
  have L1 : Hid (n ≤ 70368744177663) := by show _ ≤ _; omega
  have L2 : Hid (m ≤ 70368744177663) := by show _ ≤ _; omega
  have L3 : Hid (k ≤ 70368744177663) := by show _ ≤ _; omega
  obtain ⟨zd, ed⟩ : ∃ v, x - y = v := ⟨_, rfl⟩
  obtain ⟨za, ea⟩ : ∃ v, x + z = v := ⟨_, rfl⟩
  obtain ⟨zb, eb⟩ : ∃ v, y + z = v := ⟨_, rfl⟩
  obtain ⟨p, kp⟩ : ∃ v, sg (x - y) = v := ⟨_, rfl⟩
  obtain ⟨q, kq⟩ : ∃ v, sg (y - z) = v := ⟨_, rfl⟩
  obtain ⟨r, kr⟩ : ∃ v, sg (x - z) = v := ⟨_, rfl⟩
  have KP := Lib.hid kp
  have KQ := Lib.hid kq
  have KR := Lib.hid kr
  have ED := Lib.hid ed
  have EA := Lib.hid ea
  have EB := Lib.hid eb
  have KD : Hid (sg zd = p) := by show _ = _; rw [← ed]; exact kp
  have KN : Hid (sg (y - x) = -p) := by show _ = _; rw [sg_swap, kp]
  have KA : Hid (sg (za - zb) = p) := by show _ = _; rw [← kp]; congr 1; omega
  have p1 : -1 ≤ p ∧ p ≤ 1 := by rw [← kp]; exact sg_range _
  have FIN : Hid (p ≤ 0 → q ≤ 0 → r ≤ 0) := by
    show _ → _ → _
    intro h1 h2
    rcases sg_cases (x - y) with ⟨e1, h3⟩ | ⟨e1, h3⟩ | ⟨e1, h3⟩ <;> rcases sg_cases (y - z) with ⟨e2, h4⟩ | ⟨e2, h4⟩ | ⟨e2, h4⟩ <;> rcases sg_cases (x - z) with ⟨e3, h5⟩ | ⟨e3, h5⟩ | ⟨e3, h5⟩ <;> omega
  clear h h' h'' ed ea eb kp kq kr hn hm hk
  obtain ⟨p1, p2⟩ := p1
  have WN : Hid (IntKind.i64.wrap (-p) = -p) := by show _ = _; rw [IntKind.wrap_i64]; omega
  go_enter Try.func8, Try.ntmps8
  go_wp2_with fail
  generalize (((w.alloc (.cells #[.bool s, .slice A n c] 24)).alloc (.cells #[.bool t, .slice B m d] 24)).alloc (.cells #[.bool u, .slice C k e] 24)) = w1 at *
  go_wp2_with fail
  refine (compare_k HX.out HY.out KP.out).mono ?_
  rintro e w2 ⟨rfl, hb⟩
  have B2 := Lib.hid (B1.out.trans (hb.mono B1.out.size))
  have HX' := Lib.hid (HX.out.below hb)
  have HY' := Lib.hid (HY.out.below hb)
  have HZ' := Lib.hid (HZ.out.below hb)
  have V1' := Lib.hid (V1.out.below hb V1.out.lt)
  have V2' := Lib.hid (V2.out.below hb V2.out.lt)
  have V3' := Lib.hid (V3.out.below hb V3.out.lt)
  clear hb B1
  clear HX HY HZ V1 V2 V3
  have HX := HX'
  clear HX'
  have HY := HY'
  clear HY'
  have HZ := HZ'
  clear HZ'
  have V1 := V1'
  clear V1'
  have V2 := V2'
  clear V2'
  have V3 := V3'
  clear V3'
  have BW := Lib.hid (Below.refl w2.heap.size w2)
  have S2 := Lib.hid (keep3 V1 V2 V3 BW.out V1.out.lt V2.out.lt V3.out.lt)
  go_wp2_with fail
  have wn := WN.out
  have pc0 := Lib.hid trivial
  go_region_held3 (fun w' => w'.cell? ⟨w.heap.size, 0, none⟩ = some (.bool s) ∧ w'.cell? ⟨w.heap.size, 1, none⟩ = some (.slice A n c) ∧ w'.cell? ⟨w.heap.size + 1, 0, none⟩ = some (.bool t) ∧ w'.cell? ⟨w.heap.size + 1, 1, none⟩ = some (.slice B m d) ∧ w'.cell? ⟨w.heap.size + 2, 0, none⟩ = some (.bool u) ∧ w'.cell? ⟨w.heap.size + 2, 1, none⟩ = some (.slice C k e))
    (first | exact keep3 V1 V2 V3 BW.out V1.out.lt V2.out.lt V3.out.lt | exact S2.out)
    (first
      | (clear pc0; go_at_call 15; (with_reducible refine Calls.mono (zawake_any _) ?_); rintro e wa ⟨rfl, hb⟩; (first | (have BX := Lib.hid (BW.out.trans (hb.mono BW.out.size))) | (have BX := below_drew hb)); clear hb BW; have BW := BX; clear BX; have pc1 := Lib.hid trivial)
      | (clear pc1; go_at_call 30; (with_reducible refine Calls.mono (sub_z (x := x) (y := y) (z := zd) ?_ ?_ ?_ ?_ ?_) ?_); (exact HX.out.below BW.out); (exact HY.out.below BW.out); (exact L1.out); (exact L2.out); (exact ED.out); rintro e wx ⟨P, cP, rfl, ho, hb⟩; have ZP := Lib.hid (Zo.of_own ho); clear ho; (first | (have BX := Lib.hid (BW.out.trans (hb.mono BW.out.size))) | (have BX := below_drew hb)); clear hb BW; have BW := BX; clear BX; have pc2 := Lib.hid trivial)
      | (clear pc2; go_at_call 20; (with_reducible refine Calls.mono (sign_k (z := zd) (r := p) ?_ ?_) ?_); (exact ZP.out.in_); (exact KD.out); rintro e wx ⟨rfl, hb⟩; clear ZP; (first | (have BX := Lib.hid (BW.out.trans (hb.mono BW.out.size))) | (have BX := below_drew hb)); clear hb BW; have BW := BX; clear BX; have pc3 := Lib.hid trivial)
      | (clear pc3; go_at_call 22; (with_reducible refine Calls.mono (compare_k (A := B) (B := A) (x := y) (y := x) (r := -p) ?_ ?_ ?_) ?_); (exact HY.out.below BW.out); (exact HX.out.below BW.out); (exact KN.out); rintro e wx ⟨rfl, hb⟩; (first | (have BX := Lib.hid (BW.out.trans (hb.mono BW.out.size))) | (have BX := below_drew hb)); clear hb BW; have BW := BX; clear BX; have pc4 := Lib.hid trivial)
      | (clear pc4; go_at_call 28; (with_reducible refine Calls.mono (add_z (A := A) (B := C) (x := x) (y := z) (z := za) ?_ ?_ ?_ ?_ ?_) ?_); (exact HX.out.below BW.out); (exact HZ.out.below BW.out); (exact L1.out); (exact L3.out); (exact EA.out); rintro e wx ⟨Q, cQ, rfl, ho, hb⟩; have ZQ := Lib.hid (Zo.of_own ho); clear ho; (first | (have BX := Lib.hid (BW.out.trans (hb.mono BW.out.size))) | (have BX := below_drew hb)); clear hb BW; have BW := BX; clear BX; have pc5 := Lib.hid trivial)
      | (clear pc5; go_at_call 28; (with_reducible refine Calls.mono (add_z (A := B) (B := C) (x := y) (y := z) (z := zb) ?_ ?_ ?_ ?_ ?_) ?_); (exact HY.out.below BW.out); (exact HZ.out.below BW.out); (exact L2.out); (exact L3.out); (exact EB.out); rintro e wx ⟨R, cR, rfl, ho, hb⟩; have ZR := Lib.hid (Zo.of_own ho); clear ho; have ZQ' := Lib.hid (ZQ.out.below hb); clear ZQ; have ZQ := ZQ'; clear ZQ'; (first | (have BX := Lib.hid (BW.out.trans (hb.mono BW.out.size))) | (have BX := below_drew hb)); clear hb BW; have BW := BX; clear BX; have pc6 := Lib.hid trivial)
      | (clear pc6; go_at_call 22; (with_reducible refine Calls.mono (compare_k (A := Q) (B := R) (x := za) (y := zb) (r := p) ?_ ?_ ?_) ?_); (exact ZQ.out.in_); (exact ZR.out.in_); (exact KA.out); rintro e wx ⟨rfl, hb⟩; clear ZQ ZR; (first | (have BX := Lib.hid (BW.out.trans (hb.mono BW.out.size))) | (have BX := below_drew hb)); clear hb BW; have BW := BX; clear BX; have pc7 := Lib.hid trivial))
  clear wn
  have BF := Lib.hid (B2.out.trans (BW.out.mono B2.out.size))
  have X3 := Lib.hid (HX.out.below BW.out)
  have Y3 := Lib.hid (HY.out.below BW.out)
  have Z3 := Lib.hid (HZ.out.below BW.out)
  have U1 := Lib.hid (V1.out.below BW.out V1.out.lt)
  have U2 := Lib.hid (V2.out.below BW.out V2.out.lt)
  have U3 := Lib.hid (V3.out.below BW.out V3.out.lt)
  obtain ⟨a1, a2⟩ := U1.out.cells
  obtain ⟨a3, a4⟩ := U2.out.cells
  obtain ⟨a5, a6⟩ := U3.out.cells
  clear BW S2 V1 V2 V3 HX HY HZ B2
  rcases Int.lt_or_le 0 p with h1 | h1
  · go_wp2
    go_ret
    exact ⟨rfl, BF.out⟩
  · have h1' : ¬ 0 < p := by omega
    go_wp2_with fail
    refine (compare_k Y3.out Z3.out KQ.out).mono ?_
    rintro e wa ⟨rfl, hb⟩
    obtain ⟨a1, a2⟩ := (U1.out.below hb U1.out.lt).cells
    obtain ⟨a3, a4⟩ := (U2.out.below hb U2.out.lt).cells
    obtain ⟨a5, a6⟩ := (U3.out.below hb U3.out.lt).cells
    have X4 := Lib.hid (X3.out.below hb)
    have Z4 := Lib.hid (Z3.out.below hb)
    have BG := Lib.hid (BF.out.trans (hb.mono BF.out.size))
    clear hb BF
    rcases Int.lt_or_le 0 q with h2 | h2
    · go_wp2
      go_ret
      exact ⟨rfl, BG.out⟩
    · have h2' : ¬ 0 < q := by omega
      have h3 := FIN.out h1 h2
      go_wp2_with fail
      refine (compare_k X4.out Z4.out KR.out).mono ?_
      rintro e wb ⟨rfl, hb⟩
      have BH := Lib.hid (BG.out.trans (hb.mono BG.out.size))
      clear hb BG
      go_wp2
      go_ret
      exact ⟨rfl, BH.out⟩
end Go.Proofs.Ytakgflgfdoahcaa
