/-
  The walk of the law IntegerSums: Neg, Abs, Add, Sub and Mul return the specified canonical results.
-/
import Derived.Test.YtakgflgfdoahcaaZC
import Derived.Test.YtakgflgfdoahcaaZB
namespace Go.Proofs.Ytakgflgfdoahcaa
open Go.RowKit
set_option linter.unusedVariables false

set_option maxHeartbeats 16000000 in
theorem integerSums_walk (s : Bool) (A : Option Addr) (n c : Nat) (x : Int) (t : Bool) (B : Option Addr) (m d : Nat) (y : Int) (w : World) (h : Zin w s A n c x) (hn : n ≤ 35184372087808) (h' : Zin w t B m d y) (hm : m ≤ 35184372087808) :
    Calls Try.prog 4 #[.agg #[.bool s, .slice A n c], .agg #[.bool t, .slice B m d]] w fun e w' => e = .returned (.bool true) ∧ Below w.heap.size w w' := by
  obtain ⟨B2, X2, Y2⟩ := begin2 w s A n c t B m d
  have HP := Lib.hid (h.below B2.out)
  have HQ := Lib.hid (h'.below B2.out)
  have L1 : Hid (n ≤ 70368744177664) := by show _ ≤ _; omega
  have L2 : Hid (n ≤ 70368744177663) := by show _ ≤ _; omega
  have L3 : Hid (m ≤ 70368744177663) := by show _ ≤ _; omega
  have L4 : Hid (n + m ≤ 70368744177664) := by show _ ≤ _; omega
  obtain ⟨zn, en⟩ : ∃ z, -x = z := ⟨_, rfl⟩
  obtain ⟨za, ea⟩ : ∃ z, ((x.natAbs : Nat) : Int) = z := ⟨_, rfl⟩
  obtain ⟨zs, es⟩ : ∃ z, x + y = z := ⟨_, rfl⟩
  obtain ⟨zd, ed⟩ : ∃ z, x - y = z := ⟨_, rfl⟩
  obtain ⟨zm, em⟩ : ∃ z, x * y = z := ⟨_, rfl⟩
  have En := Lib.hid en
  have Ea := Lib.hid ea
  have Es := Lib.hid es
  have Ed := Lib.hid ed
  have Em := Lib.hid em
  clear h h' en ea es ed em hn hm
  go_enter Try.func4, Try.ntmps4
  go_wp2_with fail
  generalize ((w.alloc (.cells #[.bool s, .slice A n c] 24)).alloc (.cells #[.bool t, .slice B m d] 24)) = w2 at *
  have BW := Lib.hid (Below.refl w2.heap.size w2)
  have S2 := Lib.hid (keep2 X2 Y2 BW.out X2.out.lt Y2.out.lt)
  go_region_held3 (fun w' => w'.cell? ⟨w.heap.size, 0, none⟩ = some (.bool s) ∧ w'.cell? ⟨w.heap.size, 1, none⟩ = some (.slice A n c) ∧ w'.cell? ⟨w.heap.size + 1, 0, none⟩ = some (.bool t) ∧ w'.cell? ⟨w.heap.size + 1, 1, none⟩ = some (.slice B m d))
    (first | exact keep2 X2 Y2 BW.out X2.out.lt Y2.out.lt | exact S2.out)
    (first
      | (go_at_call 15; (with_reducible refine Calls.mono (zawake_any _) ?_); rintro e wa ⟨rfl, hb⟩; (first | (have BX := Lib.hid (BW.out.trans (hb.mono BW.out.size))) | (have BX := below_drew hb)); clear hb BW; have BW := BX; clear BX)
      | (go_at_call 24; (with_reducible refine Calls.mono (neg_z (x := x) (z := zn) ?_ ?_ ?_) ?_); (exact HP.out.below BW.out); (exact L1.out); (exact En.out); rintro e wx ⟨P1, cP1, rfl, ho, hb⟩; have ZP1 := Lib.hid (Zo.of_own ho); clear ho; (first | (have BX := Lib.hid (BW.out.trans (hb.mono BW.out.size))) | (have BX := below_drew hb)); clear hb BW; have BW := BX; clear BX)
      | (go_at_call 25; (with_reducible refine Calls.mono (rneg_z (x := x) (z := zn) ?_ ?_ ?_) ?_); (exact HP.out.below BW.out); (exact L1.out); (exact En.out); rintro e wx ⟨Q1, cQ1, rfl, ho, hb⟩; have ZQ1 := Lib.hid (Zo.of_own ho); clear ho; have ZP1' := Lib.hid (ZP1.out.below hb); clear ZP1; have ZP1 := ZP1'; clear ZP1'; (first | (have BX := Lib.hid (BW.out.trans (hb.mono BW.out.size))) | (have BX := below_drew hb)); clear hb BW; have BW := BX; clear BX)
      | (go_at_call 16; (with_reducible refine Calls.mono (requal_z (R := P1) (R' := Q1) (z := zn) ?_ ?_) ?_); (exact ZP1.out); (exact ZQ1.out); rintro e wx ⟨rfl, hb⟩; clear ZP1 ZQ1; (first | (have BX := Lib.hid (BW.out.trans (hb.mono BW.out.size))) | (have BX := below_drew hb)); clear hb BW; have BW := BX; clear BX)
      | (go_at_call 26; (with_reducible refine Calls.mono (abs_z (x := x) (z := za) ?_ ?_ ?_) ?_); (exact HP.out.below BW.out); (exact L1.out); (exact Ea.out); rintro e wx ⟨P2, cP2, rfl, ho, hb⟩; have ZP2 := Lib.hid (Zo.of_own ho); clear ho; (first | (have BX := Lib.hid (BW.out.trans (hb.mono BW.out.size))) | (have BX := below_drew hb)); clear hb BW; have BW := BX; clear BX)
      | (go_at_call 27; (with_reducible refine Calls.mono (rabs_z (x := x) (z := za) ?_ ?_ ?_) ?_); (exact HP.out.below BW.out); (exact L1.out); (exact Ea.out); rintro e wx ⟨Q2, cQ2, rfl, ho, hb⟩; have ZQ2 := Lib.hid (Zo.of_own ho); clear ho; have ZP2' := Lib.hid (ZP2.out.below hb); clear ZP2; have ZP2 := ZP2'; clear ZP2'; (first | (have BX := Lib.hid (BW.out.trans (hb.mono BW.out.size))) | (have BX := below_drew hb)); clear hb BW; have BW := BX; clear BX)
      | (go_at_call 16; (with_reducible refine Calls.mono (requal_z (R := P2) (R' := Q2) (z := za) ?_ ?_) ?_); (exact ZP2.out); (exact ZQ2.out); rintro e wx ⟨rfl, hb⟩; clear ZP2 ZQ2; (first | (have BX := Lib.hid (BW.out.trans (hb.mono BW.out.size))) | (have BX := below_drew hb)); clear hb BW; have BW := BX; clear BX)
      | (go_at_call 28; (with_reducible refine Calls.mono (add_z (x := x) (y := y) (z := zs) ?_ ?_ ?_ ?_ ?_) ?_); (exact HP.out.below BW.out); (exact HQ.out.below BW.out); (exact L2.out); (exact L3.out); (exact Es.out); rintro e wx ⟨P3, cP3, rfl, ho, hb⟩; have ZP3 := Lib.hid (Zo.of_own ho); clear ho; (first | (have BX := Lib.hid (BW.out.trans (hb.mono BW.out.size))) | (have BX := below_drew hb)); clear hb BW; have BW := BX; clear BX)
      | (go_at_call 29; (with_reducible refine Calls.mono (radd_z (x := x) (y := y) (z := zs) ?_ ?_ ?_ ?_ ?_) ?_); (exact HP.out.below BW.out); (exact HQ.out.below BW.out); (exact L2.out); (exact L3.out); (exact Es.out); rintro e wx ⟨Q3, cQ3, rfl, ho, hb⟩; have ZQ3 := Lib.hid (Zo.of_own ho); clear ho; have ZP3' := Lib.hid (ZP3.out.below hb); clear ZP3; have ZP3 := ZP3'; clear ZP3'; (first | (have BX := Lib.hid (BW.out.trans (hb.mono BW.out.size))) | (have BX := below_drew hb)); clear hb BW; have BW := BX; clear BX)
      | (go_at_call 16; (with_reducible refine Calls.mono (requal_z (R := P3) (R' := Q3) (z := zs) ?_ ?_) ?_); (exact ZP3.out); (exact ZQ3.out); rintro e wx ⟨rfl, hb⟩; clear ZP3 ZQ3; (first | (have BX := Lib.hid (BW.out.trans (hb.mono BW.out.size))) | (have BX := below_drew hb)); clear hb BW; have BW := BX; clear BX)
      | (go_at_call 30; (with_reducible refine Calls.mono (sub_z (x := x) (y := y) (z := zd) ?_ ?_ ?_ ?_ ?_) ?_); (exact HP.out.below BW.out); (exact HQ.out.below BW.out); (exact L2.out); (exact L3.out); (exact Ed.out); rintro e wx ⟨P4, cP4, rfl, ho, hb⟩; have ZP4 := Lib.hid (Zo.of_own ho); clear ho; (first | (have BX := Lib.hid (BW.out.trans (hb.mono BW.out.size))) | (have BX := below_drew hb)); clear hb BW; have BW := BX; clear BX)
      | (go_at_call 31; (with_reducible refine Calls.mono (rsub_z (x := x) (y := y) (z := zd) ?_ ?_ ?_ ?_ ?_) ?_); (exact HP.out.below BW.out); (exact HQ.out.below BW.out); (exact L2.out); (exact L3.out); (exact Ed.out); rintro e wx ⟨Q4, cQ4, rfl, ho, hb⟩; have ZQ4 := Lib.hid (Zo.of_own ho); clear ho; have ZP4' := Lib.hid (ZP4.out.below hb); clear ZP4; have ZP4 := ZP4'; clear ZP4'; (first | (have BX := Lib.hid (BW.out.trans (hb.mono BW.out.size))) | (have BX := below_drew hb)); clear hb BW; have BW := BX; clear BX)
      | (go_at_call 16; (with_reducible refine Calls.mono (requal_z (R := P4) (R' := Q4) (z := zd) ?_ ?_) ?_); (exact ZP4.out); (exact ZQ4.out); rintro e wx ⟨rfl, hb⟩; clear ZP4 ZQ4; (first | (have BX := Lib.hid (BW.out.trans (hb.mono BW.out.size))) | (have BX := below_drew hb)); clear hb BW; have BW := BX; clear BX)
      | (go_at_call 32; (with_reducible refine Calls.mono (mul_z (x := x) (y := y) (z := zm) ?_ ?_ ?_ ?_) ?_); (exact HP.out.below BW.out); (exact HQ.out.below BW.out); (exact L4.out); (exact Em.out); rintro e wx ⟨P5, cP5, rfl, ho, hb⟩; have ZP5 := Lib.hid (Zo.of_own ho); clear ho; (first | (have BX := Lib.hid (BW.out.trans (hb.mono BW.out.size))) | (have BX := below_drew hb)); clear hb BW; have BW := BX; clear BX)
      | (go_at_call 33; (with_reducible refine Calls.mono (rmul_z (x := x) (y := y) (z := zm) ?_ ?_ ?_ ?_) ?_); (exact HP.out.below BW.out); (exact HQ.out.below BW.out); (exact L4.out); (exact Em.out); rintro e wx ⟨Q5, cQ5, rfl, ho, hb⟩; have ZQ5 := Lib.hid (Zo.of_own ho); clear ho; have ZP5' := Lib.hid (ZP5.out.below hb); clear ZP5; have ZP5 := ZP5'; clear ZP5'; (first | (have BX := Lib.hid (BW.out.trans (hb.mono BW.out.size))) | (have BX := below_drew hb)); clear hb BW; have BW := BX; clear BX)
      | (go_at_call 16; (with_reducible refine Calls.mono (requal_z (R := P5) (R' := Q5) (z := zm) ?_ ?_) ?_); (exact ZP5.out); (exact ZQ5.out); rintro e wx ⟨rfl, hb⟩; clear ZP5 ZQ5; (first | (have BX := Lib.hid (BW.out.trans (hb.mono BW.out.size))) | (have BX := below_drew hb)); clear hb BW; have BW := BX; clear BX))
  have FIN := Lib.hid (B2.out.trans (BW.out.mono B2.out.size))
  clear BW
  go_wp2
  go_ret
  exact ⟨rfl, FIN.out⟩
end Go.Proofs.Ytakgflgfdoahcaa
