/-
  The walk of the law IntegerDivides: DivMod returns the specified quotient and remainder, and the remainder is not negative and less than the absolute value of the divisor.
-/
import Derived.Test.YtakgflgfdoahcaaZtri
import Derived.Test.YtakgflgfdoahcaaZrdm
namespace Go.Proofs.Ytakgflgfdoahcaa
open Go.RowKit
set_option linter.unusedVariables false

theorem cell_past {w : World} {g n c : Nat} {s : Bool} {A : Option Addr} (h : Zb w g s A n c) (o1 o2 : Obj) : ((w.alloc o1).alloc o2).cell? ⟨g, 0, none⟩ = some (.bool s) := ((h.alloc o1).alloc o2).cells.1
theorem cell_past1 {w : World} {g n c : Nat} {s : Bool} {A : Option Addr} (h : Zb w g s A n c) (o1 o2 : Obj) : ((w.alloc o1).alloc o2).cell? ⟨g, 1, none⟩ = some (.slice A n c) := ((h.alloc o1).alloc o2).cells.2
theorem div_len {x y q r : Int} (hq : x / y = q) (hr : x % y = r) (hy : y ≠ 0) : q.natAbs ≤ x.natAbs + 1 ∧ r.natAbs ≤ y.natAbs ∧ 0 ≤ r ∧ r < (y.natAbs : Int) := by
  have h0 := Int.emod_nonneg x hy
  have h1 := Int.emod_lt x hy
  have h2 := Int.mul_ediv_add_emod x y
  rw [hq, hr] at h2
  rw [hr] at h0 h1
  refine ⟨?_, by omega, h0, h1⟩
  have h3 : (y * q).natAbs ≤ x.natAbs + y.natAbs := by omega
  rw [Int.natAbs_mul] at h3
  have hy1 : 1 ≤ y.natAbs := by omega
  rcases Nat.lt_or_ge (x.natAbs + 1) q.natAbs with h4 | h4
  · exfalso
    have h5 := Nat.mul_le_mul_left y.natAbs (show x.natAbs + 2 ≤ q.natAbs by omega)
    have h6 := Nat.mul_le_mul_right x.natAbs hy1
    rw [Nat.mul_add] at h5
    omega
  · exact h4
set_option maxHeartbeats 16000000 in
theorem integerDivides_zero (s : Bool) (A : Option Addr) (n c : Nat) (x : Int) (t : Bool) (B : Option Addr) (m d : Nat) (y : Int) (w : World) (h : Zin w s A n c x) (hn : n ≤ 35184372087808) (h' : Zin w t B m d y) (hm : m ≤ 35184372087808) (hy : y = 0) :
    Calls Try.prog 5 #[.agg #[.bool s, .slice A n c], .agg #[.bool t, .slice B m d]] w fun e w' => e = .returned (.bool true) ∧ Below w.heap.size w w' := by
  subst hy
  obtain ⟨B1, V1, V2⟩ := begin2 w s A n c t B m d
  have HX := Lib.hid (h.below B1.out)
  have HY := Lib.hid (h'.below B1.out)
  have L1 : Hid (m ≤ 70368744177664) := by show _ ≤ _; omega
  clear h h' hn hm
  go_enter Try.func5, Try.ntmps5
  go_wp2_with fail
  generalize ((w.alloc (.cells #[.bool s, .slice A n c] 24)).alloc (.cells #[.bool t, .slice B m d] 24)) = w1 at *
  obtain ⟨V1a, V1b⟩ := V1.out.cells
  obtain ⟨V2a, V2b⟩ := V2.out.cells
  go_wp2_with fail
  refine (zero_z HX.out HY.out).mono ?_
  rintro e w2 ⟨rfl, hb⟩
  clear V1a V1b V2a V2b
  have B2 := Lib.hid (B1.out.trans (hb.mono B1.out.size))
  have HX' := Lib.hid (HX.out.below hb)
  have HY' := Lib.hid (HY.out.below hb)
  have V1' := Lib.hid (V1.out.below hb V1.out.lt)
  have V2' := Lib.hid (V2.out.below hb V2.out.lt)
  clear hb B1
  clear HX HY V1 V2
  have HX := HX'
  clear HX'
  have HY := HY'
  clear HY'
  have V1 := V1'
  clear V1'
  have V2 := V2'
  clear V2'
  obtain ⟨V1a, V1b⟩ := V1.out.cells
  obtain ⟨V2a, V2b⟩ := V2.out.cells
  clear V1a V1b V2a V2b
  have V1c := cell_past V1.out
  have V1d := cell_past1 V1.out
  have V2c := cell_past V2.out
  have V2d := cell_past1 V2.out
  go_wp2_with fail
  clear V1c V1d V2c V2d
  obtain ⟨hb, U1, U2⟩ := begin2 w2 false none 0 0 false none 0 0
  generalize hg : w2.heap.size = gU at U1 U2 ⊢
  generalize ((w2.alloc (.cells #[.bool false, .slice none 0 0] 24)).alloc (.cells #[.bool false, .slice none 0 0] 24)) = w3 at *
  have B3 := Lib.hid (B2.out.trans (hb.out.mono B2.out.size))
  have HX' := Lib.hid (HX.out.below hb.out)
  have HY' := Lib.hid (HY.out.below hb.out)
  have V1' := Lib.hid (V1.out.below hb.out V1.out.lt)
  have V2' := Lib.hid (V2.out.below hb.out V2.out.lt)
  clear hb hg B2
  clear HX HY V1 V2
  have HX := HX'
  clear HX'
  have HY := HY'
  clear HY'
  have V1 := V1'
  clear V1'
  have V2 := V2'
  clear V2'
  obtain ⟨V1a, V1b⟩ := V1.out.cells
  obtain ⟨V2a, V2b⟩ := V2.out.cells
  obtain ⟨U1a, U1b⟩ := U1.out.cells
  obtain ⟨U2a, U2b⟩ := U2.out.cells
  go_wp2_with fail
  refine (rzero_z HX.out HY.out L1.out).mono ?_
  rintro e w4 ⟨rfl, hb⟩
  clear V1a V1b V2a V2b U1a U1b U2a U2b
  have B4 := Lib.hid (B3.out.trans (hb.mono B3.out.size))
  have HX' := Lib.hid (HX.out.below hb)
  have HY' := Lib.hid (HY.out.below hb)
  have V1' := Lib.hid (V1.out.below hb V1.out.lt)
  have V2' := Lib.hid (V2.out.below hb V2.out.lt)
  have U1' := Lib.hid (U1.out.below hb U1.out.lt)
  have U2' := Lib.hid (U2.out.below hb U2.out.lt)
  clear hb B3
  clear HX HY V1 V2 U1 U2
  have HX := HX'
  clear HX'
  have HY := HY'
  clear HY'
  have V1 := V1'
  clear V1'
  have V2 := V2'
  clear V2'
  have U1 := U1'
  clear U1'
  have U2 := U2'
  clear U2'
  obtain ⟨V1a, V1b⟩ := V1.out.cells
  obtain ⟨V2a, V2b⟩ := V2.out.cells
  obtain ⟨U1a, U1b⟩ := U1.out.cells
  obtain ⟨U2a, U2b⟩ := U2.out.cells
  clear V1a V1b V2a V2b U1a U1b U2a U2b
  have V1c := cell_past V1.out
  have V1d := cell_past1 V1.out
  have V2c := cell_past V2.out
  have V2d := cell_past1 V2.out
  have U1c := cell_past U1.out
  have U1d := cell_past1 U1.out
  have U2c := cell_past U2.out
  have U2d := cell_past1 U2.out
  go_wp2_with fail
  clear V1c V1d V2c V2d U1c U1d U2c U2d
  obtain ⟨hb, X1, X2⟩ := begin2 w4 false none 0 0 false none 0 0
  generalize hg : w4.heap.size = gX at X1 X2 ⊢
  generalize ((w4.alloc (.cells #[.bool false, .slice none 0 0] 24)).alloc (.cells #[.bool false, .slice none 0 0] 24)) = w5 at *
  have B5 := Lib.hid (B4.out.trans (hb.out.mono B4.out.size))
  have HX' := Lib.hid (HX.out.below hb.out)
  have HY' := Lib.hid (HY.out.below hb.out)
  have V1' := Lib.hid (V1.out.below hb.out V1.out.lt)
  have V2' := Lib.hid (V2.out.below hb.out V2.out.lt)
  have U1' := Lib.hid (U1.out.below hb.out U1.out.lt)
  have U2' := Lib.hid (U2.out.below hb.out U2.out.lt)
  clear hb hg B4
  clear HX HY V1 V2 U1 U2
  have HX := HX'
  clear HX'
  have HY := HY'
  clear HY'
  have V1 := V1'
  clear V1'
  have V2 := V2'
  clear V2'
  have U1 := U1'
  clear U1'
  have U2 := U2'
  clear U2'
  obtain ⟨V1a, V1b⟩ := V1.out.cells
  obtain ⟨V2a, V2b⟩ := V2.out.cells
  obtain ⟨U1a, U1b⟩ := U1.out.cells
  obtain ⟨U2a, U2b⟩ := U2.out.cells
  obtain ⟨X1a, X1b⟩ := X1.out.cells
  obtain ⟨X2a, X2b⟩ := X2.out.cells
  go_wp2_with fail
  refine (zawake_any _).mono ?_
  rintro e w6 ⟨rfl, hb⟩
  clear V1a V1b V2a V2b U1a U1b U2a U2b X1a X1b X2a X2b
  have B6 := Lib.hid (B5.out.trans (hb.mono B5.out.size))
  have HX' := Lib.hid (HX.out.below hb)
  have HY' := Lib.hid (HY.out.below hb)
  have V1' := Lib.hid (V1.out.below hb V1.out.lt)
  have V2' := Lib.hid (V2.out.below hb V2.out.lt)
  have U1' := Lib.hid (U1.out.below hb U1.out.lt)
  have U2' := Lib.hid (U2.out.below hb U2.out.lt)
  have X1' := Lib.hid (X1.out.below hb X1.out.lt)
  have X2' := Lib.hid (X2.out.below hb X2.out.lt)
  clear hb B5
  clear HX HY V1 V2 U1 U2 X1 X2
  have HX := HX'
  clear HX'
  have HY := HY'
  clear HY'
  have V1 := V1'
  clear V1'
  have V2 := V2'
  clear V2'
  have U1 := U1'
  clear U1'
  have U2 := U2'
  clear U2'
  have X1 := X1'
  clear X1'
  have X2 := X2'
  clear X2'
  obtain ⟨V1a, V1b⟩ := V1.out.cells
  obtain ⟨V2a, V2b⟩ := V2.out.cells
  obtain ⟨U1a, U1b⟩ := U1.out.cells
  obtain ⟨U2a, U2b⟩ := U2.out.cells
  obtain ⟨X1a, X1b⟩ := X1.out.cells
  obtain ⟨X2a, X2b⟩ := X2.out.cells
  go_wp2_with fail
  refine (requal_n (xs := []) (ys := []) (Rd.nil _ _) (Rd.nil _ _) rfl rfl rfl).mono ?_
  rintro e w7 ⟨rfl, hb⟩
  clear V1a V1b V2a V2b U1a U1b U2a U2b X1a X1b X2a X2b
  have B7 := Lib.hid (B6.out.trans (hb.mono B6.out.size))
  have HX' := Lib.hid (HX.out.below hb)
  have HY' := Lib.hid (HY.out.below hb)
  have V1' := Lib.hid (V1.out.below hb V1.out.lt)
  have V2' := Lib.hid (V2.out.below hb V2.out.lt)
  have U1' := Lib.hid (U1.out.below hb U1.out.lt)
  have U2' := Lib.hid (U2.out.below hb U2.out.lt)
  have X1' := Lib.hid (X1.out.below hb X1.out.lt)
  have X2' := Lib.hid (X2.out.below hb X2.out.lt)
  clear hb B6
  clear HX HY V1 V2 U1 U2 X1 X2
  have HX := HX'
  clear HX'
  have HY := HY'
  clear HY'
  have V1 := V1'
  clear V1'
  have V2 := V2'
  clear V2'
  have U1 := U1'
  clear U1'
  have U2 := U2'
  clear U2'
  have X1 := X1'
  clear X1'
  have X2 := X2'
  clear X2'
  obtain ⟨V1a, V1b⟩ := V1.out.cells
  obtain ⟨V2a, V2b⟩ := V2.out.cells
  obtain ⟨U1a, U1b⟩ := U1.out.cells
  obtain ⟨U2a, U2b⟩ := U2.out.cells
  obtain ⟨X1a, X1b⟩ := X1.out.cells
  obtain ⟨X2a, X2b⟩ := X2.out.cells
  go_wp2_with fail
  refine (requal_n (xs := []) (ys := []) (Rd.nil _ _) (Rd.nil _ _) rfl rfl rfl).mono ?_
  rintro e w8 ⟨rfl, hb⟩
  clear V1a V1b V2a V2b U1a U1b U2a U2b X1a X1b X2a X2b
  have B8 := Lib.hid (B7.out.trans (hb.mono B7.out.size))
  have HX' := Lib.hid (HX.out.below hb)
  have HY' := Lib.hid (HY.out.below hb)
  have V1' := Lib.hid (V1.out.below hb V1.out.lt)
  have V2' := Lib.hid (V2.out.below hb V2.out.lt)
  have U1' := Lib.hid (U1.out.below hb U1.out.lt)
  have U2' := Lib.hid (U2.out.below hb U2.out.lt)
  have X1' := Lib.hid (X1.out.below hb X1.out.lt)
  have X2' := Lib.hid (X2.out.below hb X2.out.lt)
  clear hb B7
  clear HX HY V1 V2 U1 U2 X1 X2
  have HX := HX'
  clear HX'
  have HY := HY'
  clear HY'
  have V1 := V1'
  clear V1'
  have V2 := V2'
  clear V2'
  have U1 := U1'
  clear U1'
  have U2 := U2'
  clear U2'
  have X1 := X1'
  clear X1'
  have X2 := X2'
  clear X2'
  obtain ⟨V1a, V1b⟩ := V1.out.cells
  obtain ⟨V2a, V2b⟩ := V2.out.cells
  obtain ⟨U1a, U1b⟩ := U1.out.cells
  obtain ⟨U2a, U2b⟩ := U2.out.cells
  obtain ⟨X1a, X1b⟩ := X1.out.cells
  obtain ⟨X2a, X2b⟩ := X2.out.cells
  clear X1 X2 HX HY
  clear V1a V1b V2a V2b U1a U1b U2a U2b X1a X1b X2a X2b
  go_wp2_with fail
  go_region
  all_goals
    go_wp2
    go_ret
    exact ⟨rfl, B8.out.trans (below_drewN _ _ 1)⟩
set_option maxHeartbeats 16000000 in
theorem integerDivides_any (s : Bool) (A : Option Addr) (n c : Nat) (x : Int) (t : Bool) (B : Option Addr) (m d : Nat) (y : Int) (w : World) (h : Zin w s A n c x) (hn : n ≤ 35184372087808) (h' : Zin w t B m d y) (hm : m ≤ 35184372087808) (hy : y ≠ 0) :
    Calls Try.prog 5 #[.agg #[.bool s, .slice A n c], .agg #[.bool t, .slice B m d]] w fun e w' => e = .returned (.bool true) ∧ Below w.heap.size w w' := by
  obtain ⟨B1, V1, V2⟩ := begin2 w s A n c t B m d
  have HX := Lib.hid (h.below B1.out)
  have HY := Lib.hid (h'.below B1.out)
  have lx := Nat.le_trans h.len hn
  have ly := Nat.le_trans h'.len hm
  have L1 : Hid (n ≤ 70368744177660) := by show _ ≤ _; omega
  have L2 : Hid (m ≤ 70368744177660) := by show _ ≤ _; omega
  have L3 := Lib.hid hn
  have L4 := Lib.hid hm
  have NY := Lib.hid hy
  obtain ⟨q, eq⟩ : ∃ v, x / y = v := ⟨_, rfl⟩
  obtain ⟨r, er⟩ : ∃ v, x % y = v := ⟨_, rfl⟩
  obtain ⟨mq, em⟩ : ∃ v, q * y = v := ⟨_, rfl⟩
  obtain ⟨ay, ey⟩ : ∃ v, ((y.natAbs : Nat) : Int) = v := ⟨_, rfl⟩
  obtain ⟨p, kp⟩ : ∃ v, sg r = v := ⟨_, rfl⟩
  obtain ⟨d1, d2, d3, d4⟩ := div_len eq er hy
  have lq : (ofv q.natAbs).length ≤ 35184372087809 := by
    have := len_mono d1
    have l1 : (ofv 1).length ≤ 1 := len_ofv_le_of_lt (by rw [pw_succ, pw_zero]; decide)
    have := len_add_max (a := x.natAbs) (b := 1) (n := 35184372087808) lx (by omega)
    omega
  have lr : (ofv r.natAbs).length ≤ 35184372087808 := Nat.le_trans (len_mono d2) ly
  have hm2 := zlen_mul lq ly
  rw [em] at hm2
  have EQ := Lib.hid eq
  have ER := Lib.hid er
  have EM := Lib.hid em
  have EA : Hid (mq + r = x) := by show _ = _; rw [← em, ← eq, ← er, Int.mul_comm]; exact Int.mul_ediv_add_emod x y
  have EY := Lib.hid ey
  have KP := Lib.hid kp
  have p1 : 0 ≤ p := by
    rcases sg_cases r with ⟨e1, h1⟩ | ⟨e1, h1⟩ | ⟨e1, h1⟩ <;> omega
  have KC : Hid (sg (r - ay) = -1) := by show _ = _; exact sg_neg (by omega)
  have LM : Hid ((ofv q.natAbs).length + m ≤ 70368744177664) := by show _ ≤ _; omega
  have LA : Hid ((ofv mq.natAbs).length ≤ 70368744177663) := by show _ ≤ _; omega
  have LB : Hid ((ofv r.natAbs).length ≤ 70368744177663) := by show _ ≤ _; omega
  have LN : Hid (n ≤ 70368744177664) := by show _ ≤ _; omega
  have LY : Hid (m ≤ 70368744177664) := by show _ ≤ _; omega
  clear h h' hn hm lx ly hy eq er em ey kp d1 d2 d3 d4 lq lr hm2
  go_enter Try.func5, Try.ntmps5
  go_wp2_with fail
  generalize ((w.alloc (.cells #[.bool s, .slice A n c] 24)).alloc (.cells #[.bool t, .slice B m d] 24)) = w1 at *
  obtain ⟨V1a, V1b⟩ := V1.out.cells
  obtain ⟨V2a, V2b⟩ := V2.out.cells
  go_wp2_with fail
  refine (dm_z HX.out HY.out L1.out L2.out NY.out EQ.out ER.out).mono ?_
  rintro e w2 ⟨Q, cQ, R, cR, rfl, ho, ho2, hb⟩
  clear V1a V1b V2a V2b
  have B2 := Lib.hid (B1.out.trans (hb.mono B1.out.size))
  have HX' := Lib.hid (HX.out.below hb)
  have HY' := Lib.hid (HY.out.below hb)
  have V1' := Lib.hid (V1.out.below hb V1.out.lt)
  have V2' := Lib.hid (V2.out.below hb V2.out.lt)
  have ZQ := Lib.hid (Zo.of_own ho)
  have ZR := Lib.hid (Zo.of_own ho2)
  clear ho ho2
  clear hb B1
  clear HX HY V1 V2
  have HX := HX'
  clear HX'
  have HY := HY'
  clear HY'
  have V1 := V1'
  clear V1'
  have V2 := V2'
  clear V2'
  obtain ⟨V1a, V1b⟩ := V1.out.cells
  obtain ⟨V2a, V2b⟩ := V2.out.cells
  clear V1a V1b V2a V2b
  have V1c := cell_past V1.out
  have V1d := cell_past1 V1.out
  have V2c := cell_past V2.out
  have V2d := cell_past1 V2.out
  go_wp2_with fail
  clear V1c V1d V2c V2d
  obtain ⟨hb, U1, U2⟩ := begin2 w2 (decide (q < 0)) Q (ofv (q).natAbs).length cQ (decide (r < 0)) R (ofv (r).natAbs).length cR
  generalize hg : w2.heap.size = gU at U1 U2 ⊢
  generalize ((w2.alloc (.cells #[.bool (decide (q < 0)), .slice Q (ofv (q).natAbs).length cQ] 24)).alloc (.cells #[.bool (decide (r < 0)), .slice R (ofv (r).natAbs).length cR] 24)) = w3 at *
  have B3 := Lib.hid (B2.out.trans (hb.out.mono B2.out.size))
  have HX' := Lib.hid (HX.out.below hb.out)
  have HY' := Lib.hid (HY.out.below hb.out)
  have V1' := Lib.hid (V1.out.below hb.out V1.out.lt)
  have V2' := Lib.hid (V2.out.below hb.out V2.out.lt)
  have ZQ' := Lib.hid (ZQ.out.below hb.out)
  have ZR' := Lib.hid (ZR.out.below hb.out)
  clear hb hg B2
  clear HX HY V1 V2 ZQ ZR
  have HX := HX'
  clear HX'
  have HY := HY'
  clear HY'
  have V1 := V1'
  clear V1'
  have V2 := V2'
  clear V2'
  have ZQ := ZQ'
  clear ZQ'
  have ZR := ZR'
  clear ZR'
  obtain ⟨V1a, V1b⟩ := V1.out.cells
  obtain ⟨V2a, V2b⟩ := V2.out.cells
  obtain ⟨U1a, U1b⟩ := U1.out.cells
  obtain ⟨U2a, U2b⟩ := U2.out.cells
  go_wp2_with fail
  refine (rdm_z HX.out HY.out L3.out L4.out NY.out EQ.out ER.out).mono ?_
  rintro e w4 ⟨S, cS, T, cT, rfl, ho, ho2, hb⟩
  clear V1a V1b V2a V2b U1a U1b U2a U2b
  have B4 := Lib.hid (B3.out.trans (hb.mono B3.out.size))
  have HX' := Lib.hid (HX.out.below hb)
  have HY' := Lib.hid (HY.out.below hb)
  have V1' := Lib.hid (V1.out.below hb V1.out.lt)
  have V2' := Lib.hid (V2.out.below hb V2.out.lt)
  have ZQ' := Lib.hid (ZQ.out.below hb)
  have ZR' := Lib.hid (ZR.out.below hb)
  have U1' := Lib.hid (U1.out.below hb U1.out.lt)
  have U2' := Lib.hid (U2.out.below hb U2.out.lt)
  have ZS := Lib.hid (Zo.of_own ho)
  have ZT := Lib.hid (Zo.of_own ho2)
  clear ho ho2
  clear hb B3
  clear HX HY V1 V2 ZQ ZR U1 U2
  have HX := HX'
  clear HX'
  have HY := HY'
  clear HY'
  have V1 := V1'
  clear V1'
  have V2 := V2'
  clear V2'
  have ZQ := ZQ'
  clear ZQ'
  have ZR := ZR'
  clear ZR'
  have U1 := U1'
  clear U1'
  have U2 := U2'
  clear U2'
  obtain ⟨V1a, V1b⟩ := V1.out.cells
  obtain ⟨V2a, V2b⟩ := V2.out.cells
  obtain ⟨U1a, U1b⟩ := U1.out.cells
  obtain ⟨U2a, U2b⟩ := U2.out.cells
  clear V1a V1b V2a V2b U1a U1b U2a U2b
  have V1c := cell_past V1.out
  have V1d := cell_past1 V1.out
  have V2c := cell_past V2.out
  have V2d := cell_past1 V2.out
  have U1c := cell_past U1.out
  have U1d := cell_past1 U1.out
  have U2c := cell_past U2.out
  have U2d := cell_past1 U2.out
  go_wp2_with fail
  clear V1c V1d V2c V2d U1c U1d U2c U2d
  obtain ⟨hb, X1, X2⟩ := begin2 w4 (decide (q < 0)) S (ofv (q).natAbs).length cS (decide (r < 0)) T (ofv (r).natAbs).length cT
  generalize hg : w4.heap.size = gX at X1 X2 ⊢
  generalize ((w4.alloc (.cells #[.bool (decide (q < 0)), .slice S (ofv (q).natAbs).length cS] 24)).alloc (.cells #[.bool (decide (r < 0)), .slice T (ofv (r).natAbs).length cT] 24)) = w5 at *
  have B5 := Lib.hid (B4.out.trans (hb.out.mono B4.out.size))
  have HX' := Lib.hid (HX.out.below hb.out)
  have HY' := Lib.hid (HY.out.below hb.out)
  have V1' := Lib.hid (V1.out.below hb.out V1.out.lt)
  have V2' := Lib.hid (V2.out.below hb.out V2.out.lt)
  have ZQ' := Lib.hid (ZQ.out.below hb.out)
  have ZR' := Lib.hid (ZR.out.below hb.out)
  have U1' := Lib.hid (U1.out.below hb.out U1.out.lt)
  have U2' := Lib.hid (U2.out.below hb.out U2.out.lt)
  have ZS' := Lib.hid (ZS.out.below hb.out)
  have ZT' := Lib.hid (ZT.out.below hb.out)
  clear hb hg B4
  clear HX HY V1 V2 ZQ ZR U1 U2 ZS ZT
  have HX := HX'
  clear HX'
  have HY := HY'
  clear HY'
  have V1 := V1'
  clear V1'
  have V2 := V2'
  clear V2'
  have ZQ := ZQ'
  clear ZQ'
  have ZR := ZR'
  clear ZR'
  have U1 := U1'
  clear U1'
  have U2 := U2'
  clear U2'
  have ZS := ZS'
  clear ZS'
  have ZT := ZT'
  clear ZT'
  obtain ⟨V1a, V1b⟩ := V1.out.cells
  obtain ⟨V2a, V2b⟩ := V2.out.cells
  obtain ⟨U1a, U1b⟩ := U1.out.cells
  obtain ⟨U2a, U2b⟩ := U2.out.cells
  obtain ⟨X1a, X1b⟩ := X1.out.cells
  obtain ⟨X2a, X2b⟩ := X2.out.cells
  go_wp2_with fail
  refine (zawake_any _).mono ?_
  rintro e w6 ⟨rfl, hb⟩
  clear V1a V1b V2a V2b U1a U1b U2a U2b X1a X1b X2a X2b
  have B6 := Lib.hid (B5.out.trans (hb.mono B5.out.size))
  have HX' := Lib.hid (HX.out.below hb)
  have HY' := Lib.hid (HY.out.below hb)
  have V1' := Lib.hid (V1.out.below hb V1.out.lt)
  have V2' := Lib.hid (V2.out.below hb V2.out.lt)
  have ZQ' := Lib.hid (ZQ.out.below hb)
  have ZR' := Lib.hid (ZR.out.below hb)
  have U1' := Lib.hid (U1.out.below hb U1.out.lt)
  have U2' := Lib.hid (U2.out.below hb U2.out.lt)
  have ZS' := Lib.hid (ZS.out.below hb)
  have ZT' := Lib.hid (ZT.out.below hb)
  have X1' := Lib.hid (X1.out.below hb X1.out.lt)
  have X2' := Lib.hid (X2.out.below hb X2.out.lt)
  clear hb B5
  clear HX HY V1 V2 ZQ ZR U1 U2 ZS ZT X1 X2
  have HX := HX'
  clear HX'
  have HY := HY'
  clear HY'
  have V1 := V1'
  clear V1'
  have V2 := V2'
  clear V2'
  have ZQ := ZQ'
  clear ZQ'
  have ZR := ZR'
  clear ZR'
  have U1 := U1'
  clear U1'
  have U2 := U2'
  clear U2'
  have ZS := ZS'
  clear ZS'
  have ZT := ZT'
  clear ZT'
  have X1 := X1'
  clear X1'
  have X2 := X2'
  clear X2'
  obtain ⟨V1a, V1b⟩ := V1.out.cells
  obtain ⟨V2a, V2b⟩ := V2.out.cells
  obtain ⟨U1a, U1b⟩ := U1.out.cells
  obtain ⟨U2a, U2b⟩ := U2.out.cells
  obtain ⟨X1a, X1b⟩ := X1.out.cells
  obtain ⟨X2a, X2b⟩ := X2.out.cells
  go_wp2_with fail
  refine (requal_z ZQ.out ZS.out).mono ?_
  rintro e w7 ⟨rfl, hb⟩
  clear V1a V1b V2a V2b U1a U1b U2a U2b X1a X1b X2a X2b
  have B7 := Lib.hid (B6.out.trans (hb.mono B6.out.size))
  have HX' := Lib.hid (HX.out.below hb)
  have HY' := Lib.hid (HY.out.below hb)
  have V1' := Lib.hid (V1.out.below hb V1.out.lt)
  have V2' := Lib.hid (V2.out.below hb V2.out.lt)
  have ZQ' := Lib.hid (ZQ.out.below hb)
  have ZR' := Lib.hid (ZR.out.below hb)
  have U1' := Lib.hid (U1.out.below hb U1.out.lt)
  have U2' := Lib.hid (U2.out.below hb U2.out.lt)
  have ZS' := Lib.hid (ZS.out.below hb)
  have ZT' := Lib.hid (ZT.out.below hb)
  have X1' := Lib.hid (X1.out.below hb X1.out.lt)
  have X2' := Lib.hid (X2.out.below hb X2.out.lt)
  clear hb B6
  clear HX HY V1 V2 ZQ ZR U1 U2 ZS ZT X1 X2
  have HX := HX'
  clear HX'
  have HY := HY'
  clear HY'
  have V1 := V1'
  clear V1'
  have V2 := V2'
  clear V2'
  have ZQ := ZQ'
  clear ZQ'
  have ZR := ZR'
  clear ZR'
  have U1 := U1'
  clear U1'
  have U2 := U2'
  clear U2'
  have ZS := ZS'
  clear ZS'
  have ZT := ZT'
  clear ZT'
  have X1 := X1'
  clear X1'
  have X2 := X2'
  clear X2'
  obtain ⟨V1a, V1b⟩ := V1.out.cells
  obtain ⟨V2a, V2b⟩ := V2.out.cells
  obtain ⟨U1a, U1b⟩ := U1.out.cells
  obtain ⟨U2a, U2b⟩ := U2.out.cells
  obtain ⟨X1a, X1b⟩ := X1.out.cells
  obtain ⟨X2a, X2b⟩ := X2.out.cells
  go_wp2_with fail
  refine (requal_z ZR.out ZT.out).mono ?_
  rintro e w8 ⟨rfl, hb⟩
  clear V1a V1b V2a V2b U1a U1b U2a U2b X1a X1b X2a X2b
  have B8 := Lib.hid (B7.out.trans (hb.mono B7.out.size))
  have HX' := Lib.hid (HX.out.below hb)
  have HY' := Lib.hid (HY.out.below hb)
  have V1' := Lib.hid (V1.out.below hb V1.out.lt)
  have V2' := Lib.hid (V2.out.below hb V2.out.lt)
  have ZQ' := Lib.hid (ZQ.out.below hb)
  have ZR' := Lib.hid (ZR.out.below hb)
  have U1' := Lib.hid (U1.out.below hb U1.out.lt)
  have U2' := Lib.hid (U2.out.below hb U2.out.lt)
  have ZS' := Lib.hid (ZS.out.below hb)
  have ZT' := Lib.hid (ZT.out.below hb)
  have X1' := Lib.hid (X1.out.below hb X1.out.lt)
  have X2' := Lib.hid (X2.out.below hb X2.out.lt)
  clear hb B7
  clear HX HY V1 V2 ZQ ZR U1 U2 ZS ZT X1 X2
  have HX := HX'
  clear HX'
  have HY := HY'
  clear HY'
  have V1 := V1'
  clear V1'
  have V2 := V2'
  clear V2'
  have ZQ := ZQ'
  clear ZQ'
  have ZR := ZR'
  clear ZR'
  have U1 := U1'
  clear U1'
  have U2 := U2'
  clear U2'
  have ZS := ZS'
  clear ZS'
  have ZT := ZT'
  clear ZT'
  have X1 := X1'
  clear X1'
  have X2 := X2'
  clear X2'
  obtain ⟨V1a, V1b⟩ := V1.out.cells
  obtain ⟨V2a, V2b⟩ := V2.out.cells
  obtain ⟨U1a, U1b⟩ := U1.out.cells
  obtain ⟨U2a, U2b⟩ := U2.out.cells
  obtain ⟨X1a, X1b⟩ := X1.out.cells
  obtain ⟨X2a, X2b⟩ := X2.out.cells
  clear X1 X2 ZS ZT
  clear V1a V1b V2a V2b U1a U1b U2a U2b X1a X1b X2a X2b
  have BW := Lib.hid (Below.refl w8.heap.size w8)
  have S2 := Lib.hid (keep4 V1 V2 U1 U2 BW.out V1.out.lt V2.out.lt U1.out.lt U2.out.lt)
  go_wp2_with fail
  have pc0 := Lib.hid trivial
  go_region_held3 (fun w' => w'.cell? ⟨w.heap.size, 0, none⟩ = some (.bool s) ∧ w'.cell? ⟨w.heap.size, 1, none⟩ = some (.slice A n c) ∧ w'.cell? ⟨w.heap.size + 1, 0, none⟩ = some (.bool t) ∧ w'.cell? ⟨w.heap.size + 1, 1, none⟩ = some (.slice B m d) ∧ w'.cell? ⟨gU, 0, none⟩ = some (.bool (decide (q < 0))) ∧ w'.cell? ⟨gU, 1, none⟩ = some (.slice Q (ofv q.natAbs).length cQ) ∧ w'.cell? ⟨gU + 1, 0, none⟩ = some (.bool (decide (r < 0))) ∧ w'.cell? ⟨gU + 1, 1, none⟩ = some (.slice R (ofv r.natAbs).length cR))
    (first | exact keep4 V1 V2 U1 U2 BW.out V1.out.lt V2.out.lt U1.out.lt U2.out.lt | exact S2.out)
    (first
      | (clear pc0; go_at_call 32; (with_reducible refine Calls.mono (mul_z (x := q) (y := y) (z := mq) ?_ ?_ ?_ ?_) ?_); (exact ZQ.out.in_.drew); (exact HY.out.drew); (exact LM.out); (exact EM.out); rintro e wx ⟨M, cM, rfl, ho, hb⟩; (try (have ZP' := Lib.hid (ZP.out.below hb); clear ZP; have ZP := ZP'; clear ZP')); (try (have ZN' := Lib.hid (ZN.out.below hb); clear ZN; have ZN := ZN'; clear ZN')); (try (have ZY' := Lib.hid (ZY.out.below hb); clear ZY; have ZY := ZY'; clear ZY')); have ZM := Lib.hid (Zo.of_own ho); clear ho; (first | (have BX := Lib.hid (BW.out.trans (hb.mono BW.out.size))) | (have BX := below_drew hb)); clear hb BW; have BW := BX; clear BX; have pc1 := Lib.hid trivial)
      | (clear pc1; go_at_call 28; (with_reducible refine Calls.mono (add_z (x := mq) (y := r) (z := x) ?_ ?_ ?_ ?_ ?_) ?_); (exact ZM.out.in_); (exact (ZR.out.below BW.out).in_); (exact LA.out); (exact LB.out); (exact EA.out); rintro e wx ⟨P, cP, rfl, ho, hb⟩; clear ZM; (try (have ZN' := Lib.hid (ZN.out.below hb); clear ZN; have ZN := ZN'; clear ZN')); (try (have ZY' := Lib.hid (ZY.out.below hb); clear ZY; have ZY := ZY'; clear ZY')); have ZP := Lib.hid (Zo.of_own ho); clear ho; (first | (have BX := Lib.hid (BW.out.trans (hb.mono BW.out.size))) | (have BX := below_drew hb)); clear hb BW; have BW := BX; clear BX; have pc2 := Lib.hid trivial)
      | (clear pc2; go_at_call 18; (with_reducible refine Calls.mono (rnrm_z (x := x) (z := x) ?_ ?_ ?_) ?_); (exact HX.out.below BW.out); (exact LN.out); (exact rfl); rintro e wx ⟨N, cN, rfl, ho, hb⟩; (try (have ZM' := Lib.hid (ZM.out.below hb); clear ZM; have ZM := ZM'; clear ZM')); (try (have ZP' := Lib.hid (ZP.out.below hb); clear ZP; have ZP := ZP'; clear ZP')); (try (have ZY' := Lib.hid (ZY.out.below hb); clear ZY; have ZY := ZY'; clear ZY')); have ZN := Lib.hid (Zo.of_own ho); clear ho; (first | (have BX := Lib.hid (BW.out.trans (hb.mono BW.out.size))) | (have BX := below_drew hb)); clear hb BW; have BW := BX; clear BX; have pc3 := Lib.hid trivial)
      | (clear pc3; go_at_call 16; (with_reducible refine Calls.mono (requal_z (z := x) ?_ ?_) ?_); (exact ZP.out); (exact ZN.out); rintro e wx ⟨rfl, hb⟩; clear ZP ZN; (try (have ZM' := Lib.hid (ZM.out.below hb); clear ZM; have ZM := ZM'; clear ZM')); (try (have ZY' := Lib.hid (ZY.out.below hb); clear ZY; have ZY := ZY'; clear ZY')); (first | (have BX := Lib.hid (BW.out.trans (hb.mono BW.out.size))) | (have BX := below_drew hb)); clear hb BW; have BW := BX; clear BX; have pc4 := Lib.hid trivial)
      | (clear pc4; go_at_call 20; (with_reducible refine Calls.mono (sign_k (z := r) (r := p) ?_ ?_) ?_); (exact (ZR.out.below BW.out).in_); (exact KP.out); rintro e wx ⟨rfl, hb⟩; (try (have ZM' := Lib.hid (ZM.out.below hb); clear ZM; have ZM := ZM'; clear ZM')); (try (have ZP' := Lib.hid (ZP.out.below hb); clear ZP; have ZP := ZP'; clear ZP')); (try (have ZN' := Lib.hid (ZN.out.below hb); clear ZN; have ZN := ZN'; clear ZN')); (try (have ZY' := Lib.hid (ZY.out.below hb); clear ZY; have ZY := ZY'; clear ZY')); (first | (have BX := Lib.hid (BW.out.trans (hb.mono BW.out.size))) | (have BX := below_drew hb)); clear hb BW; have BW := BX; clear BX; have pc5 := Lib.hid trivial)
      | (clear pc5; go_at_call 26; (with_reducible refine Calls.mono (abs_z (x := y) (z := ay) ?_ ?_ ?_) ?_); (exact HY.out.below BW.out); (exact LY.out); (exact EY.out); rintro e wx ⟨Y, cY, rfl, ho, hb⟩; (try (have ZM' := Lib.hid (ZM.out.below hb); clear ZM; have ZM := ZM'; clear ZM')); (try (have ZP' := Lib.hid (ZP.out.below hb); clear ZP; have ZP := ZP'; clear ZP')); (try (have ZN' := Lib.hid (ZN.out.below hb); clear ZN; have ZN := ZN'; clear ZN')); have ZY := Lib.hid (Zo.of_own ho); clear ho; (first | (have BX := Lib.hid (BW.out.trans (hb.mono BW.out.size))) | (have BX := below_drew hb)); clear hb BW; have BW := BX; clear BX; have pc6 := Lib.hid trivial)
      | (clear pc6; go_at_call 22; (with_reducible refine Calls.mono (compare_k (x := r) (y := ay) (r := -1) ?_ ?_ ?_) ?_); (exact (ZR.out.below BW.out).in_); (exact ZY.out.in_); (exact KC.out); rintro e wx ⟨rfl, hb⟩; clear ZY; (try (have ZM' := Lib.hid (ZM.out.below hb); clear ZM; have ZM := ZM'; clear ZM')); (try (have ZP' := Lib.hid (ZP.out.below hb); clear ZP; have ZP := ZP'; clear ZP')); (try (have ZN' := Lib.hid (ZN.out.below hb); clear ZN; have ZN := ZN'; clear ZN')); (first | (have BX := Lib.hid (BW.out.trans (hb.mono BW.out.size))) | (have BX := below_drew hb)); clear hb BW; have BW := BX; clear BX; have pc7 := Lib.hid trivial))
  have FIN := Lib.hid (B8.out.trans (BW.out.mono B8.out.size))
  clear BW
  go_wp2
  go_ret
  exact ⟨rfl, FIN.out⟩
theorem integerDivides_walk (s : Bool) (A : Option Addr) (n c : Nat) (x : Int) (t : Bool) (B : Option Addr) (m d : Nat) (y : Int) (w : World) (h : Zin w s A n c x) (hn : n ≤ 35184372087808) (h' : Zin w t B m d y) (hm : m ≤ 35184372087808) :
    Calls Try.prog 5 #[.agg #[.bool s, .slice A n c], .agg #[.bool t, .slice B m d]] w fun e w' => e = .returned (.bool true) ∧ Below w.heap.size w w' := by
  rcases Int.decEq y 0 with hy | hy
  · exact integerDivides_any s A n c x t B m d y w h hn h' hm hy
  · exact integerDivides_zero s A n c x t B m d y w h hn h' hm hy
end Go.Proofs.Ytakgflgfdoahcaa
