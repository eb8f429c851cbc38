/-
  Contracts of package rational: Compare, split, Floor, isEven, Round, Size.
-/
import Derived.Test.YtfacndibfkamgaaGreatRatq
namespace Go.Proofs.YtfacndibfkamgaaGreat
open Go.RowKit
set_option linter.unusedVariables false

theorem start_R2 (w : World) (s0 : Bool) (A0 : Option Addr) (n0 c0 : Nat) (D0 : Option Addr) (m0 k0 : Nat) (s1 : Bool) (A1 : Option Addr) (n1 c1 : Nat) (D1 : Option Addr) (m1 k1 : Nat) :
    Hid (Below w.heap.size w ((w.alloc (.cells #[.bool s0, .slice A0 n0 c0, .slice D0 m0 k0] 29)).alloc (.cells #[.bool s1, .slice A1 n1 c1, .slice D1 m1 k1] 29))) ∧ Hid (Rb ((w.alloc (.cells #[.bool s0, .slice A0 n0 c0, .slice D0 m0 k0] 29)).alloc (.cells #[.bool s1, .slice A1 n1 c1, .slice D1 m1 k1] 29)) (w.heap.size) s0 A0 n0 c0 D0 m0 k0) ∧ Hid (Rb ((w.alloc (.cells #[.bool s0, .slice A0 n0 c0, .slice D0 m0 k0] 29)).alloc (.cells #[.bool s1, .slice A1 n1 c1, .slice D1 m1 k1] 29)) (w.heap.size + 1) s1 A1 n1 c1 D1 m1 k1) := by
  refine ⟨?_, ?_, ?_⟩
  · exact (((Below.refl _ _).alloc (by first | exact Nat.le_refl _ | (simp; done) | (simp; omega)) _).alloc (by first | exact Nat.le_refl _ | (simp; done) | (simp; omega)) _)
  · have := Rb.new w s0 A0 n0 c0 D0 m0 k0
    exact (this.alloc _)
  · have := Rb.new (w.alloc (.cells #[.bool s0, .slice A0 n0 c0, .slice D0 m0 k0] 29)) s1 A1 n1 c1 D1 m1 k1
    simp only [World.size_alloc] at this
    exact this
set_option maxRecDepth 100000 in
set_option maxHeartbeats 16000000 in
theorem cmp_any (x y : Int) {r : Int} (hr : sg (x - y) = r) (w : World) :
    Calls Tryz.prog 110 #[.int .i64 x, .int .i64 y] w fun e w' => e = .returned (.int .i64 r) ∧ Below w.heap.size w w' := by
  rcases sg_cases (x - y) with ⟨e1, h1⟩ | ⟨e1, h1⟩ | ⟨e1, h1⟩
  · rw [e1] at hr
    subst hr
    have a1 : x < y := by omega
    go_enter Tryz.func110, Tryz.ntmps110
    go_wp2
    go_ret
    exact ⟨rfl, Below.refl _ _⟩
  · rw [e1] at hr
    subst hr
    obtain rfl : x = y := by omega
    go_enter Tryz.func110, Tryz.ntmps110
    go_wp2
    go_ret
    exact ⟨rfl, Below.refl _ _⟩
  · rw [e1] at hr
    subst hr
    have a1 : y < x := by omega
    have a2 : ¬ x < y := by omega
    go_enter Tryz.func110, Tryz.ntmps110
    go_wp2
    go_ret
    exact ⟨rfl, Below.refl _ _⟩
set_option maxRecDepth 100000 in
set_option maxHeartbeats 16000000 in
theorem qcompare_any {s t : Bool} {A D B E : Option Addr} {n c m k n2 c2 m2 k2 L : Nat} {x y : Int} {p q : Nat} {w : World} (h : Zin w s A n c x) (hp : Nin w D m k p) (h' : Zin w t B n2 c2 y) (hq : Nin w E m2 k2 q) (hn : n ≤ L) (hm : m ≤ L) (hn2 : n2 ≤ L) (hm2 : m2 ≤ L) (hL : 1 ≤ L ∧ L ≤ 35184372088829) {r : Int} (hr : sgR (mkRat x p - mkRat y q) = r) :
    Calls Tryz.prog 68 #[.agg #[.bool s, .slice A n c, .slice D m k], .agg #[.bool t, .slice B n2 c2, .slice E m2 k2]] w fun e w' => e = .returned (.int .i64 r) ∧ Below w.heap.size w w' := by
  obtain ⟨B1, V0, V1⟩ := start_R2 w s A n c D m k t B n2 c2 E m2 k2
  have HX := Lib.hid (h.below B1.out)
  have HP := Lib.hid (hp.below B1.out)
  have HY := Lib.hid (h'.below B1.out)
  have HQ := Lib.hid (hq.below B1.out)
  have LN := Lib.hid hn
  have LM := Lib.hid hm
  have LN2 := Lib.hid hn2
  have LM2 := Lib.hid hm2
  have L1 := Lib.hid hL.1
  have L2 := Lib.hid hL.2
  have L4 : Hid (L ≤ 70368744177664) := Nat.le_trans hL.2 (by decide)
  have HR := Lib.hid hr
  clear h hp h' hq hn hm hn2 hm2 hL hr
  go_enter Tryz.func68, Tryz.ntmps68
  go_wp2_with fail
  generalize ((w.alloc (.cells #[.bool s, .slice A n c, .slice D m k] 29)).alloc (.cells #[.bool t, .slice B n2 c2, .slice E m2 k2] 29)) = w2 at *
  have HB : Hid (Below w2.heap.size w2 w2.drew) := below_drewN _ w2 1
  have hHeld := HB.out
  refine wp_region_held_split (S := fun w' => Below w2.heap.size w2 w') 4 (by kernel_rfl) (by kernel_rfl) ?_
  simp only [List.take_succ_cons, List.take_zero, List.drop_succ_cons, List.drop_zero]
  refine wpAnyH_takeL (i := 0) (oi := _) rfl (by kernel_rfl) (by kernel_rfl) (by kernel_rfl) (fun _ _ _ h => h) (yields_ldR (by rfl) _ rfl (by rfl) (fun _ hb => V0.out.below hb V0.out.lt)) hHeld ?_
  try simp only [Act.put, List.setIfInBounds_toArray, List.set_cons_zero, List.set_cons_succ]
  refine wpAnyH_takeL (i := 2) (oi := _) rfl (by kernel_rfl) (by kernel_rfl) (by kernel_rfl) (fun _ _ _ h => h) (yields_ldR (by rfl) _ rfl (by rfl) (fun _ hb => V1.out.below hb V1.out.lt)) hHeld ?_
  try simp only [Act.put, List.setIfInBounds_toArray, List.set_cons_zero, List.set_cons_succ]
  refine wpAnyH_ready (rs := [1]) (by kernel_rfl) (by simp) ?_
  refine AllReadyH.consL (o := _) rfl (fun K hK => ?_) AllReadyH.nil
  clear hHeld
  go_simp
  go_at_call 89
  refine Calls.mono (proper_any (HX.out.below HB.out) (HP.out.below HB.out) LM.out L1.out L4.out) ?_
  rintro e wa ⟨F1, FA, Fn, Fc, FD, Fm, Fk, Fx, Fp, rfl, q1, q2, q3, q4, q5, q6, hb⟩
  replace HB := Lib.hid (HB.out.trans (hb.mono HB.out.size))
  have FX := Lib.hid q1
  have FP := Lib.hid q2
  have F0 := Lib.hid q3
  have FE := Lib.hid q4
  have FN := Lib.hid (Nat.le_trans q5 LN.out)
  have FM := Lib.hid q6
  clear q1 q2 q3 q4 q5 q6
  clear hb
  refine hK.out _ _ HB.out (fun hHeld => ?_)
  clear hK K
  try simp only [Act.put, List.setIfInBounds_toArray, List.set_cons_zero, List.set_cons_succ]
  refine wpAnyH_ready (rs := [3]) (by kernel_rfl) (by simp) ?_
  refine AllReadyH.consL (o := _) rfl (fun K hK => ?_) AllReadyH.nil
  clear hHeld
  go_simp
  go_at_call 89
  refine Calls.mono (proper_any (HY.out.below HB.out) (HQ.out.below HB.out) LM2.out L1.out L4.out) ?_
  rintro e wb ⟨G1, GA, Gn, Gc, GD, Gm, Gk, Gx, Gp, rfl, q1, q2, q3, q4, q5, q6, hb⟩
  replace HB := Lib.hid (HB.out.trans (hb.mono HB.out.size))
  replace FX := Lib.hid (FX.out.below hb)
  replace FP := Lib.hid (FP.out.below hb)
  have GX := Lib.hid q1
  have GP := Lib.hid q2
  have G0 := Lib.hid q3
  have GE := Lib.hid q4
  have GN := Lib.hid (Nat.le_trans q5 LN2.out)
  have GM := Lib.hid q6
  clear q1 q2 q3 q4 q5 q6
  clear hb
  refine hK.out _ _ HB.out (fun hHeld => ?_)
  clear hK K
  try simp only [Act.put, List.setIfInBounds_toArray, List.set_cons_zero, List.set_cons_succ]
  refine wpAnyH_done (by kernel_rfl) ?_ _
  show wpList _ _ _ _ _ _
  have hb := HB.out
  replace V0 := Lib.hid (V0.out.below hb V0.out.lt)
  replace V1 := Lib.hid (V1.out.below hb V1.out.lt)
  replace HX := Lib.hid (HX.out.below hb)
  replace HP := Lib.hid (HP.out.below hb)
  replace HY := Lib.hid (HY.out.below hb)
  replace HQ := Lib.hid (HQ.out.below hb)
  replace B1 := Lib.hid (B1.out.trans (hb.mono B1.out.size))
  clear hb HB hHeld
  refine wpList_stR (by rfl) _ _ rfl (by rfl) (by rfl) V0.out ?_
  intro w5 hz hg
  replace V1 := Lib.hid (V1.out.gro hg (by omega))
  replace HX := Lib.hid (HX.out.grR V0.out hg)
  replace HP := Lib.hid (HP.out.grR V0.out hg)
  replace HY := Lib.hid (HY.out.grR V0.out hg)
  replace HQ := Lib.hid (HQ.out.grR V0.out hg)
  replace FX := Lib.hid (FX.out.grR V0.out hg)
  replace FP := Lib.hid (FP.out.grR V0.out hg)
  replace GX := Lib.hid (GX.out.grR V0.out hg)
  replace GP := Lib.hid (GP.out.grR V0.out hg)
  replace B1 := Lib.hid (Below.gr B1.out (by omega) hg B1.out.size)
  replace V0 := Lib.hid hz
  clear hz hg
  refine wpList_stR (by rfl) _ _ rfl (by rfl) (by rfl) V1.out ?_
  intro w6 hz hg
  replace V0 := Lib.hid (V0.out.gro hg (by omega))
  replace HX := Lib.hid (HX.out.grR V1.out hg)
  replace HP := Lib.hid (HP.out.grR V1.out hg)
  replace HY := Lib.hid (HY.out.grR V1.out hg)
  replace HQ := Lib.hid (HQ.out.grR V1.out hg)
  replace FX := Lib.hid (FX.out.grR V1.out hg)
  replace FP := Lib.hid (FP.out.grR V1.out hg)
  replace GX := Lib.hid (GX.out.grR V1.out hg)
  replace GP := Lib.hid (GP.out.grR V1.out hg)
  replace B1 := Lib.hid (Below.gr B1.out (by omega) hg B1.out.size)
  replace V1 := Lib.hid hz
  clear hz hg
  have pc0 := Lib.hid trivial
  go_wp2_with (first
    | (clear pc0; refine wpList_ldR (by rfl) _ rfl (by rfl) V0.out ?_; have pc1 := Lib.hid trivial)
    | (clear pc1; refine wpList_ldR (by rfl) _ rfl (by rfl) V1.out ?_; have pc2 := Lib.hid trivial))
  clear pc2
  refine (shortPair_any FX.out FP.out GX.out GP.out).mono ?_
  rintro e wc ⟨X, Y, U, V, ok, rfl, hok, hb⟩
  replace V0 := Lib.hid (V0.out.below hb V0.out.lt)
  replace V1 := Lib.hid (V1.out.below hb V1.out.lt)
  replace HX := Lib.hid (HX.out.below hb)
  replace HP := Lib.hid (HP.out.below hb)
  replace HY := Lib.hid (HY.out.below hb)
  replace HQ := Lib.hid (HQ.out.below hb)
  replace FX := Lib.hid (FX.out.below hb)
  replace FP := Lib.hid (FP.out.below hb)
  replace GX := Lib.hid (GX.out.below hb)
  replace GP := Lib.hid (GP.out.below hb)
  replace B1 := Lib.hid (B1.out.trans (hb.mono B1.out.size))
  clear hb
  cases ok
  · clear hok
    have hb : Below wc.heap.size wc ((wc.alloc (.cells #[.int .i64 X, .int .i64 Y] 121)).alloc (.cells #[.int .i64 U, .int .i64 V] 121)) := ((Below.refl _ _).alloc (Nat.le_refl _) _).alloc (by simp) _
    replace V0 := Lib.hid (V0.out.below hb V0.out.lt)
    replace V1 := Lib.hid (V1.out.below hb V1.out.lt)
    replace HX := Lib.hid (HX.out.below hb)
    replace HP := Lib.hid (HP.out.below hb)
    replace HY := Lib.hid (HY.out.below hb)
    replace HQ := Lib.hid (HQ.out.below hb)
    replace FX := Lib.hid (FX.out.below hb)
    replace FP := Lib.hid (FP.out.below hb)
    replace GX := Lib.hid (GX.out.below hb)
    replace GP := Lib.hid (GP.out.below hb)
    replace B1 := Lib.hid (B1.out.trans (hb.mono B1.out.size))
    clear hb
    obtain ⟨m1, e1⟩ : ∃ z0 : Int, Fx * (Gp : Int) = z0 := ⟨_, rfl⟩
    obtain ⟨m2', e2⟩ : ∃ z0 : Int, Gx * (Fp : Int) = z0 := ⟨_, rfl⟩
    have E1 := Lib.hid e1
    have E2 := Lib.hid e2
    have ES : Hid (sg (m1 - m2') = r) := by show _ = _; rw [← e1, ← e2, ← sgR_sub F0.out G0.out, FE.out, GE.out]; exact HR.out
    have K1 : Hid (Fn + Gm ≤ 70368744177664) := by have := FN.out; have := GM.out; have := L2.out; show _ ≤ _; omega
    have K2 : Hid (Gn + Fm ≤ 70368744177664) := by have := GN.out; have := FM.out; have := L2.out; show _ ≤ _; omega
    clear e1 e2
    go_wp2_with fail
    generalize ((wc.alloc (.cells #[.int .i64 X, .int .i64 Y] 121)).alloc (.cells #[.int .i64 U, .int .i64 V] 121)) = wd at *
    have HB : Hid (Below wd.heap.size wd wd.drew) := below_drewN _ wd 1
    refine wp_region_held_drew (S := fun w' => Below wd.heap.size wd w') (by kernel_rfl) (HB.out) (fun hHeld => ?_)
    refine wpAnyH_takeL (i := 0) (oi := _) (v := ?_) rfl (by kernel_rfl) (by kernel_rfl) (by kernel_rfl) (fun _ _ _ h => h) (Or.inl ⟨by rfl, ?_⟩) hHeld ?_
    rotate_left
    · (intro w' hSw; (try dsimp only at hSw); go_simp; try (with_reducible rfl))
    try simp only [Act.put, List.setIfInBounds_toArray, List.set_cons_zero, List.set_cons_succ]
    refine wpAnyH_takeL (i := 1) (oi := _) rfl (by kernel_rfl) (by kernel_rfl) (by kernel_rfl) (fun _ _ _ h => h) (yields_ldRz (by rfl) _ rfl (by rfl) (fun _ hb => V0.out.below hb V0.out.lt)) hHeld ?_
    try simp only [Act.put, List.setIfInBounds_toArray, List.set_cons_zero, List.set_cons_succ]
    refine wpAnyH_takeL (i := 2) (oi := _) (v := ?_) rfl (by kernel_rfl) (by kernel_rfl) (by kernel_rfl) (fun _ _ _ h => h) (Or.inl ⟨by rfl, ?_⟩) hHeld ?_
    rotate_left
    · (intro w' hSw; (try dsimp only at hSw); go_simp; try (with_reducible rfl))
    try simp only [Act.put, List.setIfInBounds_toArray, List.set_cons_zero, List.set_cons_succ]
    refine wpAnyH_takeL (i := 3) (oi := _) rfl (by kernel_rfl) (by kernel_rfl) (by kernel_rfl) (fun _ _ _ h => h) (yields_ldRd (by rfl) _ rfl (by rfl) (fun _ hb => V1.out.below hb V1.out.lt)) hHeld ?_
    try simp only [Act.put, List.setIfInBounds_toArray, List.set_cons_zero, List.set_cons_succ]
    refine wpAnyH_takeL (i := 5) (oi := _) (v := ?_) rfl (by kernel_rfl) (by kernel_rfl) (by kernel_rfl) (fun _ _ _ h => h) (Or.inl ⟨by rfl, ?_⟩) hHeld ?_
    rotate_left
    · (intro w' hSw; (try dsimp only at hSw); go_simp; try (with_reducible rfl))
    try simp only [Act.put, List.setIfInBounds_toArray, List.set_cons_zero, List.set_cons_succ]
    refine wpAnyH_takeL (i := 6) (oi := _) rfl (by kernel_rfl) (by kernel_rfl) (by kernel_rfl) (fun _ _ _ h => h) (yields_ldRz (by rfl) _ rfl (by rfl) (fun _ hb => V1.out.below hb V1.out.lt)) hHeld ?_
    try simp only [Act.put, List.setIfInBounds_toArray, List.set_cons_zero, List.set_cons_succ]
    refine wpAnyH_takeL (i := 7) (oi := _) (v := ?_) rfl (by kernel_rfl) (by kernel_rfl) (by kernel_rfl) (fun _ _ _ h => h) (Or.inl ⟨by rfl, ?_⟩) hHeld ?_
    rotate_left
    · (intro w' hSw; (try dsimp only at hSw); go_simp; try (with_reducible rfl))
    try simp only [Act.put, List.setIfInBounds_toArray, List.set_cons_zero, List.set_cons_succ]
    refine wpAnyH_takeL (i := 8) (oi := _) rfl (by kernel_rfl) (by kernel_rfl) (by kernel_rfl) (fun _ _ _ h => h) (yields_ldRd (by rfl) _ rfl (by rfl) (fun _ hb => V0.out.below hb V0.out.lt)) hHeld ?_
    try simp only [Act.put, List.setIfInBounds_toArray, List.set_cons_zero, List.set_cons_succ]
    refine wpAnyH_ready (rs := [4]) (by kernel_rfl) (by simp) ?_
    refine AllReadyH.consL (o := _) rfl (fun K hK => ?_) AllReadyH.nil
    clear hHeld
    go_simp
    go_at_call 105
    refine Calls.mono (times_any (z := m1) (FX.out.below HB.out) (GP.out.below HB.out) K1.out E1.out) ?_
    rintro e we ⟨P8, c8, rfl, ho, hb⟩
    replace HB := Lib.hid (HB.out.trans (hb.mono HB.out.size))
    have Z1 := Lib.hid (Zo.of_own ho)
    clear ho
    clear hb
    refine hK.out _ _ HB.out (fun hHeld => ?_)
    clear hK K
    try simp only [Act.put, List.setIfInBounds_toArray, List.set_cons_zero, List.set_cons_succ]
    refine wpAnyH_ready (rs := [9]) (by kernel_rfl) (by simp) ?_
    refine AllReadyH.consL (o := _) rfl (fun K hK => ?_) AllReadyH.nil
    clear hHeld
    go_simp
    go_at_call 105
    refine Calls.mono (times_any (z := m2') (GX.out.below HB.out) (FP.out.below HB.out) K2.out E2.out) ?_
    rintro e wf ⟨P9, c9, rfl, ho, hb⟩
    replace HB := Lib.hid (HB.out.trans (hb.mono HB.out.size))
    replace Z1 := Lib.hid (Z1.out.below hb)
    have Z2 := Lib.hid (Zo.of_own ho)
    clear ho
    clear hb
    refine hK.out _ _ HB.out (fun hHeld => ?_)
    clear hK K
    try simp only [Act.put, List.setIfInBounds_toArray, List.set_cons_zero, List.set_cons_succ]
    refine wpAnyH_ready (rs := [10]) (by kernel_rfl) (by simp) ?_
    refine AllReadyH.consL (o := _) rfl (fun K hK => ?_) AllReadyH.nil
    clear hHeld
    go_simp
    go_at_call 111
    refine Calls.mono (compare_k (x := m1) (y := m2') (r := r) Z1.out.in_ Z2.out.in_ ES.out) ?_
    rintro e wg ⟨rfl, hb⟩
    replace HB := Lib.hid (HB.out.trans (hb.mono HB.out.size))
    clear hb
    refine hK.out _ _ HB.out (fun hHeld => ?_)
    clear hK K
    try simp only [Act.put, List.setIfInBounds_toArray, List.set_cons_zero, List.set_cons_succ]
    refine wpAnyH_takeL (i := 11) (oi := _) (v := ?_) rfl (by kernel_rfl) (by kernel_rfl) (by kernel_rfl) (fun _ _ _ h => h) (Or.inl ⟨by rfl, ?_⟩) hHeld ?_
    rotate_left
    · (intro w' hSw; (try dsimp only at hSw); go_simp; try (with_reducible rfl))
    try simp only [Act.put, List.setIfInBounds_toArray, List.set_cons_zero, List.set_cons_succ]
    skip
    refine wpAnyH_done (by kernel_rfl) ?_ _
    have hb := HB.out
    replace B1 := Lib.hid (B1.out.trans (hb.mono B1.out.size))
    clear hHeld hb HB
    go_wp2
    go_ret
    exact ⟨rfl, B1.out⟩
  · obtain ⟨rfl, hY, b1, b2, rfl, hV, b3, b4⟩ := hok rfl
    have PX := prod_bound (a := X) (b := U) (M := 2147483647) (N := 2147483647) (by omega) (by omega)
    have PXV := prod_bound (a := X) (b := V) (M := 2147483647) (N := 2147483647) (by omega) (by omega)
    have PUY := prod_bound (a := U) (b := Y) (M := 2147483647) (N := 2147483647) (by omega) (by omega)
    have PYV := prod_bound (a := Y) (b := V) (M := 2147483647) (N := 2147483647) (by omega) (by omega)
    have ES : Hid (sg (X * V - U * Y) = r) := by show _ = _; rw [hV, hY, ← sgR_sub F0.out G0.out, FE.out, GE.out]; exact HR.out
    clear hY hV b1 b2 b3 b4 hok
    have hb : Below wc.heap.size wc ((wc.alloc (.cells #[.int .i64 X, .int .i64 Y] 121)).alloc (.cells #[.int .i64 U, .int .i64 V] 121)) := ((Below.refl _ _).alloc (Nat.le_refl _) _).alloc (by simp) _
    replace V0 := Lib.hid (V0.out.below hb V0.out.lt)
    replace V1 := Lib.hid (V1.out.below hb V1.out.lt)
    replace HX := Lib.hid (HX.out.below hb)
    replace HP := Lib.hid (HP.out.below hb)
    replace HY := Lib.hid (HY.out.below hb)
    replace HQ := Lib.hid (HQ.out.below hb)
    replace FX := Lib.hid (FX.out.below hb)
    replace FP := Lib.hid (FP.out.below hb)
    replace GX := Lib.hid (GX.out.below hb)
    replace GP := Lib.hid (GP.out.below hb)
    replace B1 := Lib.hid (B1.out.trans (hb.mono B1.out.size))
    clear hb
    have pc0 := Lib.hid trivial
    go_wp2_with (first
      | (clear pc0; go_at_call 110; refine Calls.mono (cmp_any (X * V) (U * Y) ES.out _) ?_; rintro e wd ⟨rfl, hb⟩; replace V0 := Lib.hid (V0.out.below hb V0.out.lt); replace V1 := Lib.hid (V1.out.below hb V1.out.lt); replace HX := Lib.hid (HX.out.below hb); replace HP := Lib.hid (HP.out.below hb); replace HY := Lib.hid (HY.out.below hb); replace HQ := Lib.hid (HQ.out.below hb); replace FX := Lib.hid (FX.out.below hb); replace FP := Lib.hid (FP.out.below hb); replace GX := Lib.hid (GX.out.below hb); replace GP := Lib.hid (GP.out.below hb); replace B1 := Lib.hid (B1.out.trans (hb.mono B1.out.size)); clear hb; have pc1 := Lib.hid trivial))
    clear pc1
    go_ret
    exact ⟨rfl, B1.out⟩
theorem start_RZ (w : World) (s0 : Bool) (A0 : Option Addr) (n0 c0 : Nat) (D0 : Option Addr) (m0 k0 : Nat) :
    Hid (Below w.heap.size w ((w.alloc (.cells #[.bool s0, .slice A0 n0 c0, .slice D0 m0 k0] 29)).alloc (.cells #[.bool false, .slice none 0 0] 27))) ∧ Hid (Rb ((w.alloc (.cells #[.bool s0, .slice A0 n0 c0, .slice D0 m0 k0] 29)).alloc (.cells #[.bool false, .slice none 0 0] 27)) (w.heap.size) s0 A0 n0 c0 D0 m0 k0) ∧ Hid (Zb ((w.alloc (.cells #[.bool s0, .slice A0 n0 c0, .slice D0 m0 k0] 29)).alloc (.cells #[.bool false, .slice none 0 0] 27)) (w.heap.size + 1) false none 0 0) := by
  refine ⟨?_, ?_, ?_⟩
  · exact (((Below.refl _ _).alloc (by first | exact Nat.le_refl _ | (simp; done) | (simp; omega)) _).alloc (by first | exact Nat.le_refl _ | (simp; done) | (simp; omega)) _)
  · have := Rb.new w s0 A0 n0 c0 D0 m0 k0
    exact (this.alloc _)
  · have := Zb.new (w.alloc (.cells #[.bool s0, .slice A0 n0 c0, .slice D0 m0 k0] 29)) false none 0 0
    simp only [World.size_alloc] at this
    exact this
/-- Floor, rest and denominator. -/
def GivesS (w : World) (x : Int) (p L : Nat) (e : Ending) (w' : World) : Prop :=
  ∃ P1 c1 P2 c2 D m k f r x' p', e = .returned (.tuple #[.agg #[.bool (decide (f < 0)), .slice P1 (ofv f.natAbs).length c1], .slice P2 (ofv r).length c2, .slice D m k]) ∧ Own w' w.heap.size P1 c1 (ofv f.natAbs) ∧ Nin w' P2 (ofv r).length c2 r ∧ Nin w' D m k p' ∧ 0 < p' ∧ mkRat x' p' = mkRat x p ∧ f = x' / (p' : Int) ∧ ((r : Nat) : Int) = x' % (p' : Int) ∧ m ≤ L ∧ (ofv f.natAbs).length ≤ L + 1 ∧ Below w.heap.size w w'
theorem ret_split {fn : Func} {R : Ending → World → Prop} {a : Act} {w : World} {j l i g n c m k m2 k2 : Nat} {s : Bool} {A D E : Option Addr} (hf : fn.results = #[.cell j 27, .tmp l, .tmp i]) (hd : a.defers = [])
    (hk : (a.tmps[j]?).getD undef = .pointer (some ⟨g, 0, none⟩)) (hl : (a.tmps[l]?).getD undef = .slice D m k) (hi : (a.tmps[i]?).getD undef = .slice E m2 k2) (h : Zb w g s A n c) (hR : R (.returned (.tuple #[.agg #[.bool s, .slice A n c], .slice D m k, .slice E m2 k2])) w) : bodyPost Tryz.prog fn R .ret a w := by
  obtain ⟨z1, z2⟩ := h.cells
  exact bodyPost_ret_by (v := .tuple #[.agg #[.bool s, .slice A n c], .slice D m k, .slice E m2 k2]) (by simp [results, hf, go_sem, hk, hl, hi, z1, z2]) hd hR
end Go.Proofs.YtfacndibfkamgaaGreat
