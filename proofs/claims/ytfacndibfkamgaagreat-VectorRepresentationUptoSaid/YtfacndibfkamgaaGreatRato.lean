/-
  Contracts of package rational: Mul, Add.
-/
import Derived.Test.YtfacndibfkamgaaGreatRatn
namespace Go.Proofs.YtfacndibfkamgaaGreat
open Go.RowKit
set_option linter.unusedVariables false

theorem start_RRR (w : World) (s0 : Bool) (A0 : Option Addr) (n0 c0 : Nat) (D0 : Option Addr) (m0 k0 : Nat) (s1 : Bool) (A1 : Option Addr) (n1 c1 : Nat) (D1 : Option Addr) (m1 k1 : Nat) :
    Hid (Below w.heap.size w (((w.alloc (.cells #[.bool s0, .slice A0 n0 c0, .slice D0 m0 k0] 29)).alloc (.cells #[.bool s1, .slice A1 n1 c1, .slice D1 m1 k1] 29)).alloc (.cells #[.bool false, .slice none 0 0, .slice none 0 0] 29))) ∧ Hid (Rb (((w.alloc (.cells #[.bool s0, .slice A0 n0 c0, .slice D0 m0 k0] 29)).alloc (.cells #[.bool s1, .slice A1 n1 c1, .slice D1 m1 k1] 29)).alloc (.cells #[.bool false, .slice none 0 0, .slice none 0 0] 29)) (w.heap.size) s0 A0 n0 c0 D0 m0 k0) ∧ Hid (Rb (((w.alloc (.cells #[.bool s0, .slice A0 n0 c0, .slice D0 m0 k0] 29)).alloc (.cells #[.bool s1, .slice A1 n1 c1, .slice D1 m1 k1] 29)).alloc (.cells #[.bool false, .slice none 0 0, .slice none 0 0] 29)) (w.heap.size + 1) s1 A1 n1 c1 D1 m1 k1) ∧ Hid (Rb (((w.alloc (.cells #[.bool s0, .slice A0 n0 c0, .slice D0 m0 k0] 29)).alloc (.cells #[.bool s1, .slice A1 n1 c1, .slice D1 m1 k1] 29)).alloc (.cells #[.bool false, .slice none 0 0, .slice none 0 0] 29)) (w.heap.size + 2) false none 0 0 none 0 0) := by
  refine ⟨?_, ?_, ?_, ?_⟩
  · exact ((((Below.refl _ _).alloc (by first | exact Nat.le_refl _ | (simp; done) | (simp; omega)) _).alloc (by first | exact Nat.le_refl _ | (simp; done) | (simp; omega)) _).alloc (by first | exact Nat.le_refl _ | (simp; done) | (simp; omega)) _)
  · have := Rb.new w s0 A0 n0 c0 D0 m0 k0
    exact ((this.alloc _).alloc _)
  · have := Rb.new (w.alloc (.cells #[.bool s0, .slice A0 n0 c0, .slice D0 m0 k0] 29)) s1 A1 n1 c1 D1 m1 k1
    simp only [World.size_alloc] at this
    exact (this.alloc _)
  · have := Rb.new ((w.alloc (.cells #[.bool s0, .slice A0 n0 c0, .slice D0 m0 k0] 29)).alloc (.cells #[.bool s1, .slice A1 n1 c1, .slice D1 m1 k1] 29)) false none 0 0 none 0 0
    simp only [World.size_alloc] at this
    exact this
theorem lowestShort_q {num z q : Int} {p d : Nat} (hq : (p : Int) = q) (hn : -9223372036854775807 ≤ num ∧ num ≤ 9223372036854775807) (hp : 0 < p ∧ p ≤ 9223372036854775807) (hz : (mkRat num p).num = z) (hd : (mkRat num p).den = d) (w : World) :
    Calls Tryz.prog 102 #[.int .i64 num, .int .i64 q] w (GivesR w z d) := by
  subst hq; exact lowestShort_any hn hp hz hd w
theorem prod_bound {a b : Int} {M N : Int} (ha : -M ≤ a ∧ a ≤ M) (hb : -N ≤ b ∧ b ≤ N) : -(M * N) ≤ a * b ∧ a * b ≤ M * N := by
  have h1 := Int.mul_nonneg (show 0 ≤ M - a by omega) (show 0 ≤ N - b by omega)
  have h2 := Int.mul_nonneg (show 0 ≤ M + a by omega) (show 0 ≤ N + b by omega)
  have h3 := Int.mul_nonneg (show 0 ≤ M - a by omega) (show 0 ≤ N + b by omega)
  have h4 := Int.mul_nonneg (show 0 ≤ M + a by omega) (show 0 ≤ N - b by omega)
  have e1 : (M - a) * (N - b) = M * N - M * b - a * N + a * b := by grind
  have e2 : (M + a) * (N + b) = M * N + M * b + a * N + a * b := by grind
  have e3 : (M - a) * (N + b) = M * N + M * b - a * N - a * b := by grind
  have e4 : (M + a) * (N - b) = M * N - M * b + a * N - a * b := by grind
  constructor <;> omega
set_option maxRecDepth 100000 in
set_option maxHeartbeats 16000000 in
theorem qmul_any {s t : Bool} {A D B E : Option Addr} {n c m k n2 c2 m2 k2 L : Nat} {x y : Int} {p q : Nat} {w : World} (h : Zin w s A n c x) (hp : Nin w D m k p) (h' : Zin w t B n2 c2 y) (hq : Nin w E m2 k2 q) (hn : n ≤ L) (hm : m ≤ L) (hn2 : n2 ≤ L) (hm2 : m2 ≤ L) (hL : 1 ≤ L ∧ L ≤ 35184372088829) {z : Int} {d : Nat} (hz : (mkRat x p * mkRat y q).num = z) (hd : (mkRat x p * mkRat y q).den = d) :
    Calls Tryz.prog 99 #[.agg #[.bool s, .slice A n c, .slice D m k], .agg #[.bool t, .slice B n2 c2, .slice E m2 k2]] w (GivesR w z d) := by
  obtain ⟨B1, V0, V1, V2⟩ := start_RRR w s A n c D m k t B n2 c2 E m2 k2
  have HX := Lib.hid (h.below B1.out)
  have HP := Lib.hid (hp.below B1.out)
  have HY := Lib.hid (h'.below B1.out)
  have HQ := Lib.hid (hq.below B1.out)
  have LN := Lib.hid hn
  have LM := Lib.hid hm
  have LN2 := Lib.hid hn2
  have LM2 := Lib.hid hm2
  have L1 := Lib.hid hL.1
  have L2 := Lib.hid hL.2
  have L4 : Hid (L ≤ 70368744177664) := Nat.le_trans hL.2 (by decide)
  have HZ := Lib.hid hz
  have HD := Lib.hid hd
  clear h hp h' hq hn hm hn2 hm2 hL hz hd
  go_enter Tryz.func99, Tryz.ntmps99
  go_wp2_with fail
  generalize (((w.alloc (.cells #[.bool s, .slice A n c, .slice D m k] 29)).alloc (.cells #[.bool t, .slice B n2 c2, .slice E m2 k2] 29)).alloc (.cells #[.bool false, .slice none 0 0, .slice none 0 0] 29)) = w2 at *
  have HB : Hid (Below w2.heap.size w2 w2.drew) := below_drewN _ w2 1
  have hHeld := HB.out
  refine wp_region_held_split (S := fun w' => Below w2.heap.size w2 w') 4 (by kernel_rfl) (by kernel_rfl) ?_
  simp only [List.take_succ_cons, List.take_zero, List.drop_succ_cons, List.drop_zero]
  refine wpAnyH_takeL (i := 0) (oi := _) rfl (by kernel_rfl) (by kernel_rfl) (by kernel_rfl) (fun _ _ _ h => h) (yields_ldR (by rfl) _ rfl (by rfl) (fun _ hb => V0.out.below hb V0.out.lt)) hHeld ?_
  try simp only [Act.put, List.setIfInBounds_toArray, List.set_cons_zero, List.set_cons_succ]
  refine wpAnyH_takeL (i := 2) (oi := _) rfl (by kernel_rfl) (by kernel_rfl) (by kernel_rfl) (fun _ _ _ h => h) (yields_ldR (by rfl) _ rfl (by rfl) (fun _ hb => V1.out.below hb V1.out.lt)) hHeld ?_
  try simp only [Act.put, List.setIfInBounds_toArray, List.set_cons_zero, List.set_cons_succ]
  refine wpAnyH_ready (rs := [1]) (by kernel_rfl) (by simp) ?_
  refine AllReadyH.consL (o := _) rfl (fun K hK => ?_) AllReadyH.nil
  clear hHeld
  go_simp
  go_at_call 89
  refine Calls.mono (proper_any (HX.out.below HB.out) (HP.out.below HB.out) LM.out L1.out L4.out) ?_
  rintro e wa ⟨F1, FA, Fn, Fc, FD, Fm, Fk, Fx, Fp, rfl, q1, q2, q3, q4, q5, q6, hb⟩
  replace HB := Lib.hid (HB.out.trans (hb.mono HB.out.size))
  have FX := Lib.hid q1
  have FP := Lib.hid q2
  have F0 := Lib.hid q3
  have FE := Lib.hid q4
  have FN := Lib.hid (Nat.le_trans q5 LN.out)
  have FM := Lib.hid q6
  clear q1 q2 q3 q4 q5 q6
  clear hb
  refine hK.out _ _ HB.out (fun hHeld => ?_)
  clear hK K
  try simp only [Act.put, List.setIfInBounds_toArray, List.set_cons_zero, List.set_cons_succ]
  refine wpAnyH_ready (rs := [3]) (by kernel_rfl) (by simp) ?_
  refine AllReadyH.consL (o := _) rfl (fun K hK => ?_) AllReadyH.nil
  clear hHeld
  go_simp
  go_at_call 89
  refine Calls.mono (proper_any (HY.out.below HB.out) (HQ.out.below HB.out) LM2.out L1.out L4.out) ?_
  rintro e wb ⟨G1, GA, Gn, Gc, GD, Gm, Gk, Gx, Gp, rfl, q1, q2, q3, q4, q5, q6, hb⟩
  replace HB := Lib.hid (HB.out.trans (hb.mono HB.out.size))
  replace FX := Lib.hid (FX.out.below hb)
  replace FP := Lib.hid (FP.out.below hb)
  have GX := Lib.hid q1
  have GP := Lib.hid q2
  have G0 := Lib.hid q3
  have GE := Lib.hid q4
  have GN := Lib.hid (Nat.le_trans q5 LN2.out)
  have GM := Lib.hid q6
  clear q1 q2 q3 q4 q5 q6
  clear hb
  refine hK.out _ _ HB.out (fun hHeld => ?_)
  clear hK K
  try simp only [Act.put, List.setIfInBounds_toArray, List.set_cons_zero, List.set_cons_succ]
  refine wpAnyH_done (by kernel_rfl) ?_ _
  show wpList _ _ _ _ _ _
  have hb := HB.out
  replace V0 := Lib.hid (V0.out.below hb V0.out.lt)
  replace V1 := Lib.hid (V1.out.below hb V1.out.lt)
  replace V2 := Lib.hid (V2.out.below hb V2.out.lt)
  replace HX := Lib.hid (HX.out.below hb)
  replace HP := Lib.hid (HP.out.below hb)
  replace HY := Lib.hid (HY.out.below hb)
  replace HQ := Lib.hid (HQ.out.below hb)
  replace B1 := Lib.hid (B1.out.trans (hb.mono B1.out.size))
  clear hb HB hHeld
  refine wpList_stR (by rfl) _ _ rfl (by rfl) (by rfl) V0.out ?_
  intro w5 hz hg
  replace V1 := Lib.hid (V1.out.gro hg (by omega))
  replace V2 := Lib.hid (V2.out.gro hg (by omega))
  replace HX := Lib.hid (HX.out.grR V0.out hg)
  replace HP := Lib.hid (HP.out.grR V0.out hg)
  replace HY := Lib.hid (HY.out.grR V0.out hg)
  replace HQ := Lib.hid (HQ.out.grR V0.out hg)
  replace FX := Lib.hid (FX.out.grR V0.out hg)
  replace FP := Lib.hid (FP.out.grR V0.out hg)
  replace GX := Lib.hid (GX.out.grR V0.out hg)
  replace GP := Lib.hid (GP.out.grR V0.out hg)
  replace B1 := Lib.hid (Below.gr B1.out (by omega) hg B1.out.size)
  replace V0 := Lib.hid hz
  clear hz hg
  refine wpList_stR (by rfl) _ _ rfl (by rfl) (by rfl) V1.out ?_
  intro w6 hz hg
  replace V0 := Lib.hid (V0.out.gro hg (by omega))
  replace V2 := Lib.hid (V2.out.gro hg (by omega))
  replace HX := Lib.hid (HX.out.grR V1.out hg)
  replace HP := Lib.hid (HP.out.grR V1.out hg)
  replace HY := Lib.hid (HY.out.grR V1.out hg)
  replace HQ := Lib.hid (HQ.out.grR V1.out hg)
  replace FX := Lib.hid (FX.out.grR V1.out hg)
  replace FP := Lib.hid (FP.out.grR V1.out hg)
  replace GX := Lib.hid (GX.out.grR V1.out hg)
  replace GP := Lib.hid (GP.out.grR V1.out hg)
  replace B1 := Lib.hid (Below.gr B1.out (by omega) hg B1.out.size)
  replace V1 := Lib.hid hz
  clear hz hg
  have pc0 := Lib.hid trivial
  go_wp2_with (first
    | (clear pc0; refine wpList_ldR (by rfl) _ rfl (by rfl) V0.out ?_; have pc1 := Lib.hid trivial)
    | (clear pc1; refine wpList_ldR (by rfl) _ rfl (by rfl) V1.out ?_; have pc2 := Lib.hid trivial))
  clear pc2
  refine (shortPair_any FX.out FP.out GX.out GP.out).mono ?_
  rintro e wc ⟨X, Y, U, V, ok, rfl, hok, hb⟩
  replace V0 := Lib.hid (V0.out.below hb V0.out.lt)
  replace V1 := Lib.hid (V1.out.below hb V1.out.lt)
  replace V2 := Lib.hid (V2.out.below hb V2.out.lt)
  replace HX := Lib.hid (HX.out.below hb)
  replace HP := Lib.hid (HP.out.below hb)
  replace HY := Lib.hid (HY.out.below hb)
  replace HQ := Lib.hid (HQ.out.below hb)
  replace FX := Lib.hid (FX.out.below hb)
  replace FP := Lib.hid (FP.out.below hb)
  replace GX := Lib.hid (GX.out.below hb)
  replace GP := Lib.hid (GP.out.below hb)
  replace B1 := Lib.hid (B1.out.trans (hb.mono B1.out.size))
  clear hb
  cases ok
  · clear hok
    have hb : Below wc.heap.size wc ((wc.alloc (.cells #[.int .i64 X, .int .i64 Y] 121)).alloc (.cells #[.int .i64 U, .int .i64 V] 121)) := ((Below.refl _ _).alloc (Nat.le_refl _) _).alloc (by simp) _
    replace V0 := Lib.hid (V0.out.below hb V0.out.lt)
    replace V1 := Lib.hid (V1.out.below hb V1.out.lt)
    replace V2 := Lib.hid (V2.out.below hb V2.out.lt)
    replace HX := Lib.hid (HX.out.below hb)
    replace HP := Lib.hid (HP.out.below hb)
    replace HY := Lib.hid (HY.out.below hb)
    replace HQ := Lib.hid (HQ.out.below hb)
    replace FX := Lib.hid (FX.out.below hb)
    replace FP := Lib.hid (FP.out.below hb)
    replace GX := Lib.hid (GX.out.below hb)
    replace GP := Lib.hid (GP.out.below hb)
    replace B1 := Lib.hid (B1.out.trans (hb.mono B1.out.size))
    clear hb
    go_wp2_with fail
    generalize ((wc.alloc (.cells #[.int .i64 X, .int .i64 Y] 121)).alloc (.cells #[.int .i64 U, .int .i64 V] 121)) = wd at *
    have EM : Hid (mkRat (Fx * Gx) (Fp * Gp) = mkRat x p * mkRat y q) := by show _ = _; rw [← Rat.mkRat_mul_mkRat, FE.out, GE.out]
    obtain ⟨m1, e1⟩ : ∃ z0 : Int, Fx * Gx = z0 := ⟨_, rfl⟩
    obtain ⟨m2', e2⟩ : ∃ z0 : Nat, Fp * Gp = z0 := ⟨_, rfl⟩
    have E1 := Lib.hid e1
    have E2 := Lib.hid e2
    have M20 : Hid (0 < m2') := by show _ < _; rw [← e2]; exact Nat.mul_pos F0.out G0.out
    have LF := Nat.le_trans (Nat.le_trans FX.out.len FN.out) L2.out
    have LG := Nat.le_trans (Nat.le_trans GX.out.len GN.out) L2.out
    have lm1 := zlen_mul (x := Fx) (y := Gx) LF LG
    have lm2 := len_mul Fp Gp
    have LFP := Nat.le_trans (Nat.le_trans FP.out.len FM.out) L2.out
    have LGP := Nat.le_trans (Nat.le_trans GP.out.len GM.out) L2.out
    rw [e1] at lm1
    rw [e2] at lm2
    have K1 : Hid (Fn + Gn ≤ 70368744177664) := by have := FN.out; have := GN.out; have := L2.out; show _ ≤ _; omega
    have K2 : Hid (Fm + Gm ≤ 70368744177664) := by have := FM.out; have := GM.out; have := L2.out; show _ ≤ _; omega
    have K3 : Hid ((ofv m1.natAbs).length ≤ 70368744177660) := by show _ ≤ _; omega
    have K4 : Hid ((ofv m2').length ≤ 70368744177660) := by show _ ≤ _; omega
    have HZ1 : Hid ((mkRat m1 m2').num = z) := by show _ = _; rw [← e1, ← e2, EM.out]; exact HZ.out
    have HD1 : Hid ((mkRat m1 m2').den = d) := by show _ = _; rw [← e1, ← e2, EM.out]; exact HD.out
    clear e1 e2 LF LG lm1 lm2 LFP LGP
    have HB : Hid (Below wd.heap.size wd wd.drew) := below_drewN _ wd 1
    refine wp_region_held_drew (S := fun w' => wd.grownBy w' (some (w.heap.size + 2))) (by kernel_rfl) ((grown_below HB.out : World.grownBy _ _ (some (w.heap.size + 2)))) (fun hHeld => ?_)
    refine wpAnyH_takeL (i := 0) (oi := _) (v := ?_) rfl (by kernel_rfl) (by kernel_rfl) (by kernel_rfl) (fun _ _ _ h => h) (Or.inl ⟨by rfl, ?_⟩) hHeld ?_
    rotate_left
    · (intro w' hSw; (try dsimp only at hSw); go_simp; try (with_reducible rfl))
    try simp only [Act.put, List.setIfInBounds_toArray, List.set_cons_zero, List.set_cons_succ]
    refine wpAnyH_takeL (i := 1) (oi := _) rfl (by kernel_rfl) (by kernel_rfl) (by kernel_rfl) (fun _ _ _ h => h) (yields_ldRz (by rfl) _ rfl (by rfl) (fun _ hb => V0.out.gro hb (by omega))) hHeld ?_
    try simp only [Act.put, List.setIfInBounds_toArray, List.set_cons_zero, List.set_cons_succ]
    refine wpAnyH_takeL (i := 2) (oi := _) (v := ?_) rfl (by kernel_rfl) (by kernel_rfl) (by kernel_rfl) (fun _ _ _ h => h) (Or.inl ⟨by rfl, ?_⟩) hHeld ?_
    rotate_left
    · (intro w' hSw; (try dsimp only at hSw); go_simp; try (with_reducible rfl))
    try simp only [Act.put, List.setIfInBounds_toArray, List.set_cons_zero, List.set_cons_succ]
    refine wpAnyH_takeL (i := 3) (oi := _) rfl (by kernel_rfl) (by kernel_rfl) (by kernel_rfl) (fun _ _ _ h => h) (yields_ldRz (by rfl) _ rfl (by rfl) (fun _ hb => V1.out.gro hb (by omega))) hHeld ?_
    try simp only [Act.put, List.setIfInBounds_toArray, List.set_cons_zero, List.set_cons_succ]
    refine wpAnyH_takeL (i := 5) (oi := _) (v := ?_) rfl (by kernel_rfl) (by kernel_rfl) (by kernel_rfl) (fun _ _ _ h => h) (Or.inl ⟨by rfl, ?_⟩) hHeld ?_
    rotate_left
    · (intro w' hSw; (try dsimp only at hSw); go_simp; try (with_reducible rfl))
    try simp only [Act.put, List.setIfInBounds_toArray, List.set_cons_zero, List.set_cons_succ]
    refine wpAnyH_takeL (i := 6) (oi := _) rfl (by kernel_rfl) (by kernel_rfl) (by kernel_rfl) (fun _ _ _ h => h) (yields_ldRd (by rfl) _ rfl (by rfl) (fun _ hb => V0.out.gro hb (by omega))) hHeld ?_
    try simp only [Act.put, List.setIfInBounds_toArray, List.set_cons_zero, List.set_cons_succ]
    refine wpAnyH_takeL (i := 7) (oi := _) (v := ?_) rfl (by kernel_rfl) (by kernel_rfl) (by kernel_rfl) (fun _ _ _ h => h) (Or.inl ⟨by rfl, ?_⟩) hHeld ?_
    rotate_left
    · (intro w' hSw; (try dsimp only at hSw); go_simp; try (with_reducible rfl))
    try simp only [Act.put, List.setIfInBounds_toArray, List.set_cons_zero, List.set_cons_succ]
    refine wpAnyH_takeL (i := 8) (oi := _) rfl (by kernel_rfl) (by kernel_rfl) (by kernel_rfl) (fun _ _ _ h => h) (yields_ldRd (by rfl) _ rfl (by rfl) (fun _ hb => V1.out.gro hb (by omega))) hHeld ?_
    try simp only [Act.put, List.setIfInBounds_toArray, List.set_cons_zero, List.set_cons_succ]
    refine wpAnyH_ready (rs := [4]) (by kernel_rfl) (by simp) ?_
    refine AllReadyH.consL (o := _) rfl (fun K hK => ?_) AllReadyH.nil
    clear hHeld
    go_simp
    go_at_call 76
    refine Calls.mono (mul_z (x := Fx) (y := Gx) (z := m1) (FX.out.below HB.out) (GX.out.below HB.out) K1.out E1.out) ?_
    rintro e we ⟨P3, c3, rfl, ho, hb⟩
    replace HB := Lib.hid (HB.out.trans (hb.mono HB.out.size))
    have ZM := Lib.hid (Zo.of_own ho)
    clear ho
    clear hb
    refine hK.out _ _ (grown_below HB.out : World.grownBy _ _ (some (w.heap.size + 2))) (fun hHeld => ?_)
    clear hK K
    try simp only [Act.put, List.setIfInBounds_toArray, List.set_cons_zero, List.set_cons_succ]
    refine wpAnyH_ready (rs := [9]) (by kernel_rfl) (by simp) ?_
    refine AllReadyH.consL (o := _) rfl (fun K hK => ?_) AllReadyH.nil
    clear hHeld
    go_simp
    go_at_call 106
    refine Calls.mono (mul_d (FP.out.below HB.out) (GP.out.below HB.out) K2.out E2.out) ?_
    rintro e wf ⟨P4, c4, rfl, ho, hb⟩
    replace HB := Lib.hid (HB.out.trans (hb.mono HB.out.size))
    replace ZM := Lib.hid (ZM.out.below hb)
    have NM2 := Lib.hid (Nin.of_own ho)
    clear ho
    clear hb
    refine hK.out _ _ (grown_below HB.out : World.grownBy _ _ (some (w.heap.size + 2))) (fun hHeld => ?_)
    clear hK K
    try simp only [Act.put, List.setIfInBounds_toArray, List.set_cons_zero, List.set_cons_succ]
    refine wpAnyH_ready (rs := [10]) (by kernel_rfl) (by simp) ?_
    refine AllReadyH.consL (o := _) rfl (fun K hK => ?_) AllReadyH.nil
    clear hHeld
    have SZ := Lib.hid (Nat.le_trans B1.out.size HB.out.size)
    go_simp
    go_at_call 90
    refine Calls.mono (lowest_any (z := z) (d := d) ZM.out.in_ NM2.out M20.out K3.out K4.out HZ1.out HD1.out) ?_
    rintro e wg ⟨P1, c1, P2, c2, rfl, ho, ho2, hb⟩
    replace HB := Lib.hid (HB.out.trans (hb.mono HB.out.size))
    have OQ := Lib.hid (ho.mono SZ.out)
    have OD := Lib.hid (ho2.mono SZ.out)
    clear ho ho2 SZ
    clear hb
    refine hK.out _ _ (grown_below HB.out : World.grownBy _ _ (some (w.heap.size + 2))) (fun hHeld => ?_)
    clear hK K
    try simp only [Act.put, List.setIfInBounds_toArray, List.set_cons_zero, List.set_cons_succ]
    refine wpAnyH_ready (rs := [11]) (by kernel_rfl) (by simp) ?_
    refine AllReadyH.consL (o := _) rfl (fun K hK => ?_) AllReadyH.nil
    clear hHeld
    have hb := HB.out
    replace V0 := Lib.hid (V0.out.below hb V0.out.lt)
    replace V1 := Lib.hid (V1.out.below hb V1.out.lt)
    replace V2 := Lib.hid (V2.out.below hb V2.out.lt)
    replace HX := Lib.hid (HX.out.below hb)
    replace HP := Lib.hid (HP.out.below hb)
    replace HY := Lib.hid (HY.out.below hb)
    replace HQ := Lib.hid (HQ.out.below hb)
    replace FX := Lib.hid (FX.out.below hb)
    replace FP := Lib.hid (FP.out.below hb)
    replace GX := Lib.hid (GX.out.below hb)
    replace GP := Lib.hid (GP.out.below hb)
    replace B1 := Lib.hid (B1.out.trans (hb.mono B1.out.size))
    rw [if_pos (by rfl)]
    refine wp_stR _ _ rfl (by rfl) (by rfl) V2.out ?_
    intro wst hz hg
    replace V0 := Lib.hid (V0.out.gro hg (by omega))
    replace V1 := Lib.hid (V1.out.gro hg (by omega))
    replace HX := Lib.hid (HX.out.grR V2.out hg)
    replace HP := Lib.hid (HP.out.grR V2.out hg)
    replace HY := Lib.hid (HY.out.grR V2.out hg)
    replace HQ := Lib.hid (HQ.out.grR V2.out hg)
    replace FX := Lib.hid (FX.out.grR V2.out hg)
    replace FP := Lib.hid (FP.out.grR V2.out hg)
    replace GX := Lib.hid (GX.out.grR V2.out hg)
    replace GP := Lib.hid (GP.out.grR V2.out hg)
    replace OQ := Lib.hid (OQ.out.grR V2.out hg)
    replace OD := Lib.hid (OD.out.grR V2.out hg)
    replace B1 := Lib.hid (Below.gr B1.out (by omega) hg B1.out.size)
    replace V2 := Lib.hid hz
    refine hK.out _ _ (World.grownBy.trans (grown_below hb) hg) (fun hHeld => ?_)
    clear hK K hg hb HB hz
    try simp only [Act.put]
    skip
    refine wpAnyH_done (by kernel_rfl) ?_ _
    clear hHeld
    go_wp2
    exact ret_rb Tryz.results99 rfl rfl V2.out ⟨_, _, _, _, rfl, OQ.out, OD.out, B1.out⟩
  · obtain ⟨rfl, hY, b1, b2, rfl, hV, b3, b4⟩ := hok rfl
    have PX := prod_bound (a := X) (b := U) (M := 2147483647) (N := 2147483647) (by omega) (by omega)
    have PXV := prod_bound (a := X) (b := V) (M := 2147483647) (N := 2147483647) (by omega) (by omega)
    have PUY := prod_bound (a := U) (b := Y) (M := 2147483647) (N := 2147483647) (by omega) (by omega)
    have PYV := prod_bound (a := Y) (b := V) (M := 2147483647) (N := 2147483647) (by omega) (by omega)
    have IN : Hid (-9223372036854775807 ≤ X * U ∧ X * U ≤ 9223372036854775807) := by show _ ∧ _; omega
    have HZ1 : Hid ((mkRat (X * U) (Fp * Gp)).num = z) := by show _ = _; rw [← Rat.mkRat_mul_mkRat, FE.out, GE.out]; exact HZ.out
    have HD1 : Hid ((mkRat (X * U) (Fp * Gp)).den = d) := by show _ = _; rw [← Rat.mkRat_mul_mkRat, FE.out, GE.out]; exact HD.out
    have HYV : Hid (((Fp * Gp : Nat) : Int) = Y * V) := by show _ = _; rw [hY, hV, Int.natCast_mul]
    have IP : Hid (0 < Fp * Gp ∧ Fp * Gp ≤ 9223372036854775807) := by have h1 := HYV.out; exact ⟨Nat.mul_pos F0.out G0.out, by omega⟩
    clear hY hV b1 b2 b3 b4 hok
    have hb : Below wc.heap.size wc ((wc.alloc (.cells #[.int .i64 X, .int .i64 Y] 121)).alloc (.cells #[.int .i64 U, .int .i64 V] 121)) := ((Below.refl _ _).alloc (Nat.le_refl _) _).alloc (by simp) _
    replace V0 := Lib.hid (V0.out.below hb V0.out.lt)
    replace V1 := Lib.hid (V1.out.below hb V1.out.lt)
    replace V2 := Lib.hid (V2.out.below hb V2.out.lt)
    replace HX := Lib.hid (HX.out.below hb)
    replace HP := Lib.hid (HP.out.below hb)
    replace HY := Lib.hid (HY.out.below hb)
    replace HQ := Lib.hid (HQ.out.below hb)
    replace FX := Lib.hid (FX.out.below hb)
    replace FP := Lib.hid (FP.out.below hb)
    replace GX := Lib.hid (GX.out.below hb)
    replace GP := Lib.hid (GP.out.below hb)
    replace B1 := Lib.hid (B1.out.trans (hb.mono B1.out.size))
    clear hb
    have pc0 := Lib.hid trivial
    go_wp2_with (first
      | (clear pc0; have SZ := Lib.hid B1.out.size; go_at_call 102; refine Calls.mono (lowestShort_q (z := z) (d := d) HYV.out IN.out IP.out HZ1.out HD1.out _) ?_; rintro e wd ⟨P1, c1, P2, c2, rfl, ho, ho2, hb⟩; replace V0 := Lib.hid (V0.out.below hb V0.out.lt); replace V1 := Lib.hid (V1.out.below hb V1.out.lt); replace V2 := Lib.hid (V2.out.below hb V2.out.lt); replace HX := Lib.hid (HX.out.below hb); replace HP := Lib.hid (HP.out.below hb); replace HY := Lib.hid (HY.out.below hb); replace HQ := Lib.hid (HQ.out.below hb); replace FX := Lib.hid (FX.out.below hb); replace FP := Lib.hid (FP.out.below hb); replace GX := Lib.hid (GX.out.below hb); replace GP := Lib.hid (GP.out.below hb); replace B1 := Lib.hid (B1.out.trans (hb.mono B1.out.size)); have OQ := Lib.hid (ho.mono SZ.out); have OD := Lib.hid (ho2.mono SZ.out); clear ho ho2 SZ; clear hb; have pc1 := Lib.hid trivial)
      | (clear pc1; refine wpList_stR (by rfl) _ _ rfl (by rfl) (by rfl) V2.out ?_; intro we hz hg; replace V0 := Lib.hid (V0.out.gro hg (by omega)); replace V1 := Lib.hid (V1.out.gro hg (by omega)); replace HX := Lib.hid (HX.out.grR V2.out hg); replace HP := Lib.hid (HP.out.grR V2.out hg); replace HY := Lib.hid (HY.out.grR V2.out hg); replace HQ := Lib.hid (HQ.out.grR V2.out hg); replace FX := Lib.hid (FX.out.grR V2.out hg); replace FP := Lib.hid (FP.out.grR V2.out hg); replace GX := Lib.hid (GX.out.grR V2.out hg); replace GP := Lib.hid (GP.out.grR V2.out hg); replace OQ := Lib.hid (OQ.out.grR V2.out hg); replace OD := Lib.hid (OD.out.grR V2.out hg); replace B1 := Lib.hid (Below.gr B1.out (by omega) hg B1.out.size); replace V2 := Lib.hid hz; clear hz hg; have pc2 := Lib.hid trivial))
    clear pc2
    exact ret_rb Tryz.results99 rfl rfl V2.out ⟨_, _, _, _, rfl, OQ.out, OD.out, B1.out⟩
set_option maxRecDepth 100000 in
set_option maxHeartbeats 16000000 in
theorem qadd_any {s t : Bool} {A D B E : Option Addr} {n c m k n2 c2 m2 k2 L : Nat} {x y : Int} {p q : Nat} {w : World} (h : Zin w s A n c x) (hp : Nin w D m k p) (h' : Zin w t B n2 c2 y) (hq : Nin w E m2 k2 q) (hn : n ≤ L) (hm : m ≤ L) (hn2 : n2 ≤ L) (hm2 : m2 ≤ L) (hL : 1 ≤ L ∧ L ≤ 35184372088829) {z : Int} {d : Nat} (hz : (mkRat x p + mkRat y q).num = z) (hd : (mkRat x p + mkRat y q).den = d) :
    Calls Tryz.prog 62 #[.agg #[.bool s, .slice A n c, .slice D m k], .agg #[.bool t, .slice B n2 c2, .slice E m2 k2]] w (GivesR w z d) := by
  obtain ⟨B1, V0, V1, V2⟩ := start_RRR w s A n c D m k t B n2 c2 E m2 k2
  have HX := Lib.hid (h.below B1.out)
  have HP := Lib.hid (hp.below B1.out)
  have HY := Lib.hid (h'.below B1.out)
  have HQ := Lib.hid (hq.below B1.out)
  have LN := Lib.hid hn
  have LM := Lib.hid hm
  have LN2 := Lib.hid hn2
  have LM2 := Lib.hid hm2
  have L1 := Lib.hid hL.1
  have L2 := Lib.hid hL.2
  have L4 : Hid (L ≤ 70368744177664) := Nat.le_trans hL.2 (by decide)
  have HZ := Lib.hid hz
  have HD := Lib.hid hd
  clear h hp h' hq hn hm hn2 hm2 hL hz hd
  go_enter Tryz.func62, Tryz.ntmps62
  go_wp2_with fail
  generalize (((w.alloc (.cells #[.bool s, .slice A n c, .slice D m k] 29)).alloc (.cells #[.bool t, .slice B n2 c2, .slice E m2 k2] 29)).alloc (.cells #[.bool false, .slice none 0 0, .slice none 0 0] 29)) = w2 at *
  have HB : Hid (Below w2.heap.size w2 w2.drew) := below_drewN _ w2 1
  have hHeld := HB.out
  refine wp_region_held_split (S := fun w' => Below w2.heap.size w2 w') 4 (by kernel_rfl) (by kernel_rfl) ?_
  simp only [List.take_succ_cons, List.take_zero, List.drop_succ_cons, List.drop_zero]
  refine wpAnyH_takeL (i := 0) (oi := _) rfl (by kernel_rfl) (by kernel_rfl) (by kernel_rfl) (fun _ _ _ h => h) (yields_ldR (by rfl) _ rfl (by rfl) (fun _ hb => V0.out.below hb V0.out.lt)) hHeld ?_
  try simp only [Act.put, List.setIfInBounds_toArray, List.set_cons_zero, List.set_cons_succ]
  refine wpAnyH_takeL (i := 2) (oi := _) rfl (by kernel_rfl) (by kernel_rfl) (by kernel_rfl) (fun _ _ _ h => h) (yields_ldR (by rfl) _ rfl (by rfl) (fun _ hb => V1.out.below hb V1.out.lt)) hHeld ?_
  try simp only [Act.put, List.setIfInBounds_toArray, List.set_cons_zero, List.set_cons_succ]
  refine wpAnyH_ready (rs := [1]) (by kernel_rfl) (by simp) ?_
  refine AllReadyH.consL (o := _) rfl (fun K hK => ?_) AllReadyH.nil
  clear hHeld
  go_simp
  go_at_call 89
  refine Calls.mono (proper_any (HX.out.below HB.out) (HP.out.below HB.out) LM.out L1.out L4.out) ?_
  rintro e wa ⟨F1, FA, Fn, Fc, FD, Fm, Fk, Fx, Fp, rfl, q1, q2, q3, q4, q5, q6, hb⟩
  replace HB := Lib.hid (HB.out.trans (hb.mono HB.out.size))
  have FX := Lib.hid q1
  have FP := Lib.hid q2
  have F0 := Lib.hid q3
  have FE := Lib.hid q4
  have FN := Lib.hid (Nat.le_trans q5 LN.out)
  have FM := Lib.hid q6
  clear q1 q2 q3 q4 q5 q6
  clear hb
  refine hK.out _ _ HB.out (fun hHeld => ?_)
  clear hK K
  try simp only [Act.put, List.setIfInBounds_toArray, List.set_cons_zero, List.set_cons_succ]
  refine wpAnyH_ready (rs := [3]) (by kernel_rfl) (by simp) ?_
  refine AllReadyH.consL (o := _) rfl (fun K hK => ?_) AllReadyH.nil
  clear hHeld
  go_simp
  go_at_call 89
  refine Calls.mono (proper_any (HY.out.below HB.out) (HQ.out.below HB.out) LM2.out L1.out L4.out) ?_
  rintro e wb ⟨G1, GA, Gn, Gc, GD, Gm, Gk, Gx, Gp, rfl, q1, q2, q3, q4, q5, q6, hb⟩
  replace HB := Lib.hid (HB.out.trans (hb.mono HB.out.size))
  replace FX := Lib.hid (FX.out.below hb)
  replace FP := Lib.hid (FP.out.below hb)
  have GX := Lib.hid q1
  have GP := Lib.hid q2
  have G0 := Lib.hid q3
  have GE := Lib.hid q4
  have GN := Lib.hid (Nat.le_trans q5 LN2.out)
  have GM := Lib.hid q6
  clear q1 q2 q3 q4 q5 q6
  clear hb
  refine hK.out _ _ HB.out (fun hHeld => ?_)
  clear hK K
  try simp only [Act.put, List.setIfInBounds_toArray, List.set_cons_zero, List.set_cons_succ]
  refine wpAnyH_done (by kernel_rfl) ?_ _
  show wpList _ _ _ _ _ _
  have hb := HB.out
  replace V0 := Lib.hid (V0.out.below hb V0.out.lt)
  replace V1 := Lib.hid (V1.out.below hb V1.out.lt)
  replace V2 := Lib.hid (V2.out.below hb V2.out.lt)
  replace HX := Lib.hid (HX.out.below hb)
  replace HP := Lib.hid (HP.out.below hb)
  replace HY := Lib.hid (HY.out.below hb)
  replace HQ := Lib.hid (HQ.out.below hb)
  replace B1 := Lib.hid (B1.out.trans (hb.mono B1.out.size))
  clear hb HB hHeld
  refine wpList_stR (by rfl) _ _ rfl (by rfl) (by rfl) V0.out ?_
  intro w5 hz hg
  replace V1 := Lib.hid (V1.out.gro hg (by omega))
  replace V2 := Lib.hid (V2.out.gro hg (by omega))
  replace HX := Lib.hid (HX.out.grR V0.out hg)
  replace HP := Lib.hid (HP.out.grR V0.out hg)
  replace HY := Lib.hid (HY.out.grR V0.out hg)
  replace HQ := Lib.hid (HQ.out.grR V0.out hg)
  replace FX := Lib.hid (FX.out.grR V0.out hg)
  replace FP := Lib.hid (FP.out.grR V0.out hg)
  replace GX := Lib.hid (GX.out.grR V0.out hg)
  replace GP := Lib.hid (GP.out.grR V0.out hg)
  replace B1 := Lib.hid (Below.gr B1.out (by omega) hg B1.out.size)
  replace V0 := Lib.hid hz
  clear hz hg
  refine wpList_stR (by rfl) _ _ rfl (by rfl) (by rfl) V1.out ?_
  intro w6 hz hg
  replace V0 := Lib.hid (V0.out.gro hg (by omega))
  replace V2 := Lib.hid (V2.out.gro hg (by omega))
  replace HX := Lib.hid (HX.out.grR V1.out hg)
  replace HP := Lib.hid (HP.out.grR V1.out hg)
  replace HY := Lib.hid (HY.out.grR V1.out hg)
  replace HQ := Lib.hid (HQ.out.grR V1.out hg)
  replace FX := Lib.hid (FX.out.grR V1.out hg)
  replace FP := Lib.hid (FP.out.grR V1.out hg)
  replace GX := Lib.hid (GX.out.grR V1.out hg)
  replace GP := Lib.hid (GP.out.grR V1.out hg)
  replace B1 := Lib.hid (Below.gr B1.out (by omega) hg B1.out.size)
  replace V1 := Lib.hid hz
  clear hz hg
  have pc0 := Lib.hid trivial
  go_wp2_with (first
    | (clear pc0; refine wpList_ldR (by rfl) _ rfl (by rfl) V0.out ?_; have pc1 := Lib.hid trivial)
    | (clear pc1; refine wpList_ldR (by rfl) _ rfl (by rfl) V1.out ?_; have pc2 := Lib.hid trivial))
  clear pc2
  refine (shortPair_any FX.out FP.out GX.out GP.out).mono ?_
  rintro e wc ⟨X, Y, U, V, ok, rfl, hok, hb⟩
  replace V0 := Lib.hid (V0.out.below hb V0.out.lt)
  replace V1 := Lib.hid (V1.out.below hb V1.out.lt)
  replace V2 := Lib.hid (V2.out.below hb V2.out.lt)
  replace HX := Lib.hid (HX.out.below hb)
  replace HP := Lib.hid (HP.out.below hb)
  replace HY := Lib.hid (HY.out.below hb)
  replace HQ := Lib.hid (HQ.out.below hb)
  replace FX := Lib.hid (FX.out.below hb)
  replace FP := Lib.hid (FP.out.below hb)
  replace GX := Lib.hid (GX.out.below hb)
  replace GP := Lib.hid (GP.out.below hb)
  replace B1 := Lib.hid (B1.out.trans (hb.mono B1.out.size))
  clear hb
  cases ok
  · clear hok
    obtain ⟨cg, ecg⟩ : ∃ z0 : Nat, Nat.gcd Fp Gp = z0 := ⟨_, rfl⟩
    obtain ⟨ra, era⟩ : ∃ z0 : Nat, Fp / cg = z0 := ⟨_, rfl⟩
    obtain ⟨rb, erb⟩ : ∃ z0 : Nat, Gp / cg = z0 := ⟨_, rfl⟩
    obtain ⟨sa, esa⟩ : ∃ z0 : Nat, Fp % cg = z0 := ⟨_, rfl⟩
    obtain ⟨sb, esb⟩ : ∃ z0 : Nat, Gp % cg = z0 := ⟨_, rfl⟩
    obtain ⟨eSum, b0, a0, ale, ble⟩ := mk_add_lcm (x := Fx) (y := Gx) F0.out G0.out ecg era erb
    obtain ⟨m1, e1⟩ : ∃ z0 : Int, Fx * (rb : Int) = z0 := ⟨_, rfl⟩
    obtain ⟨m2', e2⟩ : ∃ z0 : Int, Gx * (ra : Int) = z0 := ⟨_, rfl⟩
    obtain ⟨m3, e3⟩ : ∃ z0 : Int, m1 + m2' = z0 := ⟨_, rfl⟩
    obtain ⟨m4, e4⟩ : ∃ z0 : Nat, Fp * rb = z0 := ⟨_, rfl⟩
    have ECG := Lib.hid ecg
    have ERA := Lib.hid era
    have ERB := Lib.hid erb
    have ESA := Lib.hid esa
    have ESB := Lib.hid esb
    have E1 := Lib.hid e1
    have E2 := Lib.hid e2
    have E3 := Lib.hid e3
    have E4 := Lib.hid e4
    have CG0 : Hid (0 < cg) := by show _ < _; rw [← ecg]; exact Nat.gcd_pos_of_pos_left _ F0.out
    have M40 : Hid (0 < m4) := by show _ < _; rw [← e4]; exact Nat.mul_pos F0.out b0
    have LF := Nat.le_trans (Nat.le_trans FX.out.len FN.out) L2.out
    have LG := Nat.le_trans (Nat.le_trans GX.out.len GN.out) L2.out
    have LFP := Nat.le_trans (Nat.le_trans FP.out.len FM.out) L2.out
    have LGP := Nat.le_trans (Nat.le_trans GP.out.len GM.out) L2.out
    have lra := Nat.le_trans (len_mono ale) LFP
    have lrb := Nat.le_trans (len_mono ble) LGP
    have lm1 := zlen_mul (x := Fx) (y := (rb : Int)) LF (by simpa using lrb)
    have lm2 := zlen_mul (x := Gx) (y := (ra : Int)) LG (by simpa using lra)
    rw [e1] at lm1
    rw [e2] at lm2
    have lm3 := zlen_add lm1 lm2
    rw [e3] at lm3
    have lm4 := len_mul Fp rb
    rw [e4] at lm4
    have K1 : Hid (Fn + (ofv rb).length ≤ 70368744177664) := by have := FN.out; have := L2.out; show _ ≤ _; omega
    have K2 : Hid (Gn + (ofv ra).length ≤ 70368744177664) := by have := GN.out; have := L2.out; show _ ≤ _; omega
    have K3 : Hid ((ofv m1.natAbs).length ≤ 70368744177663) := by show _ ≤ _; omega
    have K4 : Hid ((ofv m2'.natAbs).length ≤ 70368744177663) := by show _ ≤ _; omega
    have K5 : Hid ((ofv m3.natAbs).length ≤ 70368744177660) := by show _ ≤ _; omega
    have K6 : Hid (Fm + (ofv rb).length ≤ 70368744177664) := by have := FM.out; have := L2.out; show _ ≤ _; omega
    have K7 : Hid ((ofv m4).length ≤ 70368744177660) := by show _ ≤ _; omega
    have K8 : Hid (Fm ≤ 70368744177663) := by have := FM.out; have := L2.out; show _ ≤ _; omega
    have K9 : Hid (Gm ≤ 70368744177663) := by have := GM.out; have := L2.out; show _ ≤ _; omega
    have EM : mkRat m3 m4 = mkRat x p + mkRat y q := by rw [← e3, ← e4, ← e1, ← e2, ← eSum, FE.out, GE.out]
    have HZ1 : Hid ((mkRat m3 m4).num = z) := by show _ = _; rw [EM]; exact HZ.out
    have HD1 : Hid ((mkRat m3 m4).den = d) := by show _ = _; rw [EM]; exact HD.out
    clear ecg era erb esa esb eSum b0 a0 ale ble e1 e2 e3 e4 LF LG LFP LGP lra lrb lm1 lm2 lm3 lm4 EM
    have hb : Below wc.heap.size wc ((wc.alloc (.cells #[.int .i64 X, .int .i64 Y] 121)).alloc (.cells #[.int .i64 U, .int .i64 V] 121)) := ((Below.refl _ _).alloc (Nat.le_refl _) _).alloc (by simp) _
    replace V0 := Lib.hid (V0.out.below hb V0.out.lt)
    replace V1 := Lib.hid (V1.out.below hb V1.out.lt)
    replace V2 := Lib.hid (V2.out.below hb V2.out.lt)
    replace HX := Lib.hid (HX.out.below hb)
    replace HP := Lib.hid (HP.out.below hb)
    replace HY := Lib.hid (HY.out.below hb)
    replace HQ := Lib.hid (HQ.out.below hb)
    replace FX := Lib.hid (FX.out.below hb)
    replace FP := Lib.hid (FP.out.below hb)
    replace GX := Lib.hid (GX.out.below hb)
    replace GP := Lib.hid (GP.out.below hb)
    replace B1 := Lib.hid (B1.out.trans (hb.mono B1.out.size))
    clear hb
    have pc0 := Lib.hid trivial
    go_wp2_with (first
      | (clear pc0; refine wpList_ldRd (by rfl) _ rfl (by rfl) V0.out ?_; have pc1 := Lib.hid trivial)
      | (clear pc1; refine wpList_ldRd (by rfl) _ rfl (by rfl) V1.out ?_; have pc2 := Lib.hid trivial)
      | (clear pc2; go_at_call 103; refine Calls.mono (gcd_d FP.out GP.out K8.out K9.out ECG.out) ?_; rintro e wd ⟨P3, c3, rfl, ho, hb⟩; replace V0 := Lib.hid (V0.out.below hb V0.out.lt); replace V1 := Lib.hid (V1.out.below hb V1.out.lt); replace V2 := Lib.hid (V2.out.below hb V2.out.lt); replace HX := Lib.hid (HX.out.below hb); replace HP := Lib.hid (HP.out.below hb); replace HY := Lib.hid (HY.out.below hb); replace HQ := Lib.hid (HQ.out.below hb); replace FX := Lib.hid (FX.out.below hb); replace FP := Lib.hid (FP.out.below hb); replace GX := Lib.hid (GX.out.below hb); replace GP := Lib.hid (GP.out.below hb); replace B1 := Lib.hid (B1.out.trans (hb.mono B1.out.size)); have NC := Lib.hid (Nin.of_own ho); clear ho; clear hb; have pc3 := Lib.hid trivial)
      | (clear pc3; refine wpList_ldRd (by rfl) _ rfl (by rfl) V0.out ?_; have pc4 := Lib.hid trivial)
      | (clear pc4; go_at_call 104; refine Calls.mono (dm_d FP.out NC.out K8.out CG0.out ERA.out ESA.out) ?_; rintro e we ⟨P4, c4, P5, c5, rfl, ho, ho2, hb⟩; replace V0 := Lib.hid (V0.out.below hb V0.out.lt); replace V1 := Lib.hid (V1.out.below hb V1.out.lt); replace V2 := Lib.hid (V2.out.below hb V2.out.lt); replace HX := Lib.hid (HX.out.below hb); replace HP := Lib.hid (HP.out.below hb); replace HY := Lib.hid (HY.out.below hb); replace HQ := Lib.hid (HQ.out.below hb); replace FX := Lib.hid (FX.out.below hb); replace FP := Lib.hid (FP.out.below hb); replace GX := Lib.hid (GX.out.below hb); replace GP := Lib.hid (GP.out.below hb); replace NC := Lib.hid (NC.out.below hb); replace B1 := Lib.hid (B1.out.trans (hb.mono B1.out.size)); have NA := Lib.hid (Nin.of_own ho); clear ho ho2; clear hb; have pc5 := Lib.hid trivial)
      | (clear pc5; refine wpList_ldRd (by rfl) _ rfl (by rfl) V1.out ?_; have pc6 := Lib.hid trivial)
      | (clear pc6; go_at_call 104; refine Calls.mono (dm_d GP.out NC.out K9.out CG0.out ERB.out ESB.out) ?_; rintro e wf ⟨P6, c6, P7, c7, rfl, ho, ho2, hb⟩; replace V0 := Lib.hid (V0.out.below hb V0.out.lt); replace V1 := Lib.hid (V1.out.below hb V1.out.lt); replace V2 := Lib.hid (V2.out.below hb V2.out.lt); replace HX := Lib.hid (HX.out.below hb); replace HP := Lib.hid (HP.out.below hb); replace HY := Lib.hid (HY.out.below hb); replace HQ := Lib.hid (HQ.out.below hb); replace FX := Lib.hid (FX.out.below hb); replace FP := Lib.hid (FP.out.below hb); replace GX := Lib.hid (GX.out.below hb); replace GP := Lib.hid (GP.out.below hb); replace NC := Lib.hid (NC.out.below hb); replace NA := Lib.hid (NA.out.below hb); replace B1 := Lib.hid (B1.out.trans (hb.mono B1.out.size)); have NB := Lib.hid (Nin.of_own ho); clear ho ho2; clear hb; have pc7 := Lib.hid trivial))
    clear pc7
    have HB : Hid (Below wf.heap.size wf wf.drew) := below_drewN _ wf 1
    refine wp_region_held_drew (S := fun w' => wf.grownBy w' (some (w.heap.size + 2))) (by kernel_rfl) ((grown_below HB.out : World.grownBy _ _ (some (w.heap.size + 2)))) (fun hHeld => ?_)
    refine wpAnyH_takeL (i := 0) (oi := _) (v := ?_) rfl (by kernel_rfl) (by kernel_rfl) (by kernel_rfl) (fun _ _ _ h => h) (Or.inl ⟨by rfl, ?_⟩) hHeld ?_
    rotate_left
    · (intro w' hSw; (try dsimp only at hSw); go_simp; try (with_reducible rfl))
    try simp only [Act.put, List.setIfInBounds_toArray, List.set_cons_zero, List.set_cons_succ]
    refine wpAnyH_takeL (i := 1) (oi := _) rfl (by kernel_rfl) (by kernel_rfl) (by kernel_rfl) (fun _ _ _ h => h) (yields_ldRz (by rfl) _ rfl (by rfl) (fun _ hb => V0.out.gro hb (by omega))) hHeld ?_
    try simp only [Act.put, List.setIfInBounds_toArray, List.set_cons_zero, List.set_cons_succ]
    refine wpAnyH_takeL (i := 2) (oi := _) (v := ?_) rfl (by kernel_rfl) (by kernel_rfl) (by kernel_rfl) (fun _ _ _ h => h) (Or.inl ⟨by rfl, ?_⟩) hHeld ?_
    rotate_left
    · (intro w' hSw; (try dsimp only at hSw); go_simp; try (with_reducible rfl))
    try simp only [Act.put, List.setIfInBounds_toArray, List.set_cons_zero, List.set_cons_succ]
    refine wpAnyH_takeL (i := 4) (oi := _) (v := ?_) rfl (by kernel_rfl) (by kernel_rfl) (by kernel_rfl) (fun _ _ _ h => h) (Or.inl ⟨by rfl, ?_⟩) hHeld ?_
    rotate_left
    · (intro w' hSw; (try dsimp only at hSw); go_simp; try (with_reducible rfl))
    try simp only [Act.put, List.setIfInBounds_toArray, List.set_cons_zero, List.set_cons_succ]
    refine wpAnyH_takeL (i := 5) (oi := _) rfl (by kernel_rfl) (by kernel_rfl) (by kernel_rfl) (fun _ _ _ h => h) (yields_ldRz (by rfl) _ rfl (by rfl) (fun _ hb => V1.out.gro hb (by omega))) hHeld ?_
    try simp only [Act.put, List.setIfInBounds_toArray, List.set_cons_zero, List.set_cons_succ]
    refine wpAnyH_takeL (i := 6) (oi := _) (v := ?_) rfl (by kernel_rfl) (by kernel_rfl) (by kernel_rfl) (fun _ _ _ h => h) (Or.inl ⟨by rfl, ?_⟩) hHeld ?_
    rotate_left
    · (intro w' hSw; (try dsimp only at hSw); go_simp; try (with_reducible rfl))
    try simp only [Act.put, List.setIfInBounds_toArray, List.set_cons_zero, List.set_cons_succ]
    refine wpAnyH_takeL (i := 9) (oi := _) (v := ?_) rfl (by kernel_rfl) (by kernel_rfl) (by kernel_rfl) (fun _ _ _ h => h) (Or.inl ⟨by rfl, ?_⟩) hHeld ?_
    rotate_left
    · (intro w' hSw; (try dsimp only at hSw); go_simp; try (with_reducible rfl))
    try simp only [Act.put, List.setIfInBounds_toArray, List.set_cons_zero, List.set_cons_succ]
    refine wpAnyH_takeL (i := 10) (oi := _) rfl (by kernel_rfl) (by kernel_rfl) (by kernel_rfl) (fun _ _ _ h => h) (yields_ldRd (by rfl) _ rfl (by rfl) (fun _ hb => V0.out.gro hb (by omega))) hHeld ?_
    try simp only [Act.put, List.setIfInBounds_toArray, List.set_cons_zero, List.set_cons_succ]
    refine wpAnyH_takeL (i := 11) (oi := _) (v := ?_) rfl (by kernel_rfl) (by kernel_rfl) (by kernel_rfl) (fun _ _ _ h => h) (Or.inl ⟨by rfl, ?_⟩) hHeld ?_
    rotate_left
    · (intro w' hSw; (try dsimp only at hSw); go_simp; try (with_reducible rfl))
    try simp only [Act.put, List.setIfInBounds_toArray, List.set_cons_zero, List.set_cons_succ]
    refine wpAnyH_ready (rs := [3]) (by kernel_rfl) (by simp) ?_
    refine AllReadyH.consL (o := _) rfl (fun K hK => ?_) AllReadyH.nil
    clear hHeld
    go_simp
    go_at_call 105
    refine Calls.mono (times_any (z := m1) (FX.out.below HB.out) (NB.out.below HB.out) K1.out E1.out) ?_
    rintro e wg ⟨P8, c8, rfl, ho, hb⟩
    replace HB := Lib.hid (HB.out.trans (hb.mono HB.out.size))
    have Z1 := Lib.hid (Zo.of_own ho)
    clear ho
    clear hb
    refine hK.out _ _ (grown_below HB.out : World.grownBy _ _ (some (w.heap.size + 2))) (fun hHeld => ?_)
    clear hK K
    try simp only [Act.put, List.setIfInBounds_toArray, List.set_cons_zero, List.set_cons_succ]
    refine wpAnyH_ready (rs := [7]) (by kernel_rfl) (by simp) ?_
    refine AllReadyH.consL (o := _) rfl (fun K hK => ?_) AllReadyH.nil
    clear hHeld
    go_simp
    go_at_call 105
    refine Calls.mono (times_any (z := m2') (GX.out.below HB.out) (NA.out.below HB.out) K2.out E2.out) ?_
    rintro e wh ⟨P9, c9, rfl, ho, hb⟩
    replace HB := Lib.hid (HB.out.trans (hb.mono HB.out.size))
    replace Z1 := Lib.hid (Z1.out.below hb)
    have Z2 := Lib.hid (Zo.of_own ho)
    clear ho
    clear hb
    refine hK.out _ _ (grown_below HB.out : World.grownBy _ _ (some (w.heap.size + 2))) (fun hHeld => ?_)
    clear hK K
    try simp only [Act.put, List.setIfInBounds_toArray, List.set_cons_zero, List.set_cons_succ]
    refine wpAnyH_ready (rs := [8]) (by kernel_rfl) (by simp) ?_
    refine AllReadyH.consL (o := _) rfl (fun K hK => ?_) AllReadyH.nil
    clear hHeld
    go_simp
    go_at_call 75
    refine Calls.mono (add_z (x := m1) (y := m2') (z := m3) Z1.out.in_ Z2.out.in_ K3.out K4.out E3.out) ?_
    rintro e wi ⟨P10, c10, rfl, ho, hb⟩
    replace HB := Lib.hid (HB.out.trans (hb.mono HB.out.size))
    have Z3 := Lib.hid (Zo.of_own ho)
    clear ho
    clear hb
    refine hK.out _ _ (grown_below HB.out : World.grownBy _ _ (some (w.heap.size + 2))) (fun hHeld => ?_)
    clear hK K
    try simp only [Act.put, List.setIfInBounds_toArray, List.set_cons_zero, List.set_cons_succ]
    refine wpAnyH_ready (rs := [12]) (by kernel_rfl) (by simp) ?_
    refine AllReadyH.consL (o := _) rfl (fun K hK => ?_) AllReadyH.nil
    clear hHeld
    go_simp
    go_at_call 106
    refine Calls.mono (mul_d (FP.out.below HB.out) (NB.out.below HB.out) K6.out E4.out) ?_
    rintro e wj ⟨P11, c11, rfl, ho, hb⟩
    replace HB := Lib.hid (HB.out.trans (hb.mono HB.out.size))
    replace Z3 := Lib.hid (Z3.out.below hb)
    have Z4 := Lib.hid (Nin.of_own ho)
    clear ho
    clear hb
    refine hK.out _ _ (grown_below HB.out : World.grownBy _ _ (some (w.heap.size + 2))) (fun hHeld => ?_)
    clear hK K
    try simp only [Act.put, List.setIfInBounds_toArray, List.set_cons_zero, List.set_cons_succ]
    refine wpAnyH_ready (rs := [13]) (by kernel_rfl) (by simp) ?_
    refine AllReadyH.consL (o := _) rfl (fun K hK => ?_) AllReadyH.nil
    clear hHeld
    have SZ := Lib.hid (Nat.le_trans B1.out.size HB.out.size)
    go_simp
    go_at_call 90
    refine Calls.mono (lowest_any (z := z) (d := d) Z3.out.in_ Z4.out M40.out K5.out K7.out HZ1.out HD1.out) ?_
    rintro e wk ⟨P1, c1, P2, c2, rfl, ho, ho2, hb⟩
    replace HB := Lib.hid (HB.out.trans (hb.mono HB.out.size))
    have OQ := Lib.hid (ho.mono SZ.out)
    have OD := Lib.hid (ho2.mono SZ.out)
    clear ho ho2 SZ
    clear hb
    refine hK.out _ _ (grown_below HB.out : World.grownBy _ _ (some (w.heap.size + 2))) (fun hHeld => ?_)
    clear hK K
    try simp only [Act.put, List.setIfInBounds_toArray, List.set_cons_zero, List.set_cons_succ]
    refine wpAnyH_ready (rs := [14]) (by kernel_rfl) (by simp) ?_
    refine AllReadyH.consL (o := _) rfl (fun K hK => ?_) AllReadyH.nil
    clear hHeld
    have hb := HB.out
    replace V0 := Lib.hid (V0.out.below hb V0.out.lt)
    replace V1 := Lib.hid (V1.out.below hb V1.out.lt)
    replace V2 := Lib.hid (V2.out.below hb V2.out.lt)
    replace HX := Lib.hid (HX.out.below hb)
    replace HP := Lib.hid (HP.out.below hb)
    replace HY := Lib.hid (HY.out.below hb)
    replace HQ := Lib.hid (HQ.out.below hb)
    replace FX := Lib.hid (FX.out.below hb)
    replace FP := Lib.hid (FP.out.below hb)
    replace GX := Lib.hid (GX.out.below hb)
    replace GP := Lib.hid (GP.out.below hb)
    replace NC := Lib.hid (NC.out.below hb)
    replace NA := Lib.hid (NA.out.below hb)
    replace NB := Lib.hid (NB.out.below hb)
    replace B1 := Lib.hid (B1.out.trans (hb.mono B1.out.size))
    rw [if_pos (by rfl)]
    refine wp_stR _ _ rfl (by rfl) (by rfl) V2.out ?_
    intro wst hz hg
    replace V0 := Lib.hid (V0.out.gro hg (by omega))
    replace V1 := Lib.hid (V1.out.gro hg (by omega))
    replace HX := Lib.hid (HX.out.grR V2.out hg)
    replace HP := Lib.hid (HP.out.grR V2.out hg)
    replace HY := Lib.hid (HY.out.grR V2.out hg)
    replace HQ := Lib.hid (HQ.out.grR V2.out hg)
    replace FX := Lib.hid (FX.out.grR V2.out hg)
    replace FP := Lib.hid (FP.out.grR V2.out hg)
    replace GX := Lib.hid (GX.out.grR V2.out hg)
    replace GP := Lib.hid (GP.out.grR V2.out hg)
    replace NC := Lib.hid (NC.out.grR V2.out hg)
    replace NA := Lib.hid (NA.out.grR V2.out hg)
    replace NB := Lib.hid (NB.out.grR V2.out hg)
    replace OQ := Lib.hid (OQ.out.grR V2.out hg)
    replace OD := Lib.hid (OD.out.grR V2.out hg)
    replace B1 := Lib.hid (Below.gr B1.out (by omega) hg B1.out.size)
    replace V2 := Lib.hid hz
    refine hK.out _ _ (World.grownBy.trans (grown_below hb) hg) (fun hHeld => ?_)
    clear hK K hg hb HB hz
    try simp only [Act.put]
    skip
    refine wpAnyH_done (by kernel_rfl) ?_ _
    clear hHeld
    go_wp2
    exact ret_rb Tryz.results62 rfl rfl V2.out ⟨_, _, _, _, rfl, OQ.out, OD.out, B1.out⟩
  · obtain ⟨rfl, hY, b1, b2, rfl, hV, b3, b4⟩ := hok rfl
    have PX := prod_bound (a := X) (b := U) (M := 2147483647) (N := 2147483647) (by omega) (by omega)
    have PXV := prod_bound (a := X) (b := V) (M := 2147483647) (N := 2147483647) (by omega) (by omega)
    have PUY := prod_bound (a := U) (b := Y) (M := 2147483647) (N := 2147483647) (by omega) (by omega)
    have PYV := prod_bound (a := Y) (b := V) (M := 2147483647) (N := 2147483647) (by omega) (by omega)
    have IN : Hid (-9223372036854775807 ≤ X * V + U * Y ∧ X * V + U * Y ≤ 9223372036854775807) := by show _ ∧ _; omega
    have EM : mkRat (X * V + U * Y) (Fp * Gp) = mkRat x p + mkRat y q := by rw [← FE.out, ← GE.out, Rat.mkRat_add_mkRat _ _ (by have := F0.out; omega) (by have := G0.out; omega), hV, hY]
    have HZ1 : Hid ((mkRat (X * V + U * Y) (Fp * Gp)).num = z) := by show _ = _; rw [EM]; exact HZ.out
    have HD1 : Hid ((mkRat (X * V + U * Y) (Fp * Gp)).den = d) := by show _ = _; rw [EM]; exact HD.out
    clear EM
    have HYV : Hid (((Fp * Gp : Nat) : Int) = Y * V) := by show _ = _; rw [hY, hV, Int.natCast_mul]
    have IP : Hid (0 < Fp * Gp ∧ Fp * Gp ≤ 9223372036854775807) := by have h1 := HYV.out; exact ⟨Nat.mul_pos F0.out G0.out, by omega⟩
    clear hY hV b1 b2 b3 b4 hok
    have hb : Below wc.heap.size wc ((wc.alloc (.cells #[.int .i64 X, .int .i64 Y] 121)).alloc (.cells #[.int .i64 U, .int .i64 V] 121)) := ((Below.refl _ _).alloc (Nat.le_refl _) _).alloc (by simp) _
    replace V0 := Lib.hid (V0.out.below hb V0.out.lt)
    replace V1 := Lib.hid (V1.out.below hb V1.out.lt)
    replace V2 := Lib.hid (V2.out.below hb V2.out.lt)
    replace HX := Lib.hid (HX.out.below hb)
    replace HP := Lib.hid (HP.out.below hb)
    replace HY := Lib.hid (HY.out.below hb)
    replace HQ := Lib.hid (HQ.out.below hb)
    replace FX := Lib.hid (FX.out.below hb)
    replace FP := Lib.hid (FP.out.below hb)
    replace GX := Lib.hid (GX.out.below hb)
    replace GP := Lib.hid (GP.out.below hb)
    replace B1 := Lib.hid (B1.out.trans (hb.mono B1.out.size))
    clear hb
    have pc0 := Lib.hid trivial
    go_wp2_with (first
      | (clear pc0; have SZ := Lib.hid B1.out.size; go_at_call 102; refine Calls.mono (lowestShort_q (z := z) (d := d) HYV.out IN.out IP.out HZ1.out HD1.out _) ?_; rintro e wd ⟨P1, c1, P2, c2, rfl, ho, ho2, hb⟩; replace V0 := Lib.hid (V0.out.below hb V0.out.lt); replace V1 := Lib.hid (V1.out.below hb V1.out.lt); replace V2 := Lib.hid (V2.out.below hb V2.out.lt); replace HX := Lib.hid (HX.out.below hb); replace HP := Lib.hid (HP.out.below hb); replace HY := Lib.hid (HY.out.below hb); replace HQ := Lib.hid (HQ.out.below hb); replace FX := Lib.hid (FX.out.below hb); replace FP := Lib.hid (FP.out.below hb); replace GX := Lib.hid (GX.out.below hb); replace GP := Lib.hid (GP.out.below hb); replace B1 := Lib.hid (B1.out.trans (hb.mono B1.out.size)); have OQ := Lib.hid (ho.mono SZ.out); have OD := Lib.hid (ho2.mono SZ.out); clear ho ho2 SZ; clear hb; have pc1 := Lib.hid trivial)
      | (clear pc1; refine wpList_stR (by rfl) _ _ rfl (by rfl) (by rfl) V2.out ?_; intro we hz hg; replace V0 := Lib.hid (V0.out.gro hg (by omega)); replace V1 := Lib.hid (V1.out.gro hg (by omega)); replace HX := Lib.hid (HX.out.grR V2.out hg); replace HP := Lib.hid (HP.out.grR V2.out hg); replace HY := Lib.hid (HY.out.grR V2.out hg); replace HQ := Lib.hid (HQ.out.grR V2.out hg); replace FX := Lib.hid (FX.out.grR V2.out hg); replace FP := Lib.hid (FP.out.grR V2.out hg); replace GX := Lib.hid (GX.out.grR V2.out hg); replace GP := Lib.hid (GP.out.grR V2.out hg); replace OQ := Lib.hid (OQ.out.grR V2.out hg); replace OD := Lib.hid (OD.out.grR V2.out hg); replace B1 := Lib.hid (Below.gr B1.out (by omega) hg B1.out.size); replace V2 := Lib.hid hz; clear hz hg; have pc2 := Lib.hid trivial))
    clear pc2
    exact ret_rb Tryz.results62 rfl rfl V2.out ⟨_, _, _, _, rfl, OQ.out, OD.out, B1.out⟩
end Go.Proofs.YtfacndibfkamgaaGreat
