/-
  Contract of the reference's Bezout.
-/
import Derived.Test.YtgleknejogbomaaZext
import Derived.Test.YtgleknejogbomaaZcan
namespace Go.Proofs.Ytgleknejogbomaa
open Go.RowKit
set_option linter.unusedVariables false

theorem rsign_k {A : Option Addr} {n c : Nat} {s : Bool} {w : World} {x r : Int} (h : Zin w s A n c x) (hl : n ≤ 70368744177664) (hr : sg x = r) :
    Calls Try.prog 65 #[.agg #[.bool s, .slice A n c]] w fun e w' => e = .returned (.int .i64 r) ∧ Below w.heap.size w w' := by
  subst hr; exact rsign_z h hl
theorem rcompare_k {A B : Option Addr} {n c m d : Nat} {s t : Bool} {w : World} {x y r : Int} (h : Zin w s A n c x) (h' : Zin w t B m d y) (hl : n ≤ 70368744177663) (hl' : m ≤ 70368744177663) (hr : sg (x - y) = r) :
    Calls Try.prog 63 #[.agg #[.bool s, .slice A n c], .agg #[.bool t, .slice B m d]] w fun e w' => e = .returned (.int .i64 r) ∧ Below w.heap.size w w' := by
  subst hr; exact rcompare_z h h' hl hl'
theorem begin5 (w : World) (s1 : Bool) (A1 : Option Addr) (n1 c1 : Nat) (s2 : Bool) (A2 : Option Addr) (n2 c2 : Nat) (s3 : Bool) (A3 : Option Addr) (n3 c3 : Nat) (s4 : Bool) (A4 : Option Addr) (n4 c4 : Nat) (s5 : Bool) (A5 : Option Addr) (n5 c5 : Nat) :
    Hid (Below w.heap.size w (((((w.alloc (.cells #[.bool s1, .slice A1 n1 c1] 24)).alloc (.cells #[.bool s2, .slice A2 n2 c2] 24)).alloc (.cells #[.bool s3, .slice A3 n3 c3] 24)).alloc (.cells #[.bool s4, .slice A4 n4 c4] 24)).alloc (.cells #[.bool s5, .slice A5 n5 c5] 24))) ∧ Hid (Zb (((((w.alloc (.cells #[.bool s1, .slice A1 n1 c1] 24)).alloc (.cells #[.bool s2, .slice A2 n2 c2] 24)).alloc (.cells #[.bool s3, .slice A3 n3 c3] 24)).alloc (.cells #[.bool s4, .slice A4 n4 c4] 24)).alloc (.cells #[.bool s5, .slice A5 n5 c5] 24)) (w.heap.size) s1 A1 n1 c1) ∧ Hid (Zb (((((w.alloc (.cells #[.bool s1, .slice A1 n1 c1] 24)).alloc (.cells #[.bool s2, .slice A2 n2 c2] 24)).alloc (.cells #[.bool s3, .slice A3 n3 c3] 24)).alloc (.cells #[.bool s4, .slice A4 n4 c4] 24)).alloc (.cells #[.bool s5, .slice A5 n5 c5] 24)) (w.heap.size + 1) s2 A2 n2 c2) ∧ Hid (Zb (((((w.alloc (.cells #[.bool s1, .slice A1 n1 c1] 24)).alloc (.cells #[.bool s2, .slice A2 n2 c2] 24)).alloc (.cells #[.bool s3, .slice A3 n3 c3] 24)).alloc (.cells #[.bool s4, .slice A4 n4 c4] 24)).alloc (.cells #[.bool s5, .slice A5 n5 c5] 24)) (w.heap.size + 2) s3 A3 n3 c3) ∧ Hid (Zb (((((w.alloc (.cells #[.bool s1, .slice A1 n1 c1] 24)).alloc (.cells #[.bool s2, .slice A2 n2 c2] 24)).alloc (.cells #[.bool s3, .slice A3 n3 c3] 24)).alloc (.cells #[.bool s4, .slice A4 n4 c4] 24)).alloc (.cells #[.bool s5, .slice A5 n5 c5] 24)) (w.heap.size + 3) s4 A4 n4 c4) ∧ Hid (Zb (((((w.alloc (.cells #[.bool s1, .slice A1 n1 c1] 24)).alloc (.cells #[.bool s2, .slice A2 n2 c2] 24)).alloc (.cells #[.bool s3, .slice A3 n3 c3] 24)).alloc (.cells #[.bool s4, .slice A4 n4 c4] 24)).alloc (.cells #[.bool s5, .slice A5 n5 c5] 24)) (w.heap.size + 4) s5 A5 n5 c5) := by
  refine ⟨?_, ?_, ?_, ?_, ?_, ?_⟩
  · exact (((((Below.refl _ _).alloc (Nat.le_refl _) _).alloc (by simp) _).alloc (by simp; omega) _).alloc (by simp; omega) _).alloc (by simp; omega) _
  · have := Zb.new w s1 A1 n1 c1
    exact ((((this).alloc _).alloc _).alloc _).alloc _
  · have := Zb.new (w.alloc (.cells #[.bool s1, .slice A1 n1 c1] 24)) s2 A2 n2 c2
    simp only [World.size_alloc] at this
    exact (((this).alloc _).alloc _).alloc _
  · have := Zb.new ((w.alloc (.cells #[.bool s1, .slice A1 n1 c1] 24)).alloc (.cells #[.bool s2, .slice A2 n2 c2] 24)) s3 A3 n3 c3
    simp only [World.size_alloc] at this
    exact ((this).alloc _).alloc _
  · have := Zb.new (((w.alloc (.cells #[.bool s1, .slice A1 n1 c1] 24)).alloc (.cells #[.bool s2, .slice A2 n2 c2] 24)).alloc (.cells #[.bool s3, .slice A3 n3 c3] 24)) s4 A4 n4 c4
    simp only [World.size_alloc] at this
    exact (this).alloc _
  · have := Zb.new ((((w.alloc (.cells #[.bool s1, .slice A1 n1 c1] 24)).alloc (.cells #[.bool s2, .slice A2 n2 c2] 24)).alloc (.cells #[.bool s3, .slice A3 n3 c3] 24)).alloc (.cells #[.bool s4, .slice A4 n4 c4] 24)) s5 A5 n5 c5
    simp only [World.size_alloc] at this
    exact this
set_option maxRecDepth 100000 in
set_option maxHeartbeats 16000000 in
theorem bez_any {s t : Bool} {A B G U V : Option Addr} {n c m d cg cu cv : Nat} {x y g u v : Int} {w : World} (h : Zin w s A n c x) (hn : n ≤ 35184372087808) (h' : Zin w t B m d y) (hm : m ≤ 35184372087808) (hg : Zo w G cg g) (hu : Zo w U cu u) (hv : Zo w V cv v) (ok : ExtOk x y g u v) :
    Calls Try.prog 17 #[.agg #[.bool s, .slice A n c], .agg #[.bool t, .slice B m d], .agg #[.bool (decide (g < 0)), .slice G (ofv g.natAbs).length cg], .agg #[.bool (decide (u < 0)), .slice U (ofv u.natAbs).length cu], .agg #[.bool (decide (v < 0)), .slice V (ofv v.natAbs).length cv]] w fun e w' => e = .returned (.bool true) ∧ Below w.heap.size w w' := by
  obtain ⟨B5, V0, V1, V2, V3, V4⟩ := begin5 w s A n c t B m d (decide (g < 0)) G (ofv g.natAbs).length cg (decide (u < 0)) U (ofv u.natAbs).length cu (decide (v < 0)) V (ofv v.natAbs).length cv
  have HX := Lib.hid (h.below B5.out)
  have HY := Lib.hid (h'.below B5.out)
  have HG := Lib.hid (hg.below B5.out)
  have HU := Lib.hid (hu.below B5.out)
  have HV := Lib.hid (hv.below B5.out)
  have lx := Nat.le_trans h.len hn
  have ly := Nat.le_trans h'.len hm
  obtain ⟨eg, euv, ec⟩ := ok
  obtain ⟨p, kp⟩ : ∃ z0, sg x = z0 := ⟨_, rfl⟩
  obtain ⟨q, kq⟩ : ∃ z0, sg y = z0 := ⟨_, rfl⟩
  obtain ⟨ku, ekU⟩ : ∃ z0, sg u = z0 := ⟨_, rfl⟩
  obtain ⟨kv, ekV⟩ : ∃ z0, sg v = z0 := ⟨_, rfl⟩
  obtain ⟨ax, ex⟩ : ∃ z0, ((x.natAbs : Nat) : Int) = z0 := ⟨_, rfl⟩
  obtain ⟨ay, ey⟩ : ∃ z0, ((y.natAbs : Nat) : Int) = z0 := ⟨_, rfl⟩
  obtain ⟨au, eu⟩ : ∃ z0, ((u.natAbs : Nat) : Int) = z0 := ⟨_, rfl⟩
  obtain ⟨av, ev⟩ : ∃ z, ((v.natAbs : Nat) : Int) = z := ⟨_, rfl⟩
  obtain ⟨m1, e1⟩ : ∃ z0, x * u = z0 := ⟨_, rfl⟩
  obtain ⟨m2, e2⟩ : ∃ z, y * v = z := ⟨_, rfl⟩
  obtain ⟨m3, e3⟩ : ∃ z0, au * g = z0 := ⟨_, rfl⟩
  obtain ⟨m4, e4⟩ : ∃ z0, av * g = z0 := ⟨_, rfl⟩
  obtain ⟨one, e0⟩ : ∃ z0 : Int, 1 = z0 := ⟨_, rfl⟩
  obtain ⟨r1, k1⟩ : ∃ z0, sg (au - one) = z0 := ⟨_, rfl⟩
  obtain ⟨r2, k2⟩ : ∃ z0, sg (av - one) = z0 := ⟨_, rfl⟩
  obtain ⟨r3, k3⟩ : ∃ z0, sg (m3 - ay) = z0 := ⟨_, rfl⟩
  obtain ⟨r4, k4⟩ : ∃ z0, sg (m4 - ax) = z0 := ⟨_, rfl⟩
  have one_len : (ofv 1).length ≤ 1 := len_ofv_le_of_lt (by rw [pw_succ, pw_zero]; decide)
  have lg : (ofv g.natAbs).length ≤ 35184372087808 := by
    rw [eg]
    exact len_gcd_max _ _ _ lx ly
  have bu : u.natAbs ≤ y.natAbs + 1 ∧ v.natAbs ≤ x.natAbs + 1 ∧ (x ≠ 0 → y ≠ 0 → u.natAbs ≤ y.natAbs ∧ v.natAbs ≤ x.natAbs ∧ m3 ≤ ay ∧ m4 ≤ ax) := by
    rcases ec with ⟨a1, a2, a3⟩ | ⟨a1, a2, a3, a4⟩ | ⟨a1, a2, a3, a4⟩
    · subst a1 a2; simp; omega
    · subst a2 a3; simp; omega
    · have g0 : 0 < g := by
        rw [eg]
        have : 0 < Int.gcd x y := Int.gcd_pos_of_ne_zero_left _ a2
        omega
      have up : ∀ z : Int, ((z.natAbs : Nat) : Int) ≤ ((z.natAbs : Nat) : Int) * g := fun z => by
        have := Int.mul_le_mul_of_nonneg_left (show (1 : Int) ≤ g by omega) (show 0 ≤ ((z.natAbs : Nat) : Int) by omega)
        omega
      have u1 := up u
      have u2 := up v
      refine ⟨by omega, by omega, fun _ _ => ⟨by omega, by omega, ?_, ?_⟩⟩
      · rw [← e3, ← eu, ← ey]; exact a3
      · rw [← e4, ← ev, ← ex]; exact a4
  have lu : (ofv u.natAbs).length ≤ 35184372087809 := Nat.le_trans (len_mono bu.1) (len_add_max ly (Nat.le_trans one_len (by decide)))
  have lv : (ofv v.natAbs).length ≤ 35184372087809 := Nat.le_trans (len_mono bu.2.1) (len_add_max lx (Nat.le_trans one_len (by decide)))
  have l1 := zlen_mul (x := x) (y := u) lx lu
  have l2 := zlen_mul (x := y) (y := v) ly lv
  rw [e1] at l1
  rw [e2] at l2
  have KP := Lib.hid kp
  have KQ := Lib.hid kq
  have KU := Lib.hid ekU
  have KV := Lib.hid ekV
  have EX := Lib.hid ex
  have EY := Lib.hid ey
  have EU := Lib.hid eu
  have EV := Lib.hid ev
  have E1 := Lib.hid e1
  have E2 := Lib.hid e2
  have E3 := Lib.hid e3
  have E4 := Lib.hid e4
  have E0 := Lib.hid e0
  have K1 := Lib.hid k1
  have K2 := Lib.hid k2
  have K3 := Lib.hid k3
  have K4 := Lib.hid k4
  have EG : Hid (((Int.gcd x y : Nat) : Int) = g) := by show _ = _; exact eg.symm
  have ES : Hid (m1 + m2 = g) := by show _ = _; rw [← e1, ← e2]; exact euv
  have KZ : Hid (sg (g - g) = 0) := by show _ = _; rw [Int.sub_self]; rfl
  have BU := Lib.hid bu
  have EC := Lib.hid ec
  have LN7 : Hid (n ≤ 70368744177000) := by show _ ≤ _; omega
  have LM7 : Hid (m ≤ 70368744177000) := by show _ ≤ _; omega
  have LN4 : Hid (n ≤ 70368744177664) := by show _ ≤ _; omega
  have LM4 : Hid (m ≤ 70368744177664) := by show _ ≤ _; omega
  have LU4 : Hid ((ofv u.natAbs).length ≤ 70368744177664) := by show _ ≤ _; omega
  have LV4 : Hid ((ofv v.natAbs).length ≤ 70368744177664) := by show _ ≤ _; omega
  have LG3 : Hid ((ofv g.natAbs).length ≤ 70368744177663) := by show _ ≤ _; omega
  have LNU : Hid (n + (ofv u.natAbs).length ≤ 70368744177664) := by show _ ≤ _; omega
  have LMV : Hid (m + (ofv v.natAbs).length ≤ 70368744177664) := by show _ ≤ _; omega
  have L13 : Hid ((ofv m1.natAbs).length ≤ 70368744177663) := by show _ ≤ _; omega
  have L23 : Hid ((ofv m2.natAbs).length ≤ 70368744177663) := by show _ ≤ _; omega
  have LAU : Hid ((ofv au.natAbs).length ≤ 70368744177663) := by show _ ≤ _; rw [← eu]; show (ofv u.natAbs).length ≤ _; omega
  have LAV : Hid ((ofv av.natAbs).length ≤ 70368744177663) := by show _ ≤ _; rw [← ev]; show (ofv v.natAbs).length ≤ _; omega
  have LAX : Hid ((ofv ax.natAbs).length ≤ 70368744177663) := by show _ ≤ _; rw [← ex]; show (ofv x.natAbs).length ≤ _; omega
  have LAY : Hid ((ofv ay.natAbs).length ≤ 70368744177663) := by show _ ≤ _; rw [← ey]; show (ofv y.natAbs).length ≤ _; omega
  have LUG : Hid ((ofv au.natAbs).length + (ofv g.natAbs).length ≤ 70368744177664) := by show _ ≤ _; rw [← eu]; show (ofv u.natAbs).length + _ ≤ _; omega
  have LVG : Hid ((ofv av.natAbs).length + (ofv g.natAbs).length ≤ 70368744177664) := by show _ ≤ _; rw [← ev]; show (ofv v.natAbs).length + _ ≤ _; omega
  have L33 : Hid ((ofv m3.natAbs).length ≤ 70368744177663) := by
    have h3 := zlen_mul (x := au) (y := g) (n := 35184372087809) (m := 35184372087808) (by rw [← eu]; exact lu) lg
    rw [e3] at h3
    show _ ≤ _
    omega
  have L43 : Hid ((ofv m4.natAbs).length ≤ 70368744177663) := by
    have h3 := zlen_mul (x := av) (y := g) (n := 35184372087809) (m := 35184372087808) (by rw [← ev]; exact lv) lg
    rw [e4] at h3
    show _ ≤ _
    omega
  have LO3 : Hid ((ofv one.natAbs).length ≤ 70368744177663) := by show _ ≤ _; rw [← e0]; exact Nat.le_trans one_len (by decide)
  have IO : Hid (-9223372036854775808 ≤ (1 : Int) ∧ (1 : Int) ≤ 9223372036854775807) := by show _ ∧ _; omega
  have CASE : Hid ((q == 0) = true ∧ (kv == 0) = true ∧ decide (r1 ≤ 0) = true ∨ (q == 0) = false ∧ (p == 0) = true ∧ (ku == 0) = true ∧ (r2 == 0) = true ∨ (q == 0) = false ∧ (p == 0) = false ∧ decide (r3 ≤ 0) = true ∧ decide (r4 ≤ 0) = true) := by
    show _ ∨ _
    have s0 : ∀ z : Int, sg z = 0 ↔ z = 0 := fun z => by rcases sg_cases z with ⟨e, h⟩ | ⟨e, h⟩ | ⟨e, h⟩ <;> omega
    have sle : ∀ z : Int, z ≤ 0 → sg z ≤ 0 := fun z hz => by rcases sg_cases z with ⟨e, h⟩ | ⟨e, h⟩ | ⟨e, h⟩ <;> omega
    simp only [beq_iff_eq, beq_eq_false_iff_ne, decide_eq_true_eq]
    rw [← kp, ← kq, ← ekU, ← ekV, ← k1, ← k2, ← k3, ← k4]
    simp only [ne_eq, s0]
    rcases ec with ⟨a1, a2, a3⟩ | ⟨a1, a2, a3, a4⟩ | ⟨a1, a2, a3, a4⟩
    · exact .inl ⟨a1, a2, sle _ (by omega)⟩
    · exact .inr (.inl ⟨a1, a2, a3, by omega⟩)
    · have := bu.2.2 a2 a1
      exact .inr (.inr ⟨a1, a2, sle _ (by omega), sle _ (by omega)⟩)
  clear h h' hn hm hg hu hv lx ly eg euv ec kp kq ekU ekV ex ey eu ev e1 e2 e3 e4 e0 k1 k2 k3 k4 one_len lg bu lu lv l1 l2
  go_enter Try.func17, Try.ntmps17
  go_wp2_with fail
  generalize (((((w.alloc (.cells #[.bool s, .slice A n c] 24)).alloc (.cells #[.bool t, .slice B m d] 24)).alloc (.cells #[.bool (decide (g < 0)), .slice G (ofv g.natAbs).length cg] 24)).alloc (.cells #[.bool (decide (u < 0)), .slice U (ofv u.natAbs).length cu] 24)).alloc (.cells #[.bool (decide (v < 0)), .slice V (ofv v.natAbs).length cv] 24)) = w2 at *
  have HB : Hid (Below w2.heap.size w2 w2.drew) := below_drewN _ w2 1
  refine wp_region_held_drew (S := fun w' => Below w2.heap.size w2 w') (by kernel_rfl) (HB.out) (fun hHeld => ?_)
  refine wpAnyH_takeL (i := 0) (oi := _) rfl (by kernel_rfl) (by kernel_rfl) (by kernel_rfl) (fun _ _ _ h => h) (yields_ldZ (by rfl) _ rfl (by rfl) (fun _ hb => V2.out.below hb V2.out.lt)) hHeld ?_
  try simp only [Act.put, List.setIfInBounds_toArray, List.set_cons_zero, List.set_cons_succ]
  refine wpAnyH_takeL (i := 1) (oi := _) rfl (by kernel_rfl) (by kernel_rfl) (by kernel_rfl) (fun _ _ _ h => h) (yields_ldZ (by rfl) _ rfl (by rfl) (fun _ hb => V0.out.below hb V0.out.lt)) hHeld ?_
  try simp only [Act.put, List.setIfInBounds_toArray, List.set_cons_zero, List.set_cons_succ]
  refine wpAnyH_takeL (i := 2) (oi := _) rfl (by kernel_rfl) (by kernel_rfl) (by kernel_rfl) (fun _ _ _ h => h) (yields_ldZ (by rfl) _ rfl (by rfl) (fun _ hb => V1.out.below hb V1.out.lt)) hHeld ?_
  try simp only [Act.put, List.setIfInBounds_toArray, List.set_cons_zero, List.set_cons_succ]
  refine wpAnyH_ready (rs := [3]) (by kernel_rfl) (by simp) ?_
  refine AllReadyH.consL (o := _) rfl (fun K hK => ?_) AllReadyH.nil
  clear hHeld
  go_simp
  go_at_call 16
  refine Calls.mono (rgcd_z (x := x) (y := y) (z := g) (HX.out.below HB.out) (HY.out.below HB.out) LN7.out LM7.out EG.out) ?_
  rintro e wa ⟨P1, cP1, rfl, ho, hb⟩
  replace HB := Lib.hid (HB.out.trans (hb.mono HB.out.size))
  have ZP1 := Lib.hid (Zo.of_own ho)
  clear ho
  clear hb
  refine hK.out _ _ HB.out (fun hHeld => ?_)
  clear hK K
  try simp only [Act.put, List.setIfInBounds_toArray, List.set_cons_zero, List.set_cons_succ]
  refine wpAnyH_ready (rs := [4]) (by kernel_rfl) (by simp) ?_
  refine AllReadyH.consL (o := _) rfl (fun K hK => ?_) AllReadyH.nil
  clear hHeld
  go_simp
  go_at_call 14
  refine Calls.mono (requal_z (z := g) (HG.out.below HB.out) ZP1.out) ?_
  rintro e wb ⟨rfl, hb⟩
  replace HB := Lib.hid (HB.out.trans (hb.mono HB.out.size))
  clear hb
  refine hK.out _ _ HB.out (fun hHeld => ?_)
  clear hK K
  try simp only [Act.put, List.setIfInBounds_toArray, List.set_cons_zero, List.set_cons_succ]
  refine wpAnyH_takeL (i := 5) (oi := _) (v := ?_) rfl (by kernel_rfl) (by kernel_rfl) (by kernel_rfl) (fun _ _ _ h => h) (Or.inl ⟨by rfl, ?_⟩) hHeld ?_
  rotate_left
  · (intro w' hSw; (try dsimp only at hSw); go_simp; try (with_reducible rfl))
  try simp only [Act.put, List.setIfInBounds_toArray, List.set_cons_zero, List.set_cons_succ]
  refine wpAnyH_takeL (i := 6) (oi := _) (v := ?_) rfl (by kernel_rfl) (by kernel_rfl) (by kernel_rfl) (fun _ _ _ h => h) (Or.inl ⟨by rfl, ?_⟩) hHeld ?_
  rotate_left
  · (intro w' hSw; (try dsimp only at hSw); go_simp; try (with_reducible rfl))
  try simp only [Act.put, List.setIfInBounds_toArray, List.set_cons_zero, List.set_cons_succ]
  refine wpAnyH_takeL (i := 7) (oi := _) rfl (by kernel_rfl) (by kernel_rfl) (by kernel_rfl) (fun _ _ _ h => h) (yields_ldZ (by rfl) _ rfl (by rfl) (fun _ hb => V3.out.below hb V3.out.lt)) hHeld ?_
  try simp only [Act.put, List.setIfInBounds_toArray, List.set_cons_zero, List.set_cons_succ]
  refine wpAnyH_ready (rs := [8]) (by kernel_rfl) (by simp) ?_
  refine AllReadyH.consL (o := _) rfl (fun K hK => ?_) AllReadyH.nil
  clear hHeld
  go_simp
  go_at_call 62
  refine Calls.mono (canonical_z (z := u) (HU.out.below HB.out) LU4.out) ?_
  rintro e wc ⟨rfl, hb⟩
  replace HB := Lib.hid (HB.out.trans (hb.mono HB.out.size))
  clear hb
  refine hK.out _ _ HB.out (fun hHeld => ?_)
  clear hK K
  try simp only [Act.put, List.setIfInBounds_toArray, List.set_cons_zero, List.set_cons_succ]
  refine wpAnyH_takeL (i := 9) (oi := _) (v := ?_) rfl (by kernel_rfl) (by kernel_rfl) (by kernel_rfl) (fun _ _ _ h => h) (Or.inl ⟨by rfl, ?_⟩) hHeld ?_
  rotate_left
  · (intro w' hSw; (try dsimp only at hSw); go_simp; try (with_reducible rfl))
  try simp only [Act.put, List.setIfInBounds_toArray, List.set_cons_zero, List.set_cons_succ]
  refine wpAnyH_takeL (i := 10) (oi := _) (v := ?_) rfl (by kernel_rfl) (by kernel_rfl) (by kernel_rfl) (fun _ _ _ h => h) (Or.inl ⟨by rfl, ?_⟩) hHeld ?_
  rotate_left
  · (intro w' hSw; (try dsimp only at hSw); go_simp; try (with_reducible rfl))
  try simp only [Act.put, List.setIfInBounds_toArray, List.set_cons_zero, List.set_cons_succ]
  refine wpAnyH_takeL (i := 11) (oi := _) (v := ?_) rfl (by kernel_rfl) (by kernel_rfl) (by kernel_rfl) (fun _ _ _ h => h) (Or.inl ⟨by rfl, ?_⟩) hHeld ?_
  rotate_left
  · (intro w' hSw; (try dsimp only at hSw); go_simp; try (with_reducible rfl))
  try simp only [Act.put, List.setIfInBounds_toArray, List.set_cons_zero, List.set_cons_succ]
  refine wpAnyH_takeL (i := 12) (oi := _) rfl (by kernel_rfl) (by kernel_rfl) (by kernel_rfl) (fun _ _ _ h => h) (yields_ldZ (by rfl) _ rfl (by rfl) (fun _ hb => V4.out.below hb V4.out.lt)) hHeld ?_
  try simp only [Act.put, List.setIfInBounds_toArray, List.set_cons_zero, List.set_cons_succ]
  refine wpAnyH_ready (rs := [13]) (by kernel_rfl) (by simp) ?_
  refine AllReadyH.consL (o := _) rfl (fun K hK => ?_) AllReadyH.nil
  clear hHeld
  go_simp
  go_at_call 62
  refine Calls.mono (canonical_z (z := v) (HV.out.below HB.out) LV4.out) ?_
  rintro e wd ⟨rfl, hb⟩
  replace HB := Lib.hid (HB.out.trans (hb.mono HB.out.size))
  clear hb
  refine hK.out _ _ HB.out (fun hHeld => ?_)
  clear hK K
  try simp only [Act.put, List.setIfInBounds_toArray, List.set_cons_zero, List.set_cons_succ]
  refine wpAnyH_takeL (i := 14) (oi := _) (v := ?_) rfl (by kernel_rfl) (by kernel_rfl) (by kernel_rfl) (fun _ _ _ h => h) (Or.inl ⟨by rfl, ?_⟩) hHeld ?_
  rotate_left
  · (intro w' hSw; (try dsimp only at hSw); go_simp; try (with_reducible rfl))
  try simp only [Act.put, List.setIfInBounds_toArray, List.set_cons_zero, List.set_cons_succ]
  refine wpAnyH_takeL (i := 15) (oi := _) (v := ?_) rfl (by kernel_rfl) (by kernel_rfl) (by kernel_rfl) (fun _ _ _ h => h) (Or.inl ⟨by rfl, ?_⟩) hHeld ?_
  rotate_left
  · (intro w' hSw; (try dsimp only at hSw); go_simp; try (with_reducible rfl))
  try simp only [Act.put, List.setIfInBounds_toArray, List.set_cons_zero, List.set_cons_succ]
  refine wpAnyH_takeL (i := 16) (oi := _) (v := ?_) rfl (by kernel_rfl) (by kernel_rfl) (by kernel_rfl) (fun _ _ _ h => h) (Or.inl ⟨by rfl, ?_⟩) hHeld ?_
  rotate_left
  · (intro w' hSw; (try dsimp only at hSw); go_simp; try (with_reducible rfl))
  try simp only [Act.put, List.setIfInBounds_toArray, List.set_cons_zero, List.set_cons_succ]
  refine wpAnyH_takeL (i := 17) (oi := _) rfl (by kernel_rfl) (by kernel_rfl) (by kernel_rfl) (fun _ _ _ h => h) (yields_ldZ (by rfl) _ rfl (by rfl) (fun _ hb => V0.out.below hb V0.out.lt)) hHeld ?_
  try simp only [Act.put, List.setIfInBounds_toArray, List.set_cons_zero, List.set_cons_succ]
  refine wpAnyH_takeL (i := 18) (oi := _) rfl (by kernel_rfl) (by kernel_rfl) (by kernel_rfl) (fun _ _ _ h => h) (yields_ldZ (by rfl) _ rfl (by rfl) (fun _ hb => V3.out.below hb V3.out.lt)) hHeld ?_
  try simp only [Act.put, List.setIfInBounds_toArray, List.set_cons_zero, List.set_cons_succ]
  refine wpAnyH_takeL (i := 20) (oi := _) rfl (by kernel_rfl) (by kernel_rfl) (by kernel_rfl) (fun _ _ _ h => h) (yields_ldZ (by rfl) _ rfl (by rfl) (fun _ hb => V1.out.below hb V1.out.lt)) hHeld ?_
  try simp only [Act.put, List.setIfInBounds_toArray, List.set_cons_zero, List.set_cons_succ]
  refine wpAnyH_takeL (i := 21) (oi := _) rfl (by kernel_rfl) (by kernel_rfl) (by kernel_rfl) (fun _ _ _ h => h) (yields_ldZ (by rfl) _ rfl (by rfl) (fun _ hb => V4.out.below hb V4.out.lt)) hHeld ?_
  try simp only [Act.put, List.setIfInBounds_toArray, List.set_cons_zero, List.set_cons_succ]
  refine wpAnyH_takeL (i := 24) (oi := _) rfl (by kernel_rfl) (by kernel_rfl) (by kernel_rfl) (fun _ _ _ h => h) (yields_ldZ (by rfl) _ rfl (by rfl) (fun _ hb => V2.out.below hb V2.out.lt)) hHeld ?_
  try simp only [Act.put, List.setIfInBounds_toArray, List.set_cons_zero, List.set_cons_succ]
  refine wpAnyH_ready (rs := [19]) (by kernel_rfl) (by simp) ?_
  refine AllReadyH.consL (o := _) rfl (fun K hK => ?_) AllReadyH.nil
  clear hHeld
  go_simp
  go_at_call 50
  refine Calls.mono (rmul_z (x := x) (y := u) (z := m1) (HX.out.below HB.out) (HU.out.below HB.out).in_ LNU.out E1.out) ?_
  rintro e we ⟨P2, cP2, rfl, ho, hb⟩
  replace HB := Lib.hid (HB.out.trans (hb.mono HB.out.size))
  have ZP2 := Lib.hid (Zo.of_own ho)
  clear ho
  clear hb
  refine hK.out _ _ HB.out (fun hHeld => ?_)
  clear hK K
  try simp only [Act.put, List.setIfInBounds_toArray, List.set_cons_zero, List.set_cons_succ]
  refine wpAnyH_ready (rs := [22]) (by kernel_rfl) (by simp) ?_
  refine AllReadyH.consL (o := _) rfl (fun K hK => ?_) AllReadyH.nil
  clear hHeld
  go_simp
  go_at_call 50
  refine Calls.mono (rmul_z (x := y) (y := v) (z := m2) (HY.out.below HB.out) (HV.out.below HB.out).in_ LMV.out E2.out) ?_
  rintro e wf ⟨P3, cP3, rfl, ho, hb⟩
  replace HB := Lib.hid (HB.out.trans (hb.mono HB.out.size))
  replace ZP2 := Lib.hid (ZP2.out.below hb)
  have ZP3 := Lib.hid (Zo.of_own ho)
  clear ho
  clear hb
  refine hK.out _ _ HB.out (fun hHeld => ?_)
  clear hK K
  try simp only [Act.put, List.setIfInBounds_toArray, List.set_cons_zero, List.set_cons_succ]
  refine wpAnyH_ready (rs := [23]) (by kernel_rfl) (by simp) ?_
  refine AllReadyH.consL (o := _) rfl (fun K hK => ?_) AllReadyH.nil
  clear hHeld
  go_simp
  go_at_call 64
  refine Calls.mono (radd_z (x := m1) (y := m2) (z := g) ZP2.out.in_ ZP3.out.in_ L13.out L23.out ES.out) ?_
  rintro e wg ⟨P4, cP4, rfl, ho, hb⟩
  replace HB := Lib.hid (HB.out.trans (hb.mono HB.out.size))
  have ZP4 := Lib.hid (Zo.of_own ho)
  clear ho
  clear hb
  refine hK.out _ _ HB.out (fun hHeld => ?_)
  clear hK K
  try simp only [Act.put, List.setIfInBounds_toArray, List.set_cons_zero, List.set_cons_succ]
  refine wpAnyH_ready (rs := [25]) (by kernel_rfl) (by simp) ?_
  refine AllReadyH.consL (o := _) rfl (fun K hK => ?_) AllReadyH.nil
  clear hHeld
  go_simp
  go_at_call 63
  refine Calls.mono (rcompare_k (x := g) (y := g) (r := 0) ZP4.out.in_ (HG.out.below HB.out).in_ LG3.out LG3.out KZ.out) ?_
  rintro e wh ⟨rfl, hb⟩
  replace HB := Lib.hid (HB.out.trans (hb.mono HB.out.size))
  clear hb
  refine hK.out _ _ HB.out (fun hHeld => ?_)
  clear hK K
  try simp only [Act.put, List.setIfInBounds_toArray, List.set_cons_zero, List.set_cons_succ]
  refine wpAnyH_takeL (i := 26) (oi := _) (v := ?_) rfl (by kernel_rfl) (by kernel_rfl) (by kernel_rfl) (fun _ _ _ h => h) (Or.inl ⟨by rfl, ?_⟩) hHeld ?_
  rotate_left
  · (intro w' hSw; (try dsimp only at hSw); go_simp; try (with_reducible rfl))
  try simp only [Act.put, List.setIfInBounds_toArray, List.set_cons_zero, List.set_cons_succ]
  refine wpAnyH_takeL (i := 27) (oi := _) (v := ?_) rfl (by kernel_rfl) (by kernel_rfl) (by kernel_rfl) (fun _ _ _ h => h) (Or.inl ⟨by rfl, ?_⟩) hHeld ?_
  rotate_left
  · (intro w' hSw; (try dsimp only at hSw); go_simp; try (with_reducible rfl))
  try simp only [Act.put, List.setIfInBounds_toArray, List.set_cons_zero, List.set_cons_succ]
  skip
  refine wpAnyH_done (by kernel_rfl) ?_ _
  clear ZP1 ZP2 ZP3 ZP4 hHeld
  have hb := HB.out
  replace V0 := Lib.hid (V0.out.below hb V0.out.lt)
  replace V1 := Lib.hid (V1.out.below hb V1.out.lt)
  replace V2 := Lib.hid (V2.out.below hb V2.out.lt)
  replace V3 := Lib.hid (V3.out.below hb V3.out.lt)
  replace V4 := Lib.hid (V4.out.below hb V4.out.lt)
  replace HX := Lib.hid (HX.out.below hb)
  replace HY := Lib.hid (HY.out.below hb)
  replace HG := Lib.hid (HG.out.below hb)
  replace HU := Lib.hid (HU.out.below hb)
  replace HV := Lib.hid (HV.out.below hb)
  replace B5 := Lib.hid (B5.out.trans (hb.mono B5.out.size))
  clear hb HB
  go_wp2_with fail
  refine (rfromInt_z (v := 1) (z := one) IO.out E0.out _).mono ?_
  rintro e wi ⟨J, cJ, rfl, ho, hb⟩
  replace V0 := Lib.hid (V0.out.below hb V0.out.lt)
  replace V1 := Lib.hid (V1.out.below hb V1.out.lt)
  replace V2 := Lib.hid (V2.out.below hb V2.out.lt)
  replace V3 := Lib.hid (V3.out.below hb V3.out.lt)
  replace V4 := Lib.hid (V4.out.below hb V4.out.lt)
  replace HX := Lib.hid (HX.out.below hb)
  replace HY := Lib.hid (HY.out.below hb)
  replace HG := Lib.hid (HG.out.below hb)
  replace HU := Lib.hid (HU.out.below hb)
  replace HV := Lib.hid (HV.out.below hb)
  replace B5 := Lib.hid (B5.out.trans (hb.mono B5.out.size))
  have ZO := Lib.hid (Zo.of_own ho)
  clear ho hb
  have hb : Below wi.heap.size wi (wi.alloc (.cells #[.bool (decide (one < 0)), .slice J (ofv one.natAbs).length cJ] 24)) := (Below.refl _ _).alloc (Nat.le_refl _) _
  replace V0 := Lib.hid (V0.out.below hb V0.out.lt)
  replace V1 := Lib.hid (V1.out.below hb V1.out.lt)
  replace V2 := Lib.hid (V2.out.below hb V2.out.lt)
  replace V3 := Lib.hid (V3.out.below hb V3.out.lt)
  replace V4 := Lib.hid (V4.out.below hb V4.out.lt)
  replace HX := Lib.hid (HX.out.below hb)
  replace HY := Lib.hid (HY.out.below hb)
  replace HG := Lib.hid (HG.out.below hb)
  replace HU := Lib.hid (HU.out.below hb)
  replace HV := Lib.hid (HV.out.below hb)
  replace ZO := Lib.hid (ZO.out.below hb)
  replace B5 := Lib.hid (B5.out.trans (hb.mono B5.out.size))
  clear hb
  have VO := Lib.hid (Zb.new wi (decide (one < 0)) J (ofv one.natAbs).length cJ)
  rcases CASE.out with ⟨hq, hk, hr⟩ | ⟨hq, hp, hk, hr⟩ | ⟨hq, hp, hr, hr2⟩
  · clear CASE
    have pc0 := Lib.hid trivial
    go_wp2_with (first
      | (clear pc0; refine wpList_ldZ rfl _ rfl (by rfl) V1.out ?_; have pc1 := Lib.hid trivial)
      | (clear pc1; go_at_call 65; refine Calls.mono (rsign_k (r := q) HY.out LM4.out KQ.out) ?_; rintro e wj ⟨rfl, hb⟩; replace V0 := Lib.hid (V0.out.below hb V0.out.lt); replace V1 := Lib.hid (V1.out.below hb V1.out.lt); replace V2 := Lib.hid (V2.out.below hb V2.out.lt); replace V3 := Lib.hid (V3.out.below hb V3.out.lt); replace V4 := Lib.hid (V4.out.below hb V4.out.lt); replace HX := Lib.hid (HX.out.below hb); replace HY := Lib.hid (HY.out.below hb); replace HG := Lib.hid (HG.out.below hb); replace HU := Lib.hid (HU.out.below hb); replace HV := Lib.hid (HV.out.below hb); replace ZO := Lib.hid (ZO.out.below hb); replace VO := Lib.hid (VO.out.below hb VO.out.lt); replace B5 := Lib.hid (B5.out.trans (hb.mono B5.out.size)); clear hb; have pc2 := Lib.hid trivial))
    clear pc2
    have HB : Hid (Below wj.heap.size wj wj.drew) := below_drewN _ wj 1
    refine wp_region_held_drew (S := fun w' => Below wj.heap.size wj w') (by kernel_rfl) (HB.out) (fun hHeld => ?_)
    refine wpAnyH_takeL (i := 0) (oi := _) rfl (by kernel_rfl) (by kernel_rfl) (by kernel_rfl) (fun _ _ _ h => h) (yields_ldZ (by rfl) _ rfl (by rfl) (fun _ hb => V4.out.below hb V4.out.lt)) hHeld ?_
    try simp only [Act.put, List.setIfInBounds_toArray, List.set_cons_zero, List.set_cons_succ]
    refine wpAnyH_ready (rs := [1]) (by kernel_rfl) (by simp) ?_
    refine AllReadyH.consL (o := _) rfl (fun K hK => ?_) AllReadyH.nil
    clear hHeld
    go_simp
    go_at_call 65
    refine Calls.mono (rsign_k (r := kv) (HV.out.below HB.out).in_ LV4.out KV.out) ?_
    rintro e wk ⟨rfl, hb⟩
    replace HB := Lib.hid (HB.out.trans (hb.mono HB.out.size))
    clear hb
    refine hK.out _ _ HB.out (fun hHeld => ?_)
    clear hK K
    try simp only [Act.put, List.setIfInBounds_toArray, List.set_cons_zero, List.set_cons_succ]
    refine wpAnyH_takeL (i := 2) (oi := _) (v := ?_) rfl (by kernel_rfl) (by kernel_rfl) (by kernel_rfl) (fun _ _ _ h => h) (Or.inl ⟨by rfl, ?_⟩) hHeld ?_
    rotate_left
    · (intro w' hSw; (try dsimp only at hSw); go_simp; try (with_reducible rfl))
    try simp only [Act.put, List.setIfInBounds_toArray, List.set_cons_zero, List.set_cons_succ]
    refine wpAnyH_takeL (i := 3) (oi := _) (v := ?_) rfl (by kernel_rfl) (by kernel_rfl) (by kernel_rfl) (fun _ _ _ h => h) (Or.inl ⟨by rfl, ?_⟩) hHeld ?_
    rotate_left
    · (intro w' hSw; (try dsimp only at hSw); go_simp; try (with_reducible rfl))
    try simp only [Act.put, List.setIfInBounds_toArray, List.set_cons_zero, List.set_cons_succ]
    refine wpAnyH_takeL (i := 4) (oi := _) rfl (by kernel_rfl) (by kernel_rfl) (by kernel_rfl) (fun _ _ _ h => h) (yields_ldZ (by rfl) _ rfl (by rfl) (fun _ hb => V3.out.below hb V3.out.lt)) hHeld ?_
    try simp only [Act.put, List.setIfInBounds_toArray, List.set_cons_zero, List.set_cons_succ]
    refine wpAnyH_takeL (i := 6) (oi := _) rfl (by kernel_rfl) (by kernel_rfl) (by kernel_rfl) (fun _ _ _ h => h) (yields_ldZ (by rfl) _ rfl (by rfl) (fun _ hb => VO.out.below hb VO.out.lt)) hHeld ?_
    try simp only [Act.put, List.setIfInBounds_toArray, List.set_cons_zero, List.set_cons_succ]
    refine wpAnyH_ready (rs := [5]) (by kernel_rfl) (by simp) ?_
    refine AllReadyH.consL (o := _) rfl (fun K hK => ?_) AllReadyH.nil
    clear hHeld
    go_simp
    go_at_call 66
    refine Calls.mono (rabs_z (x := u) (z := au) (HU.out.below HB.out).in_ LU4.out EU.out) ?_
    rintro e wl ⟨P1, cP1, rfl, ho, hb⟩
    replace HB := Lib.hid (HB.out.trans (hb.mono HB.out.size))
    have ZP1 := Lib.hid (Zo.of_own ho)
    clear ho
    clear hb
    refine hK.out _ _ HB.out (fun hHeld => ?_)
    clear hK K
    try simp only [Act.put, List.setIfInBounds_toArray, List.set_cons_zero, List.set_cons_succ]
    refine wpAnyH_ready (rs := [7]) (by kernel_rfl) (by simp) ?_
    refine AllReadyH.consL (o := _) rfl (fun K hK => ?_) AllReadyH.nil
    clear hHeld
    go_simp
    go_at_call 63
    refine Calls.mono (rcompare_k (x := au) (y := one) (r := r1) ZP1.out.in_ (ZO.out.below HB.out).in_ LAU.out LO3.out K1.out) ?_
    rintro e wm ⟨rfl, hb⟩
    replace HB := Lib.hid (HB.out.trans (hb.mono HB.out.size))
    clear hb
    refine hK.out _ _ HB.out (fun hHeld => ?_)
    clear hK K
    try simp only [Act.put, List.setIfInBounds_toArray, List.set_cons_zero, List.set_cons_succ]
    refine wpAnyH_takeL (i := 8) (oi := _) (v := ?_) rfl (by kernel_rfl) (by kernel_rfl) (by kernel_rfl) (fun _ _ _ h => h) (Or.inl ⟨by rfl, ?_⟩) hHeld ?_
    rotate_left
    · (intro w' hSw; (try dsimp only at hSw); go_simp; try (with_reducible rfl))
    try simp only [Act.put, List.setIfInBounds_toArray, List.set_cons_zero, List.set_cons_succ]
    refine wpAnyH_takeL (i := 9) (oi := _) (v := ?_) rfl (by kernel_rfl) (by kernel_rfl) (by kernel_rfl) (fun _ _ _ h => h) (Or.inl ⟨by rfl, ?_⟩) hHeld ?_
    rotate_left
    · (intro w' hSw; (try dsimp only at hSw); go_simp; try (with_reducible rfl))
    try simp only [Act.put, List.setIfInBounds_toArray, List.set_cons_zero, List.set_cons_succ]
    refine wpAnyH_takeL (i := 10) (oi := _) (v := ?_) rfl (by kernel_rfl) (by kernel_rfl) (by kernel_rfl) (fun _ _ _ h => h) (Or.inl ⟨by rfl, ?_⟩) hHeld ?_
    rotate_left
    · (intro w' hSw; (try dsimp only at hSw); go_simp; try (with_reducible rfl))
    try simp only [Act.put, List.setIfInBounds_toArray, List.set_cons_zero, List.set_cons_succ]
    skip
    refine wpAnyH_done (by kernel_rfl) ?_ _
    have hb := HB.out
    replace B5 := Lib.hid (B5.out.trans (hb.mono B5.out.size))
    clear hHeld hb HB
    go_wp2
    go_ret
    exact ⟨rfl, B5.out⟩
  · clear CASE
    have pc0 := Lib.hid trivial
    go_wp2_with (first
      | (clear pc0; refine wpList_ldZ rfl _ rfl (by rfl) V1.out ?_; have pc1 := Lib.hid trivial)
      | (clear pc1; go_at_call 65; refine Calls.mono (rsign_k (r := q) HY.out LM4.out KQ.out) ?_; rintro e wj ⟨rfl, hb⟩; replace V0 := Lib.hid (V0.out.below hb V0.out.lt); replace V1 := Lib.hid (V1.out.below hb V1.out.lt); replace V2 := Lib.hid (V2.out.below hb V2.out.lt); replace V3 := Lib.hid (V3.out.below hb V3.out.lt); replace V4 := Lib.hid (V4.out.below hb V4.out.lt); replace HX := Lib.hid (HX.out.below hb); replace HY := Lib.hid (HY.out.below hb); replace HG := Lib.hid (HG.out.below hb); replace HU := Lib.hid (HU.out.below hb); replace HV := Lib.hid (HV.out.below hb); replace ZO := Lib.hid (ZO.out.below hb); replace VO := Lib.hid (VO.out.below hb VO.out.lt); replace B5 := Lib.hid (B5.out.trans (hb.mono B5.out.size)); clear hb; have pc2 := Lib.hid trivial)
      | (clear pc2; refine wpList_ldZ rfl _ rfl (by rfl) V0.out ?_; have pc3 := Lib.hid trivial)
      | (clear pc3; go_at_call 65; refine Calls.mono (rsign_k (r := p) HX.out LN4.out KP.out) ?_; rintro e wk ⟨rfl, hb⟩; replace V0 := Lib.hid (V0.out.below hb V0.out.lt); replace V1 := Lib.hid (V1.out.below hb V1.out.lt); replace V2 := Lib.hid (V2.out.below hb V2.out.lt); replace V3 := Lib.hid (V3.out.below hb V3.out.lt); replace V4 := Lib.hid (V4.out.below hb V4.out.lt); replace HX := Lib.hid (HX.out.below hb); replace HY := Lib.hid (HY.out.below hb); replace HG := Lib.hid (HG.out.below hb); replace HU := Lib.hid (HU.out.below hb); replace HV := Lib.hid (HV.out.below hb); replace ZO := Lib.hid (ZO.out.below hb); replace VO := Lib.hid (VO.out.below hb VO.out.lt); replace B5 := Lib.hid (B5.out.trans (hb.mono B5.out.size)); clear hb; have pc4 := Lib.hid trivial))
    clear pc4
    have HB : Hid (Below wk.heap.size wk wk.drew) := below_drewN _ wk 1
    refine wp_region_held_drew (S := fun w' => Below wk.heap.size wk w') (by kernel_rfl) (HB.out) (fun hHeld => ?_)
    refine wpAnyH_takeL (i := 0) (oi := _) rfl (by kernel_rfl) (by kernel_rfl) (by kernel_rfl) (fun _ _ _ h => h) (yields_ldZ (by rfl) _ rfl (by rfl) (fun _ hb => V3.out.below hb V3.out.lt)) hHeld ?_
    try simp only [Act.put, List.setIfInBounds_toArray, List.set_cons_zero, List.set_cons_succ]
    refine wpAnyH_ready (rs := [1]) (by kernel_rfl) (by simp) ?_
    refine AllReadyH.consL (o := _) rfl (fun K hK => ?_) AllReadyH.nil
    clear hHeld
    go_simp
    go_at_call 65
    refine Calls.mono (rsign_k (r := ku) (HU.out.below HB.out).in_ LU4.out KU.out) ?_
    rintro e wl ⟨rfl, hb⟩
    replace HB := Lib.hid (HB.out.trans (hb.mono HB.out.size))
    clear hb
    refine hK.out _ _ HB.out (fun hHeld => ?_)
    clear hK K
    try simp only [Act.put, List.setIfInBounds_toArray, List.set_cons_zero, List.set_cons_succ]
    refine wpAnyH_takeL (i := 2) (oi := _) (v := ?_) rfl (by kernel_rfl) (by kernel_rfl) (by kernel_rfl) (fun _ _ _ h => h) (Or.inl ⟨by rfl, ?_⟩) hHeld ?_
    rotate_left
    · (intro w' hSw; (try dsimp only at hSw); go_simp; try (with_reducible rfl))
    try simp only [Act.put, List.setIfInBounds_toArray, List.set_cons_zero, List.set_cons_succ]
    refine wpAnyH_takeL (i := 3) (oi := _) (v := ?_) rfl (by kernel_rfl) (by kernel_rfl) (by kernel_rfl) (fun _ _ _ h => h) (Or.inl ⟨by rfl, ?_⟩) hHeld ?_
    rotate_left
    · (intro w' hSw; (try dsimp only at hSw); go_simp; try (with_reducible rfl))
    try simp only [Act.put, List.setIfInBounds_toArray, List.set_cons_zero, List.set_cons_succ]
    refine wpAnyH_takeL (i := 4) (oi := _) rfl (by kernel_rfl) (by kernel_rfl) (by kernel_rfl) (fun _ _ _ h => h) (yields_ldZ (by rfl) _ rfl (by rfl) (fun _ hb => V4.out.below hb V4.out.lt)) hHeld ?_
    try simp only [Act.put, List.setIfInBounds_toArray, List.set_cons_zero, List.set_cons_succ]
    refine wpAnyH_takeL (i := 6) (oi := _) rfl (by kernel_rfl) (by kernel_rfl) (by kernel_rfl) (fun _ _ _ h => h) (yields_ldZ (by rfl) _ rfl (by rfl) (fun _ hb => VO.out.below hb VO.out.lt)) hHeld ?_
    try simp only [Act.put, List.setIfInBounds_toArray, List.set_cons_zero, List.set_cons_succ]
    refine wpAnyH_ready (rs := [5]) (by kernel_rfl) (by simp) ?_
    refine AllReadyH.consL (o := _) rfl (fun K hK => ?_) AllReadyH.nil
    clear hHeld
    go_simp
    go_at_call 66
    refine Calls.mono (rabs_z (x := v) (z := av) (HV.out.below HB.out).in_ LV4.out EV.out) ?_
    rintro e wm ⟨P1, cP1, rfl, ho, hb⟩
    replace HB := Lib.hid (HB.out.trans (hb.mono HB.out.size))
    have ZP1 := Lib.hid (Zo.of_own ho)
    clear ho
    clear hb
    refine hK.out _ _ HB.out (fun hHeld => ?_)
    clear hK K
    try simp only [Act.put, List.setIfInBounds_toArray, List.set_cons_zero, List.set_cons_succ]
    refine wpAnyH_ready (rs := [7]) (by kernel_rfl) (by simp) ?_
    refine AllReadyH.consL (o := _) rfl (fun K hK => ?_) AllReadyH.nil
    clear hHeld
    go_simp
    go_at_call 63
    refine Calls.mono (rcompare_k (x := av) (y := one) (r := r2) ZP1.out.in_ (ZO.out.below HB.out).in_ LAV.out LO3.out K2.out) ?_
    rintro e wn ⟨rfl, hb⟩
    replace HB := Lib.hid (HB.out.trans (hb.mono HB.out.size))
    clear hb
    refine hK.out _ _ HB.out (fun hHeld => ?_)
    clear hK K
    try simp only [Act.put, List.setIfInBounds_toArray, List.set_cons_zero, List.set_cons_succ]
    refine wpAnyH_takeL (i := 8) (oi := _) (v := ?_) rfl (by kernel_rfl) (by kernel_rfl) (by kernel_rfl) (fun _ _ _ h => h) (Or.inl ⟨by rfl, ?_⟩) hHeld ?_
    rotate_left
    · (intro w' hSw; (try dsimp only at hSw); go_simp; try (with_reducible rfl))
    try simp only [Act.put, List.setIfInBounds_toArray, List.set_cons_zero, List.set_cons_succ]
    refine wpAnyH_takeL (i := 9) (oi := _) (v := ?_) rfl (by kernel_rfl) (by kernel_rfl) (by kernel_rfl) (fun _ _ _ h => h) (Or.inl ⟨by rfl, ?_⟩) hHeld ?_
    rotate_left
    · (intro w' hSw; (try dsimp only at hSw); go_simp; try (with_reducible rfl))
    try simp only [Act.put, List.setIfInBounds_toArray, List.set_cons_zero, List.set_cons_succ]
    refine wpAnyH_takeL (i := 10) (oi := _) (v := ?_) rfl (by kernel_rfl) (by kernel_rfl) (by kernel_rfl) (fun _ _ _ h => h) (Or.inl ⟨by rfl, ?_⟩) hHeld ?_
    rotate_left
    · (intro w' hSw; (try dsimp only at hSw); go_simp; try (with_reducible rfl))
    try simp only [Act.put, List.setIfInBounds_toArray, List.set_cons_zero, List.set_cons_succ]
    skip
    refine wpAnyH_done (by kernel_rfl) ?_ _
    have hb := HB.out
    replace B5 := Lib.hid (B5.out.trans (hb.mono B5.out.size))
    clear hHeld hb HB
    go_wp2
    go_ret
    exact ⟨rfl, B5.out⟩
  · clear CASE
    have pc0 := Lib.hid trivial
    go_wp2_with (first
      | (clear pc0; refine wpList_ldZ rfl _ rfl (by rfl) V1.out ?_; have pc1 := Lib.hid trivial)
      | (clear pc1; go_at_call 65; refine Calls.mono (rsign_k (r := q) HY.out LM4.out KQ.out) ?_; rintro e wj ⟨rfl, hb⟩; replace V0 := Lib.hid (V0.out.below hb V0.out.lt); replace V1 := Lib.hid (V1.out.below hb V1.out.lt); replace V2 := Lib.hid (V2.out.below hb V2.out.lt); replace V3 := Lib.hid (V3.out.below hb V3.out.lt); replace V4 := Lib.hid (V4.out.below hb V4.out.lt); replace HX := Lib.hid (HX.out.below hb); replace HY := Lib.hid (HY.out.below hb); replace HG := Lib.hid (HG.out.below hb); replace HU := Lib.hid (HU.out.below hb); replace HV := Lib.hid (HV.out.below hb); replace ZO := Lib.hid (ZO.out.below hb); replace VO := Lib.hid (VO.out.below hb VO.out.lt); replace B5 := Lib.hid (B5.out.trans (hb.mono B5.out.size)); clear hb; have pc2 := Lib.hid trivial)
      | (clear pc2; refine wpList_ldZ rfl _ rfl (by rfl) V0.out ?_; have pc3 := Lib.hid trivial)
      | (clear pc3; go_at_call 65; refine Calls.mono (rsign_k (r := p) HX.out LN4.out KP.out) ?_; rintro e wk ⟨rfl, hb⟩; replace V0 := Lib.hid (V0.out.below hb V0.out.lt); replace V1 := Lib.hid (V1.out.below hb V1.out.lt); replace V2 := Lib.hid (V2.out.below hb V2.out.lt); replace V3 := Lib.hid (V3.out.below hb V3.out.lt); replace V4 := Lib.hid (V4.out.below hb V4.out.lt); replace HX := Lib.hid (HX.out.below hb); replace HY := Lib.hid (HY.out.below hb); replace HG := Lib.hid (HG.out.below hb); replace HU := Lib.hid (HU.out.below hb); replace HV := Lib.hid (HV.out.below hb); replace ZO := Lib.hid (ZO.out.below hb); replace VO := Lib.hid (VO.out.below hb VO.out.lt); replace B5 := Lib.hid (B5.out.trans (hb.mono B5.out.size)); clear hb; have pc4 := Lib.hid trivial))
    clear pc4
    have HB : Hid (Below wk.heap.size wk wk.drew) := below_drewN _ wk 1
    refine wp_region_held_drew (S := fun w' => Below wk.heap.size wk w') (by kernel_rfl) (HB.out) (fun hHeld => ?_)
    refine wpAnyH_takeL (i := 0) (oi := _) rfl (by kernel_rfl) (by kernel_rfl) (by kernel_rfl) (fun _ _ _ h => h) (yields_ldZ (by rfl) _ rfl (by rfl) (fun _ hb => V3.out.below hb V3.out.lt)) hHeld ?_
    try simp only [Act.put, List.setIfInBounds_toArray, List.set_cons_zero, List.set_cons_succ]
    refine wpAnyH_takeL (i := 2) (oi := _) rfl (by kernel_rfl) (by kernel_rfl) (by kernel_rfl) (fun _ _ _ h => h) (yields_ldZ (by rfl) _ rfl (by rfl) (fun _ hb => V2.out.below hb V2.out.lt)) hHeld ?_
    try simp only [Act.put, List.setIfInBounds_toArray, List.set_cons_zero, List.set_cons_succ]
    refine wpAnyH_takeL (i := 4) (oi := _) rfl (by kernel_rfl) (by kernel_rfl) (by kernel_rfl) (fun _ _ _ h => h) (yields_ldZ (by rfl) _ rfl (by rfl) (fun _ hb => V1.out.below hb V1.out.lt)) hHeld ?_
    try simp only [Act.put, List.setIfInBounds_toArray, List.set_cons_zero, List.set_cons_succ]
    refine wpAnyH_ready (rs := [1]) (by kernel_rfl) (by simp) ?_
    refine AllReadyH.consL (o := _) rfl (fun K hK => ?_) AllReadyH.nil
    clear hHeld
    go_simp
    go_at_call 66
    refine Calls.mono (rabs_z (x := u) (z := au) (HU.out.below HB.out).in_ LU4.out EU.out) ?_
    rintro e wl ⟨P1, cP1, rfl, ho, hb⟩
    replace HB := Lib.hid (HB.out.trans (hb.mono HB.out.size))
    have ZP1 := Lib.hid (Zo.of_own ho)
    clear ho
    clear hb
    refine hK.out _ _ HB.out (fun hHeld => ?_)
    clear hK K
    try simp only [Act.put, List.setIfInBounds_toArray, List.set_cons_zero, List.set_cons_succ]
    refine wpAnyH_ready (rs := [3]) (by kernel_rfl) (by simp) ?_
    refine AllReadyH.consL (o := _) rfl (fun K hK => ?_) AllReadyH.nil
    clear hHeld
    go_simp
    go_at_call 50
    refine Calls.mono (rmul_z (x := au) (y := g) (z := m3) ZP1.out.in_ (HG.out.below HB.out).in_ LUG.out E3.out) ?_
    rintro e wm ⟨P2, cP2, rfl, ho, hb⟩
    replace HB := Lib.hid (HB.out.trans (hb.mono HB.out.size))
    have ZP2 := Lib.hid (Zo.of_own ho)
    clear ho
    clear hb
    refine hK.out _ _ HB.out (fun hHeld => ?_)
    clear hK K
    try simp only [Act.put, List.setIfInBounds_toArray, List.set_cons_zero, List.set_cons_succ]
    refine wpAnyH_ready (rs := [5]) (by kernel_rfl) (by simp) ?_
    refine AllReadyH.consL (o := _) rfl (fun K hK => ?_) AllReadyH.nil
    clear hHeld
    go_simp
    go_at_call 66
    refine Calls.mono (rabs_z (x := y) (z := ay) (HY.out.below HB.out) LM4.out EY.out) ?_
    rintro e wn ⟨P3, cP3, rfl, ho, hb⟩
    replace HB := Lib.hid (HB.out.trans (hb.mono HB.out.size))
    replace ZP2 := Lib.hid (ZP2.out.below hb)
    have ZP3 := Lib.hid (Zo.of_own ho)
    clear ho
    clear hb
    refine hK.out _ _ HB.out (fun hHeld => ?_)
    clear hK K
    try simp only [Act.put, List.setIfInBounds_toArray, List.set_cons_zero, List.set_cons_succ]
    refine wpAnyH_ready (rs := [6]) (by kernel_rfl) (by simp) ?_
    refine AllReadyH.consL (o := _) rfl (fun K hK => ?_) AllReadyH.nil
    clear hHeld
    go_simp
    go_at_call 63
    refine Calls.mono (rcompare_k (x := m3) (y := ay) (r := r3) ZP2.out.in_ ZP3.out.in_ L33.out LAY.out K3.out) ?_
    rintro e wo ⟨rfl, hb⟩
    replace HB := Lib.hid (HB.out.trans (hb.mono HB.out.size))
    clear hb
    refine hK.out _ _ HB.out (fun hHeld => ?_)
    clear hK K
    try simp only [Act.put, List.setIfInBounds_toArray, List.set_cons_zero, List.set_cons_succ]
    refine wpAnyH_takeL (i := 7) (oi := _) (v := ?_) rfl (by kernel_rfl) (by kernel_rfl) (by kernel_rfl) (fun _ _ _ h => h) (Or.inl ⟨by rfl, ?_⟩) hHeld ?_
    rotate_left
    · (intro w' hSw; (try dsimp only at hSw); go_simp; try (with_reducible rfl))
    try simp only [Act.put, List.setIfInBounds_toArray, List.set_cons_zero, List.set_cons_succ]
    refine wpAnyH_takeL (i := 8) (oi := _) (v := ?_) rfl (by kernel_rfl) (by kernel_rfl) (by kernel_rfl) (fun _ _ _ h => h) (Or.inl ⟨by rfl, ?_⟩) hHeld ?_
    rotate_left
    · (intro w' hSw; (try dsimp only at hSw); go_simp; try (with_reducible rfl))
    try simp only [Act.put, List.setIfInBounds_toArray, List.set_cons_zero, List.set_cons_succ]
    refine wpAnyH_takeL (i := 9) (oi := _) rfl (by kernel_rfl) (by kernel_rfl) (by kernel_rfl) (fun _ _ _ h => h) (yields_ldZ (by rfl) _ rfl (by rfl) (fun _ hb => V4.out.below hb V4.out.lt)) hHeld ?_
    try simp only [Act.put, List.setIfInBounds_toArray, List.set_cons_zero, List.set_cons_succ]
    refine wpAnyH_takeL (i := 11) (oi := _) rfl (by kernel_rfl) (by kernel_rfl) (by kernel_rfl) (fun _ _ _ h => h) (yields_ldZ (by rfl) _ rfl (by rfl) (fun _ hb => V2.out.below hb V2.out.lt)) hHeld ?_
    try simp only [Act.put, List.setIfInBounds_toArray, List.set_cons_zero, List.set_cons_succ]
    refine wpAnyH_takeL (i := 13) (oi := _) rfl (by kernel_rfl) (by kernel_rfl) (by kernel_rfl) (fun _ _ _ h => h) (yields_ldZ (by rfl) _ rfl (by rfl) (fun _ hb => V0.out.below hb V0.out.lt)) hHeld ?_
    try simp only [Act.put, List.setIfInBounds_toArray, List.set_cons_zero, List.set_cons_succ]
    refine wpAnyH_ready (rs := [10]) (by kernel_rfl) (by simp) ?_
    refine AllReadyH.consL (o := _) rfl (fun K hK => ?_) AllReadyH.nil
    clear hHeld
    go_simp
    go_at_call 66
    refine Calls.mono (rabs_z (x := v) (z := av) (HV.out.below HB.out).in_ LV4.out EV.out) ?_
    rintro e wp ⟨P4, cP4, rfl, ho, hb⟩
    replace HB := Lib.hid (HB.out.trans (hb.mono HB.out.size))
    have ZP4 := Lib.hid (Zo.of_own ho)
    clear ho
    clear hb
    refine hK.out _ _ HB.out (fun hHeld => ?_)
    clear hK K
    try simp only [Act.put, List.setIfInBounds_toArray, List.set_cons_zero, List.set_cons_succ]
    refine wpAnyH_ready (rs := [12]) (by kernel_rfl) (by simp) ?_
    refine AllReadyH.consL (o := _) rfl (fun K hK => ?_) AllReadyH.nil
    clear hHeld
    go_simp
    go_at_call 50
    refine Calls.mono (rmul_z (x := av) (y := g) (z := m4) ZP4.out.in_ (HG.out.below HB.out).in_ LVG.out E4.out) ?_
    rintro e wq ⟨P5, cP5, rfl, ho, hb⟩
    replace HB := Lib.hid (HB.out.trans (hb.mono HB.out.size))
    have ZP5 := Lib.hid (Zo.of_own ho)
    clear ho
    clear hb
    refine hK.out _ _ HB.out (fun hHeld => ?_)
    clear hK K
    try simp only [Act.put, List.setIfInBounds_toArray, List.set_cons_zero, List.set_cons_succ]
    refine wpAnyH_ready (rs := [14]) (by kernel_rfl) (by simp) ?_
    refine AllReadyH.consL (o := _) rfl (fun K hK => ?_) AllReadyH.nil
    clear hHeld
    go_simp
    go_at_call 66
    refine Calls.mono (rabs_z (x := x) (z := ax) (HX.out.below HB.out) LN4.out EX.out) ?_
    rintro e wr ⟨P6, cP6, rfl, ho, hb⟩
    replace HB := Lib.hid (HB.out.trans (hb.mono HB.out.size))
    replace ZP5 := Lib.hid (ZP5.out.below hb)
    have ZP6 := Lib.hid (Zo.of_own ho)
    clear ho
    clear hb
    refine hK.out _ _ HB.out (fun hHeld => ?_)
    clear hK K
    try simp only [Act.put, List.setIfInBounds_toArray, List.set_cons_zero, List.set_cons_succ]
    refine wpAnyH_ready (rs := [15]) (by kernel_rfl) (by simp) ?_
    refine AllReadyH.consL (o := _) rfl (fun K hK => ?_) AllReadyH.nil
    clear hHeld
    go_simp
    go_at_call 63
    refine Calls.mono (rcompare_k (x := m4) (y := ax) (r := r4) ZP5.out.in_ ZP6.out.in_ L43.out LAX.out K4.out) ?_
    rintro e ws ⟨rfl, hb⟩
    replace HB := Lib.hid (HB.out.trans (hb.mono HB.out.size))
    clear hb
    refine hK.out _ _ HB.out (fun hHeld => ?_)
    clear hK K
    try simp only [Act.put, List.setIfInBounds_toArray, List.set_cons_zero, List.set_cons_succ]
    refine wpAnyH_takeL (i := 16) (oi := _) (v := ?_) rfl (by kernel_rfl) (by kernel_rfl) (by kernel_rfl) (fun _ _ _ h => h) (Or.inl ⟨by rfl, ?_⟩) hHeld ?_
    rotate_left
    · (intro w' hSw; (try dsimp only at hSw); go_simp; try (with_reducible rfl))
    try simp only [Act.put, List.setIfInBounds_toArray, List.set_cons_zero, List.set_cons_succ]
    refine wpAnyH_takeL (i := 17) (oi := _) (v := ?_) rfl (by kernel_rfl) (by kernel_rfl) (by kernel_rfl) (fun _ _ _ h => h) (Or.inl ⟨by rfl, ?_⟩) hHeld ?_
    rotate_left
    · (intro w' hSw; (try dsimp only at hSw); go_simp; try (with_reducible rfl))
    try simp only [Act.put, List.setIfInBounds_toArray, List.set_cons_zero, List.set_cons_succ]
    refine wpAnyH_takeL (i := 18) (oi := _) (v := ?_) rfl (by kernel_rfl) (by kernel_rfl) (by kernel_rfl) (fun _ _ _ h => h) (Or.inl ⟨by rfl, ?_⟩) hHeld ?_
    rotate_left
    · (intro w' hSw; (try dsimp only at hSw); go_simp; try (with_reducible rfl))
    try simp only [Act.put, List.setIfInBounds_toArray, List.set_cons_zero, List.set_cons_succ]
    skip
    refine wpAnyH_done (by kernel_rfl) ?_ _
    have hb := HB.out
    replace B5 := Lib.hid (B5.out.trans (hb.mono B5.out.size))
    clear hHeld hb HB
    go_wp2
    go_ret
    exact ⟨rfl, B5.out⟩
end Go.Proofs.Ytgleknejogbomaa
