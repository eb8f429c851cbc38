/-
  The walk of the law IntegerDivisors: GCD is divided by every common divisor.
-/
import Derived.Test.YtgleknejogbomaaVar
import Derived.Test.YtgleknejogbomaaZtri
namespace Go.Proofs.Ytgleknejogbomaa
open Go.RowKit
set_option linter.unusedVariables false

theorem divisors_facts {x y z g r : Int} (eg : ((Int.gcd (x * z) (y * z) : Nat) : Int) = g) (er : g % z = r) : r = 0 := by
  rw [← er, ← eg, Int.gcd_mul_right]
  exact Int.emod_eq_zero_of_dvd (by
    rw [Int.natCast_mul]
    exact Int.dvd_trans (Int.dvd_natAbs.2 (Int.dvd_refl z)) (Int.dvd_mul_left _ _))
set_option maxRecDepth 100000 in
set_option maxHeartbeats 16000000 in
theorem divisors_pos (s : Bool) (A : Option Addr) (n c : Nat) (x : Int) (t : Bool) (B : Option Addr) (m d : Nat) (y : Int) (u : Bool) (C : Option Addr) (k e : Nat) (z : Int) (w : World) (h : Zin w s A n c x) (hn : n ≤ 35184372087808) (h' : Zin w t B m d y) (hm : m ≤ 35184372087808) (h'' : Zin w u C k e z) (hk : k ≤ 35184372087808) (hz : z ≠ 0) :
    Calls Try.prog 4 #[.agg #[.bool s, .slice A n c], .agg #[.bool t, .slice B m d], .agg #[.bool u, .slice C k e]] w fun e w' => e = .returned (.bool true) ∧ Below w.heap.size w w' := by
  obtain ⟨B1, V0, V1, V2⟩ := begin3 w s A n c t B m d u C k e
  have HX := Lib.hid (h.below B1.out)
  have HY := Lib.hid (h'.below B1.out)
  have HZ := Lib.hid (h''.below B1.out)
  have lx := Nat.le_trans h.len hn
  have ly := Nat.le_trans h'.len hm
  have lz := Nat.le_trans h''.len hk
  obtain ⟨p, ep⟩ : ∃ v, x * z = v := ⟨_, rfl⟩
  obtain ⟨q, eq⟩ : ∃ v, y * z = v := ⟨_, rfl⟩
  obtain ⟨g, eg⟩ : ∃ v, ((Int.gcd p q : Nat) : Int) = v := ⟨_, rfl⟩
  have l1 := zlen_mul (x := x) (y := z) lx lz
  have l2 := zlen_mul (x := y) (y := z) ly lz
  rw [ep] at l1
  rw [eq] at l2
  have lg : (ofv g.natAbs).length ≤ 70368744175616 := by rw [← eg]; exact len_gcd_max _ _ _ l1 l2
  have EP := Lib.hid ep
  have EQ := Lib.hid eq
  have EG := Lib.hid eg
  have LNK : Hid (n + k ≤ 70368744177664) := by show _ ≤ _; omega
  have LMK : Hid (m + k ≤ 70368744177664) := by show _ ≤ _; omega
  have LP : Hid ((ofv p.natAbs).length ≤ 70368744177663) := by show _ ≤ _; omega
  have LQ : Hid ((ofv q.natAbs).length ≤ 70368744177663) := by show _ ≤ _; omega
  have LG : Hid ((ofv g.natAbs).length ≤ 70368744177660) := by show _ ≤ _; omega
  have LK : Hid (k ≤ 70368744177660) := by show _ ≤ _; omega
  obtain ⟨qq, dq⟩ : ∃ v, g / z = v := ⟨_, rfl⟩
  obtain ⟨r, dr⟩ : ∃ v, g % z = v := ⟨_, rfl⟩
  have SR : Hid (sg r = 0) := by
    show _ = _
    have := divisors_facts (x := x) (y := y) (z := z) (g := g) (by rw [ep, eq]; exact eg) dr
    rw [this]; rfl
  have DQ := Lib.hid dq
  have DR := Lib.hid dr
  have NZ := Lib.hid hz
  clear dq dr hz
  clear h h' h'' hn hm hk lx ly lz ep eq eg l1 l2 lg
  go_enter Try.func4, Try.ntmps4
  go_wp2_with fail
  generalize (((w.alloc (.cells #[.bool s, .slice A n c] 24)).alloc (.cells #[.bool t, .slice B m d] 24)).alloc (.cells #[.bool u, .slice C k e] 24)) = w2 at *
  have LT : Hid (w.heap.size + 2 < w2.heap.size) := V2.out.lt
  have HB : Hid (Below w2.heap.size w2 w2.drew) := below_drewN _ w2 1
  have hHeld := HB.out
  refine wp_region_held_split (S := fun w' => Below w2.heap.size w2 w') 8 (by kernel_rfl) (by kernel_rfl) ?_
  simp only [List.take_succ_cons, List.take_zero, List.drop_succ_cons, List.drop_zero]
  refine wpAnyH_takeL (i := 0) (oi := _) rfl (by kernel_rfl) (by kernel_rfl) (by kernel_rfl) (fun _ _ _ h => h) (yields_ldZ (by rfl) _ rfl (by rfl) (fun _ hb => V0.out.below hb V0.out.lt)) hHeld ?_
  try simp only [Act.put, List.setIfInBounds_toArray, List.set_cons_zero, List.set_cons_succ]
  refine wpAnyH_takeL (i := 1) (oi := _) rfl (by kernel_rfl) (by kernel_rfl) (by kernel_rfl) (fun _ _ _ h => h) (yields_ldZ (by rfl) _ rfl (by rfl) (fun _ hb => V2.out.below hb V2.out.lt)) hHeld ?_
  try simp only [Act.put, List.setIfInBounds_toArray, List.set_cons_zero, List.set_cons_succ]
  refine wpAnyH_takeL (i := 3) (oi := _) rfl (by kernel_rfl) (by kernel_rfl) (by kernel_rfl) (fun _ _ _ h => h) (yields_ldZ (by rfl) _ rfl (by rfl) (fun _ hb => V1.out.below hb V1.out.lt)) hHeld ?_
  try simp only [Act.put, List.setIfInBounds_toArray, List.set_cons_zero, List.set_cons_succ]
  refine wpAnyH_takeL (i := 4) (oi := _) rfl (by kernel_rfl) (by kernel_rfl) (by kernel_rfl) (fun _ _ _ h => h) (yields_ldZ (by rfl) _ rfl (by rfl) (fun _ hb => V2.out.below hb V2.out.lt)) hHeld ?_
  try simp only [Act.put, List.setIfInBounds_toArray, List.set_cons_zero, List.set_cons_succ]
  refine wpAnyH_rgb [(2, some 14), (5, some 17), (6, some 7), (7, some 8)] (isNewZ w2.heap.size) [(2, isZ p w2.heap.size), (5, isZ q w2.heap.size)] w2 (by kernel_rfl) (by kernel_rfl) (by decide) HB.out (fun _ h => h) (isNewZ_good _) ⟨isZ_good _ _, isZ_good _ _, trivial⟩ ?_ ?_
  · clear hHeld HB
    refine RgOps.consL (o := _) (ds := []) rfl rfl (by kernel_rfl) (fun vals wr hbr hC hdep K hK => ?_) ?_
    · have BB := Lib.hid hbr
      clear hdep
      clear hbr hC
      simp only [Upd2, Act.put, List.setIfInBounds_toArray, List.set_cons_zero, List.set_cons_succ] at hK ⊢
      go_simp
      go_at_call 18
      refine Calls.mono (mul_z (x := x) (y := z) (z := p) (HX.out.below BB.out) (HZ.out.below BB.out) LNK.out EP.out) ?_
      rintro e wq ⟨R, cR, rfl, ho, hb⟩
      exact hK.out _ _ (LeavesB.giveZ BB.out.size ho hb)
    refine RgOps.consL (o := _) (ds := [2]) rfl rfl (by kernel_rfl) (fun vals wr hbr hC hdep K hK => ?_) ?_
    · have BB := Lib.hid hbr
      obtain ⟨⟨P2, c2, e2, o2⟩, -⟩ := hdep
      clear hbr hC
      simp only [e2, Upd2, Act.put, List.setIfInBounds_toArray, List.set_cons_zero, List.set_cons_succ] at hK ⊢
      clear e2
      go_simp
      go_at_call 18
      refine Calls.mono (mul_z (x := y) (y := z) (z := q) (HY.out.below BB.out) (HZ.out.below BB.out) LMK.out EQ.out) ?_
      rintro e wq ⟨R, cR, rfl, ho, hb⟩
      exact hK.out _ _ (LeavesB.giveZ BB.out.size ho hb)
    refine RgOps.consL (o := _) (ds := []) rfl rfl (by kernel_rfl) (fun vals wr hbr hC hdep K hK => ?_) ?_
    · have BB := Lib.hid hbr
      clear hdep
      clear hbr hC
      simp only [Upd2, Act.put, List.setIfInBounds_toArray, List.set_cons_zero, List.set_cons_succ] at hK ⊢
      go_simp
      exact hK.out _ _ (LeavesB.newZ BB.out.size)
    refine RgOps.consL (o := _) (ds := []) rfl rfl (by kernel_rfl) (fun vals wr hbr hC hdep K hK => ?_) RgOps.nil
    · have BB := Lib.hid hbr
      clear hdep
      clear hbr hC
      simp only [Upd2, Act.put, List.setIfInBounds_toArray, List.set_cons_zero, List.set_cons_succ] at hK ⊢
      go_simp
      exact hK.out _ _ (LeavesB.newZ BB.out.size)
  clear hHeld HB
  intro vals wr hb hdep hD
  have NG0 := Lib.hid (hD 6 (by decide) 7 (by decide) (by decide))
  obtain ⟨⟨P2, c2, e2, o2⟩, ⟨P5, c5, e5, o5⟩, ⟨g6, e6, l6, z6⟩, ⟨g7, e7, l7, z7⟩, -⟩ := hdep
  have NG : Hid (g6 ≠ g7) := fun e => NG0.out g6 (by rw [e6]; rfl) (by rw [e7, e]; rfl)
  simp only [Upd2, e2, e5, e6, e7, Act.put, List.setIfInBounds_toArray, List.set_cons_zero, List.set_cons_succ]
  clear NG0 e2 e5 e6 e7
  clear hD vals
  replace V0 := Lib.hid (V0.out.below hb V0.out.lt)
  replace V1 := Lib.hid (V1.out.below hb V1.out.lt)
  replace V2 := Lib.hid (V2.out.below hb V2.out.lt)
  replace HX := Lib.hid (HX.out.below hb)
  replace HY := Lib.hid (HY.out.below hb)
  replace HZ := Lib.hid (HZ.out.below hb)
  replace B1 := Lib.hid (B1.out.trans (hb.mono B1.out.size))
  clear hb
  show wpList _ _ _ _ _ _
  have ZP := Lib.hid (Zo.of_own o2); have ZQ := Lib.hid (Zo.of_own o5); have G1 := Lib.hid z6; have G2 := Lib.hid z7; have LG1 : Hid (w.heap.size + 2 < g6) := Nat.lt_of_lt_of_le LT.out l6; have LG2 : Hid (w.heap.size + 2 < g7) := Nat.lt_of_lt_of_le LT.out l7
  clear o2 o5 z6 z7 l6 l7
  refine wpList_stZ (by rfl) _ _ rfl (by rfl) (by rfl) G1.out ?_
  intro w5 hz hg
  replace V0 := Lib.hid (V0.out.gr hg (by have := LG1.out; have := LG2.out; have := NG.out; omega))
  replace V1 := Lib.hid (V1.out.gr hg (by have := LG1.out; have := LG2.out; have := NG.out; omega))
  replace V2 := Lib.hid (V2.out.gr hg (by have := LG1.out; have := LG2.out; have := NG.out; omega))
  replace HX := Lib.hid (HX.out.gr G1.out hg)
  replace HY := Lib.hid (HY.out.gr G1.out hg)
  replace HZ := Lib.hid (HZ.out.gr G1.out hg)
  replace ZP := Lib.hid (ZP.out.gr G1.out hg)
  replace ZQ := Lib.hid (ZQ.out.gr G1.out hg)
  replace G2 := Lib.hid (G2.out.gr hg (by have := LG1.out; have := LG2.out; have := NG.out; omega))
  replace B1 := Lib.hid (Below.gr B1.out (by have := LG1.out; have := LG2.out; have := NG.out; omega) hg B1.out.size)
  replace G1 := Lib.hid hz
  clear hz hg
  refine wpList_stZ (by rfl) _ _ rfl (by rfl) (by rfl) G2.out ?_
  intro w6 hz hg
  replace V0 := Lib.hid (V0.out.gr hg (by have := LG1.out; have := LG2.out; have := NG.out; omega))
  replace V1 := Lib.hid (V1.out.gr hg (by have := LG1.out; have := LG2.out; have := NG.out; omega))
  replace V2 := Lib.hid (V2.out.gr hg (by have := LG1.out; have := LG2.out; have := NG.out; omega))
  replace HX := Lib.hid (HX.out.gr G2.out hg)
  replace HY := Lib.hid (HY.out.gr G2.out hg)
  replace HZ := Lib.hid (HZ.out.gr G2.out hg)
  replace ZP := Lib.hid (ZP.out.gr G2.out hg)
  replace ZQ := Lib.hid (ZQ.out.gr G2.out hg)
  replace G1 := Lib.hid (G1.out.gr hg (by have := LG1.out; have := LG2.out; have := NG.out; omega))
  replace B1 := Lib.hid (Below.gr B1.out (by have := LG1.out; have := LG2.out; have := NG.out; omega) hg B1.out.size)
  replace G2 := Lib.hid hz
  clear hz hg
  go_wp2_with fail
  have LT6 : Hid (w.heap.size + 2 < w6.heap.size ∧ g6 < w6.heap.size ∧ g7 < w6.heap.size) := ⟨V2.out.lt, G1.out.lt, G2.out.lt⟩
  have HB : Hid (Below w6.heap.size w6 w6.drew) := below_drewN _ w6 1
  refine wp_region_held_drew (S := fun w' => Below w6.heap.size w6 w') (by kernel_rfl) (HB.out) (fun hHeld => ?_)
  refine wpAnyH_takeL (i := 0) (oi := _) rfl (by kernel_rfl) (by kernel_rfl) (by kernel_rfl) (fun _ _ _ h => h) (yields_ldZ (by rfl) _ rfl (by rfl) (fun _ hb => G1.out.below hb G1.out.lt)) hHeld ?_
  try simp only [Act.put, List.setIfInBounds_toArray, List.set_cons_zero, List.set_cons_succ]
  refine wpAnyH_takeL (i := 1) (oi := _) rfl (by kernel_rfl) (by kernel_rfl) (by kernel_rfl) (fun _ _ _ h => h) (yields_ldZ (by rfl) _ rfl (by rfl) (fun _ hb => G2.out.below hb G2.out.lt)) hHeld ?_
  try simp only [Act.put, List.setIfInBounds_toArray, List.set_cons_zero, List.set_cons_succ]
  refine wpAnyH_takeL (i := 3) (oi := _) rfl (by kernel_rfl) (by kernel_rfl) (by kernel_rfl) (fun _ _ _ h => h) (yields_ldZ (by rfl) _ rfl (by rfl) (fun _ hb => V2.out.below hb V2.out.lt)) hHeld ?_
  try simp only [Act.put, List.setIfInBounds_toArray, List.set_cons_zero, List.set_cons_succ]
  refine wpAnyH_rgt [(2, some 21), (4, some 23), (5, some 18), (6, some 24), (7, some 25), (8, some 26), (9, some 9), (10, some 10)] [5, 6, 7, 8] (isNewZ w6.heap.size) [(2, isZ g w6.heap.size), (4, isQ qq r w6.heap.size), (5, isQ qq r w6.heap.size), (6, isZ qq w6.heap.size), (7, isZ r w6.heap.size), (8, isV (.bool true))] w6 (f0 := 3) (by kernel_rfl) (by kernel_rfl) (by rfl) HB.out (fun _ h => h) (fun _ _ _ _ _ h => h) (isNewZ_good _) ⟨isZ_good _ _, isQ_good _ _ _, isQ_good _ _ _, isZ_good _ _, isZ_good _ _, isV_good _, trivial⟩ ?_ ?_ ?_
  · clear hHeld HB
    show RgOps _ _ _ _ _ _ _ _ _ [2, 4, 9, 10]
    refine RgOps.consL (o := _) (ds := []) rfl rfl (by kernel_rfl) (fun vals wr hbr hC hdep K hK => ?_) ?_
    · have BB := Lib.hid hbr
      clear hdep
      clear hbr hC
      simp only [Upd2, Act.put, List.setIfInBounds_toArray, List.set_cons_zero, List.set_cons_succ] at hK ⊢
      go_simp
      go_at_call 15
      refine Calls.mono (gcd_z (x := p) (y := q) (z := g) (ZP.out.below BB.out).in_ (ZQ.out.below BB.out).in_ LP.out LQ.out EG.out) ?_
      rintro e wq ⟨R, cR, rfl, ho, hb⟩
      exact hK.out _ _ (LeavesB.giveZ BB.out.size ho hb)
    refine RgOps.consL (o := _) (ds := [2]) rfl rfl (by kernel_rfl) (fun vals wr hbr hC hdep K hK => ?_) ?_
    · have BB := Lib.hid hbr
      obtain ⟨⟨P2, c2, e2, o2⟩, -⟩ := hdep
      clear hbr hC
      simp only [e2, Upd2, Act.put, List.setIfInBounds_toArray, List.set_cons_zero, List.set_cons_succ] at hK ⊢
      clear e2
      go_simp
      go_at_call 19
      refine Calls.mono (dm_z (x := g) (y := z) (q := qq) (r := r) (Zo.of_own o2).in_ (HZ.out.below BB.out) LG.out LK.out NZ.out DQ.out DR.out) ?_
      rintro e wq ⟨R, cR, R2, cR2, rfl, ho, ho2, hb⟩
      exact hK.out _ _ (LeavesB.behind hb ⟨_, _, _, _, rfl, ho.mono BB.out.size, ho2.mono BB.out.size⟩ rfl)
    refine RgOps.consL (o := _) (ds := []) rfl rfl (by kernel_rfl) (fun vals wr hbr hC hdep K hK => ?_) ?_
    · have BB := Lib.hid hbr
      clear hdep
      clear hbr hC
      simp only [Upd2, Act.put, List.setIfInBounds_toArray, List.set_cons_zero, List.set_cons_succ] at hK ⊢
      go_simp
      exact hK.out _ _ (LeavesB.newZ BB.out.size)
    refine RgOps.consL (o := _) (ds := []) rfl rfl (by kernel_rfl) (fun vals wr hbr hC hdep K hK => ?_) RgOps.nil
    · have BB := Lib.hid hbr
      clear hdep
      clear hbr hC
      simp only [Upd2, Act.put, List.setIfInBounds_toArray, List.set_cons_zero, List.set_cons_succ] at hK ⊢
      go_simp
      exact hK.out _ _ (LeavesB.newZ BB.out.size)
  · clear hHeld HB
    show TaAll _ _ _ _ _ [5, 6, 7, 8]
    refine TaAll.cons (o := _) (ds := [4]) rfl rfl (by kernel_rfl) (fun vals wr hdep => ?_) ?_
    · obtain ⟨⟨P4, c4, Q4, d4, e4, o4, u4⟩, -⟩ := hdep
      refine ⟨_, fun S => Or.inl ⟨by rfl, ?_⟩, ⟨_, _, _, _, rfl, o4, u4⟩, rfl⟩
      intro w' _
      simp only [e4, Upd2, Act.put, List.setIfInBounds_toArray, List.set_cons_zero, List.set_cons_succ]
      go_simp
    refine TaAll.cons (o := _) (ds := [5]) rfl rfl (by kernel_rfl) (fun vals wr hdep => ?_) ?_
    · obtain ⟨⟨P5, c5, Q5, d5, e5, o5, u5⟩, -⟩ := hdep
      refine ⟨_, fun S => Or.inl ⟨by rfl, ?_⟩, ⟨_, _, rfl, o5⟩, rfl⟩
      intro w' _
      simp only [e5, Upd2, Act.put, List.setIfInBounds_toArray, List.set_cons_zero, List.set_cons_succ]
      go_simp
    refine TaAll.cons (o := _) (ds := [5]) rfl rfl (by kernel_rfl) (fun vals wr hdep => ?_) ?_
    · obtain ⟨⟨P5, c5, Q5, d5, e5, o5, u5⟩, -⟩ := hdep
      refine ⟨_, fun S => Or.inl ⟨by rfl, ?_⟩, ⟨_, _, rfl, u5⟩, rfl⟩
      intro w' _
      simp only [e5, Upd2, Act.put, List.setIfInBounds_toArray, List.set_cons_zero, List.set_cons_succ]
      go_simp
    refine TaAll.cons (o := _) (ds := [5]) rfl rfl (by kernel_rfl) (fun vals wr hdep => ?_) TaAll.nil
    · obtain ⟨⟨P5, c5, Q5, d5, e5, o5, u5⟩, -⟩ := hdep
      refine ⟨_, fun S => Or.inl ⟨by rfl, ?_⟩, ⟨rfl, rfl⟩, rfl⟩
      intro w' _
      simp only [e5, Upd2, Act.put, List.setIfInBounds_toArray, List.set_cons_zero, List.set_cons_succ]
      go_simp
  clear hHeld HB
  intro vals wr hb hdep hD
  have NH0 := Lib.hid (hD 9 (by decide) 10 (by decide) (by decide))
  obtain ⟨⟨P2, c2, e2, o2⟩, ⟨P4, c4, Q4, d4, e4, o4, u4⟩, ⟨P5, c5, Q5, d5, e5, o5, u5⟩, ⟨P6, c6, e6, o6⟩, ⟨P7, c7, e7, o7⟩, ⟨e8, -⟩, ⟨g9, e9, l9, z9⟩, ⟨g10, e10, l10, z10⟩, -⟩ := hdep
  have NH : Hid (g9 ≠ g10) := fun e => NH0.out g9 (by rw [e9]; rfl) (by rw [e10, e]; rfl)
  simp only [Upd2, e2, e4, e5, e6, e7, e8, e9, e10, Act.put, List.setIfInBounds_toArray, List.set_cons_zero, List.set_cons_succ]
  clear NH0 e2 e4 e5 e6 e7 e8 e9 e10
  clear hD vals
  replace V0 := Lib.hid (V0.out.below hb V0.out.lt)
  replace V1 := Lib.hid (V1.out.below hb V1.out.lt)
  replace V2 := Lib.hid (V2.out.below hb V2.out.lt)
  replace HX := Lib.hid (HX.out.below hb)
  replace HY := Lib.hid (HY.out.below hb)
  replace HZ := Lib.hid (HZ.out.below hb)
  replace ZP := Lib.hid (ZP.out.below hb)
  replace ZQ := Lib.hid (ZQ.out.below hb)
  replace G1 := Lib.hid (G1.out.below hb G1.out.lt)
  replace G2 := Lib.hid (G2.out.below hb G2.out.lt)
  replace B1 := Lib.hid (B1.out.trans (hb.mono B1.out.size))
  have HB := Lib.hid hb
  clear hb
  have ZR := Lib.hid (Zo.of_own o7); have OQ7 := Lib.hid (Zo.of_own o6); have G3 := Lib.hid z9; have G4 := Lib.hid z10; have L9 := Lib.hid l9; have L10 := Lib.hid l10
  clear o2 o4 u4 o5 u5 o6 o7 z9 z10 l9 l10
  refine wpAnyH_ready (rs := [11]) (by kernel_rfl) (by simp) ?_
  refine AllReadyH.consL (o := _) rfl (fun K hK => ?_) AllReadyH.nil
  rw [if_pos (by rfl)]
  refine wp_stZ _ _ rfl (by rfl) (by rfl) G3.out ?_
  intro ws0 hz hg
  replace HB := Lib.hid (Below.gr HB.out (by have := L9.out; have := L10.out; omega) hg HB.out.size)
  replace V0 := Lib.hid (V0.out.gr hg (by have := LG1.out; have := LG2.out; have := NG.out; have := NH.out; have := L9.out; have := L10.out; have := LT6.out; omega))
  replace V1 := Lib.hid (V1.out.gr hg (by have := LG1.out; have := LG2.out; have := NG.out; have := NH.out; have := L9.out; have := L10.out; have := LT6.out; omega))
  replace V2 := Lib.hid (V2.out.gr hg (by have := LG1.out; have := LG2.out; have := NG.out; have := NH.out; have := L9.out; have := L10.out; have := LT6.out; omega))
  replace HX := Lib.hid (HX.out.gr G3.out hg)
  replace HY := Lib.hid (HY.out.gr G3.out hg)
  replace HZ := Lib.hid (HZ.out.gr G3.out hg)
  replace ZP := Lib.hid (ZP.out.gr G3.out hg)
  replace ZQ := Lib.hid (ZQ.out.gr G3.out hg)
  replace G1 := Lib.hid (G1.out.gr hg (by have := LG1.out; have := LG2.out; have := NG.out; have := NH.out; have := L9.out; have := L10.out; have := LT6.out; omega))
  replace G2 := Lib.hid (G2.out.gr hg (by have := LG1.out; have := LG2.out; have := NG.out; have := NH.out; have := L9.out; have := L10.out; have := LT6.out; omega))
  replace ZR := Lib.hid (ZR.out.gr G3.out hg)
  replace OQ7 := Lib.hid (OQ7.out.gr G3.out hg)
  replace G4 := Lib.hid (G4.out.gr hg (by have := LG1.out; have := LG2.out; have := NG.out; have := NH.out; have := L9.out; have := L10.out; have := LT6.out; omega))
  replace B1 := Lib.hid (Below.gr B1.out (by have := LG1.out; have := LG2.out; have := NG.out; have := NH.out; have := L9.out; have := L10.out; have := LT6.out; omega) hg B1.out.size)
  replace G3 := Lib.hid hz
  refine hK.out _ _ ⟨HB.out, HB.out⟩ (fun _ => ?_)
  clear hK K hg hz
  try simp only [Act.put]
  refine wpAnyH_ready (rs := [12]) (by kernel_rfl) (by simp) ?_
  refine AllReadyH.consL (o := _) rfl (fun K hK => ?_) AllReadyH.nil
  rw [if_pos (by rfl)]
  refine wp_stZ _ _ rfl (by rfl) (by rfl) G4.out ?_
  intro ws1 hz hg
  replace HB := Lib.hid (Below.gr HB.out (by have := L9.out; have := L10.out; omega) hg HB.out.size)
  replace V0 := Lib.hid (V0.out.gr hg (by have := LG1.out; have := LG2.out; have := NG.out; have := NH.out; have := L9.out; have := L10.out; have := LT6.out; omega))
  replace V1 := Lib.hid (V1.out.gr hg (by have := LG1.out; have := LG2.out; have := NG.out; have := NH.out; have := L9.out; have := L10.out; have := LT6.out; omega))
  replace V2 := Lib.hid (V2.out.gr hg (by have := LG1.out; have := LG2.out; have := NG.out; have := NH.out; have := L9.out; have := L10.out; have := LT6.out; omega))
  replace HX := Lib.hid (HX.out.gr G4.out hg)
  replace HY := Lib.hid (HY.out.gr G4.out hg)
  replace HZ := Lib.hid (HZ.out.gr G4.out hg)
  replace ZP := Lib.hid (ZP.out.gr G4.out hg)
  replace ZQ := Lib.hid (ZQ.out.gr G4.out hg)
  replace G1 := Lib.hid (G1.out.gr hg (by have := LG1.out; have := LG2.out; have := NG.out; have := NH.out; have := L9.out; have := L10.out; have := LT6.out; omega))
  replace G2 := Lib.hid (G2.out.gr hg (by have := LG1.out; have := LG2.out; have := NG.out; have := NH.out; have := L9.out; have := L10.out; have := LT6.out; omega))
  replace ZR := Lib.hid (ZR.out.gr G4.out hg)
  replace OQ7 := Lib.hid (OQ7.out.gr G4.out hg)
  replace G3 := Lib.hid (G3.out.gr hg (by have := LG1.out; have := LG2.out; have := NG.out; have := NH.out; have := L9.out; have := L10.out; have := LT6.out; omega))
  replace B1 := Lib.hid (Below.gr B1.out (by have := LG1.out; have := LG2.out; have := NG.out; have := NH.out; have := L9.out; have := L10.out; have := LT6.out; omega) hg B1.out.size)
  replace G4 := Lib.hid hz
  refine hK.out _ _ ⟨HB.out, HB.out⟩ (fun _ => ?_)
  clear hK K hg hz
  try simp only [Act.put]
  have hHeld : Below w6.heap.size w6 _ ∧ Below w6.heap.size w6 _ := ⟨HB.out, HB.out⟩
  refine wpAnyH_takeL (i := 13) (oi := _) (v := ?_) rfl (by kernel_rfl) (by kernel_rfl) (by kernel_rfl) (fun _ _ _ h => h) (Or.inl ⟨by rfl, ?_⟩) hHeld ?_
  rotate_left
  · (intro w' hSw; (try dsimp only at hSw); go_simp; try (with_reducible rfl))
  try simp only [Act.put, List.setIfInBounds_toArray, List.set_cons_zero, List.set_cons_succ]
  clear hHeld
  refine wpAnyH_done (by kernel_rfl) ?_ _
  clear HB
  have pc0 := Lib.hid trivial
  go_wp2_with (first
    | (clear pc0; refine wpList_ldZ (by rfl) _ rfl (by rfl) G4.out ?_; have pc1 := Lib.hid trivial)
    | (clear pc1; go_at_call 20; refine Calls.mono (sign_k (r := 0) ZR.out.in_ SR.out) ?_; rintro e w9 ⟨rfl, hb⟩; replace V0 := Lib.hid (V0.out.below hb V0.out.lt); replace V1 := Lib.hid (V1.out.below hb V1.out.lt); replace V2 := Lib.hid (V2.out.below hb V2.out.lt); replace HX := Lib.hid (HX.out.below hb); replace HY := Lib.hid (HY.out.below hb); replace HZ := Lib.hid (HZ.out.below hb); replace ZP := Lib.hid (ZP.out.below hb); replace ZQ := Lib.hid (ZQ.out.below hb); replace G1 := Lib.hid (G1.out.below hb G1.out.lt); replace G2 := Lib.hid (G2.out.below hb G2.out.lt); replace ZR := Lib.hid (ZR.out.below hb); replace OQ7 := Lib.hid (OQ7.out.below hb); replace G3 := Lib.hid (G3.out.below hb G3.out.lt); replace G4 := Lib.hid (G4.out.below hb G4.out.lt); replace B1 := Lib.hid (B1.out.trans (hb.mono B1.out.size)); clear hb; have pc2 := Lib.hid trivial)
    | (clear pc2; go_at_call 13; refine Calls.mono (zawake_any _) ?_; rintro e w10 ⟨rfl, hb⟩; replace V0 := Lib.hid (V0.out.below hb V0.out.lt); replace V1 := Lib.hid (V1.out.below hb V1.out.lt); replace V2 := Lib.hid (V2.out.below hb V2.out.lt); replace HX := Lib.hid (HX.out.below hb); replace HY := Lib.hid (HY.out.below hb); replace HZ := Lib.hid (HZ.out.below hb); replace ZP := Lib.hid (ZP.out.below hb); replace ZQ := Lib.hid (ZQ.out.below hb); replace G1 := Lib.hid (G1.out.below hb G1.out.lt); replace G2 := Lib.hid (G2.out.below hb G2.out.lt); replace ZR := Lib.hid (ZR.out.below hb); replace OQ7 := Lib.hid (OQ7.out.below hb); replace G3 := Lib.hid (G3.out.below hb G3.out.lt); replace G4 := Lib.hid (G4.out.below hb G4.out.lt); replace B1 := Lib.hid (B1.out.trans (hb.mono B1.out.size)); clear hb; have pc3 := Lib.hid trivial))
  clear pc3
  go_ret
  exact ⟨rfl, B1.out⟩
set_option maxRecDepth 100000 in
set_option maxHeartbeats 16000000 in
theorem divisors_zero (s : Bool) (A : Option Addr) (n c : Nat) (x : Int) (t : Bool) (B : Option Addr) (m d : Nat) (y : Int) (u : Bool) (C : Option Addr) (k e : Nat) (z : Int) (w : World) (h : Zin w s A n c x) (hn : n ≤ 35184372087808) (h' : Zin w t B m d y) (hm : m ≤ 35184372087808) (h'' : Zin w u C k e z) (hk : k ≤ 35184372087808) (hz : z = 0) :
    Calls Try.prog 4 #[.agg #[.bool s, .slice A n c], .agg #[.bool t, .slice B m d], .agg #[.bool u, .slice C k e]] w fun e w' => e = .returned (.bool true) ∧ Below w.heap.size w w' := by
  subst hz
  obtain ⟨B1, V0, V1, V2⟩ := begin3 w s A n c t B m d u C k e
  have HX := Lib.hid (h.below B1.out)
  have HY := Lib.hid (h'.below B1.out)
  have HZ := Lib.hid (h''.below B1.out)
  have lx := Nat.le_trans h.len hn
  have ly := Nat.le_trans h'.len hm
  have lz := Nat.le_trans h''.len hk
  obtain ⟨p, ep⟩ : ∃ v, x * 0 = v := ⟨_, rfl⟩
  obtain ⟨q, eq⟩ : ∃ v, y * 0 = v := ⟨_, rfl⟩
  obtain ⟨g, eg⟩ : ∃ v, ((Int.gcd p q : Nat) : Int) = v := ⟨_, rfl⟩
  have l1 := zlen_mul (x := x) (y := 0) lx lz
  have l2 := zlen_mul (x := y) (y := 0) ly lz
  rw [ep] at l1
  rw [eq] at l2
  have lg : (ofv g.natAbs).length ≤ 70368744175616 := by rw [← eg]; exact len_gcd_max _ _ _ l1 l2
  have EP := Lib.hid ep
  have EQ := Lib.hid eq
  have EG := Lib.hid eg
  have LNK : Hid (n + k ≤ 70368744177664) := by show _ ≤ _; omega
  have LMK : Hid (m + k ≤ 70368744177664) := by show _ ≤ _; omega
  have LP : Hid ((ofv p.natAbs).length ≤ 70368744177663) := by show _ ≤ _; omega
  have LQ : Hid ((ofv q.natAbs).length ≤ 70368744177663) := by show _ ≤ _; omega
  have LG : Hid ((ofv g.natAbs).length ≤ 70368744177660) := by show _ ≤ _; omega
  have LK : Hid (k ≤ 70368744177660) := by show _ ≤ _; omega
  have SZ : Hid (sg 0 = 0) := rfl
  have SG : Hid (sg g = 0) := by
    show _ = _
    rw [← eg, ← ep, ← eq]
    simp [sg]
  clear h h' h'' hn hm hk lx ly lz ep eq eg l1 l2 lg
  go_enter Try.func4, Try.ntmps4
  go_wp2_with fail
  generalize (((w.alloc (.cells #[.bool s, .slice A n c] 24)).alloc (.cells #[.bool t, .slice B m d] 24)).alloc (.cells #[.bool u, .slice C k e] 24)) = w2 at *
  have LT : Hid (w.heap.size + 2 < w2.heap.size) := V2.out.lt
  have HB : Hid (Below w2.heap.size w2 w2.drew) := below_drewN _ w2 1
  have hHeld := HB.out
  refine wp_region_held_split (S := fun w' => Below w2.heap.size w2 w') 8 (by kernel_rfl) (by kernel_rfl) ?_
  simp only [List.take_succ_cons, List.take_zero, List.drop_succ_cons, List.drop_zero]
  refine wpAnyH_takeL (i := 0) (oi := _) rfl (by kernel_rfl) (by kernel_rfl) (by kernel_rfl) (fun _ _ _ h => h) (yields_ldZ (by rfl) _ rfl (by rfl) (fun _ hb => V0.out.below hb V0.out.lt)) hHeld ?_
  try simp only [Act.put, List.setIfInBounds_toArray, List.set_cons_zero, List.set_cons_succ]
  refine wpAnyH_takeL (i := 1) (oi := _) rfl (by kernel_rfl) (by kernel_rfl) (by kernel_rfl) (fun _ _ _ h => h) (yields_ldZ (by rfl) _ rfl (by rfl) (fun _ hb => V2.out.below hb V2.out.lt)) hHeld ?_
  try simp only [Act.put, List.setIfInBounds_toArray, List.set_cons_zero, List.set_cons_succ]
  refine wpAnyH_takeL (i := 3) (oi := _) rfl (by kernel_rfl) (by kernel_rfl) (by kernel_rfl) (fun _ _ _ h => h) (yields_ldZ (by rfl) _ rfl (by rfl) (fun _ hb => V1.out.below hb V1.out.lt)) hHeld ?_
  try simp only [Act.put, List.setIfInBounds_toArray, List.set_cons_zero, List.set_cons_succ]
  refine wpAnyH_takeL (i := 4) (oi := _) rfl (by kernel_rfl) (by kernel_rfl) (by kernel_rfl) (fun _ _ _ h => h) (yields_ldZ (by rfl) _ rfl (by rfl) (fun _ hb => V2.out.below hb V2.out.lt)) hHeld ?_
  try simp only [Act.put, List.setIfInBounds_toArray, List.set_cons_zero, List.set_cons_succ]
  refine wpAnyH_rgb [(2, some 14), (5, some 17), (6, some 7), (7, some 8)] (isNewZ w2.heap.size) [(2, isZ p w2.heap.size), (5, isZ q w2.heap.size)] w2 (by kernel_rfl) (by kernel_rfl) (by decide) HB.out (fun _ h => h) (isNewZ_good _) ⟨isZ_good _ _, isZ_good _ _, trivial⟩ ?_ ?_
  · clear hHeld HB
    refine RgOps.consL (o := _) (ds := []) rfl rfl (by kernel_rfl) (fun vals wr hbr hC hdep K hK => ?_) ?_
    · have BB := Lib.hid hbr
      clear hdep
      clear hbr hC
      simp only [Upd2, Act.put, List.setIfInBounds_toArray, List.set_cons_zero, List.set_cons_succ] at hK ⊢
      go_simp
      go_at_call 18
      refine Calls.mono (mul_z (x := x) (y := 0) (z := p) (HX.out.below BB.out) (HZ.out.below BB.out) LNK.out EP.out) ?_
      rintro e wq ⟨R, cR, rfl, ho, hb⟩
      exact hK.out _ _ (LeavesB.giveZ BB.out.size ho hb)
    refine RgOps.consL (o := _) (ds := [2]) rfl rfl (by kernel_rfl) (fun vals wr hbr hC hdep K hK => ?_) ?_
    · have BB := Lib.hid hbr
      obtain ⟨⟨P2, c2, e2, o2⟩, -⟩ := hdep
      clear hbr hC
      simp only [e2, Upd2, Act.put, List.setIfInBounds_toArray, List.set_cons_zero, List.set_cons_succ] at hK ⊢
      clear e2
      go_simp
      go_at_call 18
      refine Calls.mono (mul_z (x := y) (y := 0) (z := q) (HY.out.below BB.out) (HZ.out.below BB.out) LMK.out EQ.out) ?_
      rintro e wq ⟨R, cR, rfl, ho, hb⟩
      exact hK.out _ _ (LeavesB.giveZ BB.out.size ho hb)
    refine RgOps.consL (o := _) (ds := []) rfl rfl (by kernel_rfl) (fun vals wr hbr hC hdep K hK => ?_) ?_
    · have BB := Lib.hid hbr
      clear hdep
      clear hbr hC
      simp only [Upd2, Act.put, List.setIfInBounds_toArray, List.set_cons_zero, List.set_cons_succ] at hK ⊢
      go_simp
      exact hK.out _ _ (LeavesB.newZ BB.out.size)
    refine RgOps.consL (o := _) (ds := []) rfl rfl (by kernel_rfl) (fun vals wr hbr hC hdep K hK => ?_) RgOps.nil
    · have BB := Lib.hid hbr
      clear hdep
      clear hbr hC
      simp only [Upd2, Act.put, List.setIfInBounds_toArray, List.set_cons_zero, List.set_cons_succ] at hK ⊢
      go_simp
      exact hK.out _ _ (LeavesB.newZ BB.out.size)
  clear hHeld HB
  intro vals wr hb hdep hD
  have NG0 := Lib.hid (hD 6 (by decide) 7 (by decide) (by decide))
  obtain ⟨⟨P2, c2, e2, o2⟩, ⟨P5, c5, e5, o5⟩, ⟨g6, e6, l6, z6⟩, ⟨g7, e7, l7, z7⟩, -⟩ := hdep
  have NG : Hid (g6 ≠ g7) := fun e => NG0.out g6 (by rw [e6]; rfl) (by rw [e7, e]; rfl)
  simp only [Upd2, e2, e5, e6, e7, Act.put, List.setIfInBounds_toArray, List.set_cons_zero, List.set_cons_succ]
  clear NG0 e2 e5 e6 e7
  clear hD vals
  replace V0 := Lib.hid (V0.out.below hb V0.out.lt)
  replace V1 := Lib.hid (V1.out.below hb V1.out.lt)
  replace V2 := Lib.hid (V2.out.below hb V2.out.lt)
  replace HX := Lib.hid (HX.out.below hb)
  replace HY := Lib.hid (HY.out.below hb)
  replace HZ := Lib.hid (HZ.out.below hb)
  replace B1 := Lib.hid (B1.out.trans (hb.mono B1.out.size))
  clear hb
  show wpList _ _ _ _ _ _
  have ZP := Lib.hid (Zo.of_own o2); have ZQ := Lib.hid (Zo.of_own o5); have G1 := Lib.hid z6; have G2 := Lib.hid z7; have LG1 : Hid (w.heap.size + 2 < g6) := Nat.lt_of_lt_of_le LT.out l6; have LG2 : Hid (w.heap.size + 2 < g7) := Nat.lt_of_lt_of_le LT.out l7
  clear o2 o5 z6 z7 l6 l7
  refine wpList_stZ (by rfl) _ _ rfl (by rfl) (by rfl) G1.out ?_
  intro w5 hz hg
  replace V0 := Lib.hid (V0.out.gr hg (by have := LG1.out; have := LG2.out; have := NG.out; omega))
  replace V1 := Lib.hid (V1.out.gr hg (by have := LG1.out; have := LG2.out; have := NG.out; omega))
  replace V2 := Lib.hid (V2.out.gr hg (by have := LG1.out; have := LG2.out; have := NG.out; omega))
  replace HX := Lib.hid (HX.out.gr G1.out hg)
  replace HY := Lib.hid (HY.out.gr G1.out hg)
  replace HZ := Lib.hid (HZ.out.gr G1.out hg)
  replace ZP := Lib.hid (ZP.out.gr G1.out hg)
  replace ZQ := Lib.hid (ZQ.out.gr G1.out hg)
  replace G2 := Lib.hid (G2.out.gr hg (by have := LG1.out; have := LG2.out; have := NG.out; omega))
  replace B1 := Lib.hid (Below.gr B1.out (by have := LG1.out; have := LG2.out; have := NG.out; omega) hg B1.out.size)
  replace G1 := Lib.hid hz
  clear hz hg
  refine wpList_stZ (by rfl) _ _ rfl (by rfl) (by rfl) G2.out ?_
  intro w6 hz hg
  replace V0 := Lib.hid (V0.out.gr hg (by have := LG1.out; have := LG2.out; have := NG.out; omega))
  replace V1 := Lib.hid (V1.out.gr hg (by have := LG1.out; have := LG2.out; have := NG.out; omega))
  replace V2 := Lib.hid (V2.out.gr hg (by have := LG1.out; have := LG2.out; have := NG.out; omega))
  replace HX := Lib.hid (HX.out.gr G2.out hg)
  replace HY := Lib.hid (HY.out.gr G2.out hg)
  replace HZ := Lib.hid (HZ.out.gr G2.out hg)
  replace ZP := Lib.hid (ZP.out.gr G2.out hg)
  replace ZQ := Lib.hid (ZQ.out.gr G2.out hg)
  replace G1 := Lib.hid (G1.out.gr hg (by have := LG1.out; have := LG2.out; have := NG.out; omega))
  replace B1 := Lib.hid (Below.gr B1.out (by have := LG1.out; have := LG2.out; have := NG.out; omega) hg B1.out.size)
  replace G2 := Lib.hid hz
  clear hz hg
  go_wp2_with fail
  have LT6 : Hid (w.heap.size + 2 < w6.heap.size ∧ g6 < w6.heap.size ∧ g7 < w6.heap.size) := ⟨V2.out.lt, G1.out.lt, G2.out.lt⟩
  have HB : Hid (Below w6.heap.size w6 w6.drew) := below_drewN _ w6 1
  refine wp_region_held_drew (S := fun w' => Below w6.heap.size w6 w') (by kernel_rfl) (HB.out) (fun hHeld => ?_)
  refine wpAnyH_takeL (i := 0) (oi := _) rfl (by kernel_rfl) (by kernel_rfl) (by kernel_rfl) (fun _ _ _ h => h) (yields_ldZ (by rfl) _ rfl (by rfl) (fun _ hb => G1.out.below hb G1.out.lt)) hHeld ?_
  try simp only [Act.put, List.setIfInBounds_toArray, List.set_cons_zero, List.set_cons_succ]
  refine wpAnyH_takeL (i := 1) (oi := _) rfl (by kernel_rfl) (by kernel_rfl) (by kernel_rfl) (fun _ _ _ h => h) (yields_ldZ (by rfl) _ rfl (by rfl) (fun _ hb => G2.out.below hb G2.out.lt)) hHeld ?_
  try simp only [Act.put, List.setIfInBounds_toArray, List.set_cons_zero, List.set_cons_succ]
  refine wpAnyH_takeL (i := 3) (oi := _) rfl (by kernel_rfl) (by kernel_rfl) (by kernel_rfl) (fun _ _ _ h => h) (yields_ldZ (by rfl) _ rfl (by rfl) (fun _ hb => V2.out.below hb V2.out.lt)) hHeld ?_
  try simp only [Act.put, List.setIfInBounds_toArray, List.set_cons_zero, List.set_cons_succ]
  refine wpAnyH_rgt [(2, some 21), (4, some 23), (5, some 18), (6, some 24), (7, some 25), (8, some 26), (9, some 9), (10, some 10)] [5, 6, 7, 8] (isNewZ w6.heap.size) [(2, isZ g w6.heap.size), (4, isV (.tuple #[.agg #[.bool false, .slice none 0 0], .agg #[.bool false, .slice none 0 0], .bool false])), (5, isV (.tuple #[.agg #[.bool false, .slice none 0 0], .agg #[.bool false, .slice none 0 0], .bool false])), (6, isV (.agg #[.bool false, .slice none 0 0])), (7, isV (.agg #[.bool false, .slice none 0 0])), (8, isV (.bool false))] w6 (f0 := 3) (by kernel_rfl) (by kernel_rfl) (by rfl) HB.out (fun _ h => h) (fun _ _ _ _ _ h => h) (isNewZ_good _) ⟨isZ_good _ _, isV_good _, isV_good _, isV_good _, isV_good _, isV_good _, trivial⟩ ?_ ?_ ?_
  · clear hHeld HB
    show RgOps _ _ _ _ _ _ _ _ _ [2, 4, 9, 10]
    refine RgOps.consL (o := _) (ds := []) rfl rfl (by kernel_rfl) (fun vals wr hbr hC hdep K hK => ?_) ?_
    · have BB := Lib.hid hbr
      clear hdep
      clear hbr hC
      simp only [Upd2, Act.put, List.setIfInBounds_toArray, List.set_cons_zero, List.set_cons_succ] at hK ⊢
      go_simp
      go_at_call 15
      refine Calls.mono (gcd_z (x := p) (y := q) (z := g) (ZP.out.below BB.out).in_ (ZQ.out.below BB.out).in_ LP.out LQ.out EG.out) ?_
      rintro e wq ⟨R, cR, rfl, ho, hb⟩
      exact hK.out _ _ (LeavesB.giveZ BB.out.size ho hb)
    refine RgOps.consL (o := _) (ds := [2]) rfl rfl (by kernel_rfl) (fun vals wr hbr hC hdep K hK => ?_) ?_
    · have BB := Lib.hid hbr
      obtain ⟨⟨P2, c2, e2, o2⟩, -⟩ := hdep
      clear hbr hC
      simp only [e2, Upd2, Act.put, List.setIfInBounds_toArray, List.set_cons_zero, List.set_cons_succ] at hK ⊢
      clear e2
      go_simp
      go_at_call 19
      refine Calls.mono (zero_z (x := g) (Zo.of_own o2).in_ (HZ.out.below BB.out)) ?_
      rintro e wq ⟨rfl, hb⟩
      exact hK.out _ _ (LeavesB.behind hb ⟨rfl, rfl⟩ rfl)
    refine RgOps.consL (o := _) (ds := []) rfl rfl (by kernel_rfl) (fun vals wr hbr hC hdep K hK => ?_) ?_
    · have BB := Lib.hid hbr
      clear hdep
      clear hbr hC
      simp only [Upd2, Act.put, List.setIfInBounds_toArray, List.set_cons_zero, List.set_cons_succ] at hK ⊢
      go_simp
      exact hK.out _ _ (LeavesB.newZ BB.out.size)
    refine RgOps.consL (o := _) (ds := []) rfl rfl (by kernel_rfl) (fun vals wr hbr hC hdep K hK => ?_) RgOps.nil
    · have BB := Lib.hid hbr
      clear hdep
      clear hbr hC
      simp only [Upd2, Act.put, List.setIfInBounds_toArray, List.set_cons_zero, List.set_cons_succ] at hK ⊢
      go_simp
      exact hK.out _ _ (LeavesB.newZ BB.out.size)
  · clear hHeld HB
    show TaAll _ _ _ _ _ [5, 6, 7, 8]
    refine TaAll.cons (o := _) (ds := [4]) rfl rfl (by kernel_rfl) (fun vals wr hdep => ?_) ?_
    · obtain ⟨⟨e4, -⟩, -⟩ := hdep
      refine ⟨_, fun S => Or.inl ⟨by rfl, ?_⟩, ⟨rfl, rfl⟩, rfl⟩
      intro w' _
      simp only [e4, Upd2, Act.put, List.setIfInBounds_toArray, List.set_cons_zero, List.set_cons_succ]
      go_simp
    refine TaAll.cons (o := _) (ds := [5]) rfl rfl (by kernel_rfl) (fun vals wr hdep => ?_) ?_
    · obtain ⟨⟨e5, -⟩, -⟩ := hdep
      refine ⟨_, fun S => Or.inl ⟨by rfl, ?_⟩, ⟨rfl, rfl⟩, rfl⟩
      intro w' _
      simp only [e5, Upd2, Act.put, List.setIfInBounds_toArray, List.set_cons_zero, List.set_cons_succ]
      go_simp
    refine TaAll.cons (o := _) (ds := [5]) rfl rfl (by kernel_rfl) (fun vals wr hdep => ?_) ?_
    · obtain ⟨⟨e5, -⟩, -⟩ := hdep
      refine ⟨_, fun S => Or.inl ⟨by rfl, ?_⟩, ⟨rfl, rfl⟩, rfl⟩
      intro w' _
      simp only [e5, Upd2, Act.put, List.setIfInBounds_toArray, List.set_cons_zero, List.set_cons_succ]
      go_simp
    refine TaAll.cons (o := _) (ds := [5]) rfl rfl (by kernel_rfl) (fun vals wr hdep => ?_) TaAll.nil
    · obtain ⟨⟨e5, -⟩, -⟩ := hdep
      refine ⟨_, fun S => Or.inl ⟨by rfl, ?_⟩, ⟨rfl, rfl⟩, rfl⟩
      intro w' _
      simp only [e5, Upd2, Act.put, List.setIfInBounds_toArray, List.set_cons_zero, List.set_cons_succ]
      go_simp
  clear hHeld HB
  intro vals wr hb hdep hD
  have NH0 := Lib.hid (hD 9 (by decide) 10 (by decide) (by decide))
  obtain ⟨⟨P2, c2, e2, o2⟩, ⟨e4, -⟩, ⟨e5, -⟩, ⟨e6, -⟩, ⟨e7, -⟩, ⟨e8, -⟩, ⟨g9, e9, l9, z9⟩, ⟨g10, e10, l10, z10⟩, -⟩ := hdep
  have NH : Hid (g9 ≠ g10) := fun e => NH0.out g9 (by rw [e9]; rfl) (by rw [e10, e]; rfl)
  simp only [Upd2, e2, e4, e5, e6, e7, e8, e9, e10, Act.put, List.setIfInBounds_toArray, List.set_cons_zero, List.set_cons_succ]
  clear NH0 e2 e4 e5 e6 e7 e8 e9 e10
  clear hD vals
  replace V0 := Lib.hid (V0.out.below hb V0.out.lt)
  replace V1 := Lib.hid (V1.out.below hb V1.out.lt)
  replace V2 := Lib.hid (V2.out.below hb V2.out.lt)
  replace HX := Lib.hid (HX.out.below hb)
  replace HY := Lib.hid (HY.out.below hb)
  replace HZ := Lib.hid (HZ.out.below hb)
  replace ZP := Lib.hid (ZP.out.below hb)
  replace ZQ := Lib.hid (ZQ.out.below hb)
  replace G1 := Lib.hid (G1.out.below hb G1.out.lt)
  replace G2 := Lib.hid (G2.out.below hb G2.out.lt)
  replace B1 := Lib.hid (B1.out.trans (hb.mono B1.out.size))
  have HB := Lib.hid hb
  clear hb
  have G3 := Lib.hid z9; have G4 := Lib.hid z10; have L9 := Lib.hid l9; have L10 := Lib.hid l10
  clear o2 z9 z10 l9 l10
  refine wpAnyH_ready (rs := [11]) (by kernel_rfl) (by simp) ?_
  refine AllReadyH.consL (o := _) rfl (fun K hK => ?_) AllReadyH.nil
  rw [if_pos (by rfl)]
  refine wp_stZ _ _ rfl (by rfl) (by rfl) G3.out ?_
  intro ws0 hz hg
  replace HB := Lib.hid (Below.gr HB.out (by have := L9.out; have := L10.out; omega) hg HB.out.size)
  replace V0 := Lib.hid (V0.out.gr hg (by have := LG1.out; have := LG2.out; have := NG.out; have := NH.out; have := L9.out; have := L10.out; have := LT6.out; omega))
  replace V1 := Lib.hid (V1.out.gr hg (by have := LG1.out; have := LG2.out; have := NG.out; have := NH.out; have := L9.out; have := L10.out; have := LT6.out; omega))
  replace V2 := Lib.hid (V2.out.gr hg (by have := LG1.out; have := LG2.out; have := NG.out; have := NH.out; have := L9.out; have := L10.out; have := LT6.out; omega))
  replace HX := Lib.hid (HX.out.gr G3.out hg)
  replace HY := Lib.hid (HY.out.gr G3.out hg)
  replace HZ := Lib.hid (HZ.out.gr G3.out hg)
  replace ZP := Lib.hid (ZP.out.gr G3.out hg)
  replace ZQ := Lib.hid (ZQ.out.gr G3.out hg)
  replace G1 := Lib.hid (G1.out.gr hg (by have := LG1.out; have := LG2.out; have := NG.out; have := NH.out; have := L9.out; have := L10.out; have := LT6.out; omega))
  replace G2 := Lib.hid (G2.out.gr hg (by have := LG1.out; have := LG2.out; have := NG.out; have := NH.out; have := L9.out; have := L10.out; have := LT6.out; omega))
  replace G4 := Lib.hid (G4.out.gr hg (by have := LG1.out; have := LG2.out; have := NG.out; have := NH.out; have := L9.out; have := L10.out; have := LT6.out; omega))
  replace B1 := Lib.hid (Below.gr B1.out (by have := LG1.out; have := LG2.out; have := NG.out; have := NH.out; have := L9.out; have := L10.out; have := LT6.out; omega) hg B1.out.size)
  replace G3 := Lib.hid hz
  refine hK.out _ _ ⟨HB.out, HB.out⟩ (fun _ => ?_)
  clear hK K hg hz
  try simp only [Act.put]
  refine wpAnyH_ready (rs := [12]) (by kernel_rfl) (by simp) ?_
  refine AllReadyH.consL (o := _) rfl (fun K hK => ?_) AllReadyH.nil
  rw [if_pos (by rfl)]
  refine wp_stZ _ _ rfl (by rfl) (by rfl) G4.out ?_
  intro ws1 hz hg
  replace HB := Lib.hid (Below.gr HB.out (by have := L9.out; have := L10.out; omega) hg HB.out.size)
  replace V0 := Lib.hid (V0.out.gr hg (by have := LG1.out; have := LG2.out; have := NG.out; have := NH.out; have := L9.out; have := L10.out; have := LT6.out; omega))
  replace V1 := Lib.hid (V1.out.gr hg (by have := LG1.out; have := LG2.out; have := NG.out; have := NH.out; have := L9.out; have := L10.out; have := LT6.out; omega))
  replace V2 := Lib.hid (V2.out.gr hg (by have := LG1.out; have := LG2.out; have := NG.out; have := NH.out; have := L9.out; have := L10.out; have := LT6.out; omega))
  replace HX := Lib.hid (HX.out.gr G4.out hg)
  replace HY := Lib.hid (HY.out.gr G4.out hg)
  replace HZ := Lib.hid (HZ.out.gr G4.out hg)
  replace ZP := Lib.hid (ZP.out.gr G4.out hg)
  replace ZQ := Lib.hid (ZQ.out.gr G4.out hg)
  replace G1 := Lib.hid (G1.out.gr hg (by have := LG1.out; have := LG2.out; have := NG.out; have := NH.out; have := L9.out; have := L10.out; have := LT6.out; omega))
  replace G2 := Lib.hid (G2.out.gr hg (by have := LG1.out; have := LG2.out; have := NG.out; have := NH.out; have := L9.out; have := L10.out; have := LT6.out; omega))
  replace G3 := Lib.hid (G3.out.gr hg (by have := LG1.out; have := LG2.out; have := NG.out; have := NH.out; have := L9.out; have := L10.out; have := LT6.out; omega))
  replace B1 := Lib.hid (Below.gr B1.out (by have := LG1.out; have := LG2.out; have := NG.out; have := NH.out; have := L9.out; have := L10.out; have := LT6.out; omega) hg B1.out.size)
  replace G4 := Lib.hid hz
  refine hK.out _ _ ⟨HB.out, HB.out⟩ (fun _ => ?_)
  clear hK K hg hz
  try simp only [Act.put]
  have hHeld : Below w6.heap.size w6 _ ∧ Below w6.heap.size w6 _ := ⟨HB.out, HB.out⟩
  refine wpAnyH_takeL (i := 13) (oi := _) (v := ?_) rfl (by kernel_rfl) (by kernel_rfl) (by kernel_rfl) (fun _ _ _ h => h) (Or.inl ⟨by rfl, ?_⟩) hHeld ?_
  rotate_left
  · (intro w' hSw; (try dsimp only at hSw); go_simp; try (with_reducible rfl))
  try simp only [Act.put, List.setIfInBounds_toArray, List.set_cons_zero, List.set_cons_succ]
  clear hHeld
  refine wpAnyH_done (by kernel_rfl) ?_ _
  clear HB
  have pc0 := Lib.hid trivial
  go_wp2_with (first
    | (clear pc0; refine wpList_ldZ (by rfl) _ rfl (by rfl) V2.out ?_; have pc1 := Lib.hid trivial)
    | (clear pc1; go_at_call 20; refine Calls.mono (sign_k (r := 0) HZ.out SZ.out) ?_; rintro e w9 ⟨rfl, hb⟩; replace V0 := Lib.hid (V0.out.below hb V0.out.lt); replace V1 := Lib.hid (V1.out.below hb V1.out.lt); replace V2 := Lib.hid (V2.out.below hb V2.out.lt); replace HX := Lib.hid (HX.out.below hb); replace HY := Lib.hid (HY.out.below hb); replace HZ := Lib.hid (HZ.out.below hb); replace ZP := Lib.hid (ZP.out.below hb); replace ZQ := Lib.hid (ZQ.out.below hb); replace G1 := Lib.hid (G1.out.below hb G1.out.lt); replace G2 := Lib.hid (G2.out.below hb G2.out.lt); replace G3 := Lib.hid (G3.out.below hb G3.out.lt); replace G4 := Lib.hid (G4.out.below hb G4.out.lt); replace B1 := Lib.hid (B1.out.trans (hb.mono B1.out.size)); clear hb; have pc2 := Lib.hid trivial)
    | (clear pc2; refine wpList_ldZ (by rfl) _ rfl (by rfl) G1.out ?_; have pc3 := Lib.hid trivial)
    | (clear pc3; refine wpList_ldZ (by rfl) _ rfl (by rfl) G2.out ?_; have pc4 := Lib.hid trivial)
    | (clear pc4; go_at_call 15; refine Calls.mono (gcd_z (x := p) (y := q) (z := g) ZP.out.in_ ZQ.out.in_ LP.out LQ.out EG.out) ?_; rintro e w10 ⟨PG, cG, rfl, ho, hb⟩; replace V0 := Lib.hid (V0.out.below hb V0.out.lt); replace V1 := Lib.hid (V1.out.below hb V1.out.lt); replace V2 := Lib.hid (V2.out.below hb V2.out.lt); replace HX := Lib.hid (HX.out.below hb); replace HY := Lib.hid (HY.out.below hb); replace HZ := Lib.hid (HZ.out.below hb); replace ZP := Lib.hid (ZP.out.below hb); replace ZQ := Lib.hid (ZQ.out.below hb); replace G1 := Lib.hid (G1.out.below hb G1.out.lt); replace G2 := Lib.hid (G2.out.below hb G2.out.lt); replace G3 := Lib.hid (G3.out.below hb G3.out.lt); replace G4 := Lib.hid (G4.out.below hb G4.out.lt); replace B1 := Lib.hid (B1.out.trans (hb.mono B1.out.size)); have ZG := Lib.hid (Zo.of_own ho); clear ho; clear hb; have pc5 := Lib.hid trivial)
    | (clear pc5; go_at_call 20; refine Calls.mono (sign_k (r := 0) ZG.out.in_ SG.out) ?_; rintro e w11 ⟨rfl, hb⟩; replace V0 := Lib.hid (V0.out.below hb V0.out.lt); replace V1 := Lib.hid (V1.out.below hb V1.out.lt); replace V2 := Lib.hid (V2.out.below hb V2.out.lt); replace HX := Lib.hid (HX.out.below hb); replace HY := Lib.hid (HY.out.below hb); replace HZ := Lib.hid (HZ.out.below hb); replace ZP := Lib.hid (ZP.out.below hb); replace ZQ := Lib.hid (ZQ.out.below hb); replace G1 := Lib.hid (G1.out.below hb G1.out.lt); replace G2 := Lib.hid (G2.out.below hb G2.out.lt); replace G3 := Lib.hid (G3.out.below hb G3.out.lt); replace G4 := Lib.hid (G4.out.below hb G4.out.lt); replace ZG := Lib.hid (ZG.out.below hb); replace B1 := Lib.hid (B1.out.trans (hb.mono B1.out.size)); clear hb; have pc6 := Lib.hid trivial)
    | (clear pc6; go_at_call 13; refine Calls.mono (zawake_any _) ?_; rintro e w12 ⟨rfl, hb⟩; replace V0 := Lib.hid (V0.out.below hb V0.out.lt); replace V1 := Lib.hid (V1.out.below hb V1.out.lt); replace V2 := Lib.hid (V2.out.below hb V2.out.lt); replace HX := Lib.hid (HX.out.below hb); replace HY := Lib.hid (HY.out.below hb); replace HZ := Lib.hid (HZ.out.below hb); replace ZP := Lib.hid (ZP.out.below hb); replace ZQ := Lib.hid (ZQ.out.below hb); replace G1 := Lib.hid (G1.out.below hb G1.out.lt); replace G2 := Lib.hid (G2.out.below hb G2.out.lt); replace G3 := Lib.hid (G3.out.below hb G3.out.lt); replace G4 := Lib.hid (G4.out.below hb G4.out.lt); replace ZG := Lib.hid (ZG.out.below hb); replace B1 := Lib.hid (B1.out.trans (hb.mono B1.out.size)); clear hb; have pc7 := Lib.hid trivial))
  clear pc7
  go_ret
  exact ⟨rfl, B1.out⟩
theorem integerDivisors_walk (s : Bool) (A : Option Addr) (n c : Nat) (x : Int) (t : Bool) (B : Option Addr) (m d : Nat) (y : Int) (u : Bool) (C : Option Addr) (k e : Nat) (z : Int) (w : World) (h : Zin w s A n c x) (hn : n ≤ 35184372087808) (h' : Zin w t B m d y) (hm : m ≤ 35184372087808) (h'' : Zin w u C k e z) (hk : k ≤ 35184372087808) :
    Calls Try.prog 4 #[.agg #[.bool s, .slice A n c], .agg #[.bool t, .slice B m d], .agg #[.bool u, .slice C k e]] w fun e w' => e = .returned (.bool true) ∧ Below w.heap.size w w' := by
  rcases Int.decEq z 0 with hz | hz
  · exact divisors_pos s A n c x t B m d y u C k e z w h hn h' hm h'' hk hz
  · exact divisors_zero s A n c x t B m d y u C k e z w h hn h' hm h'' hk hz
end Go.Proofs.Ytgleknejogbomaa
