/-
  Contracts of the reference's package 3: Add, Sub, Mul, Div, Compare, Canonical, Size.
-/
import Derived.Test.YtfacndibfkamgaaGreatRref
namespace Go.Proofs.YtfacndibfkamgaaGreat
open Go.RowKit
set_option linter.unusedVariables false

/-- A rational number in lowest terms, in memory from block lo on. -/
def isR (z : Int) (d lo : Nat) (v : Value) (w : World) : Prop := ∃ R c Q k, v = .agg #[.bool (decide (z < 0)), .slice R (ofv z.natAbs).length c, .slice Q (ofv d).length k] ∧ Own w lo R c (ofv z.natAbs) ∧ Own w lo Q k (ofv d)
theorem isR_good (z : Int) (d lo : Nat) : Good (isR z d lo) :=
  ⟨fun v w w' hb ⟨R, c, Q, k, e, o, o'⟩ => ⟨R, c, Q, k, e, o.below hb, o'.below hb⟩, fun v w g ⟨R, c, Q, k, e, o, o'⟩ h => by subst e; cases h⟩
def isNewR (lo : Nat) (v : Value) (w : World) : Prop := ∃ g, v = .pointer (some ⟨g, 0, none⟩) ∧ lo ≤ g ∧ Rb w g false none 0 0 none 0 0
theorem isNewR_good (lo : Nat) : Good (isNewR lo) :=
  ⟨fun v w w' hb ⟨g, e, l, z⟩ => ⟨g, e, l, z.below hb z.lt⟩, fun v w g ⟨g', e, l, z⟩ h => by subst e; cases h; exact z.lt⟩
theorem LeavesB.newR {lo : Nat} {w : World} (h : lo ≤ w.heap.size) : LeavesB (isNewR lo) w (.pointer (some ⟨w.heap.size, 0, none⟩)) (w.alloc (.cells #[.bool false, .slice none 0 0, .slice none 0 0] 29)) :=
  ⟨(Below.refl _ _).alloc (Nat.le_refl _) _, ⟨_, rfl, h, Rb.new w false none 0 0 none 0 0⟩, fun g hg => by cases hg; exact Nat.le_refl _⟩
theorem LeavesB.giveR {lo : Nat} {w w' : World} {z : Int} {d : Nat} {R Q : Option Addr} {c k : Nat} (h : lo ≤ w.heap.size) (ho : Own w' w.heap.size R c (ofv z.natAbs)) (ho' : Own w' w.heap.size Q k (ofv d)) (hb : Below w.heap.size w w') :
    LeavesB (isR z d lo) w (.agg #[.bool (decide (z < 0)), .slice R (ofv z.natAbs).length c, .slice Q (ofv d).length k]) w' :=
  ⟨hb, ⟨R, c, Q, k, rfl, ho.mono h, ho'.mono h⟩, fun g hg => by cases hg⟩
set_option maxRecDepth 100000 in
set_option maxHeartbeats 16000000 in
theorem r3add_any {s t : Bool} {A D B E : Option Addr} {n c m k n2 c2 m2 k2 : Nat} {x y : Int} {p q : Nat} {w : World} (h : Zin w s A n c x) (hp : Nin w D m k p) (h' : Zin w t B n2 c2 y) (hq : Nin w E m2 k2 q) (hn : n ≤ 17592186043000) (hm : m ≤ 17592186043000) (hn2 : n2 ≤ 17592186043000) (hm2 : m2 ≤ 17592186043000) {z : Int} {d : Nat} (hz : (mkRat x p + mkRat y q).num = z) (hd : (mkRat x p + mkRat y q).den = d) :
    Calls Tryz.prog 94 #[.agg #[.bool s, .slice A n c, .slice D m k], .agg #[.bool t, .slice B n2 c2, .slice E m2 k2]] w (GivesR w z d) := by
  obtain ⟨B1, V0, V1, V2⟩ := start_RRR w s A n c D m k t B n2 c2 E m2 k2
  have HX := Lib.hid (h.below B1.out)
  have HP := Lib.hid (hp.below B1.out)
  have HY := Lib.hid (h'.below B1.out)
  have HQ := Lib.hid (hq.below B1.out)
  have LN : Hid (n ≤ 35184372087808) := Nat.le_trans hn (by decide)
  have LM : Hid (m ≤ 35184372087808) := Nat.le_trans hm (by decide)
  have LN2 : Hid (n2 ≤ 35184372087808) := Nat.le_trans hn2 (by decide)
  have LM2 : Hid (m2 ≤ 35184372087808) := Nat.le_trans hm2 (by decide)
  have KN := Lib.hid hn
  have KM := Lib.hid hm
  have KN2 := Lib.hid hn2
  have KM2 := Lib.hid hm2
  obtain ⟨z1, ez1⟩ : ∃ z0 : Int, (mkRat x p).num = z0 := ⟨_, rfl⟩
  obtain ⟨d1, ed1⟩ : ∃ z0 : Nat, (mkRat x p).den = z0 := ⟨_, rfl⟩
  obtain ⟨z2, ez2⟩ : ∃ z0 : Int, (mkRat y q).num = z0 := ⟨_, rfl⟩
  obtain ⟨d2, ed2⟩ : ∃ z0 : Nat, (mkRat y q).den = z0 := ⟨_, rfl⟩
  obtain ⟨dz1, edz1⟩ : ∃ z0 : Int, (d1 : Int) = z0 := ⟨_, rfl⟩
  obtain ⟨dz2, edz2⟩ : ∃ z0 : Int, (d2 : Int) = z0 := ⟨_, rfl⟩
  have HZ1 := Lib.hid ez1
  have HD1 := Lib.hid ed1
  have HZ2 := Lib.hid ez2
  have HD2 := Lib.hid ed2
  have ED1 : Hid (((mkRat x p).den : Int) = dz1) := by show _ = _; rw [ed1]; exact edz1
  have ED2 : Hid (((mkRat y q).den : Int) = dz2) := by show _ = _; rw [ed2]; exact edz2
  have EA : mkRat z1 d1 = mkRat x p := by rw [← ez1, ← ed1, mk_self]
  have EB : mkRat z2 d2 = mkRat y q := by rw [← ez2, ← ed2, mk_self]
  have dp1 : 0 < d1 := by rw [← ed1]; exact den_pos _
  have dp2 : 0 < d2 := by rw [← ed2]; exact den_pos _
  have l1 := canon_len (Nat.le_trans h.len hn) (Nat.le_trans hp.len hm) (by decide)
  have l2 := canon_len (Nat.le_trans h'.len hn2) (Nat.le_trans hq.len hm2) (by decide)
  rw [ez1, ed1] at l1
  rw [ez2, ed2] at l2
  have ldz1 : (ofv dz1.natAbs).length ≤ 17592186043000 := by rw [← edz1]; simpa using l1.2
  have ldz2 : (ofv dz2.natAbs).length ≤ 17592186043000 := by rw [← edz2]; simpa using l2.2
  obtain ⟨m1, e1⟩ : ∃ z0 : Int, z1 * dz2 = z0 := ⟨_, rfl⟩
  obtain ⟨m2', e2⟩ : ∃ z0 : Int, z2 * dz1 = z0 := ⟨_, rfl⟩
  obtain ⟨m3, e3⟩ : ∃ z0 : Int, m1 + m2' = z0 := ⟨_, rfl⟩
  obtain ⟨m4, e4⟩ : ∃ z0 : Int, dz1 * dz2 = z0 := ⟨_, rfl⟩
  have EM : Rat.divInt m3 m4 = mkRat x p + mkRat y q := by
    rw [← EA, ← EB, Rat.mkRat_add_mkRat _ _ (by omega) (by omega), ← Rat.divInt_ofNat, ← e3, ← e1, ← e2, ← e4, ← edz1, ← edz2, Int.natCast_mul]
  have HZ : Hid ((Rat.divInt m3 m4).num = z) := by show _ = _; rw [EM]; exact hz
  have HD : Hid ((Rat.divInt m3 m4).den = d) := by show _ = _; rw [EM]; exact hd
  have lm1 := zlen_mul (x := z1) (y := dz2) l1.1 ldz2
  have lm2 := zlen_mul (x := z2) (y := dz1) l2.1 ldz1
  rw [e1] at lm1
  rw [e2] at lm2
  have lm3 := zlen_add lm1 lm2
  rw [e3] at lm3
  have lm4 := zlen_mul (x := dz1) (y := dz2) ldz1 ldz2
  rw [e4] at lm4
  have E1 := Lib.hid e1
  have E2 := Lib.hid e2
  have E3 := Lib.hid e3
  have E4 := Lib.hid e4
  have K1 : Hid ((ofv z1.natAbs).length + (ofv dz2.natAbs).length ≤ 70368744177664) := by show _ ≤ _; omega
  have K2 : Hid ((ofv z2.natAbs).length + (ofv dz1.natAbs).length ≤ 70368744177664) := by show _ ≤ _; omega
  have K3 : Hid ((ofv m1.natAbs).length ≤ 70368744177663) := by show _ ≤ _; omega
  have K4 : Hid ((ofv m2'.natAbs).length ≤ 70368744177663) := by show _ ≤ _; omega
  have K5 : Hid ((ofv m3.natAbs).length ≤ 35184372087808) := by show _ ≤ _; omega
  have K6 : Hid ((ofv dz1.natAbs).length + (ofv dz2.natAbs).length ≤ 70368744177664) := by show _ ≤ _; omega
  have K7 : Hid ((ofv m4.natAbs).length ≤ 35184372087808) := by show _ ≤ _; omega
  clear h hp h' hq hn hm hn2 hm2 ez1 ed1 ez2 ed2 edz1 edz2 EA EB dp1 dp2 l1 l2 ldz1 ldz2 e1 e2 e3 e4 EM lm1 lm2 lm3 lm4 hz hd
  go_enter Tryz.func94, Tryz.ntmps94
  go_wp2_with fail
  generalize (((w.alloc (.cells #[.bool s, .slice A n c, .slice D m k] 29)).alloc (.cells #[.bool t, .slice B n2 c2, .slice E m2 k2] 29)).alloc (.cells #[.bool false, .slice none 0 0, .slice none 0 0] 29)) = w2 at *
  have LT : Hid (w.heap.size + 2 < w2.heap.size) := V2.out.lt
  have HB : Hid (Below w2.heap.size w2 w2.drew) := below_drewN _ w2 1
  refine wp_region_held_drew (S := fun w' => Below w2.heap.size w2 w') (by kernel_rfl) (HB.out) (fun hHeld => ?_)
  refine wpAnyH_takeL (i := 0) (oi := _) rfl (by kernel_rfl) (by kernel_rfl) (by kernel_rfl) (fun _ _ _ h => h) (yields_ldR (by rfl) _ rfl (by rfl) (fun _ hb => V0.out.below hb V0.out.lt)) hHeld ?_
  try simp only [Act.put, List.setIfInBounds_toArray, List.set_cons_zero, List.set_cons_succ]
  refine wpAnyH_takeL (i := 2) (oi := _) rfl (by kernel_rfl) (by kernel_rfl) (by kernel_rfl) (fun _ _ _ h => h) (yields_ldR (by rfl) _ rfl (by rfl) (fun _ hb => V1.out.below hb V1.out.lt)) hHeld ?_
  try simp only [Act.put, List.setIfInBounds_toArray, List.set_cons_zero, List.set_cons_succ]
  refine wpAnyH_rgt [(1, some 8), (3, some 10), (4, some 5), (5, some 6)] [] (isNewR w2.heap.size) [(1, isR z1 d1 w2.heap.size), (3, isR z2 d2 w2.heap.size)] w2 (f0 := 2) (by kernel_rfl) (by kernel_rfl) (by rfl) HB.out (fun _ h => h) (fun _ _ _ _ _ h => h) (isNewR_good _) ⟨isR_good _ _ _, isR_good _ _ _, trivial⟩ ?_ ?_ ?_
  · clear hHeld HB
    show RgOps _ _ _ _ _ _ _ _ _ [1, 3, 4, 5]
    refine RgOps.consL (o := _) (ds := []) rfl rfl (by kernel_rfl) (fun vals wr hbr hC hdep K hK => ?_) ?_
    · have BB := Lib.hid hbr
      clear hdep
      clear hbr hC
      simp only [Upd2, Act.put, List.setIfInBounds_toArray, List.set_cons_zero, List.set_cons_succ] at hK ⊢
      go_simp
      go_at_call 41
      refine Calls.mono (rnorm_any (HX.out.below BB.out) (HP.out.below BB.out) LN.out LM.out HZ1.out HD1.out) ?_
      rintro e wq ⟨R, cR, R2, cR2, rfl, ho, ho2, hb⟩
      exact hK.out _ _ (LeavesB.giveR BB.out.size ho ho2 hb)
    refine RgOps.consL (o := _) (ds := [1]) rfl rfl (by kernel_rfl) (fun vals wr hbr hC hdep K hK => ?_) ?_
    · have BB := Lib.hid hbr
      obtain ⟨⟨P1, c1, Q1, k1, e1, o1, u1⟩, -⟩ := hdep
      clear hbr hC
      simp only [e1, Upd2, Act.put, List.setIfInBounds_toArray, List.set_cons_zero, List.set_cons_succ] at hK ⊢
      clear e1
      go_simp
      go_at_call 41
      refine Calls.mono (rnorm_any (HY.out.below BB.out) (HQ.out.below BB.out) LN2.out LM2.out HZ2.out HD2.out) ?_
      rintro e wq ⟨R, cR, R2, cR2, rfl, ho, ho2, hb⟩
      exact hK.out _ _ (LeavesB.giveR BB.out.size ho ho2 hb)
    refine RgOps.consL (o := _) (ds := []) rfl rfl (by kernel_rfl) (fun vals wr hbr hC hdep K hK => ?_) ?_
    · have BB := Lib.hid hbr
      clear hdep
      clear hbr hC
      simp only [Upd2, Act.put, List.setIfInBounds_toArray, List.set_cons_zero, List.set_cons_succ] at hK ⊢
      go_simp
      exact hK.out _ _ (LeavesB.newR BB.out.size)
    refine RgOps.consL (o := _) (ds := []) rfl rfl (by kernel_rfl) (fun vals wr hbr hC hdep K hK => ?_) RgOps.nil
    · have BB := Lib.hid hbr
      clear hdep
      clear hbr hC
      simp only [Upd2, Act.put, List.setIfInBounds_toArray, List.set_cons_zero, List.set_cons_succ] at hK ⊢
      go_simp
      exact hK.out _ _ (LeavesB.newR BB.out.size)
  · clear hHeld HB
    show TaAll _ _ _ _ _ []
    exact TaAll.nil
  clear hHeld HB
  intro vals wr hb hdep hD
  have NG0 := Lib.hid (hD 4 (by decide) 5 (by decide) (by decide))
  obtain ⟨⟨P1, c1, Q1, k1, e1, o1, u1⟩, ⟨P3, c3, Q3, k3, e3, o3, u3⟩, ⟨g4, e4, l4, z4⟩, ⟨g5, e5, l5, z5⟩, -⟩ := hdep
  have NG : Hid (g4 ≠ g5) := fun e => NG0.out g4 (by rw [e4]; rfl) (by rw [e5, e]; rfl)
  simp only [Upd2, e1, e3, e4, e5, Act.put, List.setIfInBounds_toArray, List.set_cons_zero, List.set_cons_succ]
  clear NG0 e1 e3 e4 e5
  clear hD vals
  replace V0 := Lib.hid (V0.out.below hb V0.out.lt)
  replace V1 := Lib.hid (V1.out.below hb V1.out.lt)
  replace V2 := Lib.hid (V2.out.below hb V2.out.lt)
  replace HX := Lib.hid (HX.out.below hb)
  replace HP := Lib.hid (HP.out.below hb)
  replace HY := Lib.hid (HY.out.below hb)
  replace HQ := Lib.hid (HQ.out.below hb)
  replace B1 := Lib.hid (B1.out.trans (hb.mono B1.out.size))
  have HB := Lib.hid hb
  clear hb
  have ZA := Lib.hid (Zo.of_own o1); have ZB := Lib.hid (Zo.of_own o3); have G1 := Lib.hid z4; have G2 := Lib.hid z5; have LL1 := Lib.hid l4; have LL2 := Lib.hid l5; have LG1 : Hid (w.heap.size + 2 < g4) := Nat.lt_of_lt_of_le LT.out l4; have LG2 : Hid (w.heap.size + 2 < g5) := Nat.lt_of_lt_of_le LT.out l5
  clear o1 u1 o3 u3 z4 z5 l4 l5
  refine wpAnyH_ready (rs := [6]) (by kernel_rfl) (by simp) ?_
  refine AllReadyH.consL (o := _) rfl (fun K hK => ?_) AllReadyH.nil
  rw [if_pos (by rfl)]
  refine wp_stR _ _ rfl (by rfl) (by rfl) G1.out ?_
  intro ws0 hz hg
  replace HB := Lib.hid (Below.gr HB.out (by have := LL1.out; have := LL2.out; omega) hg HB.out.size)
  replace V0 := Lib.hid (V0.out.gro hg (by have := LG1.out; have := LG2.out; have := NG.out; omega))
  replace V1 := Lib.hid (V1.out.gro hg (by have := LG1.out; have := LG2.out; have := NG.out; omega))
  replace V2 := Lib.hid (V2.out.gro hg (by have := LG1.out; have := LG2.out; have := NG.out; omega))
  replace HX := Lib.hid (HX.out.grR G1.out hg)
  replace HP := Lib.hid (HP.out.grR G1.out hg)
  replace HY := Lib.hid (HY.out.grR G1.out hg)
  replace HQ := Lib.hid (HQ.out.grR G1.out hg)
  replace ZA := Lib.hid (ZA.out.grR G1.out hg)
  replace ZB := Lib.hid (ZB.out.grR G1.out hg)
  replace G2 := Lib.hid (G2.out.gro hg (by have := LG1.out; have := LG2.out; have := NG.out; omega))
  replace B1 := Lib.hid (Below.gr B1.out (by have := LG1.out; have := LG2.out; have := NG.out; omega) hg B1.out.size)
  replace G1 := Lib.hid hz
  refine hK.out _ _ ⟨HB.out, HB.out⟩ (fun _ => ?_)
  clear hK K hg hz
  try simp only [Act.put]
  refine wpAnyH_ready (rs := [7]) (by kernel_rfl) (by simp) ?_
  refine AllReadyH.consL (o := _) rfl (fun K hK => ?_) AllReadyH.nil
  rw [if_pos (by rfl)]
  refine wp_stR _ _ rfl (by rfl) (by rfl) G2.out ?_
  intro ws1 hz hg
  replace HB := Lib.hid (Below.gr HB.out (by have := LL1.out; have := LL2.out; omega) hg HB.out.size)
  replace V0 := Lib.hid (V0.out.gro hg (by have := LG1.out; have := LG2.out; have := NG.out; omega))
  replace V1 := Lib.hid (V1.out.gro hg (by have := LG1.out; have := LG2.out; have := NG.out; omega))
  replace V2 := Lib.hid (V2.out.gro hg (by have := LG1.out; have := LG2.out; have := NG.out; omega))
  replace HX := Lib.hid (HX.out.grR G2.out hg)
  replace HP := Lib.hid (HP.out.grR G2.out hg)
  replace HY := Lib.hid (HY.out.grR G2.out hg)
  replace HQ := Lib.hid (HQ.out.grR G2.out hg)
  replace ZA := Lib.hid (ZA.out.grR G2.out hg)
  replace ZB := Lib.hid (ZB.out.grR G2.out hg)
  replace G1 := Lib.hid (G1.out.gro hg (by have := LG1.out; have := LG2.out; have := NG.out; omega))
  replace B1 := Lib.hid (Below.gr B1.out (by have := LG1.out; have := LG2.out; have := NG.out; omega) hg B1.out.size)
  replace G2 := Lib.hid hz
  refine hK.out _ _ ⟨HB.out, HB.out⟩ (fun _ => ?_)
  clear hK K hg hz
  try simp only [Act.put]
  refine wpAnyH_done (by kernel_rfl) ?_ _
  clear HB
  go_wp2_with fail
  have HB : Hid (Below ws1.heap.size ws1 ws1.drew) := below_drewN _ ws1 1
  refine wp_region_held_drew (S := fun w' => ws1.grownBy w' (some (w.heap.size + 2))) (by kernel_rfl) ((grown_below HB.out : World.grownBy _ _ (some (w.heap.size + 2)))) (fun hHeld => ?_)
  refine wpAnyH_takeL (i := 0) (oi := _) (v := ?_) rfl (by kernel_rfl) (by kernel_rfl) (by kernel_rfl) (fun _ _ _ h => h) (Or.inl ⟨by rfl, ?_⟩) hHeld ?_
  rotate_left
  · (intro w' hSw; (try dsimp only at hSw); go_simp; try (with_reducible rfl))
  try simp only [Act.put, List.setIfInBounds_toArray, List.set_cons_zero, List.set_cons_succ]
  refine wpAnyH_takeL (i := 1) (oi := _) rfl (by kernel_rfl) (by kernel_rfl) (by kernel_rfl) (fun _ _ _ h => h) (yields_ldRz (by rfl) _ rfl (by rfl) (fun _ hb => G1.out.gro hb (by have := LG1.out; have := LG2.out; have := NG.out; omega))) hHeld ?_
  try simp only [Act.put, List.setIfInBounds_toArray, List.set_cons_zero, List.set_cons_succ]
  refine wpAnyH_takeL (i := 2) (oi := _) rfl (by kernel_rfl) (by kernel_rfl) (by kernel_rfl) (fun _ _ _ h => h) (yields_ldR (by rfl) _ rfl (by rfl) (fun _ hb => V1.out.gro hb (by have := LG1.out; have := LG2.out; have := NG.out; omega))) hHeld ?_
  try simp only [Act.put, List.setIfInBounds_toArray, List.set_cons_zero, List.set_cons_succ]
  refine wpAnyH_takeL (i := 5) (oi := _) (v := ?_) rfl (by kernel_rfl) (by kernel_rfl) (by kernel_rfl) (fun _ _ _ h => h) (Or.inl ⟨by rfl, ?_⟩) hHeld ?_
  rotate_left
  · (intro w' hSw; (try dsimp only at hSw); go_simp; try (with_reducible rfl))
  try simp only [Act.put, List.setIfInBounds_toArray, List.set_cons_zero, List.set_cons_succ]
  refine wpAnyH_takeL (i := 6) (oi := _) rfl (by kernel_rfl) (by kernel_rfl) (by kernel_rfl) (fun _ _ _ h => h) (yields_ldRz (by rfl) _ rfl (by rfl) (fun _ hb => G2.out.gro hb (by have := LG1.out; have := LG2.out; have := NG.out; omega))) hHeld ?_
  try simp only [Act.put, List.setIfInBounds_toArray, List.set_cons_zero, List.set_cons_succ]
  refine wpAnyH_takeL (i := 7) (oi := _) rfl (by kernel_rfl) (by kernel_rfl) (by kernel_rfl) (fun _ _ _ h => h) (yields_ldR (by rfl) _ rfl (by rfl) (fun _ hb => V0.out.gro hb (by have := LG1.out; have := LG2.out; have := NG.out; omega))) hHeld ?_
  try simp only [Act.put, List.setIfInBounds_toArray, List.set_cons_zero, List.set_cons_succ]
  refine wpAnyH_takeL (i := 11) (oi := _) rfl (by kernel_rfl) (by kernel_rfl) (by kernel_rfl) (fun _ _ _ h => h) (yields_ldR (by rfl) _ rfl (by rfl) (fun _ hb => V0.out.gro hb (by have := LG1.out; have := LG2.out; have := NG.out; omega))) hHeld ?_
  try simp only [Act.put, List.setIfInBounds_toArray, List.set_cons_zero, List.set_cons_succ]
  refine wpAnyH_takeL (i := 13) (oi := _) rfl (by kernel_rfl) (by kernel_rfl) (by kernel_rfl) (fun _ _ _ h => h) (yields_ldR (by rfl) _ rfl (by rfl) (fun _ hb => V1.out.gro hb (by have := LG1.out; have := LG2.out; have := NG.out; omega))) hHeld ?_
  try simp only [Act.put, List.setIfInBounds_toArray, List.set_cons_zero, List.set_cons_succ]
  refine wpAnyH_ready (rs := [3]) (by kernel_rfl) (by simp) ?_
  refine AllReadyH.consL (o := _) rfl (fun K hK => ?_) AllReadyH.nil
  clear hHeld
  go_simp
  go_at_call 129
  refine Calls.mono (rden_any (HY.out.below HB.out) (HQ.out.below HB.out) LN2.out LM2.out ED2.out) ?_
  rintro e wa ⟨PD1, cPD1, rfl, ho, hb⟩
  replace HB := Lib.hid (HB.out.trans (hb.mono HB.out.size))
  have Z1 := Lib.hid (Zo.of_own ho)
  clear ho
  clear hb
  refine hK.out _ _ (grown_below HB.out : World.grownBy _ _ (some (w.heap.size + 2))) (fun hHeld => ?_)
  clear hK K
  try simp only [Act.put, List.setIfInBounds_toArray, List.set_cons_zero, List.set_cons_succ]
  refine wpAnyH_ready (rs := [4]) (by kernel_rfl) (by simp) ?_
  refine AllReadyH.consL (o := _) rfl (fun K hK => ?_) AllReadyH.nil
  clear hHeld
  go_simp
  go_at_call 128
  refine Calls.mono (rmul_z (x := z1) (y := dz2) (z := m1) (ZA.out.below HB.out).in_ Z1.out.in_ K1.out E1.out) ?_
  rintro e wb ⟨PP2, cPP2, rfl, ho, hb⟩
  replace HB := Lib.hid (HB.out.trans (hb.mono HB.out.size))
  have Z2 := Lib.hid (Zo.of_own ho)
  clear ho
  clear hb
  refine hK.out _ _ (grown_below HB.out : World.grownBy _ _ (some (w.heap.size + 2))) (fun hHeld => ?_)
  clear hK K
  try simp only [Act.put, List.setIfInBounds_toArray, List.set_cons_zero, List.set_cons_succ]
  refine wpAnyH_ready (rs := [8]) (by kernel_rfl) (by simp) ?_
  refine AllReadyH.consL (o := _) rfl (fun K hK => ?_) AllReadyH.nil
  clear hHeld
  go_simp
  go_at_call 129
  refine Calls.mono (rden_any (HX.out.below HB.out) (HP.out.below HB.out) LN.out LM.out ED1.out) ?_
  rintro e wc ⟨PD3, cPD3, rfl, ho, hb⟩
  replace HB := Lib.hid (HB.out.trans (hb.mono HB.out.size))
  replace Z2 := Lib.hid (Z2.out.below hb)
  have Z3 := Lib.hid (Zo.of_own ho)
  clear ho
  clear hb
  refine hK.out _ _ (grown_below HB.out : World.grownBy _ _ (some (w.heap.size + 2))) (fun hHeld => ?_)
  clear hK K
  try simp only [Act.put, List.setIfInBounds_toArray, List.set_cons_zero, List.set_cons_succ]
  refine wpAnyH_ready (rs := [9]) (by kernel_rfl) (by simp) ?_
  refine AllReadyH.consL (o := _) rfl (fun K hK => ?_) AllReadyH.nil
  clear hHeld
  go_simp
  go_at_call 128
  refine Calls.mono (rmul_z (x := z2) (y := dz1) (z := m2') (ZB.out.below HB.out).in_ Z3.out.in_ K2.out E2.out) ?_
  rintro e wd ⟨PP4, cPP4, rfl, ho, hb⟩
  replace HB := Lib.hid (HB.out.trans (hb.mono HB.out.size))
  replace Z2 := Lib.hid (Z2.out.below hb)
  have Z4 := Lib.hid (Zo.of_own ho)
  clear ho
  clear hb
  refine hK.out _ _ (grown_below HB.out : World.grownBy _ _ (some (w.heap.size + 2))) (fun hHeld => ?_)
  clear hK K
  try simp only [Act.put, List.setIfInBounds_toArray, List.set_cons_zero, List.set_cons_succ]
  refine wpAnyH_ready (rs := [10]) (by kernel_rfl) (by simp) ?_
  refine AllReadyH.consL (o := _) rfl (fun K hK => ?_) AllReadyH.nil
  clear hHeld
  go_simp
  go_at_call 120
  refine Calls.mono (radd_z (x := m1) (y := m2') (z := m3) Z2.out.in_ Z4.out.in_ K3.out K4.out E3.out) ?_
  rintro e we ⟨PP5, cPP5, rfl, ho, hb⟩
  replace HB := Lib.hid (HB.out.trans (hb.mono HB.out.size))
  have Z5 := Lib.hid (Zo.of_own ho)
  clear ho
  clear hb
  refine hK.out _ _ (grown_below HB.out : World.grownBy _ _ (some (w.heap.size + 2))) (fun hHeld => ?_)
  clear hK K
  try simp only [Act.put, List.setIfInBounds_toArray, List.set_cons_zero, List.set_cons_succ]
  refine wpAnyH_ready (rs := [12]) (by kernel_rfl) (by simp) ?_
  refine AllReadyH.consL (o := _) rfl (fun K hK => ?_) AllReadyH.nil
  clear hHeld
  go_simp
  go_at_call 129
  refine Calls.mono (rden_any (HX.out.below HB.out) (HP.out.below HB.out) LN.out LM.out ED1.out) ?_
  rintro e wf ⟨PD6, cPD6, rfl, ho, hb⟩
  replace HB := Lib.hid (HB.out.trans (hb.mono HB.out.size))
  replace Z5 := Lib.hid (Z5.out.below hb)
  have Z6 := Lib.hid (Zo.of_own ho)
  clear ho
  clear hb
  refine hK.out _ _ (grown_below HB.out : World.grownBy _ _ (some (w.heap.size + 2))) (fun hHeld => ?_)
  clear hK K
  try simp only [Act.put, List.setIfInBounds_toArray, List.set_cons_zero, List.set_cons_succ]
  refine wpAnyH_ready (rs := [14]) (by kernel_rfl) (by simp) ?_
  refine AllReadyH.consL (o := _) rfl (fun K hK => ?_) AllReadyH.nil
  clear hHeld
  go_simp
  go_at_call 129
  refine Calls.mono (rden_any (HY.out.below HB.out) (HQ.out.below HB.out) LN2.out LM2.out ED2.out) ?_
  rintro e wg ⟨PD7, cPD7, rfl, ho, hb⟩
  replace HB := Lib.hid (HB.out.trans (hb.mono HB.out.size))
  replace Z5 := Lib.hid (Z5.out.below hb)
  replace Z6 := Lib.hid (Z6.out.below hb)
  have Z7 := Lib.hid (Zo.of_own ho)
  clear ho
  clear hb
  refine hK.out _ _ (grown_below HB.out : World.grownBy _ _ (some (w.heap.size + 2))) (fun hHeld => ?_)
  clear hK K
  try simp only [Act.put, List.setIfInBounds_toArray, List.set_cons_zero, List.set_cons_succ]
  refine wpAnyH_ready (rs := [15]) (by kernel_rfl) (by simp) ?_
  refine AllReadyH.consL (o := _) rfl (fun K hK => ?_) AllReadyH.nil
  clear hHeld
  go_simp
  go_at_call 128
  refine Calls.mono (rmul_z (x := dz1) (y := dz2) (z := m4) Z6.out.in_ Z7.out.in_ K6.out E4.out) ?_
  rintro e wh ⟨PP8, cPP8, rfl, ho, hb⟩
  replace HB := Lib.hid (HB.out.trans (hb.mono HB.out.size))
  replace Z5 := Lib.hid (Z5.out.below hb)
  have Z8 := Lib.hid (Zo.of_own ho)
  clear ho
  clear hb
  refine hK.out _ _ (grown_below HB.out : World.grownBy _ _ (some (w.heap.size + 2))) (fun hHeld => ?_)
  clear hK K
  try simp only [Act.put, List.setIfInBounds_toArray, List.set_cons_zero, List.set_cons_succ]
  refine wpAnyH_ready (rs := [16]) (by kernel_rfl) (by simp) ?_
  refine AllReadyH.consL (o := _) rfl (fun K hK => ?_) AllReadyH.nil
  clear hHeld
  have SZ := Lib.hid (Nat.le_trans B1.out.size HB.out.size)
  go_simp
  go_at_call 64
  refine Calls.mono (rmake_any Z5.out.in_ K5.out Z8.out.in_ K7.out HZ.out HD.out) ?_
  rintro e wi ⟨P1, c1, P2, c2, rfl, ho, ho2, hb⟩
  replace HB := Lib.hid (HB.out.trans (hb.mono HB.out.size))
  have OQ := Lib.hid (ho.mono SZ.out)
  have OD := Lib.hid (ho2.mono SZ.out)
  clear ho ho2 SZ
  clear hb
  refine hK.out _ _ (grown_below HB.out : World.grownBy _ _ (some (w.heap.size + 2))) (fun hHeld => ?_)
  clear hK K
  try simp only [Act.put, List.setIfInBounds_toArray, List.set_cons_zero, List.set_cons_succ]
  refine wpAnyH_ready (rs := [17]) (by kernel_rfl) (by simp) ?_
  refine AllReadyH.consL (o := _) rfl (fun K hK => ?_) AllReadyH.nil
  clear hHeld
  have hb := HB.out
  replace V0 := Lib.hid (V0.out.below hb V0.out.lt)
  replace V1 := Lib.hid (V1.out.below hb V1.out.lt)
  replace V2 := Lib.hid (V2.out.below hb V2.out.lt)
  replace HX := Lib.hid (HX.out.below hb)
  replace HP := Lib.hid (HP.out.below hb)
  replace HY := Lib.hid (HY.out.below hb)
  replace HQ := Lib.hid (HQ.out.below hb)
  replace ZA := Lib.hid (ZA.out.below hb)
  replace ZB := Lib.hid (ZB.out.below hb)
  replace G1 := Lib.hid (G1.out.below hb G1.out.lt)
  replace G2 := Lib.hid (G2.out.below hb G2.out.lt)
  replace B1 := Lib.hid (B1.out.trans (hb.mono B1.out.size))
  rw [if_pos (by rfl)]
  refine wp_stR _ _ rfl (by rfl) (by rfl) V2.out ?_
  intro wst hz hg
  replace V0 := Lib.hid (V0.out.gro hg (by have := LG1.out; have := LG2.out; have := NG.out; omega))
  replace V1 := Lib.hid (V1.out.gro hg (by have := LG1.out; have := LG2.out; have := NG.out; omega))
  replace HX := Lib.hid (HX.out.grR V2.out hg)
  replace HP := Lib.hid (HP.out.grR V2.out hg)
  replace HY := Lib.hid (HY.out.grR V2.out hg)
  replace HQ := Lib.hid (HQ.out.grR V2.out hg)
  replace ZA := Lib.hid (ZA.out.grR V2.out hg)
  replace ZB := Lib.hid (ZB.out.grR V2.out hg)
  replace G1 := Lib.hid (G1.out.gro hg (by have := LG1.out; have := LG2.out; have := NG.out; omega))
  replace G2 := Lib.hid (G2.out.gro hg (by have := LG1.out; have := LG2.out; have := NG.out; omega))
  replace OQ := Lib.hid (OQ.out.grR V2.out hg)
  replace OD := Lib.hid (OD.out.grR V2.out hg)
  replace B1 := Lib.hid (Below.gr B1.out (by have := LG1.out; have := LG2.out; have := NG.out; omega) hg B1.out.size)
  replace V2 := Lib.hid hz
  refine hK.out _ _ (World.grownBy.trans (grown_below hb) hg) (fun hHeld => ?_)
  clear hK K hg hb HB hz
  try simp only [Act.put]
  skip
  refine wpAnyH_done (by kernel_rfl) ?_ _
  clear hHeld
  go_wp2
  exact ret_rb Tryz.results94 rfl rfl V2.out ⟨_, _, _, _, rfl, OQ.out, OD.out, B1.out⟩
end Go.Proofs.YtfacndibfkamgaaGreat
