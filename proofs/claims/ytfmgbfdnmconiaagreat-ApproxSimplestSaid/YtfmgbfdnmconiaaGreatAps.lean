/-
  Contract of package approx: simplestPositive.
-/
import Derived.Test.YtfmgbfdnmconiaaGreatApx
namespace Go.Proofs.YtfmgbfdnmconiaaGreat
open Go.RowKit
set_option linter.unusedVariables false

/-- A canonical integer. -/
def isO (z : Int) (v : Value) (w : World) : Prop := ∃ P c, v = .agg #[.bool (decide (z < 0)), .slice P (ofv z.natAbs).length c] ∧ Zo w P c z
theorem isO_good (z : Int) : Good (isO z) := ⟨fun v w w' hb ⟨P, c, e, o⟩ => ⟨P, c, e, o.below hb⟩, fun v w g ⟨P, c, e, o⟩ h => by subst e; cases h⟩
def isC (p q o r : Int) (v : Value) (w : World) : Prop := ∃ P cp Q cq O co R cr, v = .agg #[.bool (decide (p < 0)), .slice P (ofv p.natAbs).length cp, .bool (decide (q < 0)), .slice Q (ofv q.natAbs).length cq, .bool (decide (o < 0)), .slice O (ofv o.natAbs).length co, .bool (decide (r < 0)), .slice R (ofv r.natAbs).length cr] ∧ Zo w P cp p ∧ Zo w Q cq q ∧ Zo w O co o ∧ Zo w R cr r
theorem isC_good (p q o r : Int) : Good (isC p q o r) :=
  ⟨fun v w w' hb ⟨P, cp, Q, cq, O, co, R, cr, e, z1, z2, z3, z4⟩ => ⟨P, cp, Q, cq, O, co, R, cr, e, z1.below hb, z2.below hb, z3.below hb, z4.below hb⟩, fun v w g ⟨P, cp, Q, cq, O, co, R, cr, e, _⟩ h => by subst e; cases h⟩
def isNewE (lo : Nat) (v : Value) (w : World) : Prop := ∃ g, v = .pointer (some ⟨g, 0, none⟩) ∧ lo ≤ g ∧ Eb w g false none 0 0 false none 0 0
theorem isNewE_good (lo : Nat) : Good (isNewE lo) := ⟨fun v w w' hb ⟨g, e, l, z⟩ => ⟨g, e, l, z.below hb z.lt⟩, fun v w g ⟨g', e, l, z⟩ h => by subst e; cases h; exact z.lt⟩
theorem LeavesB.newE {lo : Nat} {w : World} (h : lo ≤ w.heap.size) : LeavesB (isNewE lo) w (.pointer (some ⟨w.heap.size, 0, none⟩)) (w.alloc (.cells #[.bool false, .slice none 0 0, .bool false, .slice none 0 0] 62)) :=
  ⟨(Below.refl _ _).alloc (Nat.le_refl _) _, ⟨_, rfl, h, Eb.new w false none 0 0 false none 0 0⟩, fun g hg => by cases hg; exact Nat.le_refl _⟩
def isNewV (lo : Nat) (v : Value) (w : World) : Prop := ∃ g, v = .pointer (some ⟨g, 0, none⟩) ∧ lo ≤ g ∧ Vb w g false none 0 0 false none 0 0 false none 0 0 false none 0 0
theorem isNewV_good (lo : Nat) : Good (isNewV lo) := ⟨fun v w w' hb ⟨g, e, l, z⟩ => ⟨g, e, l, z.below hb z.lt⟩, fun v w g ⟨g', e, l, z⟩ h => by subst e; cases h; exact z.lt⟩
theorem LeavesB.newV {lo : Nat} {w : World} (h : lo ≤ w.heap.size) : LeavesB (isNewV lo) w (.pointer (some ⟨w.heap.size, 0, none⟩)) (w.alloc (.cells #[.bool false, .slice none 0 0, .bool false, .slice none 0 0, .bool false, .slice none 0 0, .bool false, .slice none 0 0] 111)) :=
  ⟨(Below.refl _ _).alloc (Nat.le_refl _) _, ⟨_, rfl, h, Vb.new w false none 0 0 false none 0 0 false none 0 0 false none 0 0⟩, fun g hg => by cases hg; exact Nat.le_refl _⟩
/-- The loop. -/
def SpoInv (w : World) (g5 g6 g7 : Nat) (x y x' y' X Y X' Y' p q o r : Int) (wr : World) : Prop :=
  Spo x y x' y' X Y X' Y' p q o r ∧ (w.heap.size + 2 < g5 ∧ w.heap.size + 2 < g6 ∧ w.heap.size + 2 < g7 ∧ g5 ≠ g6 ∧ g5 ≠ g7 ∧ g6 ≠ g7) ∧ Rb wr (w.heap.size + 2) false none 0 0 none 0 0 ∧ Ex wr g5 X Y 1048577 ∧ Ex wr g6 X' Y' 1048577 ∧ Cx wr g7 p q o r ∧ Below w.heap.size w wr
theorem Spo.bound {x y x' y' X Y X' Y' p q o r : Int} (h : Spo x y x' y' X Y X' Y' p q o r) : p.natAbs ≤ x.natAbs ∧ o.natAbs ≤ x.natAbs ∧ q.natAbs ≤ y.natAbs ∧ r.natAbs ≤ y.natAbs := by
  obtain ⟨e1, e2⟩ := h.s1
  have k1 := Int.mul_le_mul_of_nonneg_right (show 1 ≤ X by have := h.X0; omega) h.p0
  have k2 := Int.mul_le_mul_of_nonneg_right (show 1 ≤ Y by have := h.Y0; omega) h.o0
  have k3 := Int.mul_le_mul_of_nonneg_right (show 1 ≤ X by have := h.X0; omega) h.q0
  have k4 := Int.mul_le_mul_of_nonneg_right (show 1 ≤ Y by have := h.Y0; omega) h.r0
  have := h.p0; have := h.q0; have := h.o0; have := h.r0
  refine ⟨?_, ?_, ?_, ?_⟩ <;> omega
theorem ex_len {w : World} {g L : Nat} {X Y : Int} (h : Ex w g X Y L) : (ofv X.natAbs).length ≤ L := by
  obtain ⟨_, _, _, _, _, _, _, _, _, h9, _, l9, _⟩ := h
  exact Nat.le_trans h9.len l9
set_option maxRecDepth 100000 in
set_option maxHeartbeats 16000000 in
theorem simplestPositive_any {s t : Bool} {A D B E : Option Addr} {n c m k n2 c2 m2 k2 : Nat} {x y x' y' : Int} {w : World} (h1 : Zin w s A n c x) (h2 : Zin w false D m k y) (h3 : Zin w t B n2 c2 x') (h4 : Zin w false E m2 k2 y') (l1 : n ≤ 1048577) (l2 : m ≤ 1048577) (l3 : n2 ≤ 1048577) (l4 : m2 ≤ 1048577) (p1 : 0 < x) (p2 : 0 < y) (p3 : 0 < x') (p4 : 0 < y') :
    Calls Tryz.prog 64 #[.agg #[.bool s, .slice A n c, .slice D m k], .agg #[.bool t, .slice B n2 c2, .slice E m2 k2]] w fun e w' => ∃ u v, Spr x y x' y' u ((v : Nat) : Int) ∧ ((ofv u.natAbs).length ≤ 100000000 ∧ (ofv v).length ≤ 100000000) ∧ ∃ P c Q k, e = .returned (.agg #[.bool (decide (u < 0)), .slice P (ofv u.natAbs).length c, .slice Q (ofv v).length k]) ∧ Zo w' P c u ∧ Rd w' Q k (ofv v) ∧ Below w.heap.size w w' := by
  obtain ⟨B1, V0, V1, V2⟩ := start_RRR w s A n c D m k t B n2 c2 E m2 k2
  have H1 := Lib.hid (h1.below B1.out)
  have H2 := Lib.hid (h2.below B1.out)
  have H3 := Lib.hid (h3.below B1.out)
  have H4 := Lib.hid (h4.below B1.out)
  have L1 := Lib.hid l1
  have L2 := Lib.hid l2
  have L3 := Lib.hid l3
  have L4 := Lib.hid l4
  have LX : Hid ((ofv x.natAbs).length ≤ 1048577) := Nat.le_trans h1.len l1
  have LY : Hid ((ofv y.natAbs).length ≤ 1048577) := Nat.le_trans h2.len l2
  have PS : Hid ((0 < x ∧ 0 < y) ∧ (0 < x' ∧ 0 < y')) := ⟨⟨p1, p2⟩, p3, p4⟩
  obtain ⟨one, e1⟩ : ∃ z0 : Int, (1 : Int) = z0 := ⟨_, rfl⟩
  obtain ⟨zero, e0⟩ : ∃ z0 : Int, (0 : Int) = z0 := ⟨_, rfl⟩
  have E1 := Lib.hid e1
  have E0 := Lib.hid e0
  clear h1 h2 h3 h4 l1 l2 l3 l4 p1 p2 p3 p4 e1 e0
  go_enter Tryz.func64, Tryz.ntmps64
  go_wp2_with fail
  generalize (((w.alloc (.cells #[.bool s, .slice A n c, .slice D m k] 26)).alloc (.cells #[.bool t, .slice B n2 c2, .slice E m2 k2] 26)).alloc (.cells #[.bool false, .slice none 0 0, .slice none 0 0] 26)) = w2 at *
  have LT : Hid (w.heap.size + 2 < w2.heap.size) := V2.out.lt
  have HB : Hid (Below w2.heap.size w2 w2.drew) := below_drewN _ w2 1
  refine wp_region_held_drew (S := fun w' => Below w2.heap.size w2 w') (by kernel_rfl) (HB.out) (fun hHeld => ?_)
  refine wpAnyH_takeL (i := 0) (oi := _) rfl (by kernel_rfl) (by kernel_rfl) (by kernel_rfl) (fun _ _ _ h => h) (yields_ldR (by rfl) _ rfl (by rfl) (fun _ hb => V0.out.below hb V0.out.lt)) hHeld ?_
  try simp only [Act.put, List.setIfInBounds_toArray, List.set_cons_zero, List.set_cons_succ]
  refine wpAnyH_takeL (i := 2) (oi := _) rfl (by kernel_rfl) (by kernel_rfl) (by kernel_rfl) (fun _ _ _ h => h) (yields_ldR (by rfl) _ rfl (by rfl) (fun _ hb => V1.out.below hb V1.out.lt)) hHeld ?_
  try simp only [Act.put, List.setIfInBounds_toArray, List.set_cons_zero, List.set_cons_succ]
  refine wpAnyH_rgt [(1, some 12), (3, some 14), (4, some 15), (5, some 5), (6, some 6), (7, some 7)] [] (isNewE w2.heap.size) [(1, isV (.agg #[.bool s, .slice A n c, .bool false, .slice D m k])), (3, isV (.agg #[.bool t, .slice B n2 c2, .bool false, .slice E m2 k2])), (4, isC one zero zero one), (7, isNewV w2.heap.size)] w2 (f0 := 3) (by kernel_rfl) (by kernel_rfl) (by rfl) HB.out (fun _ h => h) (fun _ _ _ _ _ h => h) (isNewE_good _) ⟨isV_good _, isV_good _, isC_good _ _ _ _, isNewV_good _, trivial⟩ ?_ ?_ ?_
  · clear hHeld HB
    show RgOps _ _ _ _ _ _ _ _ _ [1, 3, 4, 5, 6, 7]
    refine RgOps.consL (o := _) (ds := []) rfl rfl (by kernel_rfl) (fun vals wr hbr hC hdep K hK => ?_) ?_
    · have BB := Lib.hid hbr
      clear hdep
      clear hbr hC
      simp only [Upd2, Act.put, List.setIfInBounds_toArray, List.set_cons_zero, List.set_cons_succ] at hK ⊢
      go_simp
      go_at_call 44
      refine Calls.mono (expand_any _ _ _ _ _ _ _ _) ?_
      rintro e wq ⟨rfl, hb⟩
      exact hK.out _ _ (LeavesB.behind hb ⟨rfl, rfl⟩ rfl)
    refine RgOps.consL (o := _) (ds := [1]) rfl rfl (by kernel_rfl) (fun vals wr hbr hC hdep K hK => ?_) ?_
    · have BB := Lib.hid hbr
      obtain ⟨⟨e1, -⟩, -⟩ := hdep
      clear hbr hC
      simp only [e1, Upd2, Act.put, List.setIfInBounds_toArray, List.set_cons_zero, List.set_cons_succ] at hK ⊢
      clear e1
      go_simp
      go_at_call 44
      refine Calls.mono (expand_any _ _ _ _ _ _ _ _) ?_
      rintro e wq ⟨rfl, hb⟩
      exact hK.out _ _ (LeavesB.behind hb ⟨rfl, rfl⟩ rfl)
    refine RgOps.consL (o := _) (ds := [3]) rfl rfl (by kernel_rfl) (fun vals wr hbr hC hdep K hK => ?_) ?_
    · have BB := Lib.hid hbr
      obtain ⟨⟨e3, -⟩, -⟩ := hdep
      clear hbr hC
      simp only [e3, Upd2, Act.put, List.setIfInBounds_toArray, List.set_cons_zero, List.set_cons_succ] at hK ⊢
      clear e3
      go_simp
      go_at_call 106
      refine Calls.mono (nothing_any (one := one) (zero := zero) E1.out E0.out _) ?_
      rintro e wq ⟨Pa, a1, Pb, a2, Pc, a3, Pd, a4, rfl, q1, q2, q3, q4, hb⟩
      exact hK.out _ _ (LeavesB.behind hb ⟨_, _, _, _, _, _, _, _, rfl, q1, q2, q3, q4⟩ rfl)
    refine RgOps.consL (o := _) (ds := []) rfl rfl (by kernel_rfl) (fun vals wr hbr hC hdep K hK => ?_) ?_
    · have BB := Lib.hid hbr
      clear hdep
      clear hbr hC
      simp only [Upd2, Act.put, List.setIfInBounds_toArray, List.set_cons_zero, List.set_cons_succ] at hK ⊢
      go_simp
      exact hK.out _ _ (LeavesB.newE BB.out.size)
    refine RgOps.consL (o := _) (ds := []) rfl rfl (by kernel_rfl) (fun vals wr hbr hC hdep K hK => ?_) ?_
    · have BB := Lib.hid hbr
      clear hdep
      clear hbr hC
      simp only [Upd2, Act.put, List.setIfInBounds_toArray, List.set_cons_zero, List.set_cons_succ] at hK ⊢
      go_simp
      exact hK.out _ _ (LeavesB.newE BB.out.size)
    refine RgOps.consL (o := _) (ds := []) rfl rfl (by kernel_rfl) (fun vals wr hbr hC hdep K hK => ?_) RgOps.nil
    · have BB := Lib.hid hbr
      clear hdep
      clear hbr hC
      simp only [Upd2, Act.put, List.setIfInBounds_toArray, List.set_cons_zero, List.set_cons_succ] at hK ⊢
      go_simp
      exact hK.out _ _ (LeavesB.newV BB.out.size)
  · clear hHeld HB
    show TaAll _ _ _ _ _ []
    exact TaAll.nil
  clear hHeld HB
  intro vals wr hb hdep hD
  have N560 := Lib.hid (hD 5 (by decide) 6 (by decide) (by decide))
  have N570 := Lib.hid (hD 5 (by decide) 7 (by decide) (by decide))
  have N670 := Lib.hid (hD 6 (by decide) 7 (by decide) (by decide))
  obtain ⟨⟨e1, -⟩, ⟨e3, -⟩, ⟨PA, ca, PB, cb, PC, cc, PD, cd, e4, za, zb, zc, zd⟩, ⟨g5, e5, l5, z5⟩, ⟨g6, e6, l6, z6⟩, ⟨g7, e7, l7, z7⟩, -⟩ := hdep
  have N56 : Hid (g5 ≠ g6) := fun e => N560.out g5 (by rw [e5]; rfl) (by rw [e6, e]; rfl)
  have N57 : Hid (g5 ≠ g7) := fun e => N570.out g5 (by rw [e5]; rfl) (by rw [e7, e]; rfl)
  have N67 : Hid (g6 ≠ g7) := fun e => N670.out g6 (by rw [e6]; rfl) (by rw [e7, e]; rfl)
  simp only [Upd2, e1, e3, e4, e5, e6, e7, Act.put, List.setIfInBounds_toArray, List.set_cons_zero, List.set_cons_succ]
  clear N560 N570 N670 e1 e3 e4 e5 e6 e7
  clear hD vals
  replace V0 := Lib.hid (V0.out.below hb V0.out.lt)
  replace V1 := Lib.hid (V1.out.below hb V1.out.lt)
  replace V2 := Lib.hid (V2.out.below hb V2.out.lt)
  replace H1 := Lib.hid (H1.out.below hb)
  replace H2 := Lib.hid (H2.out.below hb)
  replace H3 := Lib.hid (H3.out.below hb)
  replace H4 := Lib.hid (H4.out.below hb)
  replace B1 := Lib.hid (B1.out.trans (hb.mono B1.out.size))
  have HB := Lib.hid hb
  clear hb
  have ZA := Lib.hid za; have ZB := Lib.hid zb; have ZC := Lib.hid zc; have ZD := Lib.hid zd; have G5 := Lib.hid z5; have G6 := Lib.hid z6; have G7 := Lib.hid z7; have K5 := Lib.hid l5; have K6 := Lib.hid l6; have K7 := Lib.hid l7; have LG5 : Hid (w.heap.size + 2 < g5) := Nat.lt_of_lt_of_le LT.out l5; have LG6 : Hid (w.heap.size + 2 < g6) := Nat.lt_of_lt_of_le LT.out l6; have LG7 : Hid (w.heap.size + 2 < g7) := Nat.lt_of_lt_of_le LT.out l7
  clear za zb zc zd z5 z6 z7 l5 l6 l7
  refine wpAnyH_ready (rs := [8]) (by kernel_rfl) (by simp) ?_
  refine AllReadyH.consL (o := _) rfl (fun K hK => ?_) AllReadyH.nil
  rw [if_pos (by rfl)]
  refine wp_stE _ _ rfl (by rfl) (by rfl) G5.out ?_
  intro ws0 hz hg
  replace HB := Lib.hid (Below.gr HB.out (by have := K5.out; have := K6.out; have := K7.out; omega) hg HB.out.size)
  have bx := G5.out.bx
  replace V0 := Lib.hid (V0.out.gro hg (by have := LG5.out; have := LG6.out; have := LG7.out; have := N56.out; have := N57.out; have := N67.out; omega))
  replace V1 := Lib.hid (V1.out.gro hg (by have := LG5.out; have := LG6.out; have := LG7.out; have := N56.out; have := N57.out; have := N67.out; omega))
  replace V2 := Lib.hid (V2.out.gro hg (by have := LG5.out; have := LG6.out; have := LG7.out; have := N56.out; have := N57.out; have := N67.out; omega))
  replace H1 := Lib.hid (H1.out.grB bx hg)
  replace H2 := Lib.hid (H2.out.grB bx hg)
  replace H3 := Lib.hid (H3.out.grB bx hg)
  replace H4 := Lib.hid (H4.out.grB bx hg)
  replace ZA := Lib.hid (ZA.out.grB bx hg)
  replace ZB := Lib.hid (ZB.out.grB bx hg)
  replace ZC := Lib.hid (ZC.out.grB bx hg)
  replace ZD := Lib.hid (ZD.out.grB bx hg)
  replace G6 := Lib.hid (G6.out.gro hg (by have := LG5.out; have := LG6.out; have := LG7.out; have := N56.out; have := N57.out; have := N67.out; omega))
  replace G7 := Lib.hid (G7.out.gro hg (by have := LG5.out; have := LG6.out; have := LG7.out; have := N56.out; have := N57.out; have := N67.out; omega))
  replace B1 := Lib.hid (Below.gr B1.out (by have := LG5.out; have := LG6.out; have := LG7.out; have := N56.out; have := N57.out; have := N67.out; omega) hg B1.out.size)
  clear bx
  replace G5 := Lib.hid hz
  refine hK.out _ _ ⟨HB.out, HB.out⟩ (fun _ => ?_)
  clear hK K hg hz
  try simp only [Act.put]
  refine wpAnyH_ready (rs := [9]) (by kernel_rfl) (by simp) ?_
  refine AllReadyH.consL (o := _) rfl (fun K hK => ?_) AllReadyH.nil
  rw [if_pos (by rfl)]
  refine wp_stE _ _ rfl (by rfl) (by rfl) G6.out ?_
  intro ws1 hz hg
  replace HB := Lib.hid (Below.gr HB.out (by have := K5.out; have := K6.out; have := K7.out; omega) hg HB.out.size)
  have bx := G6.out.bx
  replace V0 := Lib.hid (V0.out.gro hg (by have := LG5.out; have := LG6.out; have := LG7.out; have := N56.out; have := N57.out; have := N67.out; omega))
  replace V1 := Lib.hid (V1.out.gro hg (by have := LG5.out; have := LG6.out; have := LG7.out; have := N56.out; have := N57.out; have := N67.out; omega))
  replace V2 := Lib.hid (V2.out.gro hg (by have := LG5.out; have := LG6.out; have := LG7.out; have := N56.out; have := N57.out; have := N67.out; omega))
  replace H1 := Lib.hid (H1.out.grB bx hg)
  replace H2 := Lib.hid (H2.out.grB bx hg)
  replace H3 := Lib.hid (H3.out.grB bx hg)
  replace H4 := Lib.hid (H4.out.grB bx hg)
  replace ZA := Lib.hid (ZA.out.grB bx hg)
  replace ZB := Lib.hid (ZB.out.grB bx hg)
  replace ZC := Lib.hid (ZC.out.grB bx hg)
  replace ZD := Lib.hid (ZD.out.grB bx hg)
  replace G5 := Lib.hid (G5.out.gro hg (by have := LG5.out; have := LG6.out; have := LG7.out; have := N56.out; have := N57.out; have := N67.out; omega))
  replace G7 := Lib.hid (G7.out.gro hg (by have := LG5.out; have := LG6.out; have := LG7.out; have := N56.out; have := N57.out; have := N67.out; omega))
  replace B1 := Lib.hid (Below.gr B1.out (by have := LG5.out; have := LG6.out; have := LG7.out; have := N56.out; have := N57.out; have := N67.out; omega) hg B1.out.size)
  clear bx
  replace G6 := Lib.hid hz
  refine hK.out _ _ ⟨HB.out, HB.out⟩ (fun _ => ?_)
  clear hK K hg hz
  try simp only [Act.put]
  refine wpAnyH_ready (rs := [10]) (by kernel_rfl) (by simp) ?_
  refine AllReadyH.consL (o := _) rfl (fun K hK => ?_) AllReadyH.nil
  rw [if_pos (by rfl)]
  refine wp_stV _ _ rfl (by rfl) (by rfl) G7.out ?_
  intro ws2 hz hg
  replace HB := Lib.hid (Below.gr HB.out (by have := K5.out; have := K6.out; have := K7.out; omega) hg HB.out.size)
  have bx := G7.out.bx
  replace V0 := Lib.hid (V0.out.gro hg (by have := LG5.out; have := LG6.out; have := LG7.out; have := N56.out; have := N57.out; have := N67.out; omega))
  replace V1 := Lib.hid (V1.out.gro hg (by have := LG5.out; have := LG6.out; have := LG7.out; have := N56.out; have := N57.out; have := N67.out; omega))
  replace V2 := Lib.hid (V2.out.gro hg (by have := LG5.out; have := LG6.out; have := LG7.out; have := N56.out; have := N57.out; have := N67.out; omega))
  replace H1 := Lib.hid (H1.out.grB bx hg)
  replace H2 := Lib.hid (H2.out.grB bx hg)
  replace H3 := Lib.hid (H3.out.grB bx hg)
  replace H4 := Lib.hid (H4.out.grB bx hg)
  replace ZA := Lib.hid (ZA.out.grB bx hg)
  replace ZB := Lib.hid (ZB.out.grB bx hg)
  replace ZC := Lib.hid (ZC.out.grB bx hg)
  replace ZD := Lib.hid (ZD.out.grB bx hg)
  replace G5 := Lib.hid (G5.out.gro hg (by have := LG5.out; have := LG6.out; have := LG7.out; have := N56.out; have := N57.out; have := N67.out; omega))
  replace G6 := Lib.hid (G6.out.gro hg (by have := LG5.out; have := LG6.out; have := LG7.out; have := N56.out; have := N57.out; have := N67.out; omega))
  replace B1 := Lib.hid (Below.gr B1.out (by have := LG5.out; have := LG6.out; have := LG7.out; have := N56.out; have := N57.out; have := N67.out; omega) hg B1.out.size)
  clear bx
  replace G7 := Lib.hid hz
  refine hK.out _ _ ⟨HB.out, HB.out⟩ (fun _ => ?_)
  clear hK K hg hz
  try simp only [Act.put]
  refine wpAnyH_done (by kernel_rfl) ?_ _
  clear HB
  try simp only [Act.put]
  try go_wp2_with fail
  have ST : Hid (SpoInv w g5 g6 g7 x y x' y' x y x' y' one zero zero one ws2) := by
    refine ⟨by rw [← E1.out, ← E0.out]; exact Spo.start PS.out.1.1 PS.out.1.2 PS.out.2.1 PS.out.2.2, ⟨LG5.out, LG6.out, LG7.out, N56.out, N57.out, N67.out⟩, V2.out, ⟨_, _, _, _, _, _, _, _, G5.out, H1.out, H2.out, L1.out, L2.out⟩, ⟨_, _, _, _, _, _, _, _, G6.out, H3.out, H4.out, L3.out, L4.out⟩, ⟨_, _, _, _, _, _, _, _, G7.out, ZA.out, ZB.out, ZC.out, ZD.out⟩, B1.out⟩
  clear V0 V1 V2 G5 G6 G7 H1 H2 H3 H4 ZA ZB ZC ZD B1 LG5 LG6 LG7 N56 N57 N67 K5 K6 K7 LT
  go_loopw [] (fun wr => ∃ (X Y X' Y' p q o r : Int), Hid (SpoInv w g5 g6 g7 x y x' y' X Y X' Y' p q o r wr)) (fun wr => rdy wr g5)
  case atStart => exact ⟨x, y, x', y', one, zero, zero, one, ST.out⟩
  case round =>
    obtain ⟨wl, hwl⟩ : ∃ q0, q0 = wr := ⟨_, rfl⟩
    subst hwl
    obtain ⟨X, Y, X', Y', p, q, o, r, hI⟩ := hrel
    have MS : Hid (rdy wl g5 = Y.natAbs) := rdy_ex hI.out.2.2.2.1
    obtain ⟨inv, ⟨g1, g2, g3, g4, g5', g6'⟩, v2, ex5, ex6, ⟨P, cp, Q, cq, O, co, R, cr, v7, zp, zq, zo, zr⟩, bel⟩ := hI.out
    have INV := Lib.hid inv
    have GS : Hid (w.heap.size + 2 < g5 ∧ w.heap.size + 2 < g6 ∧ w.heap.size + 2 < g7 ∧ g5 ≠ g6 ∧ g5 ≠ g7 ∧ g6 ≠ g7) := ⟨g1, g2, g3, g4, g5', g6'⟩
    have V2 := Lib.hid v2
    have E5 := Lib.hid ex5
    have E6 := Lib.hid ex6
    have V7 := Lib.hid v7
    have ZP := Lib.hid zp
    have ZQ := Lib.hid zq
    have ZO := Lib.hid zo
    have ZR' := Lib.hid zr
    have B1 := Lib.hid bel
    obtain ⟨b1, b2, b3, b4⟩ := inv.bound
    have LP : Hid ((ofv p.natAbs).length ≤ 1048577) := Nat.le_trans (len_mono b1) LX.out
    have LO : Hid ((ofv o.natAbs).length ≤ 1048577) := Nat.le_trans (len_mono b2) LX.out
    have LQ : Hid ((ofv q.natAbs).length ≤ 1048577) := Nat.le_trans (len_mono b3) LY.out
    have LR : Hid ((ofv r.natAbs).length ≤ 1048577) := Nat.le_trans (len_mono b4) LY.out
    obtain ⟨t1, et1⟩ : ∃ z0 : Int, X / Y = z0 := ⟨_, rfl⟩
    obtain ⟨t2, et2⟩ : ∃ z0 : Int, X' / Y' = z0 := ⟨_, rfl⟩
    obtain ⟨Y1, ey1⟩ : ∃ z0 : Int, X % Y = z0 := ⟨_, rfl⟩
    obtain ⟨Y2, ey2⟩ : ∃ z0 : Int, X' % Y' = z0 := ⟨_, rfl⟩
    obtain ⟨k1, ek1⟩ : ∃ z0 : Int, ceilz X Y = z0 := ⟨_, rfl⟩
    obtain ⟨k2, ek2⟩ : ∃ z0 : Int, ceilz X' Y' = z0 := ⟨_, rfl⟩
    obtain ⟨ml, eml⟩ : ∃ z0 : Int, min k1 k2 = z0 := ⟨_, rfl⟩
    have ET1 := Lib.hid et1
    have ET2 := Lib.hid et2
    have EY1 := Lib.hid ey1
    have EY2 := Lib.hid ey2
    have EK1 : Hid ((if Y1 = 0 then t1 else t1 + 1) = k1) := by show _ = _; rw [← ek1, ← et1, ← ey1]; rfl
    have EK2 : Hid ((if Y2 = 0 then t2 else t2 + 1) = k2) := by show _ = _; rw [← ek2, ← et2, ← ey2]; rfl
    have EML := Lib.hid eml
    have EMM : Hid (min (ceilz X Y) (ceilz X' Y') = ml) := by show _ = _; rw [ek1, ek2]; exact eml
    have NY : Hid (Y ≠ 0) := by show _ ≠ _; have := inv.Y0; omega
    have NY' : Hid (Y' ≠ 0) := by show _ ≠ _; have := inv.Y0'; omega
    have LT1 : Hid ((ofv t1.natAbs).length ≤ 1048577) := by show _ ≤ _; rw [← et1]; exact Nat.le_trans (len_mono (ediv_abs_le X Y)) (ex_len ex5)
    have LT2 : Hid ((ofv t2.natAbs).length ≤ 1048577) := by show _ ≤ _; rw [← et2]; exact Nat.le_trans (len_mono (ediv_abs_le X' Y')) (ex_len ex6)
    have LML : Hid ((ofv ml.natAbs).length ≤ 1048578) := by
      have u1 : k1 = t1 ∨ k1 = t1 + 1 := by have := EK1.out; split at this <;> omega
      have t0 : 0 ≤ t1 := by rw [← et1]; exact Int.ediv_nonneg (by have := inv.X0; omega) (by have := inv.Y0; omega)
      have c1 := (ceilz_spec inv.X0 inv.Y0).2.2.1
      have c2 := (ceilz_spec inv.X0' inv.Y0').2.2.1
      exact Nat.le_trans (len_mono (show ml.natAbs ≤ t1.natAbs + 1 by omega)) (len_succ LT1.out (by decide))
    clear hI inv g1 g2 g3 g4 g5' g6' v2 ex5 ex6 v7 zp zq zo zr bel b1 b2 b3 b4 et1 et2 ey1 ey2 ek1 ek2 eml
    have pc0 := Lib.hid trivial
    go_wp2_with (first
      | (clear pc0; go_at_call 46; refine Calls.mono (next_any (q := t1) (r := Y1) E5.out (by decide) NY.out ET1.out EY1.out) ?_; rintro e wa ⟨PT, cT, rfl, zt, ex, hg⟩; have bx := E5.out.bx; replace V2 := Lib.hid (V2.out.gro hg (by have := GS.out; omega)); replace E6 := Lib.hid (E6.out.gr hg (by have := GS.out; omega) bx); replace V7 := Lib.hid (V7.out.gro hg (by have := GS.out; omega)); replace ZP := Lib.hid (ZP.out.grB bx hg); replace ZQ := Lib.hid (ZQ.out.grB bx hg); replace ZO := Lib.hid (ZO.out.grB bx hg); replace ZR' := Lib.hid (ZR'.out.grB bx hg); replace B1 := Lib.hid (Below.gr B1.out (by have := GS.out; omega) hg B1.out.size); replace E5 := Lib.hid ex; have ZT := Lib.hid zt; clear zt; clear bx hg ex; have pc1 := Lib.hid trivial)
      | (clear pc1; go_at_call 46; refine Calls.mono (next_any (q := t2) (r := Y2) E6.out (by decide) NY'.out ET2.out EY2.out) ?_; rintro e wb ⟨PS2, cS, rfl, zt, ex, hg⟩; have bx := E6.out.bx; replace V2 := Lib.hid (V2.out.gro hg (by have := GS.out; omega)); replace E5 := Lib.hid (E5.out.gr hg (by have := GS.out; omega) bx); replace V7 := Lib.hid (V7.out.gro hg (by have := GS.out; omega)); replace ZP := Lib.hid (ZP.out.grB bx hg); replace ZQ := Lib.hid (ZQ.out.grB bx hg); replace ZO := Lib.hid (ZO.out.grB bx hg); replace ZR' := Lib.hid (ZR'.out.grB bx hg); replace ZT := Lib.hid (ZT.out.grB bx hg); replace B1 := Lib.hid (Below.gr B1.out (by have := GS.out; omega) hg B1.out.size); replace E6 := Lib.hid ex; have ZS := Lib.hid zt; clear zt; clear bx hg ex; have pc2 := Lib.hid trivial))
    clear pc2
    have LT : Hid (g5 < wb.heap.size ∧ g6 < wb.heap.size ∧ g7 < wb.heap.size) := ⟨E5.out.lt, E6.out.lt, V7.out.lt⟩
    have hb : Below wb.heap.size wb ((wb.alloc (.cells #[.bool (decide (t1 < 0)), .slice PT (ofv t1.natAbs).length cT] 24)).alloc (.cells #[.bool (decide (t2 < 0)), .slice PS2 (ofv t2.natAbs).length cS] 24)) := (((Below.refl _ _).alloc (by first | exact Nat.le_refl _ | (simp; done) | (simp; omega)) _).alloc (by first | exact Nat.le_refl _ | (simp; done) | (simp; omega)) _)
    replace V2 := Lib.hid (V2.out.below hb V2.out.lt)
    replace E5 := Lib.hid (E5.out.below hb)
    replace E6 := Lib.hid (E6.out.below hb)
    replace V7 := Lib.hid (V7.out.below hb V7.out.lt)
    replace ZP := Lib.hid (ZP.out.below hb)
    replace ZQ := Lib.hid (ZQ.out.below hb)
    replace ZO := Lib.hid (ZO.out.below hb)
    replace ZR' := Lib.hid (ZR'.out.below hb)
    replace ZT := Lib.hid (ZT.out.below hb)
    replace ZS := Lib.hid (ZS.out.below hb)
    replace B1 := Lib.hid (B1.out.trans (hb.mono B1.out.size))
    have V8 : Hid (Zb ((wb.alloc (.cells #[.bool (decide (t1 < 0)), .slice PT (ofv t1.natAbs).length cT] 24)).alloc (.cells #[.bool (decide (t2 < 0)), .slice PS2 (ofv t2.natAbs).length cS] 24)) (wb.heap.size) (decide (t1 < 0)) PT (ofv t1.natAbs).length cT) := by have h := ((Zb.new wb (decide (t1 < 0)) PT (ofv t1.natAbs).length cT).alloc (.cells #[.bool (decide (t2 < 0)), .slice PS2 (ofv t2.natAbs).length cS] 24)); (try simp only [World.size_alloc] at h); exact h
    have V9 : Hid (Zb ((wb.alloc (.cells #[.bool (decide (t1 < 0)), .slice PT (ofv t1.natAbs).length cT] 24)).alloc (.cells #[.bool (decide (t2 < 0)), .slice PS2 (ofv t2.natAbs).length cS] 24)) (wb.heap.size + 1) (decide (t2 < 0)) PS2 (ofv t2.natAbs).length cS) := by have h := (Zb.new (wb.alloc (.cells #[.bool (decide (t1 < 0)), .slice PT (ofv t1.natAbs).length cT] 24)) (decide (t2 < 0)) PS2 (ofv t2.natAbs).length cS); (try simp only [World.size_alloc] at h); exact h
    clear hb
    generalize ((wb.alloc (.cells #[.bool (decide (t1 < 0)), .slice PT (ofv t1.natAbs).length cT] 24)).alloc (.cells #[.bool (decide (t2 < 0)), .slice PS2 (ofv t2.natAbs).length cS] 24)) = wc at *
    generalize wb.heap.size = g8 at *
    have LW : Hid (g8 + 1 < wc.heap.size) := V9.out.lt
    have HB : Hid (Below wc.heap.size wc wc.drew) := below_drewN _ wc 1
    refine wp_region_held_drew (S := fun w' => Below wc.heap.size wc w') (by kernel_rfl) (HB.out) (fun hHeld => ?_)
    refine wpAnyH_takeL (i := 0) (oi := _) rfl (by kernel_rfl) (by kernel_rfl) (by kernel_rfl) (fun _ _ _ h => h) (yields_ldZ (by rfl) _ rfl (by rfl) (fun _ hb => V8.out.below hb V8.out.lt)) hHeld ?_
    try simp only [Act.put, List.setIfInBounds_toArray, List.set_cons_zero, List.set_cons_succ]
    refine wpAnyH_takeL (i := 2) (oi := _) rfl (by kernel_rfl) (by kernel_rfl) (by kernel_rfl) (fun _ _ _ h => h) (yields_ldZ (by rfl) _ rfl (by rfl) (fun _ hb => V9.out.below hb V9.out.lt)) hHeld ?_
    try simp only [Act.put, List.setIfInBounds_toArray, List.set_cons_zero, List.set_cons_succ]
    refine wpAnyH_rgt [(1, some 19), (3, some 21), (4, some 22), (5, some 10)] [] (isNewZ wc.heap.size) [(1, isO k1), (3, isO k2), (4, isO ml)] wc (f0 := 1) (by kernel_rfl) (by kernel_rfl) (by rfl) HB.out (fun _ h => h) (fun _ _ _ _ _ h => h) (isNewZ_good _) ⟨isO_good _, isO_good _, isO_good _, trivial⟩ ?_ ?_ ?_
    · clear hHeld HB
      show RgOps _ _ _ _ _ _ _ _ _ [1, 3, 4, 5]
      refine RgOps.consL (o := _) (ds := []) rfl rfl (by kernel_rfl) (fun vals wr hbr hC hdep K hK => ?_) ?_
      · have BB := Lib.hid hbr
        clear hdep
        clear hbr hC
        simp only [Upd2, Act.put, List.setIfInBounds_toArray, List.set_cons_zero, List.set_cons_succ] at hK ⊢
        go_simp
        go_at_call 108
        refine Calls.mono (ceiling_any (v := k1) (E5.out.below BB.out) (ZT.out.below BB.out) (Nat.le_trans LT1.out (by decide)) EK1.out) ?_
        rintro e wq ⟨R7, cR, rfl, hz, hb⟩
        exact hK.out _ _ (LeavesB.behind hb ⟨_, _, rfl, hz⟩ rfl)
      refine RgOps.consL (o := _) (ds := [1]) rfl rfl (by kernel_rfl) (fun vals wr hbr hC hdep K hK => ?_) ?_
      · have BB := Lib.hid hbr
        obtain ⟨⟨P1, c1, e1, o1⟩, -⟩ := hdep
        clear hbr hC
        simp only [e1, Upd2, Act.put, List.setIfInBounds_toArray, List.set_cons_zero, List.set_cons_succ] at hK ⊢
        clear e1
        go_simp
        go_at_call 108
        refine Calls.mono (ceiling_any (v := k2) (E6.out.below BB.out) (ZS.out.below BB.out) (Nat.le_trans LT2.out (by decide)) EK2.out) ?_
        rintro e wq ⟨R7, cR, rfl, hz, hb⟩
        exact hK.out _ _ (LeavesB.behind hb ⟨_, _, rfl, hz⟩ rfl)
      refine RgOps.consL (o := _) (ds := [1, 3]) rfl rfl (by kernel_rfl) (fun vals wr hbr hC hdep K hK => ?_) ?_
      · have BB := Lib.hid hbr
        obtain ⟨⟨P1, c1, e1, o1⟩, ⟨P3, c3, e3, o3⟩, -⟩ := hdep
        clear hbr hC
        simp only [e1, e3, Upd2, Act.put, List.setIfInBounds_toArray, List.set_cons_zero, List.set_cons_succ] at hK ⊢
        clear e1 e3
        go_simp
        go_at_call 107
        refine Calls.mono (lesser_any (v := ml) o1 o3 EML.out) ?_
        rintro e wq ⟨R7, cR, rfl, hz, hb⟩
        exact hK.out _ _ (LeavesB.behind hb ⟨_, _, rfl, hz⟩ rfl)
      refine RgOps.consL (o := _) (ds := []) rfl rfl (by kernel_rfl) (fun vals wr hbr hC hdep K hK => ?_) RgOps.nil
      · have BB := Lib.hid hbr
        clear hdep
        clear hbr hC
        simp only [Upd2, Act.put, List.setIfInBounds_toArray, List.set_cons_zero, List.set_cons_succ] at hK ⊢
        go_simp
        exact hK.out _ _ (LeavesB.newZ BB.out.size)
    · clear hHeld HB
      show TaAll _ _ _ _ _ []
      exact TaAll.nil
    clear hHeld HB
    intro vals wr hb hdep hD
    obtain ⟨⟨P1, c1, e1, o1⟩, ⟨P3, c3, e3, o3⟩, ⟨P4, c4, e4, o4⟩, ⟨gM, e5, lM, zM⟩, -⟩ := hdep
    simp only [Upd2, e1, e3, e4, e5, Act.put, List.setIfInBounds_toArray, List.set_cons_zero, List.set_cons_succ]
    clear e1 e3 e4 e5
    clear hD vals
    replace V2 := Lib.hid (V2.out.below hb V2.out.lt)
    replace E5 := Lib.hid (E5.out.below hb)
    replace E6 := Lib.hid (E6.out.below hb)
    replace V7 := Lib.hid (V7.out.below hb V7.out.lt)
    replace ZP := Lib.hid (ZP.out.below hb)
    replace ZQ := Lib.hid (ZQ.out.below hb)
    replace ZO := Lib.hid (ZO.out.below hb)
    replace ZR' := Lib.hid (ZR'.out.below hb)
    replace ZT := Lib.hid (ZT.out.below hb)
    replace ZS := Lib.hid (ZS.out.below hb)
    replace V8 := Lib.hid (V8.out.below hb V8.out.lt)
    replace V9 := Lib.hid (V9.out.below hb V9.out.lt)
    replace B1 := Lib.hid (B1.out.trans (hb.mono B1.out.size))
    have HB := Lib.hid hb
    clear hb
    have ZM := Lib.hid o4; have G10 := Lib.hid zM; have KM := Lib.hid lM; have LGM : Hid (g8 + 1 < gM) := Nat.lt_of_lt_of_le LW.out lM
    clear o1 o3 o4 zM lM
    refine wpAnyH_ready (rs := [6]) (by kernel_rfl) (by simp) ?_
    refine AllReadyH.consL (o := _) rfl (fun K hK => ?_) AllReadyH.nil
    rw [if_pos (by rfl)]
    refine wp_stZ _ _ rfl (by rfl) (by rfl) G10.out ?_
    intro ws0 hz hg
    replace HB := Lib.hid (Below.gr HB.out (by have := KM.out; omega) hg HB.out.size)
    have bx := G10.out.bx
    replace V2 := Lib.hid (V2.out.gro hg (by have := GS.out; have := LT.out; have := LGM.out; omega))
    replace E5 := Lib.hid (E5.out.gr hg (by have := GS.out; have := LT.out; have := LGM.out; omega) bx)
    replace E6 := Lib.hid (E6.out.gr hg (by have := GS.out; have := LT.out; have := LGM.out; omega) bx)
    replace V7 := Lib.hid (V7.out.gro hg (by have := GS.out; have := LT.out; have := LGM.out; omega))
    replace ZP := Lib.hid (ZP.out.grB bx hg)
    replace ZQ := Lib.hid (ZQ.out.grB bx hg)
    replace ZO := Lib.hid (ZO.out.grB bx hg)
    replace ZR' := Lib.hid (ZR'.out.grB bx hg)
    replace ZT := Lib.hid (ZT.out.grB bx hg)
    replace ZS := Lib.hid (ZS.out.grB bx hg)
    replace V8 := Lib.hid (V8.out.gro hg (by have := GS.out; have := LT.out; have := LGM.out; omega))
    replace V9 := Lib.hid (V9.out.gro hg (by have := GS.out; have := LT.out; have := LGM.out; omega))
    replace ZM := Lib.hid (ZM.out.grB bx hg)
    replace B1 := Lib.hid (Below.gr B1.out (by have := GS.out; have := LT.out; have := LGM.out; omega) hg B1.out.size)
    clear bx
    replace G10 := Lib.hid hz
    refine hK.out _ _ ⟨HB.out, HB.out⟩ (fun _ => ?_)
    clear hK K hg hz
    try simp only [Act.put]
    refine wpAnyH_done (by kernel_rfl) ?_ _
    clear HB
    rcases sg_cases (ml - t1) with ⟨hk, hxy⟩ | ⟨hk, hxy⟩ | ⟨hk, hxy⟩
    · have HK := Lib.hid hk
      have HXY := Lib.hid hxy
      clear hk hxy
      obtain ⟨u, eu⟩ : ∃ z0 : Int, ml * p + o = z0 := ⟨_, rfl⟩
      obtain ⟨v, ev⟩ : ∃ z0 : Int, ml * q + r = z0 := ⟨_, rfl⟩
      have EU := Lib.hid eu
      have EV := Lib.hid ev
      clear eu ev
      have pc0 := Lib.hid trivial
      go_wp2_with (first
        | (clear pc0; refine wpList_ldZ (by rfl) _ rfl (by rfl) G10.out ?_; have pc1 := Lib.hid trivial)
        | (clear pc1; refine wpList_ldZ (by rfl) _ rfl (by rfl) V8.out ?_; have pc2 := Lib.hid trivial)
        | (clear pc2; go_at_call 105; refine Calls.mono (compare_k (r := (-1)) ZM.out.in_ ZT.out.in_ HK.out) ?_; rintro e wp ⟨rfl, hb⟩; replace V2 := Lib.hid (V2.out.below hb V2.out.lt); replace E5 := Lib.hid (E5.out.below hb); replace E6 := Lib.hid (E6.out.below hb); replace V7 := Lib.hid (V7.out.below hb V7.out.lt); replace ZP := Lib.hid (ZP.out.below hb); replace ZQ := Lib.hid (ZQ.out.below hb); replace ZO := Lib.hid (ZO.out.below hb); replace ZR' := Lib.hid (ZR'.out.below hb); replace ZT := Lib.hid (ZT.out.below hb); replace ZS := Lib.hid (ZS.out.below hb); replace V8 := Lib.hid (V8.out.below hb V8.out.lt); replace V9 := Lib.hid (V9.out.below hb V9.out.lt); replace ZM := Lib.hid (ZM.out.below hb); replace G10 := Lib.hid (G10.out.below hb G10.out.lt); replace B1 := Lib.hid (B1.out.trans (hb.mono B1.out.size)); clear hb; have pc3 := Lib.hid trivial)
        | (clear pc3; refine wpList_ldV (by rfl) _ rfl (by rfl) V7.out ?_; have pc4 := Lib.hid trivial)
        | (clear pc4; refine wpList_ldZ (by rfl) _ rfl (by rfl) G10.out ?_; have pc5 := Lib.hid trivial)
        | (clear pc5; go_at_call 109; refine Calls.mono (extended_any (p := p) (q := q) (o := o) (r := r) (t := ml) (u := u) (v := v) ZP.out ZQ.out ZO.out ZR'.out ZM.out (Nat.le_trans LML.out (by decide)) (Nat.le_trans LP.out (by decide)) (Nat.le_trans LQ.out (by decide)) (Nat.le_trans LO.out (by decide)) (Nat.le_trans LR.out (by decide)) EU.out EV.out) ?_; rintro e wh ⟨P8, c8, P9, c9, P10, c10, P11, c11, rfl, z8, z9, z10, z11, hb⟩; replace V2 := Lib.hid (V2.out.below hb V2.out.lt); replace E5 := Lib.hid (E5.out.below hb); replace E6 := Lib.hid (E6.out.below hb); replace V7 := Lib.hid (V7.out.below hb V7.out.lt); replace ZP := Lib.hid (ZP.out.below hb); replace ZQ := Lib.hid (ZQ.out.below hb); replace ZO := Lib.hid (ZO.out.below hb); replace ZR' := Lib.hid (ZR'.out.below hb); replace ZT := Lib.hid (ZT.out.below hb); replace ZS := Lib.hid (ZS.out.below hb); replace V8 := Lib.hid (V8.out.below hb V8.out.lt); replace V9 := Lib.hid (V9.out.below hb V9.out.lt); replace ZM := Lib.hid (ZM.out.below hb); replace G10 := Lib.hid (G10.out.below hb G10.out.lt); replace B1 := Lib.hid (B1.out.trans (hb.mono B1.out.size)); have Z8 := Lib.hid z8; have Z9 := Lib.hid z9; clear z8 z9 z10 z11; clear hb; have pc6 := Lib.hid trivial)
        | (clear pc6; go_at_call 110; refine Calls.mono (value_any _ _ _ _ _ _ _ _ _ _ _ _ _) ?_; rintro e wi ⟨rfl, hb⟩; replace V2 := Lib.hid (V2.out.below hb V2.out.lt); replace E5 := Lib.hid (E5.out.below hb); replace E6 := Lib.hid (E6.out.below hb); replace V7 := Lib.hid (V7.out.below hb V7.out.lt); replace ZP := Lib.hid (ZP.out.below hb); replace ZQ := Lib.hid (ZQ.out.below hb); replace ZO := Lib.hid (ZO.out.below hb); replace ZR' := Lib.hid (ZR'.out.below hb); replace ZT := Lib.hid (ZT.out.below hb); replace ZS := Lib.hid (ZS.out.below hb); replace V8 := Lib.hid (V8.out.below hb V8.out.lt); replace V9 := Lib.hid (V9.out.below hb V9.out.lt); replace ZM := Lib.hid (ZM.out.below hb); replace G10 := Lib.hid (G10.out.below hb G10.out.lt); replace Z8 := Lib.hid (Z8.out.below hb); replace Z9 := Lib.hid (Z9.out.below hb); replace B1 := Lib.hid (B1.out.trans (hb.mono B1.out.size)); clear hb; have pc7 := Lib.hid trivial)
        | (clear pc7; refine wpList_stR (by rfl) _ _ rfl (by rfl) (by rfl) V2.out ?_; intro wj hz hg; have bx := V2.out.bx; replace E5 := Lib.hid (E5.out.gr hg (by have := GS.out; have := LT.out; have := LGM.out; omega) bx); replace E6 := Lib.hid (E6.out.gr hg (by have := GS.out; have := LT.out; have := LGM.out; omega) bx); replace V7 := Lib.hid (V7.out.gro hg (by have := GS.out; have := LT.out; have := LGM.out; omega)); replace ZP := Lib.hid (ZP.out.grB bx hg); replace ZQ := Lib.hid (ZQ.out.grB bx hg); replace ZO := Lib.hid (ZO.out.grB bx hg); replace ZR' := Lib.hid (ZR'.out.grB bx hg); replace ZT := Lib.hid (ZT.out.grB bx hg); replace ZS := Lib.hid (ZS.out.grB bx hg); replace V8 := Lib.hid (V8.out.gro hg (by have := GS.out; have := LT.out; have := LGM.out; omega)); replace V9 := Lib.hid (V9.out.gro hg (by have := GS.out; have := LT.out; have := LGM.out; omega)); replace ZM := Lib.hid (ZM.out.grB bx hg); replace G10 := Lib.hid (G10.out.gro hg (by have := GS.out; have := LT.out; have := LGM.out; omega)); replace Z8 := Lib.hid (Z8.out.grB bx hg); replace Z9 := Lib.hid (Z9.out.grB bx hg); replace B1 := Lib.hid (Below.gr B1.out (by have := GS.out; have := LT.out; have := LGM.out; omega) hg B1.out.size); clear bx; replace V2 := Lib.hid hz; clear hz hg; have pc8 := Lib.hid trivial))
      clear pc8
      have ok := INV.out.ok PS.out.1.2 PS.out.2.2 EMM.out (Or.inl (by rw [ET1.out]; have := HXY.out; omega)) EU.out EV.out
      have k1' : ((v.natAbs : Nat) : Int) = v := by have := ok.v0; omega
      have lu : (ofv u.natAbs).length ≤ 100000000 := by
        have h1 := zlen_mul LML.out LP.out
        have h2 := zlen_add (x := ml * p) (y := o) (n := 2097155) h1 (Nat.le_trans LO.out (by decide))
        rw [EU.out] at h2
        exact Nat.le_trans h2 (by decide)
      have lv : (ofv v.natAbs).length ≤ 100000000 := by
        have h1 := zlen_mul LML.out LQ.out
        have h2 := zlen_add (x := ml * q) (y := r) (n := 2097155) h1 (Nat.le_trans LR.out (by decide))
        rw [EV.out] at h2
        exact Nat.le_trans h2 (by decide)
      exact ret_rb Tryz.results64 rfl rfl V2.out ⟨u, v.natAbs, by rw [k1']; exact ok, ⟨lu, lv⟩, _, _, _, _, rfl, Z8.out, Z9.out, B1.out⟩
    · have HK := Lib.hid hk
      have HXY := Lib.hid hxy
      clear hk hxy
      obtain ⟨u, eu⟩ : ∃ z0 : Int, ml * p + o = z0 := ⟨_, rfl⟩
      obtain ⟨v, ev⟩ : ∃ z0 : Int, ml * q + r = z0 := ⟨_, rfl⟩
      have EU := Lib.hid eu
      have EV := Lib.hid ev
      clear eu ev
      have pc0 := Lib.hid trivial
      go_wp2_with (first
        | (clear pc0; refine wpList_ldZ (by rfl) _ rfl (by rfl) G10.out ?_; have pc1 := Lib.hid trivial)
        | (clear pc1; refine wpList_ldZ (by rfl) _ rfl (by rfl) V8.out ?_; have pc2 := Lib.hid trivial)
        | (clear pc2; go_at_call 105; refine Calls.mono (compare_k (r := 0) ZM.out.in_ ZT.out.in_ HK.out) ?_; rintro e wp ⟨rfl, hb⟩; replace V2 := Lib.hid (V2.out.below hb V2.out.lt); replace E5 := Lib.hid (E5.out.below hb); replace E6 := Lib.hid (E6.out.below hb); replace V7 := Lib.hid (V7.out.below hb V7.out.lt); replace ZP := Lib.hid (ZP.out.below hb); replace ZQ := Lib.hid (ZQ.out.below hb); replace ZO := Lib.hid (ZO.out.below hb); replace ZR' := Lib.hid (ZR'.out.below hb); replace ZT := Lib.hid (ZT.out.below hb); replace ZS := Lib.hid (ZS.out.below hb); replace V8 := Lib.hid (V8.out.below hb V8.out.lt); replace V9 := Lib.hid (V9.out.below hb V9.out.lt); replace ZM := Lib.hid (ZM.out.below hb); replace G10 := Lib.hid (G10.out.below hb G10.out.lt); replace B1 := Lib.hid (B1.out.trans (hb.mono B1.out.size)); clear hb; have pc3 := Lib.hid trivial)
        | (clear pc3; refine wpList_ldV (by rfl) _ rfl (by rfl) V7.out ?_; have pc4 := Lib.hid trivial)
        | (clear pc4; refine wpList_ldZ (by rfl) _ rfl (by rfl) G10.out ?_; have pc5 := Lib.hid trivial)
        | (clear pc5; go_at_call 109; refine Calls.mono (extended_any (p := p) (q := q) (o := o) (r := r) (t := ml) (u := u) (v := v) ZP.out ZQ.out ZO.out ZR'.out ZM.out (Nat.le_trans LML.out (by decide)) (Nat.le_trans LP.out (by decide)) (Nat.le_trans LQ.out (by decide)) (Nat.le_trans LO.out (by decide)) (Nat.le_trans LR.out (by decide)) EU.out EV.out) ?_; rintro e wh ⟨P8, c8, P9, c9, P10, c10, P11, c11, rfl, z8, z9, z10, z11, hb⟩; replace V2 := Lib.hid (V2.out.below hb V2.out.lt); replace E5 := Lib.hid (E5.out.below hb); replace E6 := Lib.hid (E6.out.below hb); replace V7 := Lib.hid (V7.out.below hb V7.out.lt); replace ZP := Lib.hid (ZP.out.below hb); replace ZQ := Lib.hid (ZQ.out.below hb); replace ZO := Lib.hid (ZO.out.below hb); replace ZR' := Lib.hid (ZR'.out.below hb); replace ZT := Lib.hid (ZT.out.below hb); replace ZS := Lib.hid (ZS.out.below hb); replace V8 := Lib.hid (V8.out.below hb V8.out.lt); replace V9 := Lib.hid (V9.out.below hb V9.out.lt); replace ZM := Lib.hid (ZM.out.below hb); replace G10 := Lib.hid (G10.out.below hb G10.out.lt); replace B1 := Lib.hid (B1.out.trans (hb.mono B1.out.size)); have Z8 := Lib.hid z8; have Z9 := Lib.hid z9; clear z8 z9 z10 z11; clear hb; have pc6 := Lib.hid trivial)
        | (clear pc6; go_at_call 110; refine Calls.mono (value_any _ _ _ _ _ _ _ _ _ _ _ _ _) ?_; rintro e wi ⟨rfl, hb⟩; replace V2 := Lib.hid (V2.out.below hb V2.out.lt); replace E5 := Lib.hid (E5.out.below hb); replace E6 := Lib.hid (E6.out.below hb); replace V7 := Lib.hid (V7.out.below hb V7.out.lt); replace ZP := Lib.hid (ZP.out.below hb); replace ZQ := Lib.hid (ZQ.out.below hb); replace ZO := Lib.hid (ZO.out.below hb); replace ZR' := Lib.hid (ZR'.out.below hb); replace ZT := Lib.hid (ZT.out.below hb); replace ZS := Lib.hid (ZS.out.below hb); replace V8 := Lib.hid (V8.out.below hb V8.out.lt); replace V9 := Lib.hid (V9.out.below hb V9.out.lt); replace ZM := Lib.hid (ZM.out.below hb); replace G10 := Lib.hid (G10.out.below hb G10.out.lt); replace Z8 := Lib.hid (Z8.out.below hb); replace Z9 := Lib.hid (Z9.out.below hb); replace B1 := Lib.hid (B1.out.trans (hb.mono B1.out.size)); clear hb; have pc7 := Lib.hid trivial)
        | (clear pc7; refine wpList_stR (by rfl) _ _ rfl (by rfl) (by rfl) V2.out ?_; intro wj hz hg; have bx := V2.out.bx; replace E5 := Lib.hid (E5.out.gr hg (by have := GS.out; have := LT.out; have := LGM.out; omega) bx); replace E6 := Lib.hid (E6.out.gr hg (by have := GS.out; have := LT.out; have := LGM.out; omega) bx); replace V7 := Lib.hid (V7.out.gro hg (by have := GS.out; have := LT.out; have := LGM.out; omega)); replace ZP := Lib.hid (ZP.out.grB bx hg); replace ZQ := Lib.hid (ZQ.out.grB bx hg); replace ZO := Lib.hid (ZO.out.grB bx hg); replace ZR' := Lib.hid (ZR'.out.grB bx hg); replace ZT := Lib.hid (ZT.out.grB bx hg); replace ZS := Lib.hid (ZS.out.grB bx hg); replace V8 := Lib.hid (V8.out.gro hg (by have := GS.out; have := LT.out; have := LGM.out; omega)); replace V9 := Lib.hid (V9.out.gro hg (by have := GS.out; have := LT.out; have := LGM.out; omega)); replace ZM := Lib.hid (ZM.out.grB bx hg); replace G10 := Lib.hid (G10.out.gro hg (by have := GS.out; have := LT.out; have := LGM.out; omega)); replace Z8 := Lib.hid (Z8.out.grB bx hg); replace Z9 := Lib.hid (Z9.out.grB bx hg); replace B1 := Lib.hid (Below.gr B1.out (by have := GS.out; have := LT.out; have := LGM.out; omega) hg B1.out.size); clear bx; replace V2 := Lib.hid hz; clear hz hg; have pc8 := Lib.hid trivial))
      clear pc8
      have ok := INV.out.ok PS.out.1.2 PS.out.2.2 EMM.out (Or.inl (by rw [ET1.out]; have := HXY.out; omega)) EU.out EV.out
      have k1' : ((v.natAbs : Nat) : Int) = v := by have := ok.v0; omega
      have lu : (ofv u.natAbs).length ≤ 100000000 := by
        have h1 := zlen_mul LML.out LP.out
        have h2 := zlen_add (x := ml * p) (y := o) (n := 2097155) h1 (Nat.le_trans LO.out (by decide))
        rw [EU.out] at h2
        exact Nat.le_trans h2 (by decide)
      have lv : (ofv v.natAbs).length ≤ 100000000 := by
        have h1 := zlen_mul LML.out LQ.out
        have h2 := zlen_add (x := ml * q) (y := r) (n := 2097155) h1 (Nat.le_trans LR.out (by decide))
        rw [EV.out] at h2
        exact Nat.le_trans h2 (by decide)
      exact ret_rb Tryz.results64 rfl rfl V2.out ⟨u, v.natAbs, by rw [k1']; exact ok, ⟨lu, lv⟩, _, _, _, _, rfl, Z8.out, Z9.out, B1.out⟩
    · have HK := Lib.hid hk
      have HXY := Lib.hid hxy
      clear hk hxy
      rcases sg_cases (ml - t2) with ⟨hk, hxy2⟩ | ⟨hk, hxy2⟩ | ⟨hk, hxy2⟩
      · have HK2 := Lib.hid hk
        have HXY2 := Lib.hid hxy2
        clear hk hxy2
        obtain ⟨u, eu⟩ : ∃ z0 : Int, ml * p + o = z0 := ⟨_, rfl⟩
        obtain ⟨v, ev⟩ : ∃ z0 : Int, ml * q + r = z0 := ⟨_, rfl⟩
        have EU := Lib.hid eu
        have EV := Lib.hid ev
        clear eu ev
        have pc0 := Lib.hid trivial
        go_wp2_with (first
          | (clear pc0; refine wpList_ldZ (by rfl) _ rfl (by rfl) G10.out ?_; have pc1 := Lib.hid trivial)
          | (clear pc1; refine wpList_ldZ (by rfl) _ rfl (by rfl) V8.out ?_; have pc2 := Lib.hid trivial)
          | (clear pc2; go_at_call 105; refine Calls.mono (compare_k (r := 1) ZM.out.in_ ZT.out.in_ HK.out) ?_; rintro e wp ⟨rfl, hb⟩; replace V2 := Lib.hid (V2.out.below hb V2.out.lt); replace E5 := Lib.hid (E5.out.below hb); replace E6 := Lib.hid (E6.out.below hb); replace V7 := Lib.hid (V7.out.below hb V7.out.lt); replace ZP := Lib.hid (ZP.out.below hb); replace ZQ := Lib.hid (ZQ.out.below hb); replace ZO := Lib.hid (ZO.out.below hb); replace ZR' := Lib.hid (ZR'.out.below hb); replace ZT := Lib.hid (ZT.out.below hb); replace ZS := Lib.hid (ZS.out.below hb); replace V8 := Lib.hid (V8.out.below hb V8.out.lt); replace V9 := Lib.hid (V9.out.below hb V9.out.lt); replace ZM := Lib.hid (ZM.out.below hb); replace G10 := Lib.hid (G10.out.below hb G10.out.lt); replace B1 := Lib.hid (B1.out.trans (hb.mono B1.out.size)); clear hb; have pc3 := Lib.hid trivial)
          | (clear pc3; refine wpList_ldZ (by rfl) _ rfl (by rfl) G10.out ?_; have pc4 := Lib.hid trivial)
          | (clear pc4; refine wpList_ldZ (by rfl) _ rfl (by rfl) V9.out ?_; have pc5 := Lib.hid trivial)
          | (clear pc5; go_at_call 105; refine Calls.mono (compare_k (r := (-1)) ZM.out.in_ ZS.out.in_ HK2.out) ?_; rintro e wq ⟨rfl, hb⟩; replace V2 := Lib.hid (V2.out.below hb V2.out.lt); replace E5 := Lib.hid (E5.out.below hb); replace E6 := Lib.hid (E6.out.below hb); replace V7 := Lib.hid (V7.out.below hb V7.out.lt); replace ZP := Lib.hid (ZP.out.below hb); replace ZQ := Lib.hid (ZQ.out.below hb); replace ZO := Lib.hid (ZO.out.below hb); replace ZR' := Lib.hid (ZR'.out.below hb); replace ZT := Lib.hid (ZT.out.below hb); replace ZS := Lib.hid (ZS.out.below hb); replace V8 := Lib.hid (V8.out.below hb V8.out.lt); replace V9 := Lib.hid (V9.out.below hb V9.out.lt); replace ZM := Lib.hid (ZM.out.below hb); replace G10 := Lib.hid (G10.out.below hb G10.out.lt); replace B1 := Lib.hid (B1.out.trans (hb.mono B1.out.size)); clear hb; have pc6 := Lib.hid trivial)
          | (clear pc6; refine wpList_ldV (by rfl) _ rfl (by rfl) V7.out ?_; have pc7 := Lib.hid trivial)
          | (clear pc7; refine wpList_ldZ (by rfl) _ rfl (by rfl) G10.out ?_; have pc8 := Lib.hid trivial)
          | (clear pc8; go_at_call 109; refine Calls.mono (extended_any (p := p) (q := q) (o := o) (r := r) (t := ml) (u := u) (v := v) ZP.out ZQ.out ZO.out ZR'.out ZM.out (Nat.le_trans LML.out (by decide)) (Nat.le_trans LP.out (by decide)) (Nat.le_trans LQ.out (by decide)) (Nat.le_trans LO.out (by decide)) (Nat.le_trans LR.out (by decide)) EU.out EV.out) ?_; rintro e wh ⟨P8, c8, P9, c9, P10, c10, P11, c11, rfl, z8, z9, z10, z11, hb⟩; replace V2 := Lib.hid (V2.out.below hb V2.out.lt); replace E5 := Lib.hid (E5.out.below hb); replace E6 := Lib.hid (E6.out.below hb); replace V7 := Lib.hid (V7.out.below hb V7.out.lt); replace ZP := Lib.hid (ZP.out.below hb); replace ZQ := Lib.hid (ZQ.out.below hb); replace ZO := Lib.hid (ZO.out.below hb); replace ZR' := Lib.hid (ZR'.out.below hb); replace ZT := Lib.hid (ZT.out.below hb); replace ZS := Lib.hid (ZS.out.below hb); replace V8 := Lib.hid (V8.out.below hb V8.out.lt); replace V9 := Lib.hid (V9.out.below hb V9.out.lt); replace ZM := Lib.hid (ZM.out.below hb); replace G10 := Lib.hid (G10.out.below hb G10.out.lt); replace B1 := Lib.hid (B1.out.trans (hb.mono B1.out.size)); have Z8 := Lib.hid z8; have Z9 := Lib.hid z9; clear z8 z9 z10 z11; clear hb; have pc9 := Lib.hid trivial)
          | (clear pc9; go_at_call 110; refine Calls.mono (value_any _ _ _ _ _ _ _ _ _ _ _ _ _) ?_; rintro e wi ⟨rfl, hb⟩; replace V2 := Lib.hid (V2.out.below hb V2.out.lt); replace E5 := Lib.hid (E5.out.below hb); replace E6 := Lib.hid (E6.out.below hb); replace V7 := Lib.hid (V7.out.below hb V7.out.lt); replace ZP := Lib.hid (ZP.out.below hb); replace ZQ := Lib.hid (ZQ.out.below hb); replace ZO := Lib.hid (ZO.out.below hb); replace ZR' := Lib.hid (ZR'.out.below hb); replace ZT := Lib.hid (ZT.out.below hb); replace ZS := Lib.hid (ZS.out.below hb); replace V8 := Lib.hid (V8.out.below hb V8.out.lt); replace V9 := Lib.hid (V9.out.below hb V9.out.lt); replace ZM := Lib.hid (ZM.out.below hb); replace G10 := Lib.hid (G10.out.below hb G10.out.lt); replace Z8 := Lib.hid (Z8.out.below hb); replace Z9 := Lib.hid (Z9.out.below hb); replace B1 := Lib.hid (B1.out.trans (hb.mono B1.out.size)); clear hb; have pc10 := Lib.hid trivial)
          | (clear pc10; refine wpList_stR (by rfl) _ _ rfl (by rfl) (by rfl) V2.out ?_; intro wj hz hg; have bx := V2.out.bx; replace E5 := Lib.hid (E5.out.gr hg (by have := GS.out; have := LT.out; have := LGM.out; omega) bx); replace E6 := Lib.hid (E6.out.gr hg (by have := GS.out; have := LT.out; have := LGM.out; omega) bx); replace V7 := Lib.hid (V7.out.gro hg (by have := GS.out; have := LT.out; have := LGM.out; omega)); replace ZP := Lib.hid (ZP.out.grB bx hg); replace ZQ := Lib.hid (ZQ.out.grB bx hg); replace ZO := Lib.hid (ZO.out.grB bx hg); replace ZR' := Lib.hid (ZR'.out.grB bx hg); replace ZT := Lib.hid (ZT.out.grB bx hg); replace ZS := Lib.hid (ZS.out.grB bx hg); replace V8 := Lib.hid (V8.out.gro hg (by have := GS.out; have := LT.out; have := LGM.out; omega)); replace V9 := Lib.hid (V9.out.gro hg (by have := GS.out; have := LT.out; have := LGM.out; omega)); replace ZM := Lib.hid (ZM.out.grB bx hg); replace G10 := Lib.hid (G10.out.gro hg (by have := GS.out; have := LT.out; have := LGM.out; omega)); replace Z8 := Lib.hid (Z8.out.grB bx hg); replace Z9 := Lib.hid (Z9.out.grB bx hg); replace B1 := Lib.hid (Below.gr B1.out (by have := GS.out; have := LT.out; have := LGM.out; omega) hg B1.out.size); clear bx; replace V2 := Lib.hid hz; clear hz hg; have pc11 := Lib.hid trivial))
        clear pc11
        have ok := INV.out.ok PS.out.1.2 PS.out.2.2 EMM.out (Or.inr (by rw [ET2.out]; have := HXY2.out; omega)) EU.out EV.out
        have k1' : ((v.natAbs : Nat) : Int) = v := by have := ok.v0; omega
        have lu : (ofv u.natAbs).length ≤ 100000000 := by
          have h1 := zlen_mul LML.out LP.out
          have h2 := zlen_add (x := ml * p) (y := o) (n := 2097155) h1 (Nat.le_trans LO.out (by decide))
          rw [EU.out] at h2
          exact Nat.le_trans h2 (by decide)
        have lv : (ofv v.natAbs).length ≤ 100000000 := by
          have h1 := zlen_mul LML.out LQ.out
          have h2 := zlen_add (x := ml * q) (y := r) (n := 2097155) h1 (Nat.le_trans LR.out (by decide))
          rw [EV.out] at h2
          exact Nat.le_trans h2 (by decide)
        exact ret_rb Tryz.results64 rfl rfl V2.out ⟨u, v.natAbs, by rw [k1']; exact ok, ⟨lu, lv⟩, _, _, _, _, rfl, Z8.out, Z9.out, B1.out⟩
      · have HK2 := Lib.hid hk
        have HXY2 := Lib.hid hxy2
        clear hk hxy2
        obtain ⟨u, eu⟩ : ∃ z0 : Int, ml * p + o = z0 := ⟨_, rfl⟩
        obtain ⟨v, ev⟩ : ∃ z0 : Int, ml * q + r = z0 := ⟨_, rfl⟩
        have EU := Lib.hid eu
        have EV := Lib.hid ev
        clear eu ev
        have pc0 := Lib.hid trivial
        go_wp2_with (first
          | (clear pc0; refine wpList_ldZ (by rfl) _ rfl (by rfl) G10.out ?_; have pc1 := Lib.hid trivial)
          | (clear pc1; refine wpList_ldZ (by rfl) _ rfl (by rfl) V8.out ?_; have pc2 := Lib.hid trivial)
          | (clear pc2; go_at_call 105; refine Calls.mono (compare_k (r := 1) ZM.out.in_ ZT.out.in_ HK.out) ?_; rintro e wp ⟨rfl, hb⟩; replace V2 := Lib.hid (V2.out.below hb V2.out.lt); replace E5 := Lib.hid (E5.out.below hb); replace E6 := Lib.hid (E6.out.below hb); replace V7 := Lib.hid (V7.out.below hb V7.out.lt); replace ZP := Lib.hid (ZP.out.below hb); replace ZQ := Lib.hid (ZQ.out.below hb); replace ZO := Lib.hid (ZO.out.below hb); replace ZR' := Lib.hid (ZR'.out.below hb); replace ZT := Lib.hid (ZT.out.below hb); replace ZS := Lib.hid (ZS.out.below hb); replace V8 := Lib.hid (V8.out.below hb V8.out.lt); replace V9 := Lib.hid (V9.out.below hb V9.out.lt); replace ZM := Lib.hid (ZM.out.below hb); replace G10 := Lib.hid (G10.out.below hb G10.out.lt); replace B1 := Lib.hid (B1.out.trans (hb.mono B1.out.size)); clear hb; have pc3 := Lib.hid trivial)
          | (clear pc3; refine wpList_ldZ (by rfl) _ rfl (by rfl) G10.out ?_; have pc4 := Lib.hid trivial)
          | (clear pc4; refine wpList_ldZ (by rfl) _ rfl (by rfl) V9.out ?_; have pc5 := Lib.hid trivial)
          | (clear pc5; go_at_call 105; refine Calls.mono (compare_k (r := 0) ZM.out.in_ ZS.out.in_ HK2.out) ?_; rintro e wq ⟨rfl, hb⟩; replace V2 := Lib.hid (V2.out.below hb V2.out.lt); replace E5 := Lib.hid (E5.out.below hb); replace E6 := Lib.hid (E6.out.below hb); replace V7 := Lib.hid (V7.out.below hb V7.out.lt); replace ZP := Lib.hid (ZP.out.below hb); replace ZQ := Lib.hid (ZQ.out.below hb); replace ZO := Lib.hid (ZO.out.below hb); replace ZR' := Lib.hid (ZR'.out.below hb); replace ZT := Lib.hid (ZT.out.below hb); replace ZS := Lib.hid (ZS.out.below hb); replace V8 := Lib.hid (V8.out.below hb V8.out.lt); replace V9 := Lib.hid (V9.out.below hb V9.out.lt); replace ZM := Lib.hid (ZM.out.below hb); replace G10 := Lib.hid (G10.out.below hb G10.out.lt); replace B1 := Lib.hid (B1.out.trans (hb.mono B1.out.size)); clear hb; have pc6 := Lib.hid trivial)
          | (clear pc6; refine wpList_ldV (by rfl) _ rfl (by rfl) V7.out ?_; have pc7 := Lib.hid trivial)
          | (clear pc7; refine wpList_ldZ (by rfl) _ rfl (by rfl) G10.out ?_; have pc8 := Lib.hid trivial)
          | (clear pc8; go_at_call 109; refine Calls.mono (extended_any (p := p) (q := q) (o := o) (r := r) (t := ml) (u := u) (v := v) ZP.out ZQ.out ZO.out ZR'.out ZM.out (Nat.le_trans LML.out (by decide)) (Nat.le_trans LP.out (by decide)) (Nat.le_trans LQ.out (by decide)) (Nat.le_trans LO.out (by decide)) (Nat.le_trans LR.out (by decide)) EU.out EV.out) ?_; rintro e wh ⟨P8, c8, P9, c9, P10, c10, P11, c11, rfl, z8, z9, z10, z11, hb⟩; replace V2 := Lib.hid (V2.out.below hb V2.out.lt); replace E5 := Lib.hid (E5.out.below hb); replace E6 := Lib.hid (E6.out.below hb); replace V7 := Lib.hid (V7.out.below hb V7.out.lt); replace ZP := Lib.hid (ZP.out.below hb); replace ZQ := Lib.hid (ZQ.out.below hb); replace ZO := Lib.hid (ZO.out.below hb); replace ZR' := Lib.hid (ZR'.out.below hb); replace ZT := Lib.hid (ZT.out.below hb); replace ZS := Lib.hid (ZS.out.below hb); replace V8 := Lib.hid (V8.out.below hb V8.out.lt); replace V9 := Lib.hid (V9.out.below hb V9.out.lt); replace ZM := Lib.hid (ZM.out.below hb); replace G10 := Lib.hid (G10.out.below hb G10.out.lt); replace B1 := Lib.hid (B1.out.trans (hb.mono B1.out.size)); have Z8 := Lib.hid z8; have Z9 := Lib.hid z9; clear z8 z9 z10 z11; clear hb; have pc9 := Lib.hid trivial)
          | (clear pc9; go_at_call 110; refine Calls.mono (value_any _ _ _ _ _ _ _ _ _ _ _ _ _) ?_; rintro e wi ⟨rfl, hb⟩; replace V2 := Lib.hid (V2.out.below hb V2.out.lt); replace E5 := Lib.hid (E5.out.below hb); replace E6 := Lib.hid (E6.out.below hb); replace V7 := Lib.hid (V7.out.below hb V7.out.lt); replace ZP := Lib.hid (ZP.out.below hb); replace ZQ := Lib.hid (ZQ.out.below hb); replace ZO := Lib.hid (ZO.out.below hb); replace ZR' := Lib.hid (ZR'.out.below hb); replace ZT := Lib.hid (ZT.out.below hb); replace ZS := Lib.hid (ZS.out.below hb); replace V8 := Lib.hid (V8.out.below hb V8.out.lt); replace V9 := Lib.hid (V9.out.below hb V9.out.lt); replace ZM := Lib.hid (ZM.out.below hb); replace G10 := Lib.hid (G10.out.below hb G10.out.lt); replace Z8 := Lib.hid (Z8.out.below hb); replace Z9 := Lib.hid (Z9.out.below hb); replace B1 := Lib.hid (B1.out.trans (hb.mono B1.out.size)); clear hb; have pc10 := Lib.hid trivial)
          | (clear pc10; refine wpList_stR (by rfl) _ _ rfl (by rfl) (by rfl) V2.out ?_; intro wj hz hg; have bx := V2.out.bx; replace E5 := Lib.hid (E5.out.gr hg (by have := GS.out; have := LT.out; have := LGM.out; omega) bx); replace E6 := Lib.hid (E6.out.gr hg (by have := GS.out; have := LT.out; have := LGM.out; omega) bx); replace V7 := Lib.hid (V7.out.gro hg (by have := GS.out; have := LT.out; have := LGM.out; omega)); replace ZP := Lib.hid (ZP.out.grB bx hg); replace ZQ := Lib.hid (ZQ.out.grB bx hg); replace ZO := Lib.hid (ZO.out.grB bx hg); replace ZR' := Lib.hid (ZR'.out.grB bx hg); replace ZT := Lib.hid (ZT.out.grB bx hg); replace ZS := Lib.hid (ZS.out.grB bx hg); replace V8 := Lib.hid (V8.out.gro hg (by have := GS.out; have := LT.out; have := LGM.out; omega)); replace V9 := Lib.hid (V9.out.gro hg (by have := GS.out; have := LT.out; have := LGM.out; omega)); replace ZM := Lib.hid (ZM.out.grB bx hg); replace G10 := Lib.hid (G10.out.gro hg (by have := GS.out; have := LT.out; have := LGM.out; omega)); replace Z8 := Lib.hid (Z8.out.grB bx hg); replace Z9 := Lib.hid (Z9.out.grB bx hg); replace B1 := Lib.hid (Below.gr B1.out (by have := GS.out; have := LT.out; have := LGM.out; omega) hg B1.out.size); clear bx; replace V2 := Lib.hid hz; clear hz hg; have pc11 := Lib.hid trivial))
        clear pc11
        have ok := INV.out.ok PS.out.1.2 PS.out.2.2 EMM.out (Or.inr (by rw [ET2.out]; have := HXY2.out; omega)) EU.out EV.out
        have k1' : ((v.natAbs : Nat) : Int) = v := by have := ok.v0; omega
        have lu : (ofv u.natAbs).length ≤ 100000000 := by
          have h1 := zlen_mul LML.out LP.out
          have h2 := zlen_add (x := ml * p) (y := o) (n := 2097155) h1 (Nat.le_trans LO.out (by decide))
          rw [EU.out] at h2
          exact Nat.le_trans h2 (by decide)
        have lv : (ofv v.natAbs).length ≤ 100000000 := by
          have h1 := zlen_mul LML.out LQ.out
          have h2 := zlen_add (x := ml * q) (y := r) (n := 2097155) h1 (Nat.le_trans LR.out (by decide))
          rw [EV.out] at h2
          exact Nat.le_trans h2 (by decide)
        exact ret_rb Tryz.results64 rfl rfl V2.out ⟨u, v.natAbs, by rw [k1']; exact ok, ⟨lu, lv⟩, _, _, _, _, rfl, Z8.out, Z9.out, B1.out⟩
      · have HK2 := Lib.hid hk
        have HXY2 := Lib.hid hxy2
        clear hk hxy2
        obtain ⟨u, eu⟩ : ∃ z0 : Int, t1 * p + o = z0 := ⟨_, rfl⟩
        obtain ⟨v, ev⟩ : ∃ z0 : Int, t1 * q + r = z0 := ⟨_, rfl⟩
        have EU := Lib.hid eu
        have EV := Lib.hid ev
        clear eu ev
        have pc0 := Lib.hid trivial
        go_wp2_with (first
          | (clear pc0; refine wpList_ldZ (by rfl) _ rfl (by rfl) G10.out ?_; have pc1 := Lib.hid trivial)
          | (clear pc1; refine wpList_ldZ (by rfl) _ rfl (by rfl) V8.out ?_; have pc2 := Lib.hid trivial)
          | (clear pc2; go_at_call 105; refine Calls.mono (compare_k (r := 1) ZM.out.in_ ZT.out.in_ HK.out) ?_; rintro e wp ⟨rfl, hb⟩; replace V2 := Lib.hid (V2.out.below hb V2.out.lt); replace E5 := Lib.hid (E5.out.below hb); replace E6 := Lib.hid (E6.out.below hb); replace V7 := Lib.hid (V7.out.below hb V7.out.lt); replace ZP := Lib.hid (ZP.out.below hb); replace ZQ := Lib.hid (ZQ.out.below hb); replace ZO := Lib.hid (ZO.out.below hb); replace ZR' := Lib.hid (ZR'.out.below hb); replace ZT := Lib.hid (ZT.out.below hb); replace ZS := Lib.hid (ZS.out.below hb); replace V8 := Lib.hid (V8.out.below hb V8.out.lt); replace V9 := Lib.hid (V9.out.below hb V9.out.lt); replace ZM := Lib.hid (ZM.out.below hb); replace G10 := Lib.hid (G10.out.below hb G10.out.lt); replace B1 := Lib.hid (B1.out.trans (hb.mono B1.out.size)); clear hb; have pc3 := Lib.hid trivial)
          | (clear pc3; refine wpList_ldZ (by rfl) _ rfl (by rfl) G10.out ?_; have pc4 := Lib.hid trivial)
          | (clear pc4; refine wpList_ldZ (by rfl) _ rfl (by rfl) V9.out ?_; have pc5 := Lib.hid trivial)
          | (clear pc5; go_at_call 105; refine Calls.mono (compare_k (r := 1) ZM.out.in_ ZS.out.in_ HK2.out) ?_; rintro e wq ⟨rfl, hb⟩; replace V2 := Lib.hid (V2.out.below hb V2.out.lt); replace E5 := Lib.hid (E5.out.below hb); replace E6 := Lib.hid (E6.out.below hb); replace V7 := Lib.hid (V7.out.below hb V7.out.lt); replace ZP := Lib.hid (ZP.out.below hb); replace ZQ := Lib.hid (ZQ.out.below hb); replace ZO := Lib.hid (ZO.out.below hb); replace ZR' := Lib.hid (ZR'.out.below hb); replace ZT := Lib.hid (ZT.out.below hb); replace ZS := Lib.hid (ZS.out.below hb); replace V8 := Lib.hid (V8.out.below hb V8.out.lt); replace V9 := Lib.hid (V9.out.below hb V9.out.lt); replace ZM := Lib.hid (ZM.out.below hb); replace G10 := Lib.hid (G10.out.below hb G10.out.lt); replace B1 := Lib.hid (B1.out.trans (hb.mono B1.out.size)); clear hb; have pc6 := Lib.hid trivial)
          | (clear pc6; refine wpList_ldV (by rfl) _ rfl (by rfl) V7.out ?_; have pc7 := Lib.hid trivial)
          | (clear pc7; refine wpList_ldZ (by rfl) _ rfl (by rfl) V8.out ?_; have pc8 := Lib.hid trivial)
          | (clear pc8; go_at_call 109; refine Calls.mono (extended_any (p := p) (q := q) (o := o) (r := r) (t := t1) (u := u) (v := v) ZP.out ZQ.out ZO.out ZR'.out ZT.out (Nat.le_trans LT1.out (by decide)) (Nat.le_trans LP.out (by decide)) (Nat.le_trans LQ.out (by decide)) (Nat.le_trans LO.out (by decide)) (Nat.le_trans LR.out (by decide)) EU.out EV.out) ?_; rintro e wh ⟨P8, c8, P9, c9, P10, c10, P11, c11, rfl, z8, z9, z10, z11, hb⟩; replace V2 := Lib.hid (V2.out.below hb V2.out.lt); replace E5 := Lib.hid (E5.out.below hb); replace E6 := Lib.hid (E6.out.below hb); replace V7 := Lib.hid (V7.out.below hb V7.out.lt); replace ZP := Lib.hid (ZP.out.below hb); replace ZQ := Lib.hid (ZQ.out.below hb); replace ZO := Lib.hid (ZO.out.below hb); replace ZR' := Lib.hid (ZR'.out.below hb); replace ZT := Lib.hid (ZT.out.below hb); replace ZS := Lib.hid (ZS.out.below hb); replace V8 := Lib.hid (V8.out.below hb V8.out.lt); replace V9 := Lib.hid (V9.out.below hb V9.out.lt); replace ZM := Lib.hid (ZM.out.below hb); replace G10 := Lib.hid (G10.out.below hb G10.out.lt); replace B1 := Lib.hid (B1.out.trans (hb.mono B1.out.size)); have Z8 := Lib.hid z8; have Z9 := Lib.hid z9; have Z10 := Lib.hid z10; have Z11 := Lib.hid z11; clear z8 z9 z10 z11; clear hb; have pc9 := Lib.hid trivial)
          | (clear pc9; refine wpList_stV (by rfl) _ _ rfl (by rfl) (by rfl) V7.out ?_; intro wj hz hg; have bx := V7.out.bx; replace V2 := Lib.hid (V2.out.gro hg (by have := GS.out; have := LT.out; have := LGM.out; omega)); replace E5 := Lib.hid (E5.out.gr hg (by have := GS.out; have := LT.out; have := LGM.out; omega) bx); replace E6 := Lib.hid (E6.out.gr hg (by have := GS.out; have := LT.out; have := LGM.out; omega) bx); replace ZP := Lib.hid (ZP.out.grB bx hg); replace ZQ := Lib.hid (ZQ.out.grB bx hg); replace ZO := Lib.hid (ZO.out.grB bx hg); replace ZR' := Lib.hid (ZR'.out.grB bx hg); replace ZT := Lib.hid (ZT.out.grB bx hg); replace ZS := Lib.hid (ZS.out.grB bx hg); replace V8 := Lib.hid (V8.out.gro hg (by have := GS.out; have := LT.out; have := LGM.out; omega)); replace V9 := Lib.hid (V9.out.gro hg (by have := GS.out; have := LT.out; have := LGM.out; omega)); replace ZM := Lib.hid (ZM.out.grB bx hg); replace G10 := Lib.hid (G10.out.gro hg (by have := GS.out; have := LT.out; have := LGM.out; omega)); replace Z8 := Lib.hid (Z8.out.grB bx hg); replace Z9 := Lib.hid (Z9.out.grB bx hg); replace Z10 := Lib.hid (Z10.out.grB bx hg); replace Z11 := Lib.hid (Z11.out.grB bx hg); replace B1 := Lib.hid (Below.gr B1.out (by have := GS.out; have := LT.out; have := LGM.out; omega) hg B1.out.size); clear bx; replace V7 := Lib.hid hz; clear hz hg; have pc10 := Lib.hid trivial))
        clear pc10
        obtain ⟨n1, n2⟩ := INV.out.step ET1.out EMM.out (by have := HXY.out; omega) (by rw [ET2.out]; have := HXY2.out; omega) EU.out EV.out
        rw [EY1.out] at n1 n2
        rw [EY2.out] at n1
        try simp only [Act.put]
        go_roundw
        case rel => exact ⟨Y, Y1, Y', Y2, u, v, p, q, Lib.hid ⟨n1, GS.out, V2.out, E5.out, E6.out, ⟨_, _, _, _, _, _, _, _, V7.out, Z8.out, Z9.out, Z10.out, Z11.out⟩, B1.out⟩⟩
        case measure => rw [MS.out, rdy_ex E5.out]; exact n2
end Go.Proofs.YtfmgbfdnmconiaaGreat
