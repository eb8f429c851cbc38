/-
  Contracts: Ceil of package rational; Floor, Ceil and Whole of its reference.
-/
import Derived.Test.YtfmgbfdnmconiaaGreatRS
namespace Go.Proofs.YtfmgbfdnmconiaaGreat
open Go.RowKit
set_option linter.unusedVariables false

theorem Zin.turn {w : World} {s : Bool} {A : Option Addr} {n c : Nat} {x : Int} (h : Zin w s A n c x) : Zin w (!s) A n c (-x) := by
  obtain ⟨xs, h1, h2, h3⟩ := h
  refine ⟨xs, h1, h2, ?_⟩
  rw [← h3]; cases s <;> simp [zv]
theorem floor_def' (r : Rat) : r.floor = r.num / (r.den : Int) := by
  have := floor_mk (z := r.num) (den_pos r)
  rwa [mk_self] at this
theorem floor_len {r : Rat} {n : Nat} (h : RL r n) : (ofv r.floor.natAbs).length ≤ n := by
  rw [floor_def']
  exact Nat.le_trans (len_mono (Int.natAbs_ediv_le_natAbs _ _)) h.1
theorem neg_mk (x : Int) (p : Nat) : mkRat (-x) p = -mkRat x p := (Rat.neg_mkRat x p).symm
set_option maxRecDepth 100000 in
set_option maxHeartbeats 16000000 in
theorem qceil_any {s : Bool} {A D : Option Addr} {n c m k L : Nat} {x : Int} {p : Nat} {w : World} (h : Zin w s A n c x) (h' : Nin w D m k p) (hn : n ≤ L) (hm : m ≤ L) (hL : 1 ≤ L ∧ L ≤ 70368744177660) {v : Int} (hv : -(-mkRat x p).floor = v) :
    Calls Tryz.prog 40 #[.agg #[.bool s, .slice A n c, .slice D m k]] w (GivesZ w v) := by
  obtain ⟨B1, V0, V1⟩ := start_RZ w s A n c D m k
  have HX := Lib.hid ((h.below B1.out).turn)
  have HP := Lib.hid (h'.below B1.out)
  have LN := Lib.hid hn
  have LM := Lib.hid hm
  have LL := Lib.hid hL
  obtain ⟨f, ef⟩ : ∃ z0 : Int, (-mkRat x p).floor = z0 := ⟨_, rfl⟩
  have EF : Hid ((mkRat (-x) p).floor = f) := by show _ = _; rw [neg_mk]; exact ef
  have LF : Hid ((ofv f.natAbs).length ≤ 70368744177664) := by
    show _ ≤ _
    rw [← ef]
    exact Nat.le_trans (floor_len (rl_neg (rl_mk (Nat.le_trans h.len hn) (Nat.le_trans h'.len hm) hL.1))) (by omega)
  rw [ef] at hv
  have HV := Lib.hid hv
  clear h h' hn hm hL ef hv
  go_enter Tryz.func40, Tryz.ntmps40
  go_wp2_with fail
  generalize ((w.alloc (.cells #[.bool s, .slice A n c, .slice D m k] 26)).alloc (.cells #[.bool false, .slice none 0 0] 24)) = w2 at *
  have pc0 := Lib.hid trivial
  go_wp2_with (first
    | (clear pc0; go_at_call 78; refine Calls.mono (opposite_any _ _ _ _ _ _ _ _) ?_; rintro e w3 ⟨rfl, hb⟩; replace V0 := Lib.hid (V0.out.below hb V0.out.lt); replace V1 := Lib.hid (V1.out.below hb V1.out.lt); replace HX := Lib.hid (HX.out.below hb); replace HP := Lib.hid (HP.out.below hb); replace B1 := Lib.hid (B1.out.trans (hb.mono B1.out.size)); clear hb; have pc1 := Lib.hid trivial)
    | (clear pc1; go_at_call 39; refine Calls.mono (qfloor_any (v := f) HX.out HP.out LN.out LM.out LL.out EF.out) ?_; rintro e w4 ⟨P1, c1, rfl, ho, hb⟩; replace V0 := Lib.hid (V0.out.below hb V0.out.lt); replace V1 := Lib.hid (V1.out.below hb V1.out.lt); replace HX := Lib.hid (HX.out.below hb); replace HP := Lib.hid (HP.out.below hb); replace B1 := Lib.hid (B1.out.trans (hb.mono B1.out.size)); have ZF := Lib.hid (Zo.of_own ho); clear ho; clear hb; have pc2 := Lib.hid trivial)
    | (clear pc2; have SZ := Lib.hid B1.out.size; go_at_call 86; refine Calls.mono (neg_z (x := f) (z := v) ZF.out.in_ LF.out HV.out) ?_; rintro e w5 ⟨P2, c2, rfl, ho, hb⟩; replace V0 := Lib.hid (V0.out.below hb V0.out.lt); replace V1 := Lib.hid (V1.out.below hb V1.out.lt); replace HX := Lib.hid (HX.out.below hb); replace HP := Lib.hid (HP.out.below hb); replace ZF := Lib.hid (ZF.out.below hb); replace B1 := Lib.hid (B1.out.trans (hb.mono B1.out.size)); have OV := Lib.hid (ho.mono SZ.out); clear ho SZ; clear hb; have pc3 := Lib.hid trivial)
    | (clear pc3; refine wpList_stZ (by rfl) _ _ rfl (by rfl) (by rfl) V1.out ?_; intro w6 hz hg; replace V0 := Lib.hid (V0.out.gro hg (by omega)); replace HX := Lib.hid (HX.out.gr V1.out hg); replace HP := Lib.hid (HP.out.gr V1.out hg); replace ZF := Lib.hid (ZF.out.gr V1.out hg); replace OV := Lib.hid (OV.out.gr V1.out hg); replace B1 := Lib.hid (Below.gr B1.out (by omega) hg B1.out.size); replace V1 := Lib.hid hz; clear hz hg; have pc4 := Lib.hid trivial))
  clear pc4
  exact ret_zb Tryz.results40 rfl rfl V1.out ⟨_, _, rfl, OV.out, B1.out⟩
set_option maxRecDepth 100000 in
set_option maxHeartbeats 16000000 in
theorem r3floor_any {s : Bool} {A D : Option Addr} {n c m k : Nat} {x : Int} {p : Nat} {w : World} (h : Zin w s A n c x) (h' : Nin w D m k p) (hn : n ≤ 35184372087808) (hm : m ≤ 35184372087808) {v : Int} (hv : (mkRat x p).floor = v) :
    Calls Tryz.prog 70 #[.agg #[.bool s, .slice A n c, .slice D m k]] w (GivesZ w v) := by
  obtain ⟨B1, V0, V1⟩ := start_RZ w s A n c D m k
  have HX := Lib.hid (h.below B1.out)
  have HP := Lib.hid (h'.below B1.out)
  have LN := Lib.hid hn
  have LM := Lib.hid hm
  have rl := rl_mk (N := 35184372087808) (Nat.le_trans h.len hn) (Nat.le_trans h'.len hm) (by decide)
  obtain ⟨z, ez⟩ : ∃ z0 : Int, (mkRat x p).num = z0 := ⟨_, rfl⟩
  obtain ⟨d, ed⟩ : ∃ z0 : Nat, (mkRat x p).den = z0 := ⟨_, rfl⟩
  obtain ⟨dz, edz⟩ : ∃ z0 : Int, ((mkRat x p).den : Int) = z0 := ⟨_, rfl⟩
  obtain ⟨rr, er⟩ : ∃ z0 : Int, z % dz = z0 := ⟨_, rfl⟩
  have LZ : Hid ((ofv z.natAbs).length ≤ 35184372087808) := by show _ ≤ _; rw [← ez]; exact rl.1
  have LD : Hid ((ofv dz.natAbs).length ≤ 35184372087808) := by show _ ≤ _; rw [← edz]; simpa using rl.2
  have ND : Hid (dz ≠ 0) := by show _ ≠ _; have := den_pos (mkRat x p); omega
  have EQ : Hid (z / dz = v) := by show _ = _; rw [← ez, ← edz, ← floor_def']; exact hv
  have HZ := Lib.hid ez
  have HD := Lib.hid ed
  have EDZ := Lib.hid edz
  have ER := Lib.hid er
  have hf0 := field0
  clear rl ez ed edz er hv
  clear h h' hn hm
  go_enter Tryz.func70, Tryz.ntmps70
  go_wp2_with fail
  generalize ((w.alloc (.cells #[.bool s, .slice A n c, .slice D m k] 26)).alloc (.cells #[.bool false, .slice none 0 0] 24)) = w2 at *
  have LT : Hid (w.heap.size + 1 < w2.heap.size) := V1.out.lt
  have HB : Hid (Below w2.heap.size w2 w2.drew) := below_drewN _ w2 1
  refine wp_region_held_drew (S := fun w' => Below w2.heap.size w2 w') (by kernel_rfl) (HB.out) (fun hHeld => ?_)
  refine wpAnyH_takeL (i := 0) (oi := _) rfl (by kernel_rfl) (by kernel_rfl) (by kernel_rfl) (fun _ _ _ h => h) (yields_ldR (by rfl) _ rfl (by rfl) (fun _ hb => V0.out.below hb V0.out.lt)) hHeld ?_
  try simp only [Act.put, List.setIfInBounds_toArray, List.set_cons_zero, List.set_cons_succ]
  refine wpAnyH_takeL (i := 3) (oi := _) rfl (by kernel_rfl) (by kernel_rfl) (by kernel_rfl) (fun _ _ _ h => h) (yields_ldR (by rfl) _ rfl (by rfl) (fun _ hb => V0.out.below hb V0.out.lt)) hHeld ?_
  try simp only [Act.put, List.setIfInBounds_toArray, List.set_cons_zero, List.set_cons_succ]
  refine wpAnyH_rgt [(1, some 8), (2, some 9), (4, some 11), (5, some 12), (6, some 6), (7, some 13), (8, some 14), (9, some 15), (10, some 3), (11, some 4)] [2, 6, 7, 8, 9] (isNewZ w2.heap.size) [(1, isR z d w2.heap.size), (2, isZ z w2.heap.size), (4, isZ dz w2.heap.size), (5, isQ v rr w2.heap.size), (6, isQ v rr w2.heap.size), (7, isZ v w2.heap.size), (8, isZ rr w2.heap.size), (9, isV (.bool true))] w2 (f0 := 3) (by kernel_rfl) (by kernel_rfl) (by rfl) HB.out (fun _ h => h) (fun _ _ _ _ _ h => h) (isNewZ_good _) ⟨isR_good _ _ _, isZ_good _ _, isZ_good _ _, isQ_good _ _ _, isQ_good _ _ _, isZ_good _ _, isZ_good _ _, isV_good _, trivial⟩ ?_ ?_ ?_
  · clear hHeld HB
    show RgOps _ _ _ _ _ _ _ _ _ [1, 4, 5, 10, 11]
    refine RgOps.consL (o := _) (ds := []) rfl rfl (by kernel_rfl) (fun vals wr hbr hC hdep K hK => ?_) ?_
    · have BB := Lib.hid hbr
      clear hdep
      clear hbr hC
      simp only [Upd2, Act.put, List.setIfInBounds_toArray, List.set_cons_zero, List.set_cons_succ] at hK ⊢
      go_simp
      go_at_call 16
      refine Calls.mono (rnorm_any (HX.out.below BB.out) (HP.out.below BB.out) LN.out LM.out HZ.out HD.out) ?_
      rintro e wq ⟨R, cR, R2, cR2, rfl, ho, ho2, hb⟩
      exact hK.out _ _ (LeavesB.giveR BB.out.size ho ho2 hb)
    refine RgOps.consL (o := _) (ds := [1]) rfl rfl (by kernel_rfl) (fun vals wr hbr hC hdep K hK => ?_) ?_
    · have BB := Lib.hid hbr
      obtain ⟨⟨P1, c1, Q1, k1, e1, o1, u1⟩, -⟩ := hdep
      clear hbr hC
      simp only [e1, Upd2, Act.put, List.setIfInBounds_toArray, List.set_cons_zero, List.set_cons_succ] at hK ⊢
      clear e1
      go_simp
      go_at_call 115
      refine Calls.mono (rden_any (HX.out.below BB.out) (HP.out.below BB.out) LN.out LM.out EDZ.out) ?_
      rintro e wq ⟨R, cR, rfl, ho, hb⟩
      exact hK.out _ _ (LeavesB.giveZ BB.out.size ho hb)
    refine RgOps.consL (o := _) (ds := [2, 4]) rfl rfl (by kernel_rfl) (fun vals wr hbr hC hdep K hK => ?_) ?_
    · have BB := Lib.hid hbr
      obtain ⟨⟨P2, c2, e2, o2⟩, ⟨P4, c4, e4, o4⟩, -⟩ := hdep
      clear hbr hC
      simp only [e2, e4, Upd2, Act.put, List.setIfInBounds_toArray, List.set_cons_zero, List.set_cons_succ] at hK ⊢
      clear e2 e4
      go_simp
      go_at_call 103
      refine Calls.mono (rdm_z (x := z) (y := dz) (q := v) (r := rr) (Zo.of_own o2).in_ (Zo.of_own o4).in_ LZ.out LD.out ND.out EQ.out ER.out) ?_
      rintro e wq ⟨R, cR, R2, cR2, rfl, ho, ho2, hb⟩
      exact hK.out _ _ (LeavesB.behind hb ⟨_, _, _, _, rfl, ho.mono BB.out.size, ho2.mono BB.out.size⟩ rfl)
    refine RgOps.consL (o := _) (ds := []) rfl rfl (by kernel_rfl) (fun vals wr hbr hC hdep K hK => ?_) ?_
    · have BB := Lib.hid hbr
      clear hdep
      clear hbr hC
      simp only [Upd2, Act.put, List.setIfInBounds_toArray, List.set_cons_zero, List.set_cons_succ] at hK ⊢
      go_simp
      exact hK.out _ _ (LeavesB.newZ BB.out.size)
    refine RgOps.consL (o := _) (ds := []) rfl rfl (by kernel_rfl) (fun vals wr hbr hC hdep K hK => ?_) RgOps.nil
    · have BB := Lib.hid hbr
      clear hdep
      clear hbr hC
      simp only [Upd2, Act.put, List.setIfInBounds_toArray, List.set_cons_zero, List.set_cons_succ] at hK ⊢
      go_simp
      exact hK.out _ _ (LeavesB.newZ BB.out.size)
  · clear hHeld HB
    show TaAll _ _ _ _ _ [2, 6, 7, 8, 9]
    refine TaAll.cons (o := _) (ds := [1]) rfl rfl (by kernel_rfl) (fun vals wr hdep => ?_) ?_
    · obtain ⟨⟨P1, c1, Q1, k1, e1, o1, u1⟩, -⟩ := hdep
      refine ⟨_, fun S => Or.inl ⟨by rfl, ?_⟩, ⟨_, _, rfl, o1⟩, rfl⟩
      intro w' _
      simp only [e1, Upd2, Act.put, List.setIfInBounds_toArray, List.set_cons_zero, List.set_cons_succ]
      go_simp
    refine TaAll.cons (o := _) (ds := [5]) rfl rfl (by kernel_rfl) (fun vals wr hdep => ?_) ?_
    · obtain ⟨⟨P5, c5, Q5, d5, e5, o5, u5⟩, -⟩ := hdep
      refine ⟨_, fun S => Or.inl ⟨by rfl, ?_⟩, ⟨_, _, _, _, rfl, o5, u5⟩, rfl⟩
      intro w' _
      simp only [e5, Upd2, Act.put, List.setIfInBounds_toArray, List.set_cons_zero, List.set_cons_succ]
      go_simp
    refine TaAll.cons (o := _) (ds := [6]) rfl rfl (by kernel_rfl) (fun vals wr hdep => ?_) ?_
    · obtain ⟨⟨P6, c6, Q6, d6, e6, o6, u6⟩, -⟩ := hdep
      refine ⟨_, fun S => Or.inl ⟨by rfl, ?_⟩, ⟨_, _, rfl, o6⟩, rfl⟩
      intro w' _
      simp only [e6, Upd2, Act.put, List.setIfInBounds_toArray, List.set_cons_zero, List.set_cons_succ]
      go_simp
    refine TaAll.cons (o := _) (ds := [6]) rfl rfl (by kernel_rfl) (fun vals wr hdep => ?_) ?_
    · obtain ⟨⟨P6, c6, Q6, d6, e6, o6, u6⟩, -⟩ := hdep
      refine ⟨_, fun S => Or.inl ⟨by rfl, ?_⟩, ⟨_, _, rfl, u6⟩, rfl⟩
      intro w' _
      simp only [e6, Upd2, Act.put, List.setIfInBounds_toArray, List.set_cons_zero, List.set_cons_succ]
      go_simp
    refine TaAll.cons (o := _) (ds := [6]) rfl rfl (by kernel_rfl) (fun vals wr hdep => ?_) TaAll.nil
    · obtain ⟨⟨P6, c6, Q6, d6, e6, o6, u6⟩, -⟩ := hdep
      refine ⟨_, fun S => Or.inl ⟨by rfl, ?_⟩, ⟨rfl, rfl⟩, rfl⟩
      intro w' _
      simp only [e6, Upd2, Act.put, List.setIfInBounds_toArray, List.set_cons_zero, List.set_cons_succ]
      go_simp
  clear hHeld HB
  intro vals wr hb hdep hD
  have NG0 := Lib.hid (hD 10 (by decide) 11 (by decide) (by decide))
  obtain ⟨⟨P1, c1, Q1, k1, e1, o1, u1⟩, ⟨P2, c2, e2, o2⟩, ⟨P4, c4, e4, o4⟩, ⟨P5, c5, Q5, d5, e5, o5, u5⟩, ⟨P6, c6, Q6, d6, e6, o6, u6⟩, ⟨P7, c7, e7, o7⟩, ⟨P8, c8, e8, o8⟩, ⟨e9, -⟩, ⟨g10, e10, l10, z10⟩, ⟨g11, e11, l11, z11⟩, -⟩ := hdep
  have NG : Hid (g10 ≠ g11) := fun e => NG0.out g10 (by rw [e10]; rfl) (by rw [e11, e]; rfl)
  simp only [Upd2, e1, e2, e4, e5, e6, e7, e8, e9, e10, e11, Act.put, List.setIfInBounds_toArray, List.set_cons_zero, List.set_cons_succ]
  clear NG0 e1 e2 e4 e5 e6 e7 e8 e9 e10 e11
  clear hD vals
  replace V0 := Lib.hid (V0.out.below hb V0.out.lt)
  replace V1 := Lib.hid (V1.out.below hb V1.out.lt)
  replace HX := Lib.hid (HX.out.below hb)
  replace HP := Lib.hid (HP.out.below hb)
  replace B1 := Lib.hid (B1.out.trans (hb.mono B1.out.size))
  have HB := Lib.hid hb
  clear hb
  have OV := Lib.hid (o7.mono (show w.heap.size ≤ w2.heap.size by have := LT.out; omega)); have G1 := Lib.hid z10; have G2 := Lib.hid z11; have LL1 := Lib.hid l10; have LL2 := Lib.hid l11; have LG1 : Hid (w.heap.size + 1 < g10) := Nat.lt_of_lt_of_le LT.out l10; have LG2 : Hid (w.heap.size + 1 < g11) := Nat.lt_of_lt_of_le LT.out l11
  clear o1 u1 o2 o4 o5 u5 o6 u6 o7 o8 z10 z11 l10 l11
  refine wpAnyH_ready (rs := [12]) (by kernel_rfl) (by simp) ?_
  refine AllReadyH.consL (o := _) rfl (fun K hK => ?_) AllReadyH.nil
  rw [if_pos (by rfl)]
  refine wp_stZ _ _ rfl (by rfl) (by rfl) G1.out ?_
  intro ws0 hz hg
  replace HB := Lib.hid (Below.gr HB.out (by have := LL1.out; have := LL2.out; omega) hg HB.out.size)
  replace V0 := Lib.hid (V0.out.gro hg (by have := LG1.out; have := LG2.out; have := NG.out; omega))
  replace V1 := Lib.hid (V1.out.gr hg (by have := LG1.out; have := LG2.out; have := NG.out; omega))
  replace HX := Lib.hid (HX.out.gr G1.out hg)
  replace HP := Lib.hid (HP.out.gr G1.out hg)
  replace OV := Lib.hid (OV.out.gr G1.out hg)
  replace G2 := Lib.hid (G2.out.gr hg (by have := LG1.out; have := LG2.out; have := NG.out; omega))
  replace B1 := Lib.hid (Below.gr B1.out (by have := LG1.out; have := LG2.out; have := NG.out; omega) hg B1.out.size)
  replace G1 := Lib.hid hz
  refine hK.out _ _ ⟨HB.out, HB.out⟩ (fun _ => ?_)
  clear hK K hg hz
  try simp only [Act.put]
  refine wpAnyH_ready (rs := [13]) (by kernel_rfl) (by simp) ?_
  refine AllReadyH.consL (o := _) rfl (fun K hK => ?_) AllReadyH.nil
  rw [if_pos (by rfl)]
  refine wp_stZ _ _ rfl (by rfl) (by rfl) G2.out ?_
  intro ws1 hz hg
  replace HB := Lib.hid (Below.gr HB.out (by have := LL1.out; have := LL2.out; omega) hg HB.out.size)
  replace V0 := Lib.hid (V0.out.gro hg (by have := LG1.out; have := LG2.out; have := NG.out; omega))
  replace V1 := Lib.hid (V1.out.gr hg (by have := LG1.out; have := LG2.out; have := NG.out; omega))
  replace HX := Lib.hid (HX.out.gr G2.out hg)
  replace HP := Lib.hid (HP.out.gr G2.out hg)
  replace OV := Lib.hid (OV.out.gr G2.out hg)
  replace G1 := Lib.hid (G1.out.gr hg (by have := LG1.out; have := LG2.out; have := NG.out; omega))
  replace B1 := Lib.hid (Below.gr B1.out (by have := LG1.out; have := LG2.out; have := NG.out; omega) hg B1.out.size)
  replace G2 := Lib.hid hz
  refine hK.out _ _ ⟨HB.out, HB.out⟩ (fun _ => ?_)
  clear hK K hg hz
  try simp only [Act.put]
  have hHeld : Below w2.heap.size w2 _ ∧ Below w2.heap.size w2 _ := ⟨HB.out, HB.out⟩
  refine wpAnyH_takeL (i := 14) (oi := _) (v := ?_) rfl (by kernel_rfl) (by kernel_rfl) (by kernel_rfl) (fun _ _ _ h => h) (Or.inl ⟨by rfl, ?_⟩) hHeld ?_
  rotate_left
  · (intro w' hSw; (try dsimp only at hSw); go_simp; try (with_reducible rfl))
  try simp only [Act.put, List.setIfInBounds_toArray, List.set_cons_zero, List.set_cons_succ]
  clear hHeld
  refine wpAnyH_done (by kernel_rfl) ?_ _
  clear HB
  have pc0 := Lib.hid trivial
  go_wp2_with (first
    | (clear pc0; refine wpList_ldZ (by rfl) _ rfl (by rfl) G1.out ?_; have pc1 := Lib.hid trivial)
    | (clear pc1; refine wpList_stZ (by rfl) _ _ rfl (by rfl) (by rfl) V1.out ?_; intro w7 hz hg; replace V0 := Lib.hid (V0.out.gro hg (by have := LG1.out; have := LG2.out; have := NG.out; omega)); replace HX := Lib.hid (HX.out.gr V1.out hg); replace HP := Lib.hid (HP.out.gr V1.out hg); replace OV := Lib.hid (OV.out.gr V1.out hg); replace G1 := Lib.hid (G1.out.gr hg (by have := LG1.out; have := LG2.out; have := NG.out; omega)); replace G2 := Lib.hid (G2.out.gr hg (by have := LG1.out; have := LG2.out; have := NG.out; omega)); replace B1 := Lib.hid (Below.gr B1.out (by omega) hg B1.out.size); replace V1 := Lib.hid hz; clear hz hg; have pc2 := Lib.hid trivial))
  clear pc2
  exact ret_zb Tryz.results70 rfl rfl V1.out ⟨_, _, rfl, OV.out, B1.out⟩
set_option maxRecDepth 100000 in
set_option maxHeartbeats 16000000 in
theorem r3ceil_any {s : Bool} {A D : Option Addr} {n c m k : Nat} {x : Int} {p : Nat} {w : World} (h : Zin w s A n c x) (h' : Nin w D m k p) (hn : n ≤ 35184372087808) (hm : m ≤ 35184372087808) {v : Int} (hv : -(-mkRat x p).floor = v) :
    Calls Tryz.prog 67 #[.agg #[.bool s, .slice A n c, .slice D m k]] w (GivesZ w v) := by
  obtain ⟨B1, V0, V1⟩ := start_RZ w s A n c D m k
  have HX := Lib.hid (h.below B1.out)
  have HP := Lib.hid (h'.below B1.out)
  have LN := Lib.hid hn
  have LM := Lib.hid hm
  have rl := rl_neg (rl_mk (N := 35184372087808) (Nat.le_trans h.len hn) (Nat.le_trans h'.len hm) (by decide))
  obtain ⟨z, ez⟩ : ∃ z0 : Int, (-mkRat x p).num = z0 := ⟨_, rfl⟩
  obtain ⟨d, ed⟩ : ∃ z0 : Nat, (-mkRat x p).den = z0 := ⟨_, rfl⟩
  obtain ⟨f, ef⟩ : ∃ z0 : Int, (-mkRat x p).floor = z0 := ⟨_, rfl⟩
  have EF : Hid ((mkRat z d).floor = f) := by show _ = _; rw [← ez, ← ed, mk_self]; exact ef
  have LF : Hid ((ofv f.natAbs).length ≤ 70368744177664) := by show _ ≤ _; rw [← ef]; exact Nat.le_trans (floor_len rl) (by decide)
  have LZ : Hid ((ofv z.natAbs).length ≤ 35184372087808) := by show _ ≤ _; rw [← ez]; exact rl.1
  have LD : Hid ((ofv d).length ≤ 35184372087808) := by show _ ≤ _; rw [← ed]; exact rl.2
  rw [ef] at hv
  have HV := Lib.hid hv
  have HZ := Lib.hid ez
  have HD := Lib.hid ed
  clear rl ez ed ef hv
  clear h h' hn hm
  go_enter Tryz.func67, Tryz.ntmps67
  go_wp2_with fail
  generalize ((w.alloc (.cells #[.bool s, .slice A n c, .slice D m k] 26)).alloc (.cells #[.bool false, .slice none 0 0] 24)) = w2 at *
  have pc0 := Lib.hid trivial
  go_wp2_with (first
    | (clear pc0; go_at_call 113; refine Calls.mono (r3neg_any (z2 := z) (d2 := d) HX.out HP.out LN.out LM.out HZ.out HD.out) ?_; rintro e w3 ⟨P3, c3, P4, c4, rfl, ho, ho2, hb⟩; replace V0 := Lib.hid (V0.out.below hb V0.out.lt); replace V1 := Lib.hid (V1.out.below hb V1.out.lt); replace HX := Lib.hid (HX.out.below hb); replace HP := Lib.hid (HP.out.below hb); replace B1 := Lib.hid (B1.out.trans (hb.mono B1.out.size)); have ZN := Lib.hid (Zo.of_own ho); have ZD := Lib.hid ho2.rd; clear ho ho2; clear hb; have pc1 := Lib.hid trivial)
    | (clear pc1; go_at_call 70; refine Calls.mono (r3floor_any (v := f) ZN.out.in_ (Nin.of_rd ZD.out) LZ.out LD.out EF.out) ?_; rintro e w4 ⟨P1, c1, rfl, ho, hb⟩; replace V0 := Lib.hid (V0.out.below hb V0.out.lt); replace V1 := Lib.hid (V1.out.below hb V1.out.lt); replace HX := Lib.hid (HX.out.below hb); replace HP := Lib.hid (HP.out.below hb); replace ZN := Lib.hid (ZN.out.below hb); replace ZD := Lib.hid (ZD.out.below hb); replace B1 := Lib.hid (B1.out.trans (hb.mono B1.out.size)); have ZF := Lib.hid (Zo.of_own ho); clear ho; clear hb; have pc2 := Lib.hid trivial)
    | (clear pc2; have SZ := Lib.hid B1.out.size; go_at_call 99; refine Calls.mono (rneg_z (x := f) (z := v) ZF.out.in_ LF.out HV.out) ?_; rintro e w5 ⟨P2, c2, rfl, ho, hb⟩; replace V0 := Lib.hid (V0.out.below hb V0.out.lt); replace V1 := Lib.hid (V1.out.below hb V1.out.lt); replace HX := Lib.hid (HX.out.below hb); replace HP := Lib.hid (HP.out.below hb); replace ZN := Lib.hid (ZN.out.below hb); replace ZD := Lib.hid (ZD.out.below hb); replace ZF := Lib.hid (ZF.out.below hb); replace B1 := Lib.hid (B1.out.trans (hb.mono B1.out.size)); have OV := Lib.hid (ho.mono SZ.out); clear ho SZ; clear hb; have pc3 := Lib.hid trivial)
    | (clear pc3; refine wpList_stZ (by rfl) _ _ rfl (by rfl) (by rfl) V1.out ?_; intro w6 hz hg; replace V0 := Lib.hid (V0.out.gro hg (by omega)); replace HX := Lib.hid (HX.out.gr V1.out hg); replace HP := Lib.hid (HP.out.gr V1.out hg); replace ZN := Lib.hid (ZN.out.gr V1.out hg); replace ZD := Lib.hid (ZD.out.gr V1.out hg); replace ZF := Lib.hid (ZF.out.gr V1.out hg); replace OV := Lib.hid (OV.out.gr V1.out hg); replace B1 := Lib.hid (Below.gr B1.out (by omega) hg B1.out.size); replace V1 := Lib.hid hz; clear hz hg; have pc4 := Lib.hid trivial))
  clear pc4
  exact ret_zb Tryz.results67 rfl rfl V1.out ⟨_, _, rfl, OV.out, B1.out⟩
set_option maxRecDepth 100000 in
set_option maxHeartbeats 16000000 in
theorem r3whole_any {s : Bool} {A : Option Addr} {n c : Nat} {x z : Int} {d : Nat} {w : World} (h : Zin w s A n c x) (hn : n ≤ 35184372087808) (hz : (Rat.divInt x 1).num = z) (hd : (Rat.divInt x 1).den = d) :
    Calls Tryz.prog 69 #[.agg #[.bool s, .slice A n c]] w (GivesR w z d) := by
  obtain ⟨B1, V0, V1⟩ := start_ZR w s A n c
  have HX := Lib.hid (h.below B1.out)
  have LN := Lib.hid hn
  obtain ⟨one, e1⟩ : ∃ z0 : Int, 1 = z0 := ⟨_, rfl⟩
  have E1 := Lib.hid e1
  have I1 : Hid (-9223372036854775808 ≤ (1 : Int) ∧ (1 : Int) ≤ 9223372036854775807) := by show _ ∧ _; omega
  have LO : Hid ((ofv one.natAbs).length ≤ 35184372087808) := by show _ ≤ _; rw [← e1]; exact Nat.le_trans (len_small (by decide)) (by decide)
  have HZ : Hid ((Rat.divInt x one).num = z) := by show _ = _; rw [← e1]; exact hz
  have HD : Hid ((Rat.divInt x one).den = d) := by show _ = _; rw [← e1]; exact hd
  clear h hn e1 hz hd
  go_enter Tryz.func69, Tryz.ntmps69
  go_wp2_with fail
  generalize ((w.alloc (.cells #[.bool s, .slice A n c] 24)).alloc (.cells #[.bool false, .slice none 0 0, .slice none 0 0] 26)) = w2 at *
  have HB : Hid (Below w2.heap.size w2 w2.drew) := below_drewN _ w2 1
  refine wp_region_held_drew (S := fun w' => w2.grownBy w' (some (w.heap.size + 1))) (by kernel_rfl) ((grown_below HB.out : World.grownBy _ _ (some (w.heap.size + 1)))) (fun hHeld => ?_)
  refine wpAnyH_takeL (i := 0) (oi := _) rfl (by kernel_rfl) (by kernel_rfl) (by kernel_rfl) (fun _ _ _ h => h) (yields_ldZ (by rfl) _ rfl (by rfl) (fun _ hb => V0.out.gr hb (by omega))) hHeld ?_
  try simp only [Act.put, List.setIfInBounds_toArray, List.set_cons_zero, List.set_cons_succ]
  refine wpAnyH_ready (rs := [1]) (by kernel_rfl) (by simp) ?_
  refine AllReadyH.consL (o := _) rfl (fun K hK => ?_) AllReadyH.nil
  clear hHeld
  go_simp
  go_at_call 13
  refine Calls.mono (rfromInt_z (v := 1) (z := one) I1.out E1.out _) ?_
  rintro e wa ⟨P4, c4, rfl, ho, hb⟩
  replace HB := Lib.hid (HB.out.trans (hb.mono HB.out.size))
  have Z1 := Lib.hid (Zo.of_own ho)
  clear ho
  clear hb
  refine hK.out _ _ (grown_below HB.out : World.grownBy _ _ (some (w.heap.size + 1))) (fun hHeld => ?_)
  clear hK K
  try simp only [Act.put, List.setIfInBounds_toArray, List.set_cons_zero, List.set_cons_succ]
  refine wpAnyH_ready (rs := [2]) (by kernel_rfl) (by simp) ?_
  refine AllReadyH.consL (o := _) rfl (fun K hK => ?_) AllReadyH.nil
  clear hHeld
  have SZ := Lib.hid (Nat.le_trans B1.out.size HB.out.size)
  go_simp
  go_at_call 60
  refine Calls.mono (rmake_any (HX.out.below HB.out) LN.out Z1.out.in_ LO.out HZ.out HD.out) ?_
  rintro e wb ⟨P1, c1, P2, c2, rfl, ho, ho2, hb⟩
  replace HB := Lib.hid (HB.out.trans (hb.mono HB.out.size))
  have OQ := Lib.hid (ho.mono SZ.out)
  have OD := Lib.hid (ho2.mono SZ.out)
  clear ho ho2 SZ
  clear hb
  refine hK.out _ _ (grown_below HB.out : World.grownBy _ _ (some (w.heap.size + 1))) (fun hHeld => ?_)
  clear hK K
  try simp only [Act.put, List.setIfInBounds_toArray, List.set_cons_zero, List.set_cons_succ]
  refine wpAnyH_ready (rs := [3]) (by kernel_rfl) (by simp) ?_
  refine AllReadyH.consL (o := _) rfl (fun K hK => ?_) AllReadyH.nil
  clear hHeld
  have hb := HB.out
  replace V0 := Lib.hid (V0.out.below hb V0.out.lt)
  replace V1 := Lib.hid (V1.out.below hb V1.out.lt)
  replace HX := Lib.hid (HX.out.below hb)
  replace B1 := Lib.hid (B1.out.trans (hb.mono B1.out.size))
  rw [if_pos (by rfl)]
  refine wp_stR _ _ rfl (by rfl) (by rfl) V1.out ?_
  intro wst hz hg
  replace V0 := Lib.hid (V0.out.gr hg (by omega))
  replace HX := Lib.hid (HX.out.grR V1.out hg)
  replace OQ := Lib.hid (OQ.out.grR V1.out hg)
  replace OD := Lib.hid (OD.out.grR V1.out hg)
  replace B1 := Lib.hid (Below.gr B1.out (by omega) hg B1.out.size)
  replace V1 := Lib.hid hz
  refine hK.out _ _ (World.grownBy.trans (grown_below hb) hg) (fun hHeld => ?_)
  clear hK K hg hb HB hz
  try simp only [Act.put]
  skip
  refine wpAnyH_done (by kernel_rfl) ?_ _
  clear hHeld
  go_wp2
  exact ret_rb Tryz.results69 rfl rfl V1.out ⟨_, _, _, _, rfl, OQ.out, OD.out, B1.out⟩
end Go.Proofs.YtfmgbfdnmconiaaGreat
