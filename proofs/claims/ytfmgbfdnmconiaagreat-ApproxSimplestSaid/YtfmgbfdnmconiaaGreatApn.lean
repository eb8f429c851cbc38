/-
  Contract of package approx: next.
-/
import Derived.Test.YtfmgbfdnmconiaaGreatApf
namespace Go.Proofs.YtfmgbfdnmconiaaGreat
open Go.RowKit
set_option linter.unusedVariables false

/-- A store into a new block is no store into an old one. -/
theorem grown_new {w w1 w2 : World} {g : Nat} (h : w.grownBy w1 (some g)) (h2 : w1.grownBy w2 (some w.heap.size)) : w.grownBy w2 (some g) :=
  ⟨h2.os.trans h.os, h2.tape.trans h.tape, h2.output.trans h.output, Nat.le_trans h.size h2.size, fun k hk ne => (h2.block k (Nat.lt_of_lt_of_le hk h.size) (by simp; omega)).trans (h.block k hk ne)⟩
theorem start_Z0 (w : World) : Hid (Below w.heap.size w (w.alloc (.cells #[.bool false, .slice none 0 0] 24))) ∧ Hid (Zb (w.alloc (.cells #[.bool false, .slice none 0 0] 24)) w.heap.size false none 0 0) :=
  ⟨(Below.refl _ _).alloc (Nat.le_refl _) _, Zb.new w false none 0 0⟩
set_option maxRecDepth 100000 in
set_option maxHeartbeats 16000000 in
theorem next_box {g : Nat} {s t : Bool} {A B : Option Addr} {n c m d L : Nat} {X Y q r : Int} {w : World} (he : Eb w g s A n c t B m d) (h1 : Zin w s A n c X) (h2 : Zin w t B m d Y) (ln : n ≤ L) (lm : m ≤ L) (hL : L ≤ 70368744177660) (hY : Y ≠ 0) (hq : X / Y = q) (hr : X % Y = r) :
    Calls Tryz.prog 46 #[.pointer (some ⟨g, 0, none⟩)] w fun e w' => ∃ P cP R k, e = .returned (.agg #[.bool (decide (q < 0)), .slice P (ofv q.natAbs).length cP]) ∧ Own w' 0 P cP (ofv q.natAbs) ∧ Eb w' g t B m d (decide (r < 0)) R (ofv r.natAbs).length k ∧ Zin w' t B m d Y ∧ Own w' 0 R k (ofv r.natAbs) ∧ w.grownBy w' (some g) := by
  obtain ⟨B1, V0⟩ := start_Z0 w
  have GL : Hid (g < w.heap.size) := he.lt
  have E0 := Lib.hid (he.below B1.out GL.out)
  have HX := Lib.hid (h1.below B1.out)
  have HY := Lib.hid (h2.below B1.out)
  have LN := Lib.hid (Nat.le_trans ln hL)
  have LM := Lib.hid (Nat.le_trans lm hL)
  have NY := Lib.hid hY
  have HQ := Lib.hid hq
  have HR := Lib.hid hr
  have BXW := Lib.hid he.bx
  clear he h1 h2 ln lm hY hq hr
  go_enter Tryz.func46, Tryz.ntmps46
  go_wp2_with fail
  generalize (w.alloc (.cells #[.bool false, .slice none 0 0] 24)) = w2 at *
  have LT : Hid (w.heap.size < w2.heap.size) := V0.out.lt
  have HB : Hid (Below w2.heap.size w2 w2.drew) := below_drewN _ w2 1
  refine wp_region_held_drew (S := fun w' => Below w2.heap.size w2 w') (by kernel_rfl) (HB.out) (fun hHeld => ?_)
  refine wpAnyH_takeL (i := 0) (oi := _) (v := ?_) rfl (by kernel_rfl) (by kernel_rfl) (by kernel_rfl) (fun _ _ _ h => h) (Or.inl ⟨by rfl, ?_⟩) hHeld ?_
  rotate_left
  · (intro w' hSw; (try dsimp only at hSw); go_simp; try (with_reducible rfl))
  try simp only [Act.put, List.setIfInBounds_toArray, List.set_cons_zero, List.set_cons_succ]
  refine wpAnyH_takeL (i := 1) (oi := _) (v := ?_) rfl (by kernel_rfl) (by kernel_rfl) (by kernel_rfl) (fun _ _ _ h => h) (Or.inl ⟨by rfl, ?_⟩) hHeld ?_
  rotate_left
  · (intro w' hSw; (try dsimp only at hSw); go_simp; try (with_reducible rfl))
  try simp only [Act.put, List.setIfInBounds_toArray, List.set_cons_zero, List.set_cons_succ]
  refine wpAnyH_takeL (i := 2) (oi := _) (v := ?_) rfl (by kernel_rfl) (by kernel_rfl) (by kernel_rfl) (fun _ _ _ h => h) (Or.inl ⟨by rfl, ?_⟩) hHeld ?_
  rotate_left
  · (intro w' hSw; (try dsimp only at hSw); go_simp; try (with_reducible rfl))
  try simp only [Act.put, List.setIfInBounds_toArray, List.set_cons_zero, List.set_cons_succ]
  refine wpAnyH_takeL (i := 3) (oi := _) rfl (by kernel_rfl) (by kernel_rfl) (by kernel_rfl) (fun _ _ _ h => h) (yields_ldE0 (by rfl) _ rfl (by rfl) (fun _ hb => E0.out.below hb E0.out.lt)) hHeld ?_
  try simp only [Act.put, List.setIfInBounds_toArray, List.set_cons_zero, List.set_cons_succ]
  refine wpAnyH_takeL (i := 4) (oi := _) (v := ?_) rfl (by kernel_rfl) (by kernel_rfl) (by kernel_rfl) (fun _ _ _ h => h) (Or.inl ⟨by rfl, ?_⟩) hHeld ?_
  rotate_left
  · (intro w' hSw; (try dsimp only at hSw); go_simp; try (with_reducible rfl))
  try simp only [Act.put, List.setIfInBounds_toArray, List.set_cons_zero, List.set_cons_succ]
  refine wpAnyH_takeL (i := 5) (oi := _) (v := ?_) rfl (by kernel_rfl) (by kernel_rfl) (by kernel_rfl) (fun _ _ _ h => h) (Or.inl ⟨by rfl, ?_⟩) hHeld ?_
  rotate_left
  · (intro w' hSw; (try dsimp only at hSw); go_simp; try (with_reducible rfl))
  try simp only [Act.put, List.setIfInBounds_toArray, List.set_cons_zero, List.set_cons_succ]
  refine wpAnyH_takeL (i := 6) (oi := _) (v := ?_) rfl (by kernel_rfl) (by kernel_rfl) (by kernel_rfl) (fun _ _ _ h => h) (Or.inl ⟨by rfl, ?_⟩) hHeld ?_
  rotate_left
  · (intro w' hSw; (try dsimp only at hSw); go_simp; try (with_reducible rfl))
  try simp only [Act.put, List.setIfInBounds_toArray, List.set_cons_zero, List.set_cons_succ]
  refine wpAnyH_takeL (i := 7) (oi := _) rfl (by kernel_rfl) (by kernel_rfl) (by kernel_rfl) (fun _ _ _ h => h) (yields_ldE1 (by rfl) _ rfl (by rfl) (fun _ hb => E0.out.below hb E0.out.lt)) hHeld ?_
  try simp only [Act.put, List.setIfInBounds_toArray, List.set_cons_zero, List.set_cons_succ]
  refine wpAnyH_rgt [(8, some 15), (9, some 6), (10, some 16), (11, some 17), (12, some 18), (13, some 3), (14, some 4)] [9, 10, 11, 12] (isNewZ w2.heap.size) [(8, isQ q r w2.heap.size), (9, isQ q r w2.heap.size), (10, isZ q w2.heap.size), (11, isZ r w2.heap.size), (12, isV (.bool true))] w2 (f0 := 3) (by kernel_rfl) (by kernel_rfl) (by rfl) HB.out (fun _ h => h) (fun _ _ _ _ _ h => h) (isNewZ_good _) ⟨isQ_good _ _ _, isQ_good _ _ _, isZ_good _ _, isZ_good _ _, isV_good _, trivial⟩ ?_ ?_ ?_
  · clear hHeld HB
    show RgOps _ _ _ _ _ _ _ _ _ [8, 13, 14]
    refine RgOps.consL (o := _) (ds := []) rfl rfl (by kernel_rfl) (fun vals wr hbr hC hdep K hK => ?_) ?_
    · have BB := Lib.hid hbr
      clear hdep
      clear hbr hC
      simp only [Upd2, Act.put, List.setIfInBounds_toArray, List.set_cons_zero, List.set_cons_succ] at hK ⊢
      go_simp
      go_at_call 93
      refine Calls.mono (dm_z (x := X) (y := Y) (q := q) (r := r) (HX.out.below BB.out) (HY.out.below BB.out) LN.out LM.out NY.out HQ.out HR.out) ?_
      rintro e wq ⟨R, cR, R2, cR2, rfl, ho, ho2, hb⟩
      exact hK.out _ _ (LeavesB.behind hb ⟨_, _, _, _, rfl, ho.mono BB.out.size, ho2.mono BB.out.size⟩ rfl)
    refine RgOps.consL (o := _) (ds := []) rfl rfl (by kernel_rfl) (fun vals wr hbr hC hdep K hK => ?_) ?_
    · have BB := Lib.hid hbr
      clear hdep
      clear hbr hC
      simp only [Upd2, Act.put, List.setIfInBounds_toArray, List.set_cons_zero, List.set_cons_succ] at hK ⊢
      go_simp
      exact hK.out _ _ (LeavesB.newZ BB.out.size)
    refine RgOps.consL (o := _) (ds := []) rfl rfl (by kernel_rfl) (fun vals wr hbr hC hdep K hK => ?_) RgOps.nil
    · have BB := Lib.hid hbr
      clear hdep
      clear hbr hC
      simp only [Upd2, Act.put, List.setIfInBounds_toArray, List.set_cons_zero, List.set_cons_succ] at hK ⊢
      go_simp
      exact hK.out _ _ (LeavesB.newZ BB.out.size)
  · clear hHeld HB
    show TaAll _ _ _ _ _ [9, 10, 11, 12]
    refine TaAll.cons (o := _) (ds := [8]) rfl rfl (by kernel_rfl) (fun vals wr hdep => ?_) ?_
    · obtain ⟨⟨P8, c8, Q8, k8, e8, o8, u8⟩, -⟩ := hdep
      refine ⟨_, fun S => Or.inl ⟨by rfl, ?_⟩, ⟨_, _, _, _, rfl, o8, u8⟩, rfl⟩
      intro w' _
      simp only [e8, Upd2, Act.put, List.setIfInBounds_toArray, List.set_cons_zero, List.set_cons_succ]
      go_simp
    refine TaAll.cons (o := _) (ds := [9]) rfl rfl (by kernel_rfl) (fun vals wr hdep => ?_) ?_
    · obtain ⟨⟨P9, c9, Q9, k9, e9, o9, u9⟩, -⟩ := hdep
      refine ⟨_, fun S => Or.inl ⟨by rfl, ?_⟩, ⟨_, _, rfl, o9⟩, rfl⟩
      intro w' _
      simp only [e9, Upd2, Act.put, List.setIfInBounds_toArray, List.set_cons_zero, List.set_cons_succ]
      go_simp
    refine TaAll.cons (o := _) (ds := [9]) rfl rfl (by kernel_rfl) (fun vals wr hdep => ?_) ?_
    · obtain ⟨⟨P9, c9, Q9, k9, e9, o9, u9⟩, -⟩ := hdep
      refine ⟨_, fun S => Or.inl ⟨by rfl, ?_⟩, ⟨_, _, rfl, u9⟩, rfl⟩
      intro w' _
      simp only [e9, Upd2, Act.put, List.setIfInBounds_toArray, List.set_cons_zero, List.set_cons_succ]
      go_simp
    refine TaAll.cons (o := _) (ds := [9]) rfl rfl (by kernel_rfl) (fun vals wr hdep => ?_) TaAll.nil
    · obtain ⟨⟨P9, c9, Q9, k9, e9, o9, u9⟩, -⟩ := hdep
      refine ⟨_, fun S => Or.inl ⟨by rfl, ?_⟩, ⟨rfl, rfl⟩, rfl⟩
      intro w' _
      simp only [e9, Upd2, Act.put, List.setIfInBounds_toArray, List.set_cons_zero, List.set_cons_succ]
      go_simp
  clear hHeld HB
  intro vals wr hb hdep hD
  have NG0 := Lib.hid (hD 13 (by decide) 14 (by decide) (by decide))
  obtain ⟨⟨P8, c8, Q8, k8, e8, o8, u8⟩, ⟨P9, c9, Q9, k9, e9, o9, u9⟩, ⟨P10, c10, e10, o10⟩, ⟨P11, c11, e11, o11⟩, ⟨e12, -⟩, ⟨g13, e13, l13, z13⟩, ⟨g14, e14, l14, z14⟩, -⟩ := hdep
  have NG : Hid (g13 ≠ g14) := fun e => NG0.out g13 (by rw [e13]; rfl) (by rw [e14, e]; rfl)
  simp only [Upd2, e8, e9, e10, e11, e12, e13, e14, Act.put, List.setIfInBounds_toArray, List.set_cons_zero, List.set_cons_succ]
  clear NG0 e8 e9 e10 e11 e12 e13 e14
  clear hD vals
  replace V0 := Lib.hid (V0.out.below hb V0.out.lt)
  replace E0 := Lib.hid (E0.out.below hb E0.out.lt)
  replace HX := Lib.hid (HX.out.below hb)
  replace HY := Lib.hid (HY.out.below hb)
  replace B1 := Lib.hid (B1.out.trans (hb.mono B1.out.size))
  have HB := Lib.hid hb
  clear hb
  have ZQ := Lib.hid (o10.mono (Nat.zero_le _)); have ZR := Lib.hid (o11.mono (Nat.zero_le _)); have G1 := Lib.hid z13; have G2 := Lib.hid z14; have LL1 := Lib.hid l13; have LL2 := Lib.hid l14; have LG1 : Hid (w.heap.size < g13) := Nat.lt_of_lt_of_le LT.out l13; have LG2 : Hid (w.heap.size < g14) := Nat.lt_of_lt_of_le LT.out l14
  clear o8 u8 o9 u9 o10 o11 z13 z14 l13 l14
  refine wpAnyH_ready (rs := [15]) (by kernel_rfl) (by simp) ?_
  refine AllReadyH.consL (o := _) rfl (fun K hK => ?_) AllReadyH.nil
  rw [if_pos (by rfl)]
  refine wp_stZ _ _ rfl (by rfl) (by rfl) G1.out ?_
  intro ws0 hz hg
  replace HB := Lib.hid (Below.gr HB.out (by have := LL1.out; have := LL2.out; omega) hg HB.out.size)
  have bx := G1.out.bx
  replace V0 := Lib.hid (V0.out.gro hg (by have := LG1.out; have := LG2.out; have := NG.out; have := GL.out; omega))
  replace E0 := Lib.hid (E0.out.gro hg (by have := LG1.out; have := LG2.out; have := NG.out; have := GL.out; omega))
  replace HX := Lib.hid (HX.out.grB bx hg)
  replace HY := Lib.hid (HY.out.grB bx hg)
  replace ZQ := Lib.hid (ZQ.out.grB bx hg)
  replace ZR := Lib.hid (ZR.out.grB bx hg)
  replace G2 := Lib.hid (G2.out.gro hg (by have := LG1.out; have := LG2.out; have := NG.out; have := GL.out; omega))
  replace B1 := Lib.hid (Below.gr B1.out (by have := LG1.out; have := LG2.out; have := NG.out; have := GL.out; omega) hg B1.out.size)
  clear bx
  replace G1 := Lib.hid hz
  refine hK.out _ _ ⟨HB.out, HB.out⟩ (fun _ => ?_)
  clear hK K hg hz
  try simp only [Act.put]
  refine wpAnyH_ready (rs := [16]) (by kernel_rfl) (by simp) ?_
  refine AllReadyH.consL (o := _) rfl (fun K hK => ?_) AllReadyH.nil
  rw [if_pos (by rfl)]
  refine wp_stZ _ _ rfl (by rfl) (by rfl) G2.out ?_
  intro ws1 hz hg
  replace HB := Lib.hid (Below.gr HB.out (by have := LL1.out; have := LL2.out; omega) hg HB.out.size)
  have bx := G2.out.bx
  replace V0 := Lib.hid (V0.out.gro hg (by have := LG1.out; have := LG2.out; have := NG.out; have := GL.out; omega))
  replace E0 := Lib.hid (E0.out.gro hg (by have := LG1.out; have := LG2.out; have := NG.out; have := GL.out; omega))
  replace HX := Lib.hid (HX.out.grB bx hg)
  replace HY := Lib.hid (HY.out.grB bx hg)
  replace ZQ := Lib.hid (ZQ.out.grB bx hg)
  replace ZR := Lib.hid (ZR.out.grB bx hg)
  replace G1 := Lib.hid (G1.out.gro hg (by have := LG1.out; have := LG2.out; have := NG.out; have := GL.out; omega))
  replace B1 := Lib.hid (Below.gr B1.out (by have := LG1.out; have := LG2.out; have := NG.out; have := GL.out; omega) hg B1.out.size)
  clear bx
  replace G2 := Lib.hid hz
  refine hK.out _ _ ⟨HB.out, HB.out⟩ (fun _ => ?_)
  clear hK K hg hz
  try simp only [Act.put]
  have hHeld : Below w2.heap.size w2 _ ∧ Below w2.heap.size w2 _ := ⟨HB.out, HB.out⟩
  refine wpAnyH_takeL (i := 17) (oi := _) (v := ?_) rfl (by kernel_rfl) (by kernel_rfl) (by kernel_rfl) (fun _ _ _ h => h) (Or.inl ⟨by rfl, ?_⟩) hHeld ?_
  rotate_left
  · (intro w' hSw; (try dsimp only at hSw); go_simp; try (with_reducible rfl))
  try simp only [Act.put, List.setIfInBounds_toArray, List.set_cons_zero, List.set_cons_succ]
  clear hHeld
  refine wpAnyH_done (by kernel_rfl) ?_ _
  clear HB
  have GW : Hid (w.grownBy ws1 (some g)) := grown_below B1.out
  clear BXW B1
  go_wp2_with fail
  have hb := below_drewN ws1.heap.size ws1 1
  replace V0 := Lib.hid (V0.out.below hb V0.out.lt)
  replace E0 := Lib.hid (E0.out.below hb E0.out.lt)
  replace HX := Lib.hid (HX.out.below hb)
  replace HY := Lib.hid (HY.out.below hb)
  replace ZQ := Lib.hid (ZQ.out.below hb)
  replace ZR := Lib.hid (ZR.out.below hb)
  replace G1 := Lib.hid (G1.out.below hb G1.out.lt)
  replace G2 := Lib.hid (G2.out.below hb G2.out.lt)
  replace GW := Lib.hid (GW.out.trans (grown_below hb))
  clear hb
  refine wp_region_held_drew (S := fun w' => Zb w' g14 (decide (r < 0)) P11 (ofv r.natAbs).length c11) (by kernel_rfl) G2.out (fun hHeld => ?_)
  refine wpAnyH_takeL (i := 0) (oi := _) (v := ?_) rfl (by kernel_rfl) (by kernel_rfl) (by kernel_rfl) (fun _ _ _ h => h) (Or.inl ⟨by rfl, ?_⟩) hHeld ?_
  rotate_left
  · (intro w' hSw; (try dsimp only at hSw); go_simp; try (with_reducible rfl))
  try simp only [Act.put, List.setIfInBounds_toArray, List.set_cons_zero, List.set_cons_succ]
  refine wpAnyH_takeL (i := 1) (oi := _) (v := ?_) rfl (by kernel_rfl) (by kernel_rfl) (by kernel_rfl) (fun _ _ _ h => h) (Or.inl ⟨by rfl, ?_⟩) hHeld ?_
  rotate_left
  · (intro w' hSw; (try dsimp only at hSw); go_simp; try (with_reducible rfl))
  try simp only [Act.put, List.setIfInBounds_toArray, List.set_cons_zero, List.set_cons_succ]
  refine wpAnyH_takeL (i := 2) (oi := _) (v := ?_) rfl (by kernel_rfl) (by kernel_rfl) (by kernel_rfl) (fun _ _ _ h => h) (Or.inl ⟨by rfl, ?_⟩) hHeld ?_
  rotate_left
  · (intro w' hSw; (try dsimp only at hSw); go_simp; try (with_reducible rfl))
  try simp only [Act.put, List.setIfInBounds_toArray, List.set_cons_zero, List.set_cons_succ]
  refine wpAnyH_takeL (i := 3) (oi := _) (v := ?_) rfl (by kernel_rfl) (by kernel_rfl) (by kernel_rfl) (fun _ _ _ h => h) (Or.inl ⟨by rfl, ?_⟩) hHeld ?_
  rotate_left
  · (intro w' hSw; (try dsimp only at hSw); go_simp; try (with_reducible rfl))
  try simp only [Act.put, List.setIfInBounds_toArray, List.set_cons_zero, List.set_cons_succ]
  refine wpAnyH_takeL (i := 4) (oi := _) (v := ?_) rfl (by kernel_rfl) (by kernel_rfl) (by kernel_rfl) (fun _ _ _ h => h) (Or.inl ⟨by rfl, ?_⟩) hHeld ?_
  rotate_left
  · (intro w' hSw; (try dsimp only at hSw); go_simp; try (with_reducible rfl))
  try simp only [Act.put, List.setIfInBounds_toArray, List.set_cons_zero, List.set_cons_succ]
  refine wpAnyH_takeL (i := 6) (oi := _) rfl (by kernel_rfl) (by kernel_rfl) (by kernel_rfl) (fun _ _ _ h => h) (yields_ldZ (by rfl) _ rfl (by rfl) (fun _ hS => hS)) hHeld ?_
  try simp only [Act.put, List.setIfInBounds_toArray, List.set_cons_zero, List.set_cons_succ]
  refine wpAnyH_ready (rs := [5]) (by kernel_rfl) (by simp) ?_
  refine AllReadyH.consL (o := _) rfl (fun K hK => ?_) AllReadyH.nil
  clear hHeld
  rw [if_pos (by rfl)]
  refine wp_ldE1 _ rfl (by rfl) E0.out ?_
  refine hK.out _ _ G2.out (fun hHeld => ?_)
  clear hK K
  try simp only [Act.put, List.setIfInBounds_toArray, List.set_cons_zero, List.set_cons_succ]
  refine wpAnyH_takeL (i := 7) (oi := _) (v := ?_) rfl (by kernel_rfl) (by kernel_rfl) (by kernel_rfl) (fun _ _ _ h => h) (Or.inl ⟨by rfl, ?_⟩) hHeld ?_
  rotate_left
  · (intro w' hSw; (try dsimp only at hSw); go_simp; try (with_reducible rfl))
  try simp only [Act.put, List.setIfInBounds_toArray, List.set_cons_zero, List.set_cons_succ]
  refine wpAnyH_takeL (i := 8) (oi := _) (v := ?_) rfl (by kernel_rfl) (by kernel_rfl) (by kernel_rfl) (fun _ _ _ h => h) (Or.inl ⟨by rfl, ?_⟩) hHeld ?_
  rotate_left
  · (intro w' hSw; (try dsimp only at hSw); go_simp; try (with_reducible rfl))
  try simp only [Act.put, List.setIfInBounds_toArray, List.set_cons_zero, List.set_cons_succ]
  refine wpAnyH_ready (rs := [9]) (by kernel_rfl) (by simp) ?_
  refine AllReadyH.consL (o := _) rfl (fun K hK => ?_) AllReadyH.nil
  clear hHeld
  rw [if_pos (by rfl)]
  refine wp_stE0 _ _ rfl (by rfl) (by rfl) E0.out ?_
  intro wv0 hz hg
  have bx := E0.out.bx
  replace V0 := Lib.hid (V0.out.gro hg (by first | (have := LG1.out; have := LG2.out; have := NG.out; have := GL.out; omega)))
  replace HX := Lib.hid (HX.out.grB bx hg)
  replace HY := Lib.hid (HY.out.grB bx hg)
  replace ZQ := Lib.hid (ZQ.out.grB bx hg)
  replace ZR := Lib.hid (ZR.out.grB bx hg)
  replace G1 := Lib.hid (G1.out.gro hg (by first | (have := LG1.out; have := LG2.out; have := NG.out; have := GL.out; omega)))
  replace G2 := Lib.hid (G2.out.gro hg (by first | (have := LG1.out; have := LG2.out; have := NG.out; have := GL.out; omega)))
  clear bx
  replace E0 := Lib.hid hz
  replace GW := Lib.hid (GW.out.trans hg)
  refine hK.out _ _ G2.out (fun hHeld => ?_)
  clear hK K hg hz
  try simp only [Act.put]
  refine wpAnyH_takeL (i := 10) (oi := _) (v := ?_) rfl (by kernel_rfl) (by kernel_rfl) (by kernel_rfl) (fun _ _ _ h => h) (Or.inl ⟨by rfl, ?_⟩) hHeld ?_
  rotate_left
  · (intro w' hSw; (try dsimp only at hSw); go_simp; try (with_reducible rfl))
  try simp only [Act.put, List.setIfInBounds_toArray, List.set_cons_zero, List.set_cons_succ]
  refine wpAnyH_takeL (i := 11) (oi := _) (v := ?_) rfl (by kernel_rfl) (by kernel_rfl) (by kernel_rfl) (fun _ _ _ h => h) (Or.inl ⟨by rfl, ?_⟩) hHeld ?_
  rotate_left
  · (intro w' hSw; (try dsimp only at hSw); go_simp; try (with_reducible rfl))
  try simp only [Act.put, List.setIfInBounds_toArray, List.set_cons_zero, List.set_cons_succ]
  refine wpAnyH_ready (rs := [12]) (by kernel_rfl) (by simp) ?_
  refine AllReadyH.consL (o := _) rfl (fun K hK => ?_) AllReadyH.nil
  clear hHeld
  rw [if_pos (by rfl)]
  refine wp_stE1 _ _ rfl (by rfl) (by rfl) E0.out ?_
  intro wv1 hz hg
  have bx := E0.out.bx
  replace V0 := Lib.hid (V0.out.gro hg (by first | (have := LG1.out; have := LG2.out; have := NG.out; have := GL.out; omega)))
  replace HX := Lib.hid (HX.out.grB bx hg)
  replace HY := Lib.hid (HY.out.grB bx hg)
  replace ZQ := Lib.hid (ZQ.out.grB bx hg)
  replace ZR := Lib.hid (ZR.out.grB bx hg)
  replace G1 := Lib.hid (G1.out.gro hg (by first | (have := LG1.out; have := LG2.out; have := NG.out; have := GL.out; omega)))
  replace G2 := Lib.hid (G2.out.gro hg (by first | (have := LG1.out; have := LG2.out; have := NG.out; have := GL.out; omega)))
  clear bx
  replace E0 := Lib.hid hz
  replace GW := Lib.hid (GW.out.trans hg)
  refine hK.out _ _ G2.out (fun hHeld => ?_)
  clear hK K hg hz
  try simp only [Act.put]
  clear hHeld
  refine wpAnyH_done (by kernel_rfl) ?_ _
  have GW2 := Lib.hid GW.out
  clear LL1 LL2
  have GV : Hid (w.heap.size ≤ w.heap.size) := Nat.le_refl _
  have pc0 := Lib.hid trivial
  go_wp2_with (first
    | (clear pc0; refine wpList_ldZ (by rfl) _ rfl (by rfl) G1.out ?_; have pc1 := Lib.hid trivial)
    | (clear pc1; refine wpList_stZ (by rfl) _ _ rfl (by rfl) (by rfl) V0.out ?_; intro wz hz hg; have bx := V0.out.bx; replace E0 := Lib.hid (E0.out.gro hg (by first | (have := LG1.out; have := LG2.out; have := NG.out; have := GL.out; omega))); replace HX := Lib.hid (HX.out.grB bx hg); replace HY := Lib.hid (HY.out.grB bx hg); replace ZQ := Lib.hid (ZQ.out.grB bx hg); replace ZR := Lib.hid (ZR.out.grB bx hg); replace G1 := Lib.hid (G1.out.gro hg (by first | (have := LG1.out; have := LG2.out; have := NG.out; have := GL.out; omega))); replace G2 := Lib.hid (G2.out.gro hg (by first | (have := LG1.out; have := LG2.out; have := NG.out; have := GL.out; omega))); clear bx; replace V0 := Lib.hid hz; have GZ := Lib.hid hg; clear hz hg; have pc2 := Lib.hid trivial))
  clear pc2
  exact ret_zb Tryz.results46 rfl rfl V0.out ⟨_, _, _, _, rfl, ZQ.out, E0.out, HY.out, ZR.out, grown_new GW.out GZ.out⟩
theorem next_any {g L : Nat} {X Y q r : Int} {w : World} (h : Ex w g X Y L) (hL : L ≤ 70368744177660) (hY : Y ≠ 0) (hq : X / Y = q) (hr : X % Y = r) :
    Calls Tryz.prog 46 #[.pointer (some ⟨g, 0, none⟩)] w fun e w' => ∃ P c, e = .returned (.agg #[.bool (decide (q < 0)), .slice P (ofv q.natAbs).length c]) ∧ Zo w' P c q ∧ Ex w' g Y r L ∧ w.grownBy w' (some g) := by
  obtain ⟨s, A, n, c, t, B, m, d, h, h1, h2, h3, h4⟩ := h
  refine (next_box h h1 h2 h3 h4 hL hY hq hr).mono ?_
  rintro e w' ⟨P, cP, R, k, rfl, hz, he, hy, hr', hg⟩
  refine ⟨P, cP, rfl, Zo.of_own hz, ⟨_, _, _, _, _, _, _, _, he, hy, (Zo.of_own hr').in_, h4, ?_⟩, hg⟩
  have r0 : 0 ≤ r := by rw [← hr]; exact Int.emod_nonneg _ hY
  have r1 : r < Y.natAbs := by rw [← hr]; exact Int.emod_lt _ hY
  exact Nat.le_trans (len_mono (by omega)) (Nat.le_trans h2.len h4)
/-- An expansion whose numbers lie in memory of its own. -/
def Eo (w : World) (g : Nat) (X Y : Int) (L : Nat) : Prop := ∃ A c B d, Eb w g (decide (X < 0)) A (ofv X.natAbs).length c (decide (Y < 0)) B (ofv Y.natAbs).length d ∧ Own w 0 A c (ofv X.natAbs) ∧ Own w 0 B d (ofv Y.natAbs) ∧ (ofv X.natAbs).length ≤ L ∧ (ofv Y.natAbs).length ≤ L
theorem Eo.ex {w : World} {g L : Nat} {X Y : Int} (h : Eo w g X Y L) : Ex w g X Y L := by
  obtain ⟨A, c, B, d, h, h1, h2, h3, h4⟩ := h
  exact ⟨_, _, _, _, _, _, _, _, h, (Zo.of_own h1).in_, (Zo.of_own h2).in_, h3, h4⟩
theorem next_own {g L : Nat} {X Y q r : Int} {w : World} (h : Eo w g X Y L) (hL : L ≤ 70368744177660) (hY : Y ≠ 0) (hq : X / Y = q) (hr : X % Y = r) :
    Calls Tryz.prog 46 #[.pointer (some ⟨g, 0, none⟩)] w fun e w' => ∃ P c, e = .returned (.agg #[.bool (decide (q < 0)), .slice P (ofv q.natAbs).length c]) ∧ Own w' 0 P c (ofv q.natAbs) ∧ Eo w' g Y r L ∧ w.grownBy w' (some g) := by
  obtain ⟨A, c, B, d, h, h1, h2, h3, h4⟩ := h
  refine (next_box h (Zo.of_own h1).in_ (Zo.of_own h2).in_ h3 h4 hL hY hq hr).mono ?_
  rintro e w' ⟨P, cP, R, k, rfl, hz, he, hy, hr', hg⟩
  refine ⟨P, cP, rfl, hz, ⟨_, _, _, _, he, h2.grB h.bx hg, hr', h4, ?_⟩, hg⟩
  have r0 : 0 ≤ r := by rw [← hr]; exact Int.emod_nonneg _ hY
  have r1 : r < Y.natAbs := by rw [← hr]; exact Int.emod_lt _ hY
  exact Nat.le_trans (len_mono (by omega)) h4
end Go.Proofs.YtfmgbfdnmconiaaGreat
