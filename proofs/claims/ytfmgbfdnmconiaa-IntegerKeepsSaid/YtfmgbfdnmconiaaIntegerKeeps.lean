/-
  The walk of the law IntegerKeeps: no function modifies the limbs of its arguments or shares memory with them.
-/
import Derived.Test.YtfmgbfdnmconiaaKeepz
namespace Go.Proofs.Ytfmgbfdnmconiaa
open Go.RowKit
set_option linter.unusedVariables false

set_option maxRecDepth 100000 in
set_option maxHeartbeats 16000000 in
theorem integerKeeps_walk (s : Bool) (A : Option Addr) (n c : Nat) (x : Int) (t : Bool) (B : Option Addr) (m d : Nat) (y : Int) (w : World) (h : Zin w s A n c x) (hn : n ≤ 35184372087808) (h' : Zin w t B m d y) (hm : m ≤ 35184372087808) :
    Calls Try.prog 3 #[.agg #[.bool s, .slice A n c], .agg #[.bool t, .slice B m d]] w fun e w' => e = .returned (.bool true) ∧ Below w.heap.size w w' := by
  obtain ⟨B1, V0, V1⟩ := begin2 w s A n c t B m d
  obtain ⟨xs, rx, lx, ex⟩ := h
  obtain ⟨ys, ry, ly, ey⟩ := h'
  have RX := Lib.hid (rx.below B1.out)
  have RY := Lib.hid (ry.below B1.out)
  have LX := Lib.hid lx
  have LY := Lib.hid ly
  have EX := Lib.hid ex
  have EY := Lib.hid ey
  have LN := Lib.hid hn
  have LM := Lib.hid hm
  clear rx ry lx ly ex ey hn hm
  go_enter Try.func3, Try.ntmps3
  go_wp2_with fail
  generalize ((w.alloc (.cells #[.bool s, .slice A n c] 24)).alloc (.cells #[.bool t, .slice B m d] 24)) = w2 at *
  have Q0 : Hid (w.heap.size < w2.heap.size) := V0.out.lt
  have Q1 : Hid (w.heap.size + 1 < w2.heap.size) := V1.out.lt
  have HB : Hid (Below w2.heap.size w2 w2.drew) := below_drewN _ w2 1
  refine wp_region_held_drew (S := fun w' => Below w2.heap.size w2 w') (by kernel_rfl) (HB.out) (fun hHeld => ?_)
  refine wpAnyH_takeL (i := 0) (oi := _) (v := ?_) rfl (by kernel_rfl) (by kernel_rfl) (by kernel_rfl) (fun _ _ _ h => h) (Or.inl ⟨by rfl, ?_⟩) hHeld ?_
  rotate_left
  · (intro w' hSw; (try dsimp only at hSw); go_simp; try (with_reducible rfl))
  try simp only [Act.put, List.setIfInBounds_toArray, List.set_cons_zero, List.set_cons_succ]
  refine wpAnyH_takeL (i := 1) (oi := _) rfl (by kernel_rfl) (by kernel_rfl) (by kernel_rfl) (fun _ _ _ h => h) (yields_lks (by rfl) _ rfl (by rfl) (fun _ hb => V0.out.below hb V0.out.lt)) hHeld ?_
  try simp only [Act.put, List.setIfInBounds_toArray, List.set_cons_zero, List.set_cons_succ]
  refine wpAnyH_takeL (i := 2) (oi := _) (v := ?_) rfl (by kernel_rfl) (by kernel_rfl) (by kernel_rfl) (fun _ _ _ h => h) (Or.inl ⟨by rfl, ?_⟩) hHeld ?_
  rotate_left
  · (intro w' hSw; (try dsimp only at hSw); go_simp; try (with_reducible rfl))
  try simp only [Act.put, List.setIfInBounds_toArray, List.set_cons_zero, List.set_cons_succ]
  refine wpAnyH_takeL (i := 3) (oi := _) rfl (by kernel_rfl) (by kernel_rfl) (by kernel_rfl) (fun _ _ _ h => h) (yields_lkm (by rfl) _ rfl (by rfl) (fun _ hb => V0.out.below hb V0.out.lt)) hHeld ?_
  try simp only [Act.put, List.setIfInBounds_toArray, List.set_cons_zero, List.set_cons_succ]
  refine wpAnyH_takeL (i := 6) (oi := _) (v := ?_) rfl (by kernel_rfl) (by kernel_rfl) (by kernel_rfl) (fun _ _ _ h => h) (Or.inl ⟨by rfl, ?_⟩) hHeld ?_
  rotate_left
  · (intro w' hSw; (try dsimp only at hSw); go_simp; try (with_reducible rfl))
  try simp only [Act.put, List.setIfInBounds_toArray, List.set_cons_zero, List.set_cons_succ]
  refine wpAnyH_takeL (i := 7) (oi := _) rfl (by kernel_rfl) (by kernel_rfl) (by kernel_rfl) (fun _ _ _ h => h) (yields_lks (by rfl) _ rfl (by rfl) (fun _ hb => V1.out.below hb V1.out.lt)) hHeld ?_
  try simp only [Act.put, List.setIfInBounds_toArray, List.set_cons_zero, List.set_cons_succ]
  refine wpAnyH_takeL (i := 8) (oi := _) (v := ?_) rfl (by kernel_rfl) (by kernel_rfl) (by kernel_rfl) (fun _ _ _ h => h) (Or.inl ⟨by rfl, ?_⟩) hHeld ?_
  rotate_left
  · (intro w' hSw; (try dsimp only at hSw); go_simp; try (with_reducible rfl))
  try simp only [Act.put, List.setIfInBounds_toArray, List.set_cons_zero, List.set_cons_succ]
  refine wpAnyH_takeL (i := 9) (oi := _) rfl (by kernel_rfl) (by kernel_rfl) (by kernel_rfl) (fun _ _ _ h => h) (yields_lkm (by rfl) _ rfl (by rfl) (fun _ hb => V1.out.below hb V1.out.lt)) hHeld ?_
  try simp only [Act.put, List.setIfInBounds_toArray, List.set_cons_zero, List.set_cons_succ]
  refine wpAnyH_rgt [(4, some 19), (5, some 20), (10, some 25), (11, some 26), (12, some 5), (13, some 6)] [5, 11] (isNewZ w2.heap.size) [(4, isSp n xs), (5, isSpz s n xs), (10, isSp m ys), (11, isSpz t m ys)] w2 (f0 := 2) (by kernel_rfl) (by kernel_rfl) (by rfl) HB.out (fun _ h => h) (fun _ _ _ _ _ h => h) (isNewZ_good _) ⟨isSp_good _ _, isSpz_good _ _ _, isSp_good _ _, isSpz_good _ _ _, trivial⟩ ?_ ?_ ?_
  · clear hHeld HB
    show RgOps _ _ _ _ _ _ _ _ _ [4, 10, 12, 13]
    refine RgOps.consL (o := _) (ds := []) rfl rfl (by kernel_rfl) (fun vals wr hbr hC hdep K hK => ?_) ?_
    · have BB := Lib.hid hbr
      clear hdep
      clear hbr hC
      simp only [Upd2, Act.put, List.setIfInBounds_toArray, List.set_cons_zero, List.set_cons_succ] at hK ⊢
      go_simp
      go_at_call 4
      refine Calls.mono (spare_z (RX.out.below BB.out) LX.out (by have := LN.out; omega)) ?_
      rintro e wq ⟨gq, rfl, hr, hb⟩
      exact hK.out _ _ (LeavesB.behind hb ⟨gq, rfl, hr⟩ rfl)
    refine RgOps.consL (o := _) (ds := [4]) rfl rfl (by kernel_rfl) (fun vals wr hbr hC hdep K hK => ?_) ?_
    · have BB := Lib.hid hbr
      obtain ⟨⟨g4, e4, r4⟩, -⟩ := hdep
      clear hbr hC
      simp only [e4, Upd2, Act.put, List.setIfInBounds_toArray, List.set_cons_zero, List.set_cons_succ] at hK ⊢
      clear e4
      go_simp
      go_at_call 4
      refine Calls.mono (spare_z (RY.out.below BB.out) LY.out (by have := LM.out; omega)) ?_
      rintro e wq ⟨gq, rfl, hr, hb⟩
      exact hK.out _ _ (LeavesB.behind hb ⟨gq, rfl, hr⟩ rfl)
    refine RgOps.consL (o := _) (ds := []) rfl rfl (by kernel_rfl) (fun vals wr hbr hC hdep K hK => ?_) ?_
    · have BB := Lib.hid hbr
      clear hdep
      clear hbr hC
      simp only [Upd2, Act.put, List.setIfInBounds_toArray, List.set_cons_zero, List.set_cons_succ] at hK ⊢
      go_simp
      exact hK.out _ _ (LeavesB.newZ BB.out.size)
    refine RgOps.consL (o := _) (ds := []) rfl rfl (by kernel_rfl) (fun vals wr hbr hC hdep K hK => ?_) RgOps.nil
    · have BB := Lib.hid hbr
      clear hdep
      clear hbr hC
      simp only [Upd2, Act.put, List.setIfInBounds_toArray, List.set_cons_zero, List.set_cons_succ] at hK ⊢
      go_simp
      exact hK.out _ _ (LeavesB.newZ BB.out.size)
  · clear hHeld HB
    show TaAll _ _ _ _ _ [5, 11]
    refine TaAll.cons (o := _) (ds := [4]) rfl rfl (by kernel_rfl) (fun vals wr hdep => ?_) ?_
    · obtain ⟨⟨g4, e4, r4⟩, -⟩ := hdep
      refine ⟨_, fun S => Or.inl ⟨by rfl, ?_⟩, ⟨g4, rfl, r4⟩, rfl⟩
      intro w' _
      simp only [e4, Upd2, Act.put, List.setIfInBounds_toArray, List.set_cons_zero, List.set_cons_succ]
      go_simp
    refine TaAll.cons (o := _) (ds := [10]) rfl rfl (by kernel_rfl) (fun vals wr hdep => ?_) TaAll.nil
    · obtain ⟨⟨g10, e10, r10⟩, -⟩ := hdep
      refine ⟨_, fun S => Or.inl ⟨by rfl, ?_⟩, ⟨g10, rfl, r10⟩, rfl⟩
      intro w' _
      simp only [e10, Upd2, Act.put, List.setIfInBounds_toArray, List.set_cons_zero, List.set_cons_succ]
      go_simp
  clear hHeld HB
  intro vals wr hb hdep hD
  have NG0 := Lib.hid (hD 12 (by decide) 13 (by decide) (by decide))
  obtain ⟨⟨g4, e4, r4⟩, ⟨g5, e5, r5⟩, ⟨g10, e10, r10⟩, ⟨g11, e11, r11⟩, ⟨g12, e12, l12, z12⟩, ⟨g13, e13, l13, z13⟩, -⟩ := hdep
  have NG : Hid (g12 ≠ g13) := fun e => NG0.out g12 (by rw [e12]; rfl) (by rw [e13, e]; rfl)
  simp only [Upd2, e4, e5, e10, e11, e12, e13, Act.put, List.setIfInBounds_toArray, List.set_cons_zero, List.set_cons_succ]
  clear NG0 e4 e5 e10 e11 e12 e13
  clear hD vals
  replace V0 := Lib.hid (V0.out.below hb V0.out.lt)
  replace V1 := Lib.hid (V1.out.below hb V1.out.lt)
  replace RX := Lib.hid (RX.out.below hb)
  replace RY := Lib.hid (RY.out.below hb)
  replace B1 := Lib.hid (B1.out.trans (hb.mono B1.out.size))
  have HB := Lib.hid hb
  clear hb
  have C1 := Lib.hid r5; have C2 := Lib.hid r11; have X1 := Lib.hid z12; have Y1 := Lib.hid z13; have M12 := Lib.hid l12; have M13 := Lib.hid l13
  clear r4 r5 r10 r11 z12 z13 l12 l13
  refine wpAnyH_ready (rs := [14]) (by kernel_rfl) (by simp) ?_
  refine AllReadyH.consL (o := _) rfl (fun K hK => ?_) AllReadyH.nil
  rw [if_pos (by rfl)]
  refine wp_stZ _ _ rfl (by rfl) (by rfl) X1.out ?_
  intro ws0 hz hg
  replace HB := Lib.hid (Below.gr HB.out (by have := NG.out; have := M12.out; have := M13.out; have := Q0.out; have := Q1.out; omega) hg HB.out.size)
  replace V0 := Lib.hid (V0.out.gr hg (by have := NG.out; have := M12.out; have := M13.out; have := Q0.out; have := Q1.out; omega))
  replace V1 := Lib.hid (V1.out.gr hg (by have := NG.out; have := M12.out; have := M13.out; have := Q0.out; have := Q1.out; omega))
  replace RX := Lib.hid (RX.out.gr X1.out hg)
  replace RY := Lib.hid (RY.out.gr X1.out hg)
  replace C1 := Lib.hid (C1.out.gr X1.out hg)
  replace C2 := Lib.hid (C2.out.gr X1.out hg)
  replace Y1 := Lib.hid (Y1.out.gr hg (by have := NG.out; have := M12.out; have := M13.out; have := Q0.out; have := Q1.out; omega))
  replace B1 := Lib.hid (Below.gr B1.out (by have := NG.out; have := M12.out; have := M13.out; have := Q0.out; have := Q1.out; omega) hg B1.out.size)
  replace X1 := Lib.hid hz
  refine hK.out _ _ ⟨HB.out, HB.out⟩ (fun _ => ?_)
  clear hK K hg hz
  try simp only [Act.put]
  refine wpAnyH_ready (rs := [15]) (by kernel_rfl) (by simp) ?_
  refine AllReadyH.consL (o := _) rfl (fun K hK => ?_) AllReadyH.nil
  rw [if_pos (by rfl)]
  refine wp_stZ _ _ rfl (by rfl) (by rfl) Y1.out ?_
  intro ws1 hz hg
  replace HB := Lib.hid (Below.gr HB.out (by have := NG.out; have := M12.out; have := M13.out; have := Q0.out; have := Q1.out; omega) hg HB.out.size)
  replace V0 := Lib.hid (V0.out.gr hg (by have := NG.out; have := M12.out; have := M13.out; have := Q0.out; have := Q1.out; omega))
  replace V1 := Lib.hid (V1.out.gr hg (by have := NG.out; have := M12.out; have := M13.out; have := Q0.out; have := Q1.out; omega))
  replace RX := Lib.hid (RX.out.gr Y1.out hg)
  replace RY := Lib.hid (RY.out.gr Y1.out hg)
  replace C1 := Lib.hid (C1.out.gr Y1.out hg)
  replace C2 := Lib.hid (C2.out.gr Y1.out hg)
  replace X1 := Lib.hid (X1.out.gr hg (by have := NG.out; have := M12.out; have := M13.out; have := Q0.out; have := Q1.out; omega))
  replace B1 := Lib.hid (Below.gr B1.out (by have := NG.out; have := M12.out; have := M13.out; have := Q0.out; have := Q1.out; omega) hg B1.out.size)
  replace Y1 := Lib.hid hz
  refine hK.out _ _ ⟨HB.out, HB.out⟩ (fun _ => ?_)
  clear hK K hg hz
  try simp only [Act.put]
  refine wpAnyH_done (by kernel_rfl) ?_ _
  clear HB
  have KX := Lib.hid X1.out
  have KY := Lib.hid Y1.out
  have BL := Lib.hid (Below.refl ws1.heap.size ws1)
  have HX := Lib.hid (zin_copy (s := s) C1.out LX.out EX.out)
  have HY := Lib.hid (zin_copy (s := t) C2.out LY.out EY.out)
  clear Q0 Q1 NG M12 M13
  have pc0 := Lib.hid trivial
  go_wp2_with (first
    | (clear pc0; refine wpList_ldZ (by rfl) _ rfl (by rfl) X1.out ?_; have pc1 := Lib.hid trivial)
    | (clear pc1; refine wpList_ldZ (by rfl) _ rfl (by rfl) Y1.out ?_; have pc2 := Lib.hid trivial)
    | (clear pc2; have SZ : Hid (ws1.heap.size ≤ ws1.heap.size) := BL.out.size; go_at_call 5; refine Calls.mono (dmz_loose (x := x) (y := y) HX.out HY.out (by have := LN.out; omega) (by have := LM.out; omega)) ?_; rintro e w3 ⟨s10, R10, n10, c10, s11, R11, n11, c11, okq, rfl, ho, ho2, hb⟩; replace X1 := Lib.hid (X1.out.below hb X1.out.lt); replace Y1 := Lib.hid (Y1.out.below hb Y1.out.lt); replace HX := Lib.hid (HX.out.below hb); replace HY := Lib.hid (HY.out.below hb); replace BL := Lib.hid (BL.out.trans (hb.mono BL.out.size)); have P10 := Lib.hid (WpS.lower ho SZ.out); have P11 := Lib.hid (WpS.lower ho2 SZ.out); clear ho ho2 SZ; clear hb; have pc3 := Lib.hid trivial)
    | (clear pc3; obtain ⟨hb, U10, U11⟩ := begin2 w3 s10 R10 n10 c10 s11 R11 n11 c11; generalize hg : w3.heap.size = gq at U10 U11 ⊢; generalize ((w3.alloc (.cells #[.bool s10, .slice R10 n10 c10] 24)).alloc (.cells #[.bool s11, .slice R11 n11 c11] 24)) = w4 at *; replace hb := hb.out; replace X1 := Lib.hid (X1.out.below hb X1.out.lt); replace Y1 := Lib.hid (Y1.out.below hb Y1.out.lt); replace HX := Lib.hid (HX.out.below hb); replace HY := Lib.hid (HY.out.below hb); replace P10 := Lib.hid (P10.out.below hb); replace P11 := Lib.hid (P11.out.below hb); replace BL := Lib.hid (BL.out.trans (hb.mono BL.out.size)); clear hb hg; refine wpList_ldZ (by rfl) _ rfl (by rfl) X1.out ?_; have pc4 := Lib.hid trivial)
    | (clear pc4; refine wpList_ldZ (by rfl) _ rfl (by rfl) Y1.out ?_; have pc5 := Lib.hid trivial)
    | (clear pc5; have SZ : Hid (ws1.heap.size ≤ w4.heap.size) := BL.out.size; go_at_call 6; refine Calls.mono (extz_loose (x := x) (y := y) HX.out HY.out LN.out LM.out) ?_; rintro e w5 ⟨s12, R12, n12, c12, s13, R13, n13, c13, s14, R14, n14, c14, rfl, ho, ho2, ho3, hb⟩; replace X1 := Lib.hid (X1.out.below hb X1.out.lt); replace Y1 := Lib.hid (Y1.out.below hb Y1.out.lt); replace HX := Lib.hid (HX.out.below hb); replace HY := Lib.hid (HY.out.below hb); replace P10 := Lib.hid (P10.out.below hb); replace P11 := Lib.hid (P11.out.below hb); replace U10 := Lib.hid (U10.out.below hb U10.out.lt); replace U11 := Lib.hid (U11.out.below hb U11.out.lt); replace BL := Lib.hid (BL.out.trans (hb.mono BL.out.size)); have P12 := Lib.hid (WpS.lower ho SZ.out); have P13 := Lib.hid (WpS.lower ho2 SZ.out); have P14 := Lib.hid (WpS.lower ho3 SZ.out); clear ho ho2 ho3 SZ; clear hb; have pc6 := Lib.hid trivial))
  clear pc6
  obtain ⟨hb, U12, U13, U14⟩ := begin3 w5 s12 R12 n12 c12 s13 R13 n13 c13 s14 R14 n14 c14
  generalize hg : w5.heap.size = ge at U12 U13 U14 ⊢
  generalize (((w5.alloc (.cells #[.bool s12, .slice R12 n12 c12] 24)).alloc (.cells #[.bool s13, .slice R13 n13 c13] 24)).alloc (.cells #[.bool s14, .slice R14 n14 c14] 24)) = w6 at *
  replace hb := hb.out
  replace X1 := Lib.hid (X1.out.below hb X1.out.lt)
  replace Y1 := Lib.hid (Y1.out.below hb Y1.out.lt)
  replace HX := Lib.hid (HX.out.below hb)
  replace HY := Lib.hid (HY.out.below hb)
  replace P10 := Lib.hid (P10.out.below hb)
  replace P11 := Lib.hid (P11.out.below hb)
  replace U10 := Lib.hid (U10.out.below hb U10.out.lt)
  replace U11 := Lib.hid (U11.out.below hb U11.out.lt)
  replace P12 := Lib.hid (P12.out.below hb)
  replace P13 := Lib.hid (P13.out.below hb)
  replace P14 := Lib.hid (P14.out.below hb)
  replace BL := Lib.hid (BL.out.trans (hb.mono BL.out.size))
  clear hb hg
  have hb := below_drewN w6.heap.size w6 1
  replace X1 := Lib.hid (X1.out.below hb X1.out.lt)
  replace Y1 := Lib.hid (Y1.out.below hb Y1.out.lt)
  replace HX := Lib.hid (HX.out.below hb)
  replace HY := Lib.hid (HY.out.below hb)
  replace P10 := Lib.hid (P10.out.below hb)
  replace P11 := Lib.hid (P11.out.below hb)
  replace U10 := Lib.hid (U10.out.below hb U10.out.lt)
  replace U11 := Lib.hid (U11.out.below hb U11.out.lt)
  replace P12 := Lib.hid (P12.out.below hb)
  replace P13 := Lib.hid (P13.out.below hb)
  replace P14 := Lib.hid (P14.out.below hb)
  replace U12 := Lib.hid (U12.out.below hb U12.out.lt)
  replace U13 := Lib.hid (U13.out.below hb U13.out.lt)
  replace U14 := Lib.hid (U14.out.below hb U14.out.lt)
  replace BL := Lib.hid (BL.out.trans (hb.mono BL.out.size))
  clear hb
  refine wp_region_held_drew (S := fun w' => Zb w' g12 s (some ⟨g5, 0, none⟩) n (n + 3) ∧ Zb w' g13 t (some ⟨g11, 0, none⟩) m (m + 3) ∧ Zb w' gq s10 R10 n10 c10 ∧ Zb w' (gq + 1) s11 R11 n11 c11 ∧ Zb w' ge s12 R12 n12 c12 ∧ Zb w' (ge + 1) s13 R13 n13 c13 ∧ Zb w' (ge + 2) s14 R14 n14 c14) (by kernel_rfl) ⟨X1.out, Y1.out, U10.out, U11.out, U12.out, U13.out, U14.out⟩ (fun hHeld => ?_)
  refine wpAnyH_takeL (i := 0) (oi := _) rfl (by kernel_rfl) (by kernel_rfl) (by kernel_rfl) (fun _ _ _ h => h) (yields_ldZ (by rfl) _ rfl (by rfl) (fun _ hS => hS.1)) hHeld ?_
  try simp only [Act.put, List.setIfInBounds_toArray, List.set_cons_zero, List.set_cons_succ]
  refine wpAnyH_takeL (i := 2) (oi := _) rfl (by kernel_rfl) (by kernel_rfl) (by kernel_rfl) (fun _ _ _ h => h) (yields_ldZ (by rfl) _ rfl (by rfl) (fun _ hS => hS.1)) hHeld ?_
  try simp only [Act.put, List.setIfInBounds_toArray, List.set_cons_zero, List.set_cons_succ]
  refine wpAnyH_takeL (i := 4) (oi := _) rfl (by kernel_rfl) (by kernel_rfl) (by kernel_rfl) (fun _ _ _ h => h) (yields_ldZ (by rfl) _ rfl (by rfl) (fun _ hS => hS.1)) hHeld ?_
  try simp only [Act.put, List.setIfInBounds_toArray, List.set_cons_zero, List.set_cons_succ]
  refine wpAnyH_takeL (i := 6) (oi := _) rfl (by kernel_rfl) (by kernel_rfl) (by kernel_rfl) (fun _ _ _ h => h) (yields_ldZ (by rfl) _ rfl (by rfl) (fun _ hS => hS.1)) hHeld ?_
  try simp only [Act.put, List.setIfInBounds_toArray, List.set_cons_zero, List.set_cons_succ]
  refine wpAnyH_takeL (i := 7) (oi := _) rfl (by kernel_rfl) (by kernel_rfl) (by kernel_rfl) (fun _ _ _ h => h) (yields_ldZ (by rfl) _ rfl (by rfl) (fun _ hS => hS.2.1)) hHeld ?_
  try simp only [Act.put, List.setIfInBounds_toArray, List.set_cons_zero, List.set_cons_succ]
  refine wpAnyH_takeL (i := 9) (oi := _) rfl (by kernel_rfl) (by kernel_rfl) (by kernel_rfl) (fun _ _ _ h => h) (yields_ldZ (by rfl) _ rfl (by rfl) (fun _ hS => hS.1)) hHeld ?_
  try simp only [Act.put, List.setIfInBounds_toArray, List.set_cons_zero, List.set_cons_succ]
  refine wpAnyH_takeL (i := 10) (oi := _) (v := ?_) rfl (by kernel_rfl) (by kernel_rfl) (by kernel_rfl) (fun _ _ _ h => h) (Or.inl ⟨by rfl, ?_⟩) hHeld ?_
  rotate_left
  · (intro w' hSw; (try dsimp only at hSw); go_simp; try (with_reducible rfl))
  try simp only [Act.put, List.setIfInBounds_toArray, List.set_cons_zero, List.set_cons_succ]
  refine wpAnyH_takeL (i := 12) (oi := _) rfl (by kernel_rfl) (by kernel_rfl) (by kernel_rfl) (fun _ _ _ h => h) (yields_ldZ (by rfl) _ rfl (by rfl) (fun _ hS => hS.1)) hHeld ?_
  try simp only [Act.put, List.setIfInBounds_toArray, List.set_cons_zero, List.set_cons_succ]
  refine wpAnyH_takeL (i := 13) (oi := _) rfl (by kernel_rfl) (by kernel_rfl) (by kernel_rfl) (fun _ _ _ h => h) (yields_ldZ (by rfl) _ rfl (by rfl) (fun _ hS => hS.2.1)) hHeld ?_
  try simp only [Act.put, List.setIfInBounds_toArray, List.set_cons_zero, List.set_cons_succ]
  refine wpAnyH_takeL (i := 15) (oi := _) rfl (by kernel_rfl) (by kernel_rfl) (by kernel_rfl) (fun _ _ _ h => h) (yields_ldZ (by rfl) _ rfl (by rfl) (fun _ hS => hS.1)) hHeld ?_
  try simp only [Act.put, List.setIfInBounds_toArray, List.set_cons_zero, List.set_cons_succ]
  refine wpAnyH_takeL (i := 16) (oi := _) rfl (by kernel_rfl) (by kernel_rfl) (by kernel_rfl) (fun _ _ _ h => h) (yields_ldZ (by rfl) _ rfl (by rfl) (fun _ hS => hS.2.1)) hHeld ?_
  try simp only [Act.put, List.setIfInBounds_toArray, List.set_cons_zero, List.set_cons_succ]
  refine wpAnyH_takeL (i := 18) (oi := _) rfl (by kernel_rfl) (by kernel_rfl) (by kernel_rfl) (fun _ _ _ h => h) (yields_ldZ (by rfl) _ rfl (by rfl) (fun _ hS => hS.1)) hHeld ?_
  try simp only [Act.put, List.setIfInBounds_toArray, List.set_cons_zero, List.set_cons_succ]
  refine wpAnyH_takeL (i := 19) (oi := _) rfl (by kernel_rfl) (by kernel_rfl) (by kernel_rfl) (fun _ _ _ h => h) (yields_ldZ (by rfl) _ rfl (by rfl) (fun _ hS => hS.2.1)) hHeld ?_
  try simp only [Act.put, List.setIfInBounds_toArray, List.set_cons_zero, List.set_cons_succ]
  refine wpAnyH_takeL (i := 21) (oi := _) rfl (by kernel_rfl) (by kernel_rfl) (by kernel_rfl) (fun _ _ _ h => h) (yields_ldZ (by rfl) _ rfl (by rfl) (fun _ hS => hS.1)) hHeld ?_
  try simp only [Act.put, List.setIfInBounds_toArray, List.set_cons_zero, List.set_cons_succ]
  refine wpAnyH_takeL (i := 22) (oi := _) (v := ?_) rfl (by kernel_rfl) (by kernel_rfl) (by kernel_rfl) (fun _ _ _ h => h) (Or.inl ⟨by rfl, ?_⟩) hHeld ?_
  rotate_left
  · (intro w' hSw; (try dsimp only at hSw); go_simp; try (with_reducible rfl))
  try simp only [Act.put, List.setIfInBounds_toArray, List.set_cons_zero, List.set_cons_succ]
  refine wpAnyH_takeL (i := 24) (oi := _) rfl (by kernel_rfl) (by kernel_rfl) (by kernel_rfl) (fun _ _ _ h => h) (yields_ldZ (by rfl) _ rfl (by rfl) (fun _ hS => hS.2.2.1)) hHeld ?_
  try simp only [Act.put, List.setIfInBounds_toArray, List.set_cons_zero, List.set_cons_succ]
  refine wpAnyH_takeL (i := 25) (oi := _) rfl (by kernel_rfl) (by kernel_rfl) (by kernel_rfl) (fun _ _ _ h => h) (yields_ldZ (by rfl) _ rfl (by rfl) (fun _ hS => hS.2.2.2.1)) hHeld ?_
  try simp only [Act.put, List.setIfInBounds_toArray, List.set_cons_zero, List.set_cons_succ]
  refine wpAnyH_takeL (i := 26) (oi := _) rfl (by kernel_rfl) (by kernel_rfl) (by kernel_rfl) (fun _ _ _ h => h) (yields_ldZ (by rfl) _ rfl (by rfl) (fun _ hS => hS.2.2.2.2.1)) hHeld ?_
  try simp only [Act.put, List.setIfInBounds_toArray, List.set_cons_zero, List.set_cons_succ]
  refine wpAnyH_takeL (i := 27) (oi := _) rfl (by kernel_rfl) (by kernel_rfl) (by kernel_rfl) (fun _ _ _ h => h) (yields_ldZ (by rfl) _ rfl (by rfl) (fun _ hS => hS.2.2.2.2.2.1)) hHeld ?_
  try simp only [Act.put, List.setIfInBounds_toArray, List.set_cons_zero, List.set_cons_succ]
  refine wpAnyH_takeL (i := 28) (oi := _) rfl (by kernel_rfl) (by kernel_rfl) (by kernel_rfl) (fun _ _ _ h => h) (yields_ldZ (by rfl) _ rfl (by rfl) (fun _ hS => hS.2.2.2.2.2.2)) hHeld ?_
  try simp only [Act.put, List.setIfInBounds_toArray, List.set_cons_zero, List.set_cons_succ]
  refine wpAnyH_takeL (i := 31) (oi := _) (v := ?_) rfl (by kernel_rfl) (by kernel_rfl) (by kernel_rfl) (fun _ _ _ h => h) (Or.inl ⟨by rfl, ?_⟩) hHeld ?_
  rotate_left
  · (intro w' hSw; (try dsimp only at hSw); go_simp; try (with_reducible rfl))
  try simp only [Act.put, List.setIfInBounds_toArray, List.set_cons_zero, List.set_cons_succ]
  refine wpAnyH_ready (rs := [1]) (by kernel_rfl) (by simp) ?_
  refine AllReadyH.consL (o := _) rfl (fun K hK => ?_) AllReadyH.nil
  clear hHeld
  have SZ := Lib.hid BL.out.size
  go_simp
  go_at_call 7
  refine Calls.mono ((nrm_z (x := x) (z := x) HX.out (by have := LN.out; omega) rfl).mono fun _ _ h => h.loose) ?_
  rintro e wa1 ⟨s1, R1, n1, c1, rfl, ho, hb⟩
  replace X1 := Lib.hid (X1.out.below hb X1.out.lt)
  replace Y1 := Lib.hid (Y1.out.below hb Y1.out.lt)
  replace HX := Lib.hid (HX.out.below hb)
  replace HY := Lib.hid (HY.out.below hb)
  replace P10 := Lib.hid (P10.out.below hb)
  replace P11 := Lib.hid (P11.out.below hb)
  replace U10 := Lib.hid (U10.out.below hb U10.out.lt)
  replace U11 := Lib.hid (U11.out.below hb U11.out.lt)
  replace P12 := Lib.hid (P12.out.below hb)
  replace P13 := Lib.hid (P13.out.below hb)
  replace P14 := Lib.hid (P14.out.below hb)
  replace U12 := Lib.hid (U12.out.below hb U12.out.lt)
  replace U13 := Lib.hid (U13.out.below hb U13.out.lt)
  replace U14 := Lib.hid (U14.out.below hb U14.out.lt)
  replace BL := Lib.hid (BL.out.trans (hb.mono BL.out.size))
  have P1 := Lib.hid (WpS.lower ho SZ.out)
  clear ho SZ
  clear hb
  refine hK.out _ _ ⟨X1.out, Y1.out, U10.out, U11.out, U12.out, U13.out, U14.out⟩ (fun hHeld => ?_)
  clear hK K
  try simp only [Act.put, List.setIfInBounds_toArray, List.set_cons_zero, List.set_cons_succ]
  refine wpAnyH_ready (rs := [3]) (by kernel_rfl) (by simp) ?_
  refine AllReadyH.consL (o := _) rfl (fun K hK => ?_) AllReadyH.nil
  clear hHeld
  have SZ := Lib.hid BL.out.size
  go_simp
  go_at_call 8
  refine Calls.mono ((neg_z (x := x) (z := -x) HX.out (by have := LN.out; omega) rfl).mono fun _ _ h => h.loose) ?_
  rintro e wa2 ⟨s2, R2, n2, c2, rfl, ho, hb⟩
  replace X1 := Lib.hid (X1.out.below hb X1.out.lt)
  replace Y1 := Lib.hid (Y1.out.below hb Y1.out.lt)
  replace HX := Lib.hid (HX.out.below hb)
  replace HY := Lib.hid (HY.out.below hb)
  replace P10 := Lib.hid (P10.out.below hb)
  replace P11 := Lib.hid (P11.out.below hb)
  replace U10 := Lib.hid (U10.out.below hb U10.out.lt)
  replace U11 := Lib.hid (U11.out.below hb U11.out.lt)
  replace P12 := Lib.hid (P12.out.below hb)
  replace P13 := Lib.hid (P13.out.below hb)
  replace P14 := Lib.hid (P14.out.below hb)
  replace U12 := Lib.hid (U12.out.below hb U12.out.lt)
  replace U13 := Lib.hid (U13.out.below hb U13.out.lt)
  replace U14 := Lib.hid (U14.out.below hb U14.out.lt)
  replace P1 := Lib.hid (P1.out.below hb)
  replace BL := Lib.hid (BL.out.trans (hb.mono BL.out.size))
  have P2 := Lib.hid (WpS.lower ho SZ.out)
  clear ho SZ
  clear hb
  refine hK.out _ _ ⟨X1.out, Y1.out, U10.out, U11.out, U12.out, U13.out, U14.out⟩ (fun hHeld => ?_)
  clear hK K
  try simp only [Act.put, List.setIfInBounds_toArray, List.set_cons_zero, List.set_cons_succ]
  refine wpAnyH_ready (rs := [5]) (by kernel_rfl) (by simp) ?_
  refine AllReadyH.consL (o := _) rfl (fun K hK => ?_) AllReadyH.nil
  clear hHeld
  have SZ := Lib.hid BL.out.size
  go_simp
  go_at_call 9
  refine Calls.mono ((abs_z (x := x) (z := ((x.natAbs : Nat) : Int)) HX.out (by have := LN.out; omega) rfl).mono fun _ _ h => h.loose) ?_
  rintro e wa3 ⟨s3, R3, n3, c3, rfl, ho, hb⟩
  replace X1 := Lib.hid (X1.out.below hb X1.out.lt)
  replace Y1 := Lib.hid (Y1.out.below hb Y1.out.lt)
  replace HX := Lib.hid (HX.out.below hb)
  replace HY := Lib.hid (HY.out.below hb)
  replace P10 := Lib.hid (P10.out.below hb)
  replace P11 := Lib.hid (P11.out.below hb)
  replace U10 := Lib.hid (U10.out.below hb U10.out.lt)
  replace U11 := Lib.hid (U11.out.below hb U11.out.lt)
  replace P12 := Lib.hid (P12.out.below hb)
  replace P13 := Lib.hid (P13.out.below hb)
  replace P14 := Lib.hid (P14.out.below hb)
  replace U12 := Lib.hid (U12.out.below hb U12.out.lt)
  replace U13 := Lib.hid (U13.out.below hb U13.out.lt)
  replace U14 := Lib.hid (U14.out.below hb U14.out.lt)
  replace P1 := Lib.hid (P1.out.below hb)
  replace P2 := Lib.hid (P2.out.below hb)
  replace BL := Lib.hid (BL.out.trans (hb.mono BL.out.size))
  have P3 := Lib.hid (WpS.lower ho SZ.out)
  clear ho SZ
  clear hb
  refine hK.out _ _ ⟨X1.out, Y1.out, U10.out, U11.out, U12.out, U13.out, U14.out⟩ (fun hHeld => ?_)
  clear hK K
  try simp only [Act.put, List.setIfInBounds_toArray, List.set_cons_zero, List.set_cons_succ]
  refine wpAnyH_ready (rs := [8]) (by kernel_rfl) (by simp) ?_
  refine AllReadyH.consL (o := _) rfl (fun K hK => ?_) AllReadyH.nil
  clear hHeld
  have SZ := Lib.hid BL.out.size
  go_simp
  go_at_call 10
  refine Calls.mono ((add_z (x := x) (y := y) (z := x + y) HX.out HY.out (by have := LN.out; omega) (by have := LM.out; omega) rfl).mono fun _ _ h => h.loose) ?_
  rintro e wa4 ⟨s4, R4, n4, c4, rfl, ho, hb⟩
  replace X1 := Lib.hid (X1.out.below hb X1.out.lt)
  replace Y1 := Lib.hid (Y1.out.below hb Y1.out.lt)
  replace HX := Lib.hid (HX.out.below hb)
  replace HY := Lib.hid (HY.out.below hb)
  replace P10 := Lib.hid (P10.out.below hb)
  replace P11 := Lib.hid (P11.out.below hb)
  replace U10 := Lib.hid (U10.out.below hb U10.out.lt)
  replace U11 := Lib.hid (U11.out.below hb U11.out.lt)
  replace P12 := Lib.hid (P12.out.below hb)
  replace P13 := Lib.hid (P13.out.below hb)
  replace P14 := Lib.hid (P14.out.below hb)
  replace U12 := Lib.hid (U12.out.below hb U12.out.lt)
  replace U13 := Lib.hid (U13.out.below hb U13.out.lt)
  replace U14 := Lib.hid (U14.out.below hb U14.out.lt)
  replace P1 := Lib.hid (P1.out.below hb)
  replace P2 := Lib.hid (P2.out.below hb)
  replace P3 := Lib.hid (P3.out.below hb)
  replace BL := Lib.hid (BL.out.trans (hb.mono BL.out.size))
  have P4 := Lib.hid (WpS.lower ho SZ.out)
  clear ho SZ
  clear hb
  refine hK.out _ _ ⟨X1.out, Y1.out, U10.out, U11.out, U12.out, U13.out, U14.out⟩ (fun hHeld => ?_)
  clear hK K
  try simp only [Act.put, List.setIfInBounds_toArray, List.set_cons_zero, List.set_cons_succ]
  refine wpAnyH_ready (rs := [11]) (by kernel_rfl) (by simp) ?_
  refine AllReadyH.consL (o := _) rfl (fun K hK => ?_) AllReadyH.nil
  clear hHeld
  have SZ := Lib.hid BL.out.size
  go_simp
  go_at_call 10
  refine Calls.mono ((add_z (x := x) (y := 0) (z := x + 0) HX.out ⟨[], Rd.nil _ none, rfl, rfl⟩ (by have := LN.out; omega) (by simp) rfl).mono fun _ _ h => h.loose) ?_
  rintro e wa5 ⟨s5, R5, n5, c5, rfl, ho, hb⟩
  replace X1 := Lib.hid (X1.out.below hb X1.out.lt)
  replace Y1 := Lib.hid (Y1.out.below hb Y1.out.lt)
  replace HX := Lib.hid (HX.out.below hb)
  replace HY := Lib.hid (HY.out.below hb)
  replace P10 := Lib.hid (P10.out.below hb)
  replace P11 := Lib.hid (P11.out.below hb)
  replace U10 := Lib.hid (U10.out.below hb U10.out.lt)
  replace U11 := Lib.hid (U11.out.below hb U11.out.lt)
  replace P12 := Lib.hid (P12.out.below hb)
  replace P13 := Lib.hid (P13.out.below hb)
  replace P14 := Lib.hid (P14.out.below hb)
  replace U12 := Lib.hid (U12.out.below hb U12.out.lt)
  replace U13 := Lib.hid (U13.out.below hb U13.out.lt)
  replace U14 := Lib.hid (U14.out.below hb U14.out.lt)
  replace P1 := Lib.hid (P1.out.below hb)
  replace P2 := Lib.hid (P2.out.below hb)
  replace P3 := Lib.hid (P3.out.below hb)
  replace P4 := Lib.hid (P4.out.below hb)
  replace BL := Lib.hid (BL.out.trans (hb.mono BL.out.size))
  have P5 := Lib.hid (WpS.lower ho SZ.out)
  clear ho SZ
  clear hb
  refine hK.out _ _ ⟨X1.out, Y1.out, U10.out, U11.out, U12.out, U13.out, U14.out⟩ (fun hHeld => ?_)
  clear hK K
  try simp only [Act.put, List.setIfInBounds_toArray, List.set_cons_zero, List.set_cons_succ]
  refine wpAnyH_ready (rs := [14]) (by kernel_rfl) (by simp) ?_
  refine AllReadyH.consL (o := _) rfl (fun K hK => ?_) AllReadyH.nil
  clear hHeld
  have SZ := Lib.hid BL.out.size
  go_simp
  go_at_call 11
  refine Calls.mono ((sub_z (x := x) (y := y) (z := x - y) HX.out HY.out (by have := LN.out; omega) (by have := LM.out; omega) rfl).mono fun _ _ h => h.loose) ?_
  rintro e wa6 ⟨s6, R6, n6, c6, rfl, ho, hb⟩
  replace X1 := Lib.hid (X1.out.below hb X1.out.lt)
  replace Y1 := Lib.hid (Y1.out.below hb Y1.out.lt)
  replace HX := Lib.hid (HX.out.below hb)
  replace HY := Lib.hid (HY.out.below hb)
  replace P10 := Lib.hid (P10.out.below hb)
  replace P11 := Lib.hid (P11.out.below hb)
  replace U10 := Lib.hid (U10.out.below hb U10.out.lt)
  replace U11 := Lib.hid (U11.out.below hb U11.out.lt)
  replace P12 := Lib.hid (P12.out.below hb)
  replace P13 := Lib.hid (P13.out.below hb)
  replace P14 := Lib.hid (P14.out.below hb)
  replace U12 := Lib.hid (U12.out.below hb U12.out.lt)
  replace U13 := Lib.hid (U13.out.below hb U13.out.lt)
  replace U14 := Lib.hid (U14.out.below hb U14.out.lt)
  replace P1 := Lib.hid (P1.out.below hb)
  replace P2 := Lib.hid (P2.out.below hb)
  replace P3 := Lib.hid (P3.out.below hb)
  replace P4 := Lib.hid (P4.out.below hb)
  replace P5 := Lib.hid (P5.out.below hb)
  replace BL := Lib.hid (BL.out.trans (hb.mono BL.out.size))
  have P6 := Lib.hid (WpS.lower ho SZ.out)
  clear ho SZ
  clear hb
  refine hK.out _ _ ⟨X1.out, Y1.out, U10.out, U11.out, U12.out, U13.out, U14.out⟩ (fun hHeld => ?_)
  clear hK K
  try simp only [Act.put, List.setIfInBounds_toArray, List.set_cons_zero, List.set_cons_succ]
  refine wpAnyH_ready (rs := [17]) (by kernel_rfl) (by simp) ?_
  refine AllReadyH.consL (o := _) rfl (fun K hK => ?_) AllReadyH.nil
  clear hHeld
  have SZ := Lib.hid BL.out.size
  go_simp
  go_at_call 12
  refine Calls.mono ((mul_z (x := x) (y := y) (z := x * y) HX.out HY.out (by have := LN.out; have := LM.out; omega) rfl).mono fun _ _ h => h.loose) ?_
  rintro e wa7 ⟨s7, R7, n7, c7, rfl, ho, hb⟩
  replace X1 := Lib.hid (X1.out.below hb X1.out.lt)
  replace Y1 := Lib.hid (Y1.out.below hb Y1.out.lt)
  replace HX := Lib.hid (HX.out.below hb)
  replace HY := Lib.hid (HY.out.below hb)
  replace P10 := Lib.hid (P10.out.below hb)
  replace P11 := Lib.hid (P11.out.below hb)
  replace U10 := Lib.hid (U10.out.below hb U10.out.lt)
  replace U11 := Lib.hid (U11.out.below hb U11.out.lt)
  replace P12 := Lib.hid (P12.out.below hb)
  replace P13 := Lib.hid (P13.out.below hb)
  replace P14 := Lib.hid (P14.out.below hb)
  replace U12 := Lib.hid (U12.out.below hb U12.out.lt)
  replace U13 := Lib.hid (U13.out.below hb U13.out.lt)
  replace U14 := Lib.hid (U14.out.below hb U14.out.lt)
  replace P1 := Lib.hid (P1.out.below hb)
  replace P2 := Lib.hid (P2.out.below hb)
  replace P3 := Lib.hid (P3.out.below hb)
  replace P4 := Lib.hid (P4.out.below hb)
  replace P5 := Lib.hid (P5.out.below hb)
  replace P6 := Lib.hid (P6.out.below hb)
  replace BL := Lib.hid (BL.out.trans (hb.mono BL.out.size))
  have P7 := Lib.hid (WpS.lower ho SZ.out)
  clear ho SZ
  clear hb
  refine hK.out _ _ ⟨X1.out, Y1.out, U10.out, U11.out, U12.out, U13.out, U14.out⟩ (fun hHeld => ?_)
  clear hK K
  try simp only [Act.put, List.setIfInBounds_toArray, List.set_cons_zero, List.set_cons_succ]
  refine wpAnyH_ready (rs := [20]) (by kernel_rfl) (by simp) ?_
  refine AllReadyH.consL (o := _) rfl (fun K hK => ?_) AllReadyH.nil
  clear hHeld
  have SZ := Lib.hid BL.out.size
  go_simp
  go_at_call 13
  refine Calls.mono ((gcd_z (x := x) (y := y) (z := ((Int.gcd x y : Nat) : Int)) HX.out HY.out (by have := LN.out; omega) (by have := LM.out; omega) rfl).mono fun _ _ h => h.loose) ?_
  rintro e wa8 ⟨s8, R8, n8, c8, rfl, ho, hb⟩
  replace X1 := Lib.hid (X1.out.below hb X1.out.lt)
  replace Y1 := Lib.hid (Y1.out.below hb Y1.out.lt)
  replace HX := Lib.hid (HX.out.below hb)
  replace HY := Lib.hid (HY.out.below hb)
  replace P10 := Lib.hid (P10.out.below hb)
  replace P11 := Lib.hid (P11.out.below hb)
  replace U10 := Lib.hid (U10.out.below hb U10.out.lt)
  replace U11 := Lib.hid (U11.out.below hb U11.out.lt)
  replace P12 := Lib.hid (P12.out.below hb)
  replace P13 := Lib.hid (P13.out.below hb)
  replace P14 := Lib.hid (P14.out.below hb)
  replace U12 := Lib.hid (U12.out.below hb U12.out.lt)
  replace U13 := Lib.hid (U13.out.below hb U13.out.lt)
  replace U14 := Lib.hid (U14.out.below hb U14.out.lt)
  replace P1 := Lib.hid (P1.out.below hb)
  replace P2 := Lib.hid (P2.out.below hb)
  replace P3 := Lib.hid (P3.out.below hb)
  replace P4 := Lib.hid (P4.out.below hb)
  replace P5 := Lib.hid (P5.out.below hb)
  replace P6 := Lib.hid (P6.out.below hb)
  replace P7 := Lib.hid (P7.out.below hb)
  replace BL := Lib.hid (BL.out.trans (hb.mono BL.out.size))
  have P8 := Lib.hid (WpS.lower ho SZ.out)
  clear ho SZ
  clear hb
  refine hK.out _ _ ⟨X1.out, Y1.out, U10.out, U11.out, U12.out, U13.out, U14.out⟩ (fun hHeld => ?_)
  clear hK K
  try simp only [Act.put, List.setIfInBounds_toArray, List.set_cons_zero, List.set_cons_succ]
  refine wpAnyH_ready (rs := [23]) (by kernel_rfl) (by simp) ?_
  refine AllReadyH.consL (o := _) rfl (fun K hK => ?_) AllReadyH.nil
  clear hHeld
  have SZ := Lib.hid BL.out.size
  go_simp
  go_at_call 13
  refine Calls.mono ((gcd_z (x := x) (y := 0) (z := ((Int.gcd x 0 : Nat) : Int)) HX.out ⟨[], Rd.nil _ none, rfl, rfl⟩ (by have := LN.out; omega) (by simp) rfl).mono fun _ _ h => h.loose) ?_
  rintro e wa9 ⟨s9, R9, n9, c9, rfl, ho, hb⟩
  replace X1 := Lib.hid (X1.out.below hb X1.out.lt)
  replace Y1 := Lib.hid (Y1.out.below hb Y1.out.lt)
  replace HX := Lib.hid (HX.out.below hb)
  replace HY := Lib.hid (HY.out.below hb)
  replace P10 := Lib.hid (P10.out.below hb)
  replace P11 := Lib.hid (P11.out.below hb)
  replace U10 := Lib.hid (U10.out.below hb U10.out.lt)
  replace U11 := Lib.hid (U11.out.below hb U11.out.lt)
  replace P12 := Lib.hid (P12.out.below hb)
  replace P13 := Lib.hid (P13.out.below hb)
  replace P14 := Lib.hid (P14.out.below hb)
  replace U12 := Lib.hid (U12.out.below hb U12.out.lt)
  replace U13 := Lib.hid (U13.out.below hb U13.out.lt)
  replace U14 := Lib.hid (U14.out.below hb U14.out.lt)
  replace P1 := Lib.hid (P1.out.below hb)
  replace P2 := Lib.hid (P2.out.below hb)
  replace P3 := Lib.hid (P3.out.below hb)
  replace P4 := Lib.hid (P4.out.below hb)
  replace P5 := Lib.hid (P5.out.below hb)
  replace P6 := Lib.hid (P6.out.below hb)
  replace P7 := Lib.hid (P7.out.below hb)
  replace P8 := Lib.hid (P8.out.below hb)
  replace BL := Lib.hid (BL.out.trans (hb.mono BL.out.size))
  have P9 := Lib.hid (WpS.lower ho SZ.out)
  clear ho SZ
  clear hb
  refine hK.out _ _ ⟨X1.out, Y1.out, U10.out, U11.out, U12.out, U13.out, U14.out⟩ (fun hHeld => ?_)
  clear hK K
  try simp only [Act.put, List.setIfInBounds_toArray, List.set_cons_zero, List.set_cons_succ]
  refine wpAnyH_ready (rs := [29]) (by kernel_rfl) (by simp) ?_
  refine AllReadyH.consL (o := _) rfl (fun K hK => ?_) AllReadyH.nil
  clear hHeld
  go_simp
  have hb : Below wa9.heap.size wa9 (wa9.alloc (.cells #[.bool s1, .slice R1 n1 c1, .bool s2, .slice R2 n2 c2, .bool s3, .slice R3 n3 c3, .bool s4, .slice R4 n4 c4, .bool s5, .slice R5 n5 c5, .bool s6, .slice R6 n6 c6, .bool s7, .slice R7 n7 c7, .bool s8, .slice R8 n8 c8, .bool s9, .slice R9 n9 c9, .bool s10, .slice R10 n10 c10, .bool s11, .slice R11 n11 c11, .bool s12, .slice R12 n12 c12, .bool s13, .slice R13 n13 c13, .bool s14, .slice R14 n14 c14] 24)) := (Below.refl _ _).alloc (Nat.le_refl _) _
  have CH := Lib.hid (heap_alloc_new wa9 (.cells #[.bool s1, .slice R1 n1 c1, .bool s2, .slice R2 n2 c2, .bool s3, .slice R3 n3 c3, .bool s4, .slice R4 n4 c4, .bool s5, .slice R5 n5 c5, .bool s6, .slice R6 n6 c6, .bool s7, .slice R7 n7 c7, .bool s8, .slice R8 n8 c8, .bool s9, .slice R9 n9 c9, .bool s10, .slice R10 n10 c10, .bool s11, .slice R11 n11 c11, .bool s12, .slice R12 n12 c12, .bool s13, .slice R13 n13 c13, .bool s14, .slice R14 n14 c14] 24))
  generalize wa9.alloc (.cells #[.bool s1, .slice R1 n1 c1, .bool s2, .slice R2 n2 c2, .bool s3, .slice R3 n3 c3, .bool s4, .slice R4 n4 c4, .bool s5, .slice R5 n5 c5, .bool s6, .slice R6 n6 c6, .bool s7, .slice R7 n7 c7, .bool s8, .slice R8 n8 c8, .bool s9, .slice R9 n9 c9, .bool s10, .slice R10 n10 c10, .bool s11, .slice R11 n11 c11, .bool s12, .slice R12 n12 c12, .bool s13, .slice R13 n13 c13, .bool s14, .slice R14 n14 c14] 24) = wh at *
  replace X1 := Lib.hid (X1.out.below hb X1.out.lt)
  replace Y1 := Lib.hid (Y1.out.below hb Y1.out.lt)
  replace HX := Lib.hid (HX.out.below hb)
  replace HY := Lib.hid (HY.out.below hb)
  replace P10 := Lib.hid (P10.out.below hb)
  replace P11 := Lib.hid (P11.out.below hb)
  replace U10 := Lib.hid (U10.out.below hb U10.out.lt)
  replace U11 := Lib.hid (U11.out.below hb U11.out.lt)
  replace P12 := Lib.hid (P12.out.below hb)
  replace P13 := Lib.hid (P13.out.below hb)
  replace P14 := Lib.hid (P14.out.below hb)
  replace U12 := Lib.hid (U12.out.below hb U12.out.lt)
  replace U13 := Lib.hid (U13.out.below hb U13.out.lt)
  replace U14 := Lib.hid (U14.out.below hb U14.out.lt)
  replace P1 := Lib.hid (P1.out.below hb)
  replace P2 := Lib.hid (P2.out.below hb)
  replace P3 := Lib.hid (P3.out.below hb)
  replace P4 := Lib.hid (P4.out.below hb)
  replace P5 := Lib.hid (P5.out.below hb)
  replace P6 := Lib.hid (P6.out.below hb)
  replace P7 := Lib.hid (P7.out.below hb)
  replace P8 := Lib.hid (P8.out.below hb)
  replace P9 := Lib.hid (P9.out.below hb)
  replace BL := Lib.hid (BL.out.trans (hb.mono BL.out.size))
  clear hb
  generalize wa9.heap.size = gh at *
  refine hK.out _ _ ⟨X1.out, Y1.out, U10.out, U11.out, U12.out, U13.out, U14.out⟩ (fun hHeld => ?_)
  clear hK K
  try simp only [Act.put, List.setIfInBounds_toArray, List.set_cons_zero, List.set_cons_succ]
  refine wpAnyH_takeL (i := 30) (oi := _) (v := ?_) rfl (by kernel_rfl) (by kernel_rfl) (by kernel_rfl) (fun _ _ _ h => h) (Or.inl ⟨by rfl, ?_⟩) hHeld ?_
  rotate_left
  · (intro w' hSw; (try dsimp only at hSw); go_simp; try (with_reducible rfl))
  try simp only [Act.put, List.setIfInBounds_toArray, List.set_cons_zero, List.set_cons_succ]
  clear hHeld
  refine wpAnyH_done (by kernel_rfl) ?_ _
  go_wp2_with fail
  obtain ⟨cs, ecs⟩ : ∃ z0 : Array Value, #[.bool s1, .slice R1 n1 c1, .bool s2, .slice R2 n2 c2, .bool s3, .slice R3 n3 c3, .bool s4, .slice R4 n4 c4, .bool s5, .slice R5 n5 c5, .bool s6, .slice R6 n6 c6, .bool s7, .slice R7 n7 c7, .bool s8, .slice R8 n8 c8, .bool s9, .slice R9 n9 c9, .bool s10, .slice R10 n10 c10, .bool s11, .slice R11 n11 c11, .bool s12, .slice R12 n12 c12, .bool s13, .slice R13 n13 c13, .bool s14, .slice R14 n14 c14] = z0 := ⟨_, rfl⟩
  replace CH : Hid (wh.heap[gh]? = some (.cells cs 24 (0, 0))) := by rw [← ecs]; exact CH
  have CELL : Hid (∀ k, k < 14 → ∃ s R n c, cs[k * 2]? = some (.bool s) ∧ cs[k * 2 + 1]? = some (.slice R n c) ∧ WpS wh ws1.heap.size R n c) := by
    intro k hk
    rw [← ecs]
    match k, hk with
    | 0, _ => exact ⟨_, _, _, _, rfl, rfl, P1.out⟩
    | 1, _ => exact ⟨_, _, _, _, rfl, rfl, P2.out⟩
    | 2, _ => exact ⟨_, _, _, _, rfl, rfl, P3.out⟩
    | 3, _ => exact ⟨_, _, _, _, rfl, rfl, P4.out⟩
    | 4, _ => exact ⟨_, _, _, _, rfl, rfl, P5.out⟩
    | 5, _ => exact ⟨_, _, _, _, rfl, rfl, P6.out⟩
    | 6, _ => exact ⟨_, _, _, _, rfl, rfl, P7.out⟩
    | 7, _ => exact ⟨_, _, _, _, rfl, rfl, P8.out⟩
    | 8, _ => exact ⟨_, _, _, _, rfl, rfl, P9.out⟩
    | 9, _ => exact ⟨_, _, _, _, rfl, rfl, P10.out⟩
    | 10, _ => exact ⟨_, _, _, _, rfl, rfl, P11.out⟩
    | 11, _ => exact ⟨_, _, _, _, rfl, rfl, P12.out⟩
    | 12, _ => exact ⟨_, _, _, _, rfl, rfl, P13.out⟩
    | 13, _ => exact ⟨_, _, _, _, rfl, rfl, P14.out⟩
  clear ecs X1 Y1 HX HY P10 P11 U10 U11 P12 P13 P14 U12 U13 U14 P1 P2 P3 P4 P5 P6 P7 P8 P9
  have SL : Hid (ws1.heap.size ≤ wh.heap.size) := BL.out.size
  go_loopw [72] (fun i wr => ∃ k : Nat, k ≤ 14 ∧ i = .int .i64 k ∧ Hid (WKz ws1.heap.size wh wr)) (fun i _ => 14 - (intOf i).toNat)
  case atStart => exact ⟨0, by omega, rfl, WKz.refl _ _⟩
  case round =>
    obtain ⟨k, hk, rfl, hw⟩ := hrel
    by_cases hlt : k < 14
    · obtain ⟨so, R, nn, cc, hc1, hc2, hwp⟩ := CELL.out k hlt
      have RA : Hid (wr.rangeAt gh (k * 2) [.bool so, .slice R nn cc]) := by
        intro q u hq
        rw [cell_of_row wr gh _ _ _ (0, 0) (hw.out.2.2 _ _ _ (by decide) CH.out)]
        match q, hq with
        | 0, hq => simp at hq; subst hq; exact hc1
        | 1, hq => simp at hq; subst hq; exact hc2
      have WP := Lib.hid (hw.out.2.1 _ _ _ hwp)
      have SR : Hid (ws1.heap.size ≤ wr.heap.size) := Nat.le_trans SL.out hw.out.1.size
      clear hc1 hc2 hwp
      have pc0 := Lib.hid trivial
      go_wp2_with (first
        | (clear pc0; refine wpList_lke (by rfl) _ rfl (by rfl) RA.out ?_; have pc1 := Lib.hid trivial)
        | (clear pc1; refine wpList_lkm (by rfl) _ rfl (by rfl) (Zb.new wr so R nn cc) ?_; have pc2 := Lib.hid trivial)
        | (clear pc2; go_at_call 14; refine Calls.mono (wipe_z R nn cc ws1.heap.size _ (WP.out.below ((Below.refl _ _).alloc (Nat.le_refl _) _))) ?_; rintro e wn ⟨rfl, hk2⟩; have NX := Lib.hid ((hw.out.trans (WKz.of_below ((Below.refl _ _).alloc (Nat.le_refl _) _) SR.out)).trans hk2); clear hk2; have pc3 := Lib.hid trivial))
      clear pc3
      go_roundw
      case rel => exact ⟨k + 1, by omega, by go_num, NX.out⟩
      case measure => simp [intOf]; omega
    · have BR : Hid (Below ws1.heap.size ws1 wr) := BL.out.trans hw.out.1
      clear hw CELL CH BL SL
      have pc0 := Lib.hid trivial
      go_wp2_with (first
        | (clear pc0; go_at_call 15; refine Calls.mono (zawake_any _) ?_; rintro e wb ⟨rfl, hb⟩; replace BR := Lib.hid (BR.out.trans (hb.mono BR.out.size)); clear hb; have pc1 := Lib.hid trivial)
        | (clear pc1; refine wpList_lkm (by rfl) _ rfl (by rfl) (KX.out.below BR.out KX.out.lt) ?_; have pc2 := Lib.hid trivial)
        | (clear pc2; refine wpList_lkm (by rfl) _ rfl (by rfl) (V0.out.below BR.out V0.out.lt) ?_; have pc3 := Lib.hid trivial)
        | (clear pc3; go_at_call 16; refine Calls.mono (kept_z (C1.out.below BR.out) (RX.out.below BR.out) LX.out (by have := LN.out; omega)) ?_; rintro e wc ⟨rfl, hb⟩; replace BR := Lib.hid (BR.out.trans (hb.mono BR.out.size)); clear hb; have pc4 := Lib.hid trivial)
        | (clear pc4; refine wpList_lkm (by rfl) _ rfl (by rfl) (KY.out.below BR.out KY.out.lt) ?_; have pc5 := Lib.hid trivial)
        | (clear pc5; refine wpList_lkm (by rfl) _ rfl (by rfl) (V1.out.below BR.out V1.out.lt) ?_; have pc6 := Lib.hid trivial)
        | (clear pc6; go_at_call 16; refine Calls.mono (kept_z (C2.out.below BR.out) (RY.out.below BR.out) LY.out (by have := LM.out; omega)) ?_; rintro e wd ⟨rfl, hb⟩; replace BR := Lib.hid (BR.out.trans (hb.mono BR.out.size)); clear hb; have pc7 := Lib.hid trivial))
      clear pc7
      go_ret
      exact ⟨rfl, B1.out.trans (BR.out.mono B1.out.size)⟩
end Go.Proofs.Ytfmgbfdnmconiaa
