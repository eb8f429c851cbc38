/-
  Contract of the reference's Round.
-/
import Derived.Test.YtebpoabflcngoaaGreatDoorRrnd
namespace Go.Proofs.YtebpoabflcngoaaGreatDoor
open Go.RowKit
set_option linter.unusedVariables false

theorem divInt_cast (f : Int) : Rat.divInt f 1 = (f : Rat) := by
  have h := Rat.divInt_ofNat f 1
  rw [show ((1 : Nat) : Int) = 1 from rfl] at h
  rw [h]
  exact Rat.mkRat_one f
theorem round_sg (r : Rat) (f : Int) : sgR (Rat.divInt 2 1 * (r - Rat.divInt f 1) - Rat.divInt 1 1) = sgR (r + r - mkRat (2 * f + 1) 1) := by
  have e : mkRat (2 * f + 1) 1 = 2 * (f : Rat) + 1 := by
    have h := divInt_cast (2 * f + 1)
    have h2 := Rat.divInt_ofNat (2 * f + 1) 1
    rw [show ((1 : Nat) : Int) = 1 from rfl] at h2
    rw [← h2, h, Rat.intCast_add, Rat.intCast_mul]
    rfl
  rw [e, divInt_cast, divInt_cast, divInt_cast]
  have h2 : ((2 : Int) : Rat) = 2 := rfl
  have h1 : ((1 : Int) : Rat) = 1 := rfl
  rw [h2, h1]
  congr 1
  grind
theorem rnd_cases (r : Rat) {f c rr : Int} (hf : r.floor = f) (hc : sgR (r + r - mkRat (2 * f + 1) 1) = c) (hr : f % 2 = rr) :
    (c = -1 ∧ rndR r = f) ∨ (c = 0 ∧ rr = 0 ∧ rndR r = f) ∨ (c = 0 ∧ rr = 1 ∧ rndR r = f + 1) ∨ (c = 1 ∧ rndR r = f + 1) := by
  unfold rndR
  rw [hf, hc, hr]
  have h3 := sgR_cases (r + r - mkRat (2 * f + 1) 1)
  rw [hc] at h3
  rcases h3 with h | h | h <;> subst h
  · exact .inl ⟨rfl, by simp⟩
  · have : rr = 0 ∨ rr = 1 := by omega
    rcases this with h | h <;> subst h
    · exact .inr (.inl ⟨rfl, rfl, by simp⟩)
    · exact .inr (.inr (.inl ⟨rfl, rfl, by simp⟩))
  · exact .inr (.inr (.inr ⟨rfl, by simp⟩))
set_option maxRecDepth 100000 in
set_option maxHeartbeats 16000000 in
theorem r3round_any {s : Bool} {A D : Option Addr} {n c m k : Nat} {x : Int} {p : Nat} {w : World} (h : Zin w s A n c x) (h' : Nin w D m k p) (hn : n ≤ 8000000000000) (hm : m ≤ 8000000000000) {v : Int} (hv : rndR (mkRat x p) = v) :
    Calls Tryz.prog 48 #[.agg #[.bool s, .slice A n c, .slice D m k]] w (GivesZ w v) := by
  obtain ⟨B1, V0, V1⟩ := start_RZ w s A n c D m k
  have HX := Lib.hid (h.below B1.out)
  have HP := Lib.hid (h'.below B1.out)
  have LN : Hid (n ≤ 35184372087808) := Nat.le_trans hn (by decide)
  have LM : Hid (m ≤ 35184372087808) := Nat.le_trans hm (by decide)
  have KN : Hid (n ≤ 17592186043000) := Nat.le_trans hn (by decide)
  have KM : Hid (m ≤ 17592186043000) := Nat.le_trans hm (by decide)
  have rl := rl_mk (N := 8000000000000) (Nat.le_trans h.len hn) (Nat.le_trans h'.len hm) (by decide)
  obtain ⟨f, e_f⟩ : ∃ z0 : Int, (mkRat x p).floor = z0 := ⟨_, rfl⟩
  obtain ⟨z2, e_z2⟩ : ∃ z0 : Int, (Rat.divInt 2 1).num = z0 := ⟨_, rfl⟩
  obtain ⟨d2, e_d2⟩ : ∃ z0 : Nat, (Rat.divInt 2 1).den = z0 := ⟨_, rfl⟩
  obtain ⟨z1, e_z1⟩ : ∃ z0 : Int, (Rat.divInt 1 1).num = z0 := ⟨_, rfl⟩
  obtain ⟨d1, e_d1⟩ : ∃ z0 : Nat, (Rat.divInt 1 1).den = z0 := ⟨_, rfl⟩
  obtain ⟨zw, e_zw⟩ : ∃ z0 : Int, (Rat.divInt f 1).num = z0 := ⟨_, rfl⟩
  obtain ⟨dw, e_dw⟩ : ∃ z0 : Nat, (Rat.divInt f 1).den = z0 := ⟨_, rfl⟩
  obtain ⟨zs, e_zs⟩ : ∃ z0 : Int, (mkRat x p - mkRat zw dw).num = z0 := ⟨_, rfl⟩
  obtain ⟨ds, e_ds⟩ : ∃ z0 : Nat, (mkRat x p - mkRat zw dw).den = z0 := ⟨_, rfl⟩
  obtain ⟨zt, e_zt⟩ : ∃ z0 : Int, (mkRat z2 d2 * mkRat zs ds).num = z0 := ⟨_, rfl⟩
  obtain ⟨dt, e_dt⟩ : ∃ z0 : Nat, (mkRat z2 d2 * mkRat zs ds).den = z0 := ⟨_, rfl⟩
  obtain ⟨two, e_two⟩ : ∃ z0 : Int, (2 : Int) = z0 := ⟨_, rfl⟩
  obtain ⟨one, e_one⟩ : ∃ z0 : Int, (1 : Int) = z0 := ⟨_, rfl⟩
  obtain ⟨qq, e_qq⟩ : ∃ z0 : Int, f / two = z0 := ⟨_, rfl⟩
  obtain ⟨rr, e_rr⟩ : ∃ z0 : Int, f % two = z0 := ⟨_, rfl⟩
  obtain ⟨cv, e_cv⟩ : ∃ z0 : Int, sgR (mkRat zt dt - mkRat z1 d1) = z0 := ⟨_, rfl⟩
  have M2 : mkRat z2 d2 = Rat.divInt 2 1 := by rw [← e_z2, ← e_d2, mk_self]
  have M1 : mkRat z1 d1 = Rat.divInt 1 1 := by rw [← e_z1, ← e_d1, mk_self]
  have Mw : mkRat zw dw = Rat.divInt f 1 := by rw [← e_zw, ← e_dw, mk_self]
  have Ms : mkRat zs ds = mkRat x p - mkRat zw dw := by rw [← e_zs, ← e_ds, mk_self]
  have Mt : mkRat zt dt = mkRat z2 d2 * mkRat zs ds := by rw [← e_zt, ← e_dt, mk_self]
  have CS := rnd_cases (mkRat x p) (f := f) (c := cv) (rr := rr) e_f (by rw [← e_cv, Mt, Ms, M2, Mw, M1, round_sg]) (by rw [← e_rr, ← e_two])
  rw [hv] at CS
  have lf := floor_len rl
  rw [e_f] at lf
  have r2 : RL (mkRat z2 d2) 1 := by rw [M2]; exact ⟨len_small (by decide +kernel), len_small (by decide +kernel)⟩
  have r1 : RL (mkRat z1 d1) 1 := by rw [M1]; exact ⟨len_small (by decide +kernel), len_small (by decide +kernel)⟩
  have ew : Rat.divInt f 1 = mkRat f 1 := Rat.divInt_ofNat f 1
  have rw_ : RL (mkRat zw dw) 8000000000000 := by rw [Mw, ew]; exact rl_mk lf (Nat.le_trans (len_small (v := 1) (by decide)) (by decide)) (by decide)
  have rs := rl_sub rl rw_
  have rt := rl_mul r2 (r := mkRat z2 d2) (s := mkRat zs ds) (by rw [Ms]; exact rs)
  have LF : Hid ((ofv f.natAbs).length ≤ 35184372087808) := Nat.le_trans lf (by decide)
  have LF2 : Hid ((ofv f.natAbs).length ≤ 70368744177663) := Nat.le_trans lf (by decide)
  have LW : Hid ((ofv zw.natAbs).length ≤ 17592186043000) := by show _ ≤ _; have := rw_.1; rw [Mw, e_zw] at this; exact Nat.le_trans this (by decide)
  have LWD : Hid ((ofv dw).length ≤ 17592186043000) := by show _ ≤ _; have := rw_.2; rw [Mw, e_dw] at this; exact Nat.le_trans this (by decide)
  have LS : Hid ((ofv zs.natAbs).length ≤ 17592186043000) := by show _ ≤ _; have := rs.1; rw [e_zs] at this; exact Nat.le_trans this (by decide)
  have LSD : Hid ((ofv ds).length ≤ 17592186043000) := by show _ ≤ _; have := rs.2; rw [e_ds] at this; exact Nat.le_trans this (by decide)
  have L2 : Hid ((ofv z2.natAbs).length ≤ 17592186043000) := by show _ ≤ _; have := r2.1; rw [M2, e_z2] at this; exact Nat.le_trans this (by decide)
  have L2D : Hid ((ofv d2).length ≤ 17592186043000) := by show _ ≤ _; have := r2.2; rw [M2, e_d2] at this; exact Nat.le_trans this (by decide)
  have L1 : Hid ((ofv z1.natAbs).length ≤ 17592186043000) := by show _ ≤ _; have := r1.1; rw [M1, e_z1] at this; exact Nat.le_trans this (by decide)
  have L1D : Hid ((ofv d1).length ≤ 17592186043000) := by show _ ≤ _; have := r1.2; rw [M1, e_d1] at this; exact Nat.le_trans this (by decide)
  have LT_ : Hid ((ofv zt.natAbs).length ≤ 17592186043000) := by show _ ≤ _; have := rt.1; rw [e_zt] at this; exact Nat.le_trans this (by decide)
  have LTD : Hid ((ofv dt).length ≤ 17592186043000) := by show _ ≤ _; have := rt.2; rw [e_dt] at this; exact Nat.le_trans this (by decide)
  have LTW : Hid ((ofv two.natAbs).length ≤ 35184372087808) := by show _ ≤ _; rw [← e_two]; exact Nat.le_trans (len_small (by decide)) (by decide)
  have LON : Hid ((ofv one.natAbs).length ≤ 70368744177663) := by show _ ≤ _; rw [← e_one]; exact Nat.le_trans (len_small (by decide)) (by decide)
  have LRR : Hid ((ofv rr.natAbs).length ≤ 70368744177660) := by
    show _ ≤ _
    have hb : 0 ≤ rr ∧ rr < 2 := by rw [← e_rr, ← e_two]; omega
    exact Nat.le_trans (len_small (by omega)) (by decide)
  have NT : Hid (two ≠ 0) := by show _ ≠ _; omega
  have I2 : Hid (-9223372036854775808 ≤ (2 : Int) ∧ (2 : Int) ≤ 9223372036854775807) := by show _ ∧ _; omega
  have I1 : Hid (-9223372036854775808 ≤ (1 : Int) ∧ (1 : Int) ≤ 9223372036854775807) := by show _ ∧ _; omega
  have Ef := Lib.hid e_f
  have Ez2 := Lib.hid e_z2
  have Ed2 := Lib.hid e_d2
  have Ez1 := Lib.hid e_z1
  have Ed1 := Lib.hid e_d1
  have Ezw := Lib.hid e_zw
  have Edw := Lib.hid e_dw
  have Ezs := Lib.hid e_zs
  have Eds := Lib.hid e_ds
  have Ezt := Lib.hid e_zt
  have Edt := Lib.hid e_dt
  have Etwo := Lib.hid e_two
  have Eone := Lib.hid e_one
  have Eqq := Lib.hid e_qq
  have Err := Lib.hid e_rr
  have Ecv := Lib.hid e_cv
  have CR := Lib.hid CS
  clear e_f e_z2 e_d2 e_z1 e_d1 e_zw e_dw e_zs e_ds e_zt e_dt e_two e_one e_qq e_rr e_cv M2 M1 Mw Ms Mt CS lf r2 r1 ew rw_ rs rt rl h h' hn hm hv
  go_enter Tryz.func48, Tryz.ntmps48
  go_wp2_with fail
  generalize ((w.alloc (.cells #[.bool s, .slice A n c, .slice D m k] 26)).alloc (.cells #[.bool false, .slice none 0 0] 24)) = w2 at *
  have pc0 := Lib.hid trivial
  go_wp2_with (first
    | (clear pc0; have SZ := Lib.hid B1.out.size; go_at_call 25; refine Calls.mono (r3floor_any (v := f) HX.out HP.out LN.out LM.out Ef.out) ?_; rintro e w3 ⟨P1, c1, rfl, ho, hb⟩; replace V0 := Lib.hid (V0.out.below hb V0.out.lt); replace V1 := Lib.hid (V1.out.below hb V1.out.lt); replace HX := Lib.hid (HX.out.below hb); replace HP := Lib.hid (HP.out.below hb); replace B1 := Lib.hid (B1.out.trans (hb.mono B1.out.size)); have ZL := Lib.hid (Zo.of_own ho); have OL := Lib.hid (ho.mono SZ.out); clear ho SZ; clear hb; have pc1 := Lib.hid trivial)
    | (clear pc1; have LT1 : Hid (w.heap.size + 1 < w3.heap.size) := V1.out.lt; have hb : Below w3.heap.size w3 (w3.alloc (.cells #[.bool false, .slice none 0 0] 24)) := (Below.refl _ _).alloc (Nat.le_refl _) _; replace V0 := Lib.hid (V0.out.below hb V0.out.lt); replace V1 := Lib.hid (V1.out.below hb V1.out.lt); replace HX := Lib.hid (HX.out.below hb); replace HP := Lib.hid (HP.out.below hb); replace ZL := Lib.hid (ZL.out.below hb); replace OL := Lib.hid (OL.out.below hb); replace B1 := Lib.hid (B1.out.trans (hb.mono B1.out.size)); clear hb; have G1 := Lib.hid (Zb.new w3 false none 0 0); refine wpList_stZ (by rfl) _ _ rfl (by rfl) (by rfl) G1.out ?_; intro w4 hz hg; replace V0 := Lib.hid (V0.out.gro hg (by have := LT1.out; omega)); replace V1 := Lib.hid (V1.out.gr hg (by have := LT1.out; omega)); replace HX := Lib.hid (HX.out.gr G1.out hg); replace HP := Lib.hid (HP.out.gr G1.out hg); replace ZL := Lib.hid (ZL.out.gr G1.out hg); replace OL := Lib.hid (OL.out.gr G1.out hg); replace B1 := Lib.hid (Below.gr B1.out (by have := LT1.out; omega) hg B1.out.size); replace G1 := Lib.hid hz; clear hz hg; have pc2 := Lib.hid trivial))
  clear pc2
  have LT2 : Hid (w.heap.size + 1 < w4.heap.size ∧ w3.heap.size < w4.heap.size) := ⟨V1.out.lt, G1.out.lt⟩
  have HB : Hid (Below w4.heap.size w4 w4.drew) := below_drewN _ w4 1
  refine wp_region_held_drew (S := fun w' => Below w4.heap.size w4 w') (by kernel_rfl) (HB.out) (fun hHeld => ?_)
  refine wpAnyH_takeL (i := 1) (oi := _) rfl (by kernel_rfl) (by kernel_rfl) (by kernel_rfl) (fun _ _ _ h => h) (yields_ldR (by rfl) _ rfl (by rfl) (fun _ hb => V0.out.below hb V0.out.lt)) hHeld ?_
  try simp only [Act.put, List.setIfInBounds_toArray, List.set_cons_zero, List.set_cons_succ]
  refine wpAnyH_takeL (i := 2) (oi := _) rfl (by kernel_rfl) (by kernel_rfl) (by kernel_rfl) (fun _ _ _ h => h) (yields_ldZ (by rfl) _ rfl (by rfl) (fun _ hb => G1.out.below hb G1.out.lt)) hHeld ?_
  try simp only [Act.put, List.setIfInBounds_toArray, List.set_cons_zero, List.set_cons_succ]
  refine wpAnyH_rgt [(0, some 11), (3, some 14), (4, some 15), (5, some 16), (6, some 4)] [] (isNewR w4.heap.size) [(0, isR z2 d2 w4.heap.size), (3, isR zw dw w4.heap.size), (4, isR zs ds w4.heap.size), (5, isR zt dt w4.heap.size)] w4 (f0 := 1) (by kernel_rfl) (by kernel_rfl) (by rfl) HB.out (fun _ h => h) (fun _ _ _ _ _ h => h) (isNewR_good _) ⟨isR_good _ _ _, isR_good _ _ _, isR_good _ _ _, isR_good _ _ _, trivial⟩ ?_ ?_ ?_
  · clear hHeld HB
    show RgOps _ _ _ _ _ _ _ _ _ [0, 3, 4, 5, 6]
    refine RgOps.consL (o := _) (ds := []) rfl rfl (by kernel_rfl) (fun vals wr hbr hC hdep K hK => ?_) ?_
    · have BB := Lib.hid hbr
      clear hdep
      clear hbr hC
      simp only [Upd2, Act.put, List.setIfInBounds_toArray, List.set_cons_zero, List.set_cons_succ] at hK ⊢
      go_simp
      go_at_call 88
      refine Calls.mono (r3fromInt_any (a := 2) (z := z2) (d := d2) I2.out Ez2.out Ed2.out _) ?_
      rintro e wq ⟨R, cR, R2, cR2, rfl, ho, ho2, hb⟩
      exact hK.out _ _ (LeavesB.giveR BB.out.size ho ho2 hb)
    refine RgOps.consL (o := _) (ds := [0]) rfl rfl (by kernel_rfl) (fun vals wr hbr hC hdep K hK => ?_) ?_
    · have BB := Lib.hid hbr
      obtain ⟨⟨P0, c0, Q0, k0, e0, o0, u0⟩, -⟩ := hdep
      clear hbr hC
      simp only [e0, Upd2, Act.put, List.setIfInBounds_toArray, List.set_cons_zero, List.set_cons_succ] at hK ⊢
      clear e0
      go_simp
      go_at_call 24
      refine Calls.mono (r3whole_any (z := zw) (d := dw) (ZL.out.below BB.out).in_ LF.out Ezw.out Edw.out) ?_
      rintro e wq ⟨R, cR, R2, cR2, rfl, ho, ho2, hb⟩
      exact hK.out _ _ (LeavesB.giveR BB.out.size ho ho2 hb)
    refine RgOps.consL (o := _) (ds := [3]) rfl rfl (by kernel_rfl) (fun vals wr hbr hC hdep K hK => ?_) ?_
    · have BB := Lib.hid hbr
      obtain ⟨⟨P3, c3, Q3, k3, e3, o3, u3⟩, -⟩ := hdep
      clear hbr hC
      simp only [e3, Upd2, Act.put, List.setIfInBounds_toArray, List.set_cons_zero, List.set_cons_succ] at hK ⊢
      clear e3
      go_simp
      go_at_call 59
      refine Calls.mono (r3sub_any (z := zs) (d := ds) (HX.out.below BB.out) (HP.out.below BB.out) (Zo.of_own o3).in_ (Nin.of_rd u3.rd) KN.out KM.out LW.out LWD.out Ezs.out Eds.out) ?_
      rintro e wq ⟨R, cR, R2, cR2, rfl, ho, ho2, hb⟩
      exact hK.out _ _ (LeavesB.giveR BB.out.size ho ho2 hb)
    refine RgOps.consL (o := _) (ds := [0, 4]) rfl rfl (by kernel_rfl) (fun vals wr hbr hC hdep K hK => ?_) ?_
    · have BB := Lib.hid hbr
      obtain ⟨⟨P0, c0, Q0, k0, e0, o0, u0⟩, ⟨P4, c4, Q4, k4, e4, o4, u4⟩, -⟩ := hdep
      clear hbr hC
      simp only [e0, e4, Upd2, Act.put, List.setIfInBounds_toArray, List.set_cons_zero, List.set_cons_succ] at hK ⊢
      clear e0 e4
      go_simp
      go_at_call 45
      refine Calls.mono (r3mul_any (z := zt) (d := dt) (Zo.of_own o0).in_ (Nin.of_rd u0.rd) (Zo.of_own o4).in_ (Nin.of_rd u4.rd) L2.out L2D.out LS.out LSD.out Ezt.out Edt.out) ?_
      rintro e wq ⟨R, cR, R2, cR2, rfl, ho, ho2, hb⟩
      exact hK.out _ _ (LeavesB.giveR BB.out.size ho ho2 hb)
    refine RgOps.consL (o := _) (ds := []) rfl rfl (by kernel_rfl) (fun vals wr hbr hC hdep K hK => ?_) RgOps.nil
    · have BB := Lib.hid hbr
      clear hdep
      clear hbr hC
      simp only [Upd2, Act.put, List.setIfInBounds_toArray, List.set_cons_zero, List.set_cons_succ] at hK ⊢
      go_simp
      exact hK.out _ _ (LeavesB.newR BB.out.size)
  · clear hHeld HB
    show TaAll _ _ _ _ _ []
    exact TaAll.nil
  clear hHeld HB
  intro vals wr hb hdep hD
  obtain ⟨⟨P0, c0, Q0, k0, e0, o0, u0⟩, ⟨P3, c3, Q3, k3, e3, o3, u3⟩, ⟨P4, c4, Q4, k4, e4, o4, u4⟩, ⟨P5, c5, Q5, k5, e5, o5, u5⟩, ⟨g6, e6, l6, z6⟩, -⟩ := hdep
  simp only [Upd2, e0, e3, e4, e5, e6, Act.put, List.setIfInBounds_toArray, List.set_cons_zero, List.set_cons_succ]
  clear e0 e3 e4 e5 e6
  clear hD vals
  replace V0 := Lib.hid (V0.out.below hb V0.out.lt)
  replace V1 := Lib.hid (V1.out.below hb V1.out.lt)
  replace HX := Lib.hid (HX.out.below hb)
  replace HP := Lib.hid (HP.out.below hb)
  replace ZL := Lib.hid (ZL.out.below hb)
  replace OL := Lib.hid (OL.out.below hb)
  replace G1 := Lib.hid (G1.out.below hb G1.out.lt)
  replace B1 := Lib.hid (B1.out.trans (hb.mono B1.out.size))
  have HB := Lib.hid hb
  clear hb
  have ZT := Lib.hid (Zo.of_own o5); have NT2 := Lib.hid u5.rd; have G2 := Lib.hid z6; have LG2 := Lib.hid l6
  clear o0 u0 o3 u3 o4 u4 o5 u5 z6 l6
  refine wpAnyH_ready (rs := [7]) (by kernel_rfl) (by simp) ?_
  refine AllReadyH.consL (o := _) rfl (fun K hK => ?_) AllReadyH.nil
  rw [if_pos (by rfl)]
  refine wp_stR _ _ rfl (by rfl) (by rfl) G2.out ?_
  intro wt0 hz hg
  replace HB := Lib.hid (Below.gr HB.out (by have := LG2.out; omega) hg HB.out.size)
  replace V0 := Lib.hid (V0.out.gro hg (by have := LT1.out; have := LT2.out; have := LG2.out; omega))
  replace V1 := Lib.hid (V1.out.gr hg (by have := LT1.out; have := LT2.out; have := LG2.out; omega))
  replace HX := Lib.hid (HX.out.grR G2.out hg)
  replace HP := Lib.hid (HP.out.grR G2.out hg)
  replace ZL := Lib.hid (ZL.out.grR G2.out hg)
  replace OL := Lib.hid (OL.out.grR G2.out hg)
  replace G1 := Lib.hid (G1.out.gr hg (by have := LT1.out; have := LT2.out; have := LG2.out; omega))
  replace ZT := Lib.hid (ZT.out.grR G2.out hg)
  replace NT2 := Lib.hid (NT2.out.grR G2.out hg)
  replace B1 := Lib.hid (Below.gr B1.out (by have := LT1.out; have := LT2.out; have := LG2.out; omega) hg B1.out.size)
  replace G2 := Lib.hid hz
  refine hK.out _ _ ⟨HB.out, HB.out⟩ (fun _ => ?_)
  clear hK K hg hz
  try simp only [Act.put]
  refine wpAnyH_done (by kernel_rfl) ?_ _
  clear HB
  go_wp2_with fail
  have LT3 : Hid (w.heap.size + 1 < wt0.heap.size ∧ w3.heap.size < wt0.heap.size ∧ g6 < wt0.heap.size) := ⟨V1.out.lt, G1.out.lt, G2.out.lt⟩
  have HB : Hid (Below wt0.heap.size wt0 wt0.drew) := below_drewN _ wt0 1
  refine wp_region_held_drew (S := fun w' => Below wt0.heap.size wt0 w') (by kernel_rfl) (HB.out) (fun hHeld => ?_)
  refine wpAnyH_takeL (i := 0) (oi := _) rfl (by kernel_rfl) (by kernel_rfl) (by kernel_rfl) (fun _ _ _ h => h) (yields_ldZ (by rfl) _ rfl (by rfl) (fun _ hb => G1.out.below hb G1.out.lt)) hHeld ?_
  try simp only [Act.put, List.setIfInBounds_toArray, List.set_cons_zero, List.set_cons_succ]
  refine wpAnyH_rgt [(1, some 19), (2, some 20), (3, some 17), (4, some 21), (5, some 22), (6, some 23), (7, some 5), (8, some 6)] [3, 4, 5, 6] (isNewZ wt0.heap.size) [(1, isZ two wt0.heap.size), (2, isQ qq rr wt0.heap.size), (3, isQ qq rr wt0.heap.size), (4, isZ qq wt0.heap.size), (5, isZ rr wt0.heap.size), (6, isV (.bool true))] wt0 (f0 := 3) (by kernel_rfl) (by kernel_rfl) (by rfl) HB.out (fun _ h => h) (fun _ _ _ _ _ h => h) (isNewZ_good _) ⟨isZ_good _ _, isQ_good _ _ _, isQ_good _ _ _, isZ_good _ _, isZ_good _ _, isV_good _, trivial⟩ ?_ ?_ ?_
  · clear hHeld HB
    show RgOps _ _ _ _ _ _ _ _ _ [1, 2, 7, 8]
    refine RgOps.consL (o := _) (ds := []) rfl rfl (by kernel_rfl) (fun vals wr hbr hC hdep K hK => ?_) ?_
    · have BB := Lib.hid hbr
      clear hdep
      clear hbr hC
      simp only [Upd2, Act.put, List.setIfInBounds_toArray, List.set_cons_zero, List.set_cons_succ] at hK ⊢
      go_simp
      go_at_call 26
      refine Calls.mono (rfromInt_z (v := 2) (z := two) I2.out Etwo.out _) ?_
      rintro e wq ⟨R, cR, rfl, ho, hb⟩
      exact hK.out _ _ (LeavesB.giveZ BB.out.size ho hb)
    refine RgOps.consL (o := _) (ds := [1]) rfl rfl (by kernel_rfl) (fun vals wr hbr hC hdep K hK => ?_) ?_
    · have BB := Lib.hid hbr
      obtain ⟨⟨P1, c1, e1, o1⟩, -⟩ := hdep
      clear hbr hC
      simp only [e1, Upd2, Act.put, List.setIfInBounds_toArray, List.set_cons_zero, List.set_cons_succ] at hK ⊢
      clear e1
      go_simp
      go_at_call 43
      refine Calls.mono (rdm_z (x := f) (y := two) (q := qq) (r := rr) (ZL.out.below BB.out).in_ (Zo.of_own o1).in_ LF.out LTW.out NT.out Eqq.out Err.out) ?_
      rintro e wq ⟨R, cR, R2, cR2, rfl, ho, ho2, hb⟩
      exact hK.out _ _ (LeavesB.behind hb ⟨_, _, _, _, rfl, ho.mono BB.out.size, ho2.mono BB.out.size⟩ rfl)
    refine RgOps.consL (o := _) (ds := []) rfl rfl (by kernel_rfl) (fun vals wr hbr hC hdep K hK => ?_) ?_
    · have BB := Lib.hid hbr
      clear hdep
      clear hbr hC
      simp only [Upd2, Act.put, List.setIfInBounds_toArray, List.set_cons_zero, List.set_cons_succ] at hK ⊢
      go_simp
      exact hK.out _ _ (LeavesB.newZ BB.out.size)
    refine RgOps.consL (o := _) (ds := []) rfl rfl (by kernel_rfl) (fun vals wr hbr hC hdep K hK => ?_) RgOps.nil
    · have BB := Lib.hid hbr
      clear hdep
      clear hbr hC
      simp only [Upd2, Act.put, List.setIfInBounds_toArray, List.set_cons_zero, List.set_cons_succ] at hK ⊢
      go_simp
      exact hK.out _ _ (LeavesB.newZ BB.out.size)
  · clear hHeld HB
    show TaAll _ _ _ _ _ [3, 4, 5, 6]
    refine TaAll.cons (o := _) (ds := [2]) rfl rfl (by kernel_rfl) (fun vals wr hdep => ?_) ?_
    · obtain ⟨⟨P2, c2, Q2, d2, e2, o2, u2⟩, -⟩ := hdep
      refine ⟨_, fun S => Or.inl ⟨by rfl, ?_⟩, ⟨_, _, _, _, rfl, o2, u2⟩, rfl⟩
      intro w' _
      simp only [e2, Upd2, Act.put, List.setIfInBounds_toArray, List.set_cons_zero, List.set_cons_succ]
      go_simp
    refine TaAll.cons (o := _) (ds := [3]) rfl rfl (by kernel_rfl) (fun vals wr hdep => ?_) ?_
    · obtain ⟨⟨P3, c3, Q3, d3, e3, o3, u3⟩, -⟩ := hdep
      refine ⟨_, fun S => Or.inl ⟨by rfl, ?_⟩, ⟨_, _, rfl, o3⟩, rfl⟩
      intro w' _
      simp only [e3, Upd2, Act.put, List.setIfInBounds_toArray, List.set_cons_zero, List.set_cons_succ]
      go_simp
    refine TaAll.cons (o := _) (ds := [3]) rfl rfl (by kernel_rfl) (fun vals wr hdep => ?_) ?_
    · obtain ⟨⟨P3, c3, Q3, d3, e3, o3, u3⟩, -⟩ := hdep
      refine ⟨_, fun S => Or.inl ⟨by rfl, ?_⟩, ⟨_, _, rfl, u3⟩, rfl⟩
      intro w' _
      simp only [e3, Upd2, Act.put, List.setIfInBounds_toArray, List.set_cons_zero, List.set_cons_succ]
      go_simp
    refine TaAll.cons (o := _) (ds := [3]) rfl rfl (by kernel_rfl) (fun vals wr hdep => ?_) TaAll.nil
    · obtain ⟨⟨P3, c3, Q3, d3, e3, o3, u3⟩, -⟩ := hdep
      refine ⟨_, fun S => Or.inl ⟨by rfl, ?_⟩, ⟨rfl, rfl⟩, rfl⟩
      intro w' _
      simp only [e3, Upd2, Act.put, List.setIfInBounds_toArray, List.set_cons_zero, List.set_cons_succ]
      go_simp
  clear hHeld HB
  intro vals wr hb hdep hD
  have NG0 := Lib.hid (hD 7 (by decide) 8 (by decide) (by decide))
  obtain ⟨⟨P1, c1, e1, o1⟩, ⟨P2, c2, Q2, d2, e2, o2, u2⟩, ⟨P3, c3, Q3, d3, e3, o3, u3⟩, ⟨P4, c4, e4, o4⟩, ⟨P5, c5, e5, o5⟩, ⟨e6, -⟩, ⟨g7, e7, l7, z7⟩, ⟨g8, e8, l8, z8⟩, -⟩ := hdep
  have NG : Hid (g7 ≠ g8) := fun e => NG0.out g7 (by rw [e7]; rfl) (by rw [e8, e]; rfl)
  simp only [Upd2, e1, e2, e3, e4, e5, e6, e7, e8, Act.put, List.setIfInBounds_toArray, List.set_cons_zero, List.set_cons_succ]
  clear NG0 e1 e2 e3 e4 e5 e6 e7 e8
  clear hD vals
  replace V0 := Lib.hid (V0.out.below hb V0.out.lt)
  replace V1 := Lib.hid (V1.out.below hb V1.out.lt)
  replace HX := Lib.hid (HX.out.below hb)
  replace HP := Lib.hid (HP.out.below hb)
  replace ZL := Lib.hid (ZL.out.below hb)
  replace OL := Lib.hid (OL.out.below hb)
  replace G1 := Lib.hid (G1.out.below hb G1.out.lt)
  replace ZT := Lib.hid (ZT.out.below hb)
  replace NT2 := Lib.hid (NT2.out.below hb)
  replace G2 := Lib.hid (G2.out.below hb G2.out.lt)
  replace B1 := Lib.hid (B1.out.trans (hb.mono B1.out.size))
  have HB := Lib.hid hb
  clear hb
  have ZR := Lib.hid (Zo.of_own o5); have G3 := Lib.hid z7; have G4 := Lib.hid z8; have LG3 := Lib.hid l7; have LG4 := Lib.hid l8
  clear o1 o2 u2 o3 u3 o4 o5 z7 z8 l7 l8
  refine wpAnyH_ready (rs := [9]) (by kernel_rfl) (by simp) ?_
  refine AllReadyH.consL (o := _) rfl (fun K hK => ?_) AllReadyH.nil
  rw [if_pos (by rfl)]
  refine wp_stZ _ _ rfl (by rfl) (by rfl) G3.out ?_
  intro wu0 hz hg
  replace HB := Lib.hid (Below.gr HB.out (by have := LG3.out; have := LG4.out; omega) hg HB.out.size)
  replace V0 := Lib.hid (V0.out.gro hg (by have := LT1.out; have := LT2.out; have := LG2.out; have := LT3.out; have := LG3.out; have := LG4.out; have := NG.out; omega))
  replace V1 := Lib.hid (V1.out.gr hg (by have := LT1.out; have := LT2.out; have := LG2.out; have := LT3.out; have := LG3.out; have := LG4.out; have := NG.out; omega))
  replace HX := Lib.hid (HX.out.gr G3.out hg)
  replace HP := Lib.hid (HP.out.gr G3.out hg)
  replace ZL := Lib.hid (ZL.out.gr G3.out hg)
  replace OL := Lib.hid (OL.out.gr G3.out hg)
  replace G1 := Lib.hid (G1.out.gr hg (by have := LT1.out; have := LT2.out; have := LG2.out; have := LT3.out; have := LG3.out; have := LG4.out; have := NG.out; omega))
  replace ZT := Lib.hid (ZT.out.gr G3.out hg)
  replace NT2 := Lib.hid (NT2.out.gr G3.out hg)
  replace G2 := Lib.hid (G2.out.gro hg (by have := LT1.out; have := LT2.out; have := LG2.out; have := LT3.out; have := LG3.out; have := LG4.out; have := NG.out; omega))
  replace ZR := Lib.hid (ZR.out.gr G3.out hg)
  replace G4 := Lib.hid (G4.out.gr hg (by have := LT1.out; have := LT2.out; have := LG2.out; have := LT3.out; have := LG3.out; have := LG4.out; have := NG.out; omega))
  replace B1 := Lib.hid (Below.gr B1.out (by have := LT1.out; have := LT2.out; have := LG2.out; have := LT3.out; have := LG3.out; have := LG4.out; have := NG.out; omega) hg B1.out.size)
  replace G3 := Lib.hid hz
  refine hK.out _ _ ⟨HB.out, HB.out⟩ (fun _ => ?_)
  clear hK K hg hz
  try simp only [Act.put]
  refine wpAnyH_ready (rs := [10]) (by kernel_rfl) (by simp) ?_
  refine AllReadyH.consL (o := _) rfl (fun K hK => ?_) AllReadyH.nil
  rw [if_pos (by rfl)]
  refine wp_stZ _ _ rfl (by rfl) (by rfl) G4.out ?_
  intro wu1 hz hg
  replace HB := Lib.hid (Below.gr HB.out (by have := LG3.out; have := LG4.out; omega) hg HB.out.size)
  replace V0 := Lib.hid (V0.out.gro hg (by have := LT1.out; have := LT2.out; have := LG2.out; have := LT3.out; have := LG3.out; have := LG4.out; have := NG.out; omega))
  replace V1 := Lib.hid (V1.out.gr hg (by have := LT1.out; have := LT2.out; have := LG2.out; have := LT3.out; have := LG3.out; have := LG4.out; have := NG.out; omega))
  replace HX := Lib.hid (HX.out.gr G4.out hg)
  replace HP := Lib.hid (HP.out.gr G4.out hg)
  replace ZL := Lib.hid (ZL.out.gr G4.out hg)
  replace OL := Lib.hid (OL.out.gr G4.out hg)
  replace G1 := Lib.hid (G1.out.gr hg (by have := LT1.out; have := LT2.out; have := LG2.out; have := LT3.out; have := LG3.out; have := LG4.out; have := NG.out; omega))
  replace ZT := Lib.hid (ZT.out.gr G4.out hg)
  replace NT2 := Lib.hid (NT2.out.gr G4.out hg)
  replace G2 := Lib.hid (G2.out.gro hg (by have := LT1.out; have := LT2.out; have := LG2.out; have := LT3.out; have := LG3.out; have := LG4.out; have := NG.out; omega))
  replace ZR := Lib.hid (ZR.out.gr G4.out hg)
  replace G3 := Lib.hid (G3.out.gr hg (by have := LT1.out; have := LT2.out; have := LG2.out; have := LT3.out; have := LG3.out; have := LG4.out; have := NG.out; omega))
  replace B1 := Lib.hid (Below.gr B1.out (by have := LT1.out; have := LT2.out; have := LG2.out; have := LT3.out; have := LG3.out; have := LG4.out; have := NG.out; omega) hg B1.out.size)
  replace G4 := Lib.hid hz
  refine hK.out _ _ ⟨HB.out, HB.out⟩ (fun _ => ?_)
  clear hK K hg hz
  try simp only [Act.put]
  have hHeld : Below wt0.heap.size wt0 _ ∧ Below wt0.heap.size wt0 _ := ⟨HB.out, HB.out⟩
  refine wpAnyH_takeL (i := 11) (oi := _) (v := ?_) rfl (by kernel_rfl) (by kernel_rfl) (by kernel_rfl) (fun _ _ _ h => h) (Or.inl ⟨by rfl, ?_⟩) hHeld ?_
  rotate_left
  · (intro w' hSw; (try dsimp only at hSw); go_simp; try (with_reducible rfl))
  try simp only [Act.put, List.setIfInBounds_toArray, List.set_cons_zero, List.set_cons_succ]
  clear hHeld
  refine wpAnyH_done (by kernel_rfl) ?_ _
  clear HB
  go_wp2_with fail
  have HB : Hid (Below wu1.heap.size wu1 wu1.drew) := below_drewN _ wu1 1
  refine wp_region_held_drew (S := fun w' => Below wu1.heap.size wu1 w') (by kernel_rfl) (HB.out) (fun hHeld => ?_)
  refine wpAnyH_takeL (i := 0) (oi := _) rfl (by kernel_rfl) (by kernel_rfl) (by kernel_rfl) (fun _ _ _ h => h) (yields_ldR (by rfl) _ rfl (by rfl) (fun _ hb => G2.out.below hb G2.out.lt)) hHeld ?_
  try simp only [Act.put, List.setIfInBounds_toArray, List.set_cons_zero, List.set_cons_succ]
  refine wpAnyH_ready (rs := [1]) (by kernel_rfl) (by simp) ?_
  refine AllReadyH.consL (o := _) rfl (fun K hK => ?_) AllReadyH.nil
  clear hHeld
  go_simp
  go_at_call 88
  refine Calls.mono (r3fromInt_any (a := 1) (z := z1) (d := d1) I1.out Ez1.out Ed1.out _) ?_
  rintro e wa ⟨Pa, ca, Qa, ka, rfl, ho, ho2, hb⟩
  replace HB := Lib.hid (HB.out.trans (hb.mono HB.out.size))
  have Za := Lib.hid (Zo.of_own ho)
  have Na := Lib.hid ho2.rd
  clear ho ho2
  clear hb
  refine hK.out _ _ HB.out (fun hHeld => ?_)
  clear hK K
  try simp only [Act.put, List.setIfInBounds_toArray, List.set_cons_zero, List.set_cons_succ]
  refine wpAnyH_ready (rs := [2]) (by kernel_rfl) (by simp) ?_
  refine AllReadyH.consL (o := _) rfl (fun K hK => ?_) AllReadyH.nil
  clear hHeld
  go_simp
  go_at_call 23
  refine Calls.mono (r3compare_any (r := cv) (ZT.out.below HB.out).in_ (Nin.of_rd (NT2.out.below HB.out)) Za.out.in_ (Nin.of_rd Na.out) LT_.out LTD.out L1.out L1D.out Ecv.out) ?_
  rintro e wb ⟨rfl, hb⟩
  replace HB := Lib.hid (HB.out.trans (hb.mono HB.out.size))
  clear hb
  refine hK.out _ _ HB.out (fun hHeld => ?_)
  clear hK K
  try simp only [Act.put, List.setIfInBounds_toArray, List.set_cons_zero, List.set_cons_succ]
  refine wpAnyH_takeL (i := 3) (oi := _) (v := ?_) rfl (by kernel_rfl) (by kernel_rfl) (by kernel_rfl) (fun _ _ _ h => h) (Or.inl ⟨by rfl, ?_⟩) hHeld ?_
  rotate_left
  · (intro w' hSw; (try dsimp only at hSw); go_simp; try (with_reducible rfl))
  try simp only [Act.put, List.setIfInBounds_toArray, List.set_cons_zero, List.set_cons_succ]
  skip
  refine wpAnyH_done (by kernel_rfl) ?_ _
  have hb := HB.out
  replace V0 := Lib.hid (V0.out.below hb V0.out.lt)
  replace V1 := Lib.hid (V1.out.below hb V1.out.lt)
  replace HX := Lib.hid (HX.out.below hb)
  replace HP := Lib.hid (HP.out.below hb)
  replace ZL := Lib.hid (ZL.out.below hb)
  replace OL := Lib.hid (OL.out.below hb)
  replace G1 := Lib.hid (G1.out.below hb G1.out.lt)
  replace ZT := Lib.hid (ZT.out.below hb)
  replace NT2 := Lib.hid (NT2.out.below hb)
  replace G2 := Lib.hid (G2.out.below hb G2.out.lt)
  replace ZR := Lib.hid (ZR.out.below hb)
  replace G3 := Lib.hid (G3.out.below hb G3.out.lt)
  replace G4 := Lib.hid (G4.out.below hb G4.out.lt)
  replace B1 := Lib.hid (B1.out.trans (hb.mono B1.out.size))
  clear hHeld hb HB Za Na
  rcases CR.out with ⟨h1, h3⟩ | ⟨h1, h2, h3⟩ | ⟨h1, h2, h3⟩ | ⟨h1, h3⟩
  · subst h1
    have HV := Lib.hid h3
    clear CR h3
    have hv := HV.out
    clear HV
    have HV := Lib.hid hv
    clear hv
    have pc0 := Lib.hid trivial
    go_wp2_with (first
      | (clear pc0; refine wpList_ldZ (by rfl) _ rfl (by rfl) G1.out ?_; have pc1 := Lib.hid trivial)
      | (clear pc1; refine wpList_stZ (by rfl) _ _ rfl (by rfl) (by rfl) V1.out ?_; intro w9 hz hg; replace V0 := Lib.hid (V0.out.gro hg (by have := LT1.out; have := LT2.out; have := LG2.out; have := LT3.out; have := LG3.out; have := LG4.out; have := NG.out; omega)); replace HX := Lib.hid (HX.out.gr V1.out hg); replace HP := Lib.hid (HP.out.gr V1.out hg); replace ZL := Lib.hid (ZL.out.gr V1.out hg); replace OL := Lib.hid (OL.out.gr V1.out hg); replace G1 := Lib.hid (G1.out.gr hg (by have := LT1.out; have := LT2.out; have := LG2.out; have := LT3.out; have := LG3.out; have := LG4.out; have := NG.out; omega)); replace ZT := Lib.hid (ZT.out.gr V1.out hg); replace NT2 := Lib.hid (NT2.out.gr V1.out hg); replace G2 := Lib.hid (G2.out.gro hg (by have := LT1.out; have := LT2.out; have := LG2.out; have := LT3.out; have := LG3.out; have := LG4.out; have := NG.out; omega)); replace ZR := Lib.hid (ZR.out.gr V1.out hg); replace G3 := Lib.hid (G3.out.gr hg (by have := LT1.out; have := LT2.out; have := LG2.out; have := LT3.out; have := LG3.out; have := LG4.out; have := NG.out; omega)); replace G4 := Lib.hid (G4.out.gr hg (by have := LT1.out; have := LT2.out; have := LG2.out; have := LT3.out; have := LG3.out; have := LG4.out; have := NG.out; omega)); replace B1 := Lib.hid (Below.gr B1.out (by omega) hg B1.out.size); replace V1 := Lib.hid hz; clear hz hg; have pc2 := Lib.hid trivial))
    clear pc2
    have hv := HV.out
    subst hv
    exact ret_zb Tryz.results48 rfl rfl V1.out ⟨_, _, rfl, OL.out, B1.out⟩
  · subst h1
    have HV := Lib.hid h3
    clear CR h3
    have SR : Hid (sg rr = 0) := by show _ = _; rw [h2]; rfl
    clear h2
    have hv := HV.out
    clear HV
    have HV := Lib.hid hv
    clear hv
    have pc0 := Lib.hid trivial
    go_wp2_with (first
      | (clear pc0; refine wpList_ldZ (by rfl) _ rfl (by rfl) G4.out ?_; have pc1 := Lib.hid trivial)
      | (clear pc1; go_at_call 82; refine Calls.mono (rsign_k (r := 0) ZR.out.in_ (Nat.le_trans LRR.out (by decide)) SR.out) ?_; rintro e w8 ⟨rfl, hb⟩; replace V0 := Lib.hid (V0.out.below hb V0.out.lt); replace V1 := Lib.hid (V1.out.below hb V1.out.lt); replace HX := Lib.hid (HX.out.below hb); replace HP := Lib.hid (HP.out.below hb); replace ZL := Lib.hid (ZL.out.below hb); replace OL := Lib.hid (OL.out.below hb); replace G1 := Lib.hid (G1.out.below hb G1.out.lt); replace ZT := Lib.hid (ZT.out.below hb); replace NT2 := Lib.hid (NT2.out.below hb); replace G2 := Lib.hid (G2.out.below hb G2.out.lt); replace ZR := Lib.hid (ZR.out.below hb); replace G3 := Lib.hid (G3.out.below hb G3.out.lt); replace G4 := Lib.hid (G4.out.below hb G4.out.lt); replace B1 := Lib.hid (B1.out.trans (hb.mono B1.out.size)); clear hb; have pc2 := Lib.hid trivial)
      | (clear pc2; refine wpList_ldZ (by rfl) _ rfl (by rfl) G1.out ?_; have pc3 := Lib.hid trivial)
      | (clear pc3; refine wpList_stZ (by rfl) _ _ rfl (by rfl) (by rfl) V1.out ?_; intro w9 hz hg; replace V0 := Lib.hid (V0.out.gro hg (by have := LT1.out; have := LT2.out; have := LG2.out; have := LT3.out; have := LG3.out; have := LG4.out; have := NG.out; omega)); replace HX := Lib.hid (HX.out.gr V1.out hg); replace HP := Lib.hid (HP.out.gr V1.out hg); replace ZL := Lib.hid (ZL.out.gr V1.out hg); replace OL := Lib.hid (OL.out.gr V1.out hg); replace G1 := Lib.hid (G1.out.gr hg (by have := LT1.out; have := LT2.out; have := LG2.out; have := LT3.out; have := LG3.out; have := LG4.out; have := NG.out; omega)); replace ZT := Lib.hid (ZT.out.gr V1.out hg); replace NT2 := Lib.hid (NT2.out.gr V1.out hg); replace G2 := Lib.hid (G2.out.gro hg (by have := LT1.out; have := LT2.out; have := LG2.out; have := LT3.out; have := LG3.out; have := LG4.out; have := NG.out; omega)); replace ZR := Lib.hid (ZR.out.gr V1.out hg); replace G3 := Lib.hid (G3.out.gr hg (by have := LT1.out; have := LT2.out; have := LG2.out; have := LT3.out; have := LG3.out; have := LG4.out; have := NG.out; omega)); replace G4 := Lib.hid (G4.out.gr hg (by have := LT1.out; have := LT2.out; have := LG2.out; have := LT3.out; have := LG3.out; have := LG4.out; have := NG.out; omega)); replace B1 := Lib.hid (Below.gr B1.out (by omega) hg B1.out.size); replace V1 := Lib.hid hz; clear hz hg; have pc4 := Lib.hid trivial))
    clear pc4
    have hv := HV.out
    subst hv
    exact ret_zb Tryz.results48 rfl rfl V1.out ⟨_, _, rfl, OL.out, B1.out⟩
  · subst h1
    have HV := Lib.hid h3
    clear CR h3
    have SR : Hid (sg rr = 1) := by show _ = _; rw [h2]; rfl
    clear h2
    have EA : Hid (f + one = v) := by show _ = _; have := HV.out; have := Eone.out; omega
    clear HV
    have pc0 := Lib.hid trivial
    go_wp2_with (first
      | (clear pc0; refine wpList_ldZ (by rfl) _ rfl (by rfl) G4.out ?_; have pc1 := Lib.hid trivial)
      | (clear pc1; go_at_call 82; refine Calls.mono (rsign_k (r := 1) ZR.out.in_ (Nat.le_trans LRR.out (by decide)) SR.out) ?_; rintro e w8 ⟨rfl, hb⟩; replace V0 := Lib.hid (V0.out.below hb V0.out.lt); replace V1 := Lib.hid (V1.out.below hb V1.out.lt); replace HX := Lib.hid (HX.out.below hb); replace HP := Lib.hid (HP.out.below hb); replace ZL := Lib.hid (ZL.out.below hb); replace OL := Lib.hid (OL.out.below hb); replace G1 := Lib.hid (G1.out.below hb G1.out.lt); replace ZT := Lib.hid (ZT.out.below hb); replace NT2 := Lib.hid (NT2.out.below hb); replace G2 := Lib.hid (G2.out.below hb G2.out.lt); replace ZR := Lib.hid (ZR.out.below hb); replace G3 := Lib.hid (G3.out.below hb G3.out.lt); replace G4 := Lib.hid (G4.out.below hb G4.out.lt); replace B1 := Lib.hid (B1.out.trans (hb.mono B1.out.size)); clear hb; have pc2 := Lib.hid trivial))
    clear pc2
    have HB : Hid (Below w8.heap.size w8 w8.drew) := below_drewN _ w8 1
    refine wp_region_held_drew (S := fun w' => w8.grownBy w' (some (w.heap.size + 1))) (by kernel_rfl) ((grown_below HB.out : World.grownBy _ _ (some (w.heap.size + 1)))) (fun hHeld => ?_)
    refine wpAnyH_takeL (i := 0) (oi := _) rfl (by kernel_rfl) (by kernel_rfl) (by kernel_rfl) (fun _ _ _ h => h) (yields_ldZ (by rfl) _ rfl (by rfl) (fun _ hb => G1.out.gr hb (by have := LT1.out; have := LT2.out; have := LG2.out; have := LT3.out; have := LG3.out; have := LG4.out; have := NG.out; omega))) hHeld ?_
    try simp only [Act.put, List.setIfInBounds_toArray, List.set_cons_zero, List.set_cons_succ]
    refine wpAnyH_ready (rs := [1]) (by kernel_rfl) (by simp) ?_
    refine AllReadyH.consL (o := _) rfl (fun K hK => ?_) AllReadyH.nil
    clear hHeld
    go_simp
    go_at_call 26
    refine Calls.mono (rfromInt_z (v := 1) (z := one) I1.out Eone.out _) ?_
    rintro e wc ⟨Pc, cc, rfl, ho, hb⟩
    replace HB := Lib.hid (HB.out.trans (hb.mono HB.out.size))
    have Zc := Lib.hid (Zo.of_own ho)
    clear ho
    clear hb
    refine hK.out _ _ (grown_below HB.out : World.grownBy _ _ (some (w.heap.size + 1))) (fun hHeld => ?_)
    clear hK K
    try simp only [Act.put, List.setIfInBounds_toArray, List.set_cons_zero, List.set_cons_succ]
    refine wpAnyH_ready (rs := [2]) (by kernel_rfl) (by simp) ?_
    refine AllReadyH.consL (o := _) rfl (fun K hK => ?_) AllReadyH.nil
    clear hHeld
    have SZ := Lib.hid (Nat.le_trans B1.out.size HB.out.size)
    go_simp
    go_at_call 83
    refine Calls.mono (radd_z (x := f) (y := one) (z := v) (ZL.out.below HB.out).in_ Zc.out.in_ LF2.out LON.out EA.out) ?_
    rintro e wd ⟨Pd, cd, rfl, ho, hb⟩
    replace HB := Lib.hid (HB.out.trans (hb.mono HB.out.size))
    have OV := Lib.hid (ho.mono SZ.out)
    clear ho SZ
    clear hb
    refine hK.out _ _ (grown_below HB.out : World.grownBy _ _ (some (w.heap.size + 1))) (fun hHeld => ?_)
    clear hK K
    try simp only [Act.put, List.setIfInBounds_toArray, List.set_cons_zero, List.set_cons_succ]
    refine wpAnyH_ready (rs := [3]) (by kernel_rfl) (by simp) ?_
    refine AllReadyH.consL (o := _) rfl (fun K hK => ?_) AllReadyH.nil
    clear hHeld
    have hb := HB.out
    replace V0 := Lib.hid (V0.out.below hb V0.out.lt)
    replace V1 := Lib.hid (V1.out.below hb V1.out.lt)
    replace HX := Lib.hid (HX.out.below hb)
    replace HP := Lib.hid (HP.out.below hb)
    replace ZL := Lib.hid (ZL.out.below hb)
    replace OL := Lib.hid (OL.out.below hb)
    replace G1 := Lib.hid (G1.out.below hb G1.out.lt)
    replace ZT := Lib.hid (ZT.out.below hb)
    replace NT2 := Lib.hid (NT2.out.below hb)
    replace G2 := Lib.hid (G2.out.below hb G2.out.lt)
    replace ZR := Lib.hid (ZR.out.below hb)
    replace G3 := Lib.hid (G3.out.below hb G3.out.lt)
    replace G4 := Lib.hid (G4.out.below hb G4.out.lt)
    replace B1 := Lib.hid (B1.out.trans (hb.mono B1.out.size))
    rw [if_pos (by rfl)]
    refine wp_stZ _ _ rfl (by rfl) (by rfl) V1.out ?_
    intro wst hz hg
    replace V0 := Lib.hid (V0.out.gro hg (by have := LT1.out; have := LT2.out; have := LG2.out; have := LT3.out; have := LG3.out; have := LG4.out; have := NG.out; omega))
    replace HX := Lib.hid (HX.out.gr V1.out hg)
    replace HP := Lib.hid (HP.out.gr V1.out hg)
    replace ZL := Lib.hid (ZL.out.gr V1.out hg)
    replace OL := Lib.hid (OL.out.gr V1.out hg)
    replace G1 := Lib.hid (G1.out.gr hg (by have := LT1.out; have := LT2.out; have := LG2.out; have := LT3.out; have := LG3.out; have := LG4.out; have := NG.out; omega))
    replace ZT := Lib.hid (ZT.out.gr V1.out hg)
    replace NT2 := Lib.hid (NT2.out.gr V1.out hg)
    replace G2 := Lib.hid (G2.out.gro hg (by have := LT1.out; have := LT2.out; have := LG2.out; have := LT3.out; have := LG3.out; have := LG4.out; have := NG.out; omega))
    replace ZR := Lib.hid (ZR.out.gr V1.out hg)
    replace G3 := Lib.hid (G3.out.gr hg (by have := LT1.out; have := LT2.out; have := LG2.out; have := LT3.out; have := LG3.out; have := LG4.out; have := NG.out; omega))
    replace G4 := Lib.hid (G4.out.gr hg (by have := LT1.out; have := LT2.out; have := LG2.out; have := LT3.out; have := LG3.out; have := LG4.out; have := NG.out; omega))
    replace OV := Lib.hid (OV.out.gr V1.out hg)
    replace B1 := Lib.hid (Below.gr B1.out (by omega) hg B1.out.size)
    replace V1 := Lib.hid hz
    refine hK.out _ _ (World.grownBy.trans (grown_below hb) hg) (fun hHeld => ?_)
    clear hK K hg hb HB hz
    try simp only [Act.put]
    skip
    refine wpAnyH_done (by kernel_rfl) ?_ _
    clear hHeld
    go_wp2
    exact ret_zb Tryz.results48 rfl rfl V1.out ⟨_, _, rfl, OV.out, B1.out⟩
  · subst h1
    have HV := Lib.hid h3
    clear CR h3
    have EA : Hid (f + one = v) := by show _ = _; have := HV.out; have := Eone.out; omega
    clear HV
    go_wp2_with fail
    have HB : Hid (Below wb.heap.size wb wb.drew) := below_drewN _ wb 1
    refine wp_region_held_drew (S := fun w' => wb.grownBy w' (some (w.heap.size + 1))) (by kernel_rfl) ((grown_below HB.out : World.grownBy _ _ (some (w.heap.size + 1)))) (fun hHeld => ?_)
    refine wpAnyH_takeL (i := 0) (oi := _) rfl (by kernel_rfl) (by kernel_rfl) (by kernel_rfl) (fun _ _ _ h => h) (yields_ldZ (by rfl) _ rfl (by rfl) (fun _ hb => G1.out.gr hb (by have := LT1.out; have := LT2.out; have := LG2.out; have := LT3.out; have := LG3.out; have := LG4.out; have := NG.out; omega))) hHeld ?_
    try simp only [Act.put, List.setIfInBounds_toArray, List.set_cons_zero, List.set_cons_succ]
    refine wpAnyH_ready (rs := [1]) (by kernel_rfl) (by simp) ?_
    refine AllReadyH.consL (o := _) rfl (fun K hK => ?_) AllReadyH.nil
    clear hHeld
    go_simp
    go_at_call 26
    refine Calls.mono (rfromInt_z (v := 1) (z := one) I1.out Eone.out _) ?_
    rintro e wc ⟨Pc, cc, rfl, ho, hb⟩
    replace HB := Lib.hid (HB.out.trans (hb.mono HB.out.size))
    have Zc := Lib.hid (Zo.of_own ho)
    clear ho
    clear hb
    refine hK.out _ _ (grown_below HB.out : World.grownBy _ _ (some (w.heap.size + 1))) (fun hHeld => ?_)
    clear hK K
    try simp only [Act.put, List.setIfInBounds_toArray, List.set_cons_zero, List.set_cons_succ]
    refine wpAnyH_ready (rs := [2]) (by kernel_rfl) (by simp) ?_
    refine AllReadyH.consL (o := _) rfl (fun K hK => ?_) AllReadyH.nil
    clear hHeld
    have SZ := Lib.hid (Nat.le_trans B1.out.size HB.out.size)
    go_simp
    go_at_call 83
    refine Calls.mono (radd_z (x := f) (y := one) (z := v) (ZL.out.below HB.out).in_ Zc.out.in_ LF2.out LON.out EA.out) ?_
    rintro e wd ⟨Pd, cd, rfl, ho, hb⟩
    replace HB := Lib.hid (HB.out.trans (hb.mono HB.out.size))
    have OV := Lib.hid (ho.mono SZ.out)
    clear ho SZ
    clear hb
    refine hK.out _ _ (grown_below HB.out : World.grownBy _ _ (some (w.heap.size + 1))) (fun hHeld => ?_)
    clear hK K
    try simp only [Act.put, List.setIfInBounds_toArray, List.set_cons_zero, List.set_cons_succ]
    refine wpAnyH_ready (rs := [3]) (by kernel_rfl) (by simp) ?_
    refine AllReadyH.consL (o := _) rfl (fun K hK => ?_) AllReadyH.nil
    clear hHeld
    have hb := HB.out
    replace V0 := Lib.hid (V0.out.below hb V0.out.lt)
    replace V1 := Lib.hid (V1.out.below hb V1.out.lt)
    replace HX := Lib.hid (HX.out.below hb)
    replace HP := Lib.hid (HP.out.below hb)
    replace ZL := Lib.hid (ZL.out.below hb)
    replace OL := Lib.hid (OL.out.below hb)
    replace G1 := Lib.hid (G1.out.below hb G1.out.lt)
    replace ZT := Lib.hid (ZT.out.below hb)
    replace NT2 := Lib.hid (NT2.out.below hb)
    replace G2 := Lib.hid (G2.out.below hb G2.out.lt)
    replace ZR := Lib.hid (ZR.out.below hb)
    replace G3 := Lib.hid (G3.out.below hb G3.out.lt)
    replace G4 := Lib.hid (G4.out.below hb G4.out.lt)
    replace B1 := Lib.hid (B1.out.trans (hb.mono B1.out.size))
    rw [if_pos (by rfl)]
    refine wp_stZ _ _ rfl (by rfl) (by rfl) V1.out ?_
    intro wst hz hg
    replace V0 := Lib.hid (V0.out.gro hg (by have := LT1.out; have := LT2.out; have := LG2.out; have := LT3.out; have := LG3.out; have := LG4.out; have := NG.out; omega))
    replace HX := Lib.hid (HX.out.gr V1.out hg)
    replace HP := Lib.hid (HP.out.gr V1.out hg)
    replace ZL := Lib.hid (ZL.out.gr V1.out hg)
    replace OL := Lib.hid (OL.out.gr V1.out hg)
    replace G1 := Lib.hid (G1.out.gr hg (by have := LT1.out; have := LT2.out; have := LG2.out; have := LT3.out; have := LG3.out; have := LG4.out; have := NG.out; omega))
    replace ZT := Lib.hid (ZT.out.gr V1.out hg)
    replace NT2 := Lib.hid (NT2.out.gr V1.out hg)
    replace G2 := Lib.hid (G2.out.gro hg (by have := LT1.out; have := LT2.out; have := LG2.out; have := LT3.out; have := LG3.out; have := LG4.out; have := NG.out; omega))
    replace ZR := Lib.hid (ZR.out.gr V1.out hg)
    replace G3 := Lib.hid (G3.out.gr hg (by have := LT1.out; have := LT2.out; have := LG2.out; have := LT3.out; have := LG3.out; have := LG4.out; have := NG.out; omega))
    replace G4 := Lib.hid (G4.out.gr hg (by have := LT1.out; have := LT2.out; have := LG2.out; have := LT3.out; have := LG3.out; have := LG4.out; have := NG.out; omega))
    replace OV := Lib.hid (OV.out.gr V1.out hg)
    replace B1 := Lib.hid (Below.gr B1.out (by omega) hg B1.out.size)
    replace V1 := Lib.hid hz
    refine hK.out _ _ (World.grownBy.trans (grown_below hb) hg) (fun hHeld => ?_)
    clear hK K hg hb HB hz
    try simp only [Act.put]
    skip
    refine wpAnyH_done (by kernel_rfl) ?_ _
    clear hHeld
    go_wp2
    exact ret_zb Tryz.results48 rfl rfl V1.out ⟨_, _, rfl, OV.out, B1.out⟩
end Go.Proofs.YtebpoabflcngoaaGreatDoor
