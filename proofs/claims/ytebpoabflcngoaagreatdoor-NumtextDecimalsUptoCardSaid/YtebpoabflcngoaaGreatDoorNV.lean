/-
  Nrv, Ndn.
-/
import Derived.Test.YtebpoabflcngoaaGreatDoorRref
import Derived.Test.YtebpoabflcngoaaGreatDoorRround
import Derived.Test.YtebpoabflcngoaaGreatDoorNT
import Derived.Test.YtebpoabflcngoaaGreatDoorNU
/-
  Contract of the reference's Value.
-/
namespace Go.Proofs.YtebpoabflcngoaaGreatDoor
open Go.RowKit
set_option linter.unusedVariables false

theorem ruint64_yes_n {A : Option Addr} {cap n : Nat} {xs : List Nat} {w : World} (h : Rd w A cap xs) (hn : xs.length = n) (hl : n ≤ 70368744177664) (hv : val xs < 18446744073709551616) {z : Int} (hz : ((val xs : Nat) : Int) = z) :
    Calls Tryz.prog 62 #[.slice A n cap] w fun e w' => e = .returned (.tuple #[.int .u64 z, .bool true]) ∧ Below w.heap.size w w' := by
  subst hn hz; exact ruint64_yes A cap xs w h hl hv
end Go.Proofs.YtebpoabflcngoaaGreatDoor

/-
  Contracts: Decimal of other numbers, Fixed of other places.
-/
namespace Go.Proofs.YtebpoabflcngoaaGreatDoor
open Go.RowKit
set_option linter.unusedVariables false

set_option maxRecDepth 100000 in
set_option maxHeartbeats 16000000 in
theorem fixed_bad {s : Bool} {A D : Option Addr} {n c m k : Nat} {pv : Int} (hp : pv < 0 ∨ 100 < pv) (w : World) :
    Calls Tryz.prog 15 #[.agg #[.bool s, .slice A n c, .slice D m k], .int .i64 pv] w fun e w' => e = .returned (.tuple #[.string ⟨#[]⟩, .int .i64 3]) ∧ Below w.heap.size w w' := by
  obtain ⟨B1, V0⟩ := start_nR w s A n c D m k
  rcases hp with hp | hp
  · go_enter Tryz.func15, Tryz.ntmps15
    go_wp2
    go_ret2
    exact ⟨rfl, B1.out⟩
  · have hp2 : ¬ pv < 0 := by omega
    go_enter Tryz.func15, Tryz.ntmps15
    go_wp2
    go_ret2
    exact ⟨rfl, B1.out⟩
set_option maxRecDepth 100000 in
set_option maxHeartbeats 16000000 in
theorem decimal_no {s : Bool} {A D : Option Addr} {n c m k : Nat} {x : Int} {p : Nat} {w : World} (h : Zin w s A n c x) (h' : Nin w D m k p) (hn : n ≤ 1500000) (hm : m ≤ 1500000) (hE : Env w) {k1 r1 k2 r2 : Nat} (h1 : Facs (mkRat x p).den 2 k1 r1) (h2 : Facs r1 5 k2 r2) (hr2 : r2 ≠ 1) :
    Calls Tryz.prog 13 #[.agg #[.bool s, .slice A n c, .slice D m k]] w fun e w' => e = .returned (.tuple #[.string ⟨#[]⟩, .bool false]) ∧ Below w.heap.size w w' := by
  obtain ⟨B1, V0⟩ := start_nR w s A n c D m k
  have HX := Lib.hid (h.below B1.out)
  have HP := Lib.hid (h'.below B1.out)
  have HE := Lib.hid (hE.below B1.out)
  obtain ⟨z, hz⟩ : ∃ z, (mkRat x p).num = z := ⟨_, rfl⟩
  obtain ⟨d, hd⟩ : ∃ d, (mkRat x p).den = d := ⟨_, rfl⟩
  have hzd : mkRat z d = mkRat x p := by rw [← hz, ← hd, mk_self]
  have hrl : RL (mkRat x p) 1500000 := rl_mk (Nat.le_trans h.len hn) (Nat.le_trans h'.len hm) (by decide)
  have l1 := hrl.1
  have l2 := hrl.2
  rw [hz] at l1
  rw [hd] at l2 h1
  have d0 : 0 < d := by rw [← hd]; exact den_pos _
  have r0 : 0 < r1 := h1.pos d0
  have r20 : 0 < r2 := h2.pos r0
  have hb1 := h1.le d0 (by decide)
  have hb2 := h2.le r0 (by decide)
  have lr1 : (ofv r1).length ≤ 1500000 := Nat.le_trans (len_mono hb1.2) l2
  have HZ := Lib.hid hz
  have HD := Lib.hid hd
  have KN := Lib.hid hn
  have KM := Lib.hid hm
  have LL : Hid (1 ≤ 1500000 ∧ 1500000 ≤ 70368744177660) := by show _ ∧ _; omega
  have SZ : Hid (w.heap.size ≤ (w.alloc (.cells #[.bool s, .slice A n c, .slice D m k] 26)).heap.size) := B1.out.size
  have D0 := Lib.hid d0
  have R0 := Lib.hid r0
  have H1 := Lib.hid h1
  have H2 := Lib.hid h2
  have LD : Hid ((ofv d).length ≤ 100000000000) := Nat.le_trans l2 (by decide)
  have LR : Hid ((ofv r1).length ≤ 100000000000) := Nat.le_trans lr1 (by decide)
  have L2 : Hid ((ofv 2).length ≤ 1000000000000) := Nat.le_trans (len_small (by decide)) (by decide)
  have L5 : Hid ((ofv 5).length ≤ 1000000000000) := Nat.le_trans (len_small (by decide)) (by decide)
  have LT2 : Hid (2 ≤ 2) := Nat.le_refl 2
  have LT5 : Hid (2 ≤ 5) := by show 2 ≤ 5; decide
  have SS : Hid (sg (((r2 : Nat) : Int) - ((1 : Nat) : Int)) = 1) := by
    show _ = _
    rcases sg_cases (((r2 : Nat) : Int) - ((1 : Nat) : Int)) with ⟨e, h0⟩ | ⟨e, h0⟩ | ⟨e, h0⟩ <;> first | exact e | omega
  clear h h' hn hm hE h1 h2 hz hd hzd hrl l1 l2 d0 r0 r20 hb1 hb2 lr1 hr2
  go_enter Tryz.func13, Tryz.ntmps13
  go_wp2_with fail
  refine (norm_any (L := 1500000) HX.out HP.out KN.out KM.out LL.out HZ.out HD.out).mono ?_
  rintro e w3 ⟨P, c1, Q, c2, rfl, ho, ho2, hb⟩
  replace V0 := Lib.hid (V0.out.below hb V0.out.lt)
  replace HX := Lib.hid (HX.out.below hb)
  replace HP := Lib.hid (HP.out.below hb)
  replace HE := Lib.hid (HE.out.below hb)
  replace B1 := Lib.hid (B1.out.trans (hb.mono B1.out.size))
  have OZ := Lib.hid (ho.mono SZ.out)
  have OD := Lib.hid (ho2.mono SZ.out)
  clear ho ho2 SZ HX HP
  clear hb
  go_wp2_with (refine wpList_stR (by rfl) _ _ rfl (by rfl) (by rfl) V0.out ?_; intro w4 hz hg; replace OZ := Lib.hid (OZ.out.grR V0.out hg); replace OD := Lib.hid (OD.out.grR V0.out hg); replace B1 := Lib.hid (Below.gr B1.out (by omega) hg B1.out.size); replace HE := Lib.hid (HE.out.grR V0.out hg); replace V0 := Lib.hid hz; clear hz hg)
  have LT : Hid (w.heap.size < w4.heap.size) := V0.out.lt
  have LO : Hid (w.heap.size ≤ w4.heap.size) := B1.out.size
  have HB : Hid (Below w4.heap.size w4 w4.drew) := below_drewN _ w4 1
  refine wp_region_held_drew (S := fun w' => Below w4.heap.size w4 w') (by kernel_rfl) (HB.out) (fun hHeld => ?_)
  refine wpAnyH_takeL (i := 0) (oi := _) (v := ?_) rfl (by kernel_rfl) (by kernel_rfl) (by kernel_rfl) (fun _ _ _ h => h) (Or.inl ⟨by rfl, ?_⟩) hHeld ?_
  rotate_left
  · (intro w' hSw; (try dsimp only at hSw); go_simp; try (with_reducible rfl))
  try simp only [Act.put, List.setIfInBounds_toArray, List.set_cons_zero, List.set_cons_succ]
  refine wpAnyH_takeL (i := 1) (oi := _) rfl (by kernel_rfl) (by kernel_rfl) (by kernel_rfl) (fun _ _ _ h => h) (yields_ldRd (by rfl) _ rfl (by rfl) (fun _ hb => V0.out.below hb V0.out.lt)) hHeld ?_
  try simp only [Act.put, List.setIfInBounds_toArray, List.set_cons_zero, List.set_cons_succ]
  refine wpAnyH_takeL (i := 2) (oi := _) (v := ?_) rfl (by kernel_rfl) (by kernel_rfl) (by kernel_rfl) (fun _ _ _ h => h) (Or.inl ⟨by rfl, ?_⟩) hHeld ?_
  rotate_left
  · (intro w' hSw; (try dsimp only at hSw); go_simp; try (with_reducible rfl))
  try simp only [Act.put, List.setIfInBounds_toArray, List.set_cons_zero, List.set_cons_succ]
  refine wpAnyH_rgt [(3, some 13), (4, some 14), (5, some 9), (6, some 15), (7, some 16), (8, some 5)] [5, 6, 7] (isNewZ w4.heap.size) [(3, isN 2), (4, isK k1 r1), (5, isK k1 r1), (6, isV (.int .i64 (k1 : Int))), (7, isN r1)] w4 (f0 := 2) (by kernel_rfl) (by kernel_rfl) (by rfl) HB.out (fun _ h => h) (fun _ _ _ _ _ h => h) (isNewZ_good _) ⟨isN_good _, isK_good _ _, isK_good _ _, isV_good _, isN_good _, trivial⟩ ?_ ?_ ?_
  · clear hHeld HB
    show RgOps _ _ _ _ _ _ _ _ _ [3, 4, 8]
    refine RgOps.consL (o := _) (ds := []) rfl rfl (by kernel_rfl) (fun vals wr hbr hC hdep K hK => ?_) ?_
    · have BB := Lib.hid hbr
      clear hdep
      clear hbr hC
      simp only [Upd2, Act.put, List.setIfInBounds_toArray, List.set_cons_zero, List.set_cons_succ] at hK ⊢
      go_simp
      go_at_call 39
      refine Calls.mono (fromNat (n := 2) rfl (by decide) _) ?_
      rintro e wq ⟨R, cR, rfl, ho, hb⟩
      exact hK.out _ _ (LeavesB.behind hb ⟨_, _, rfl, ho.rd⟩ rfl)
    refine RgOps.consL (o := _) (ds := [3]) rfl rfl (by kernel_rfl) (fun vals wr hbr hC hdep K hK => ?_) ?_
    · have BB := Lib.hid hbr
      obtain ⟨⟨P3, c3, e3, o3⟩, -⟩ := hdep
      clear hbr hC
      simp only [e3, Upd2, Act.put, List.setIfInBounds_toArray, List.set_cons_zero, List.set_cons_succ] at hK ⊢
      clear e3
      go_simp
      go_at_call 38
      refine Calls.mono (rf_at D0.out LT2.out LD.out L2.out (OD.out.below BB.out).rd o3 H1.out) ?_
      rintro e wq ⟨R, q, rfl, hr, hb⟩
      exact hK.out _ _ (LeavesB.behind hb ⟨_, _, rfl, hr⟩ rfl)
    refine RgOps.consL (o := _) (ds := []) rfl rfl (by kernel_rfl) (fun vals wr hbr hC hdep K hK => ?_) RgOps.nil
    · have BB := Lib.hid hbr
      clear hdep
      clear hbr hC
      simp only [Upd2, Act.put, List.setIfInBounds_toArray, List.set_cons_zero, List.set_cons_succ] at hK ⊢
      go_simp
      exact hK.out _ _ (LeavesB.newZ BB.out.size)
  · clear hHeld HB
    show TaAll _ _ _ _ _ [5, 6, 7]
    refine TaAll.cons (o := _) (ds := [4]) rfl rfl (by kernel_rfl) (fun vals wr hdep => ?_) ?_
    · obtain ⟨⟨P4, c4, e4, o4⟩, -⟩ := hdep
      refine ⟨_, fun S => Or.inl ⟨by rfl, ?_⟩, ⟨_, _, rfl, o4⟩, rfl⟩
      intro w' _
      simp only [e4, Upd2, Act.put, List.setIfInBounds_toArray, List.set_cons_zero, List.set_cons_succ]
      go_simp
    refine TaAll.cons (o := _) (ds := [5]) rfl rfl (by kernel_rfl) (fun vals wr hdep => ?_) ?_
    · obtain ⟨⟨P5, c5, e5, o5⟩, -⟩ := hdep
      refine ⟨_, fun S => Or.inl ⟨by rfl, ?_⟩, ⟨rfl, rfl⟩, rfl⟩
      intro w' _
      simp only [e5, Upd2, Act.put, List.setIfInBounds_toArray, List.set_cons_zero, List.set_cons_succ]
      go_simp
    refine TaAll.cons (o := _) (ds := [5]) rfl rfl (by kernel_rfl) (fun vals wr hdep => ?_) TaAll.nil
    · obtain ⟨⟨P5, c5, e5, o5⟩, -⟩ := hdep
      refine ⟨_, fun S => Or.inl ⟨by rfl, ?_⟩, ⟨_, _, rfl, o5⟩, rfl⟩
      intro w' _
      simp only [e5, Upd2, Act.put, List.setIfInBounds_toArray, List.set_cons_zero, List.set_cons_succ]
      go_simp
  clear hHeld HB
  intro vals wr hb hdep hD
  obtain ⟨⟨P3, c3, e3, o3⟩, ⟨P4, c4, e4, o4⟩, ⟨P5, c5, e5, o5⟩, ⟨e6, -⟩, ⟨P7, c7, e7, o7⟩, ⟨g8, e8, l8, z8⟩, -⟩ := hdep
  simp only [Upd2, e3, e4, e5, e6, e7, e8, Act.put, List.setIfInBounds_toArray, List.set_cons_zero, List.set_cons_succ]
  clear e3 e4 e5 e6 e7 e8
  clear hD vals
  replace V0 := Lib.hid (V0.out.below hb V0.out.lt)
  replace OZ := Lib.hid (OZ.out.below hb)
  replace OD := Lib.hid (OD.out.below hb)
  replace HE := Lib.hid (HE.out.below hb)
  replace B1 := Lib.hid (B1.out.trans (hb.mono B1.out.size))
  have HB := Lib.hid hb
  clear hb
  have R1 := Lib.hid o7; have G1 := Lib.hid z8; have LG1 : Hid (w4.heap.size ≤ g8) := l8; have LL1 := Lib.hid l8
  clear o3 o4 o5 o7 z8 l8
  have hHeld : Below w4.heap.size w4 _ ∧ Below w4.heap.size w4 _ := ⟨HB.out, HB.out⟩
  refine wpAnyH_takeL (i := 9) (oi := _) (v := ?_) rfl (by kernel_rfl) (by kernel_rfl) (by kernel_rfl) (fun _ _ _ h => h) (Or.inl ⟨by rfl, ?_⟩) hHeld ?_
  rotate_left
  · (intro w' hSw; (try dsimp only at hSw); go_simp; try (with_reducible rfl))
  try simp only [Act.put, List.setIfInBounds_toArray, List.set_cons_zero, List.set_cons_succ]
  clear hHeld
  refine wpAnyH_ready (rs := [10]) (by kernel_rfl) (by simp) ?_
  refine AllReadyH.consL (o := _) rfl (fun K hK => ?_) AllReadyH.nil
  rw [if_pos (by rfl)]
  refine wp_stZ _ _ rfl (by rfl) (by rfl) G1.out ?_
  intro ws0 hz hg
  replace HB := Lib.hid (Below.gr HB.out (by have := LL1.out; omega) hg HB.out.size)
  replace V0 := Lib.hid (V0.out.gro hg (by have := LG1.out; have := LT.out; omega))
  replace OZ := Lib.hid (OZ.out.gr G1.out hg)
  replace OD := Lib.hid (OD.out.gr G1.out hg)
  replace HE := Lib.hid (HE.out.gr G1.out hg)
  replace R1 := Lib.hid (R1.out.gr G1.out hg)
  replace B1 := Lib.hid (Below.gr B1.out (by have := LG1.out; have := LT.out; omega) hg B1.out.size)
  replace G1 := Lib.hid hz
  refine hK.out _ _ ⟨HB.out, HB.out⟩ (fun _ => ?_)
  clear hK K hg hz
  try simp only [Act.put]
  refine wpAnyH_done (by kernel_rfl) ?_ _
  clear HB
  go_wp2_with fail
  have HB : Hid (Below ws0.heap.size ws0 ws0.drew) := below_drewN _ ws0 1
  refine wp_region_held_drew (S := fun _ => True) (by kernel_rfl) trivial (fun hHeld => ?_)
  refine wpAnyH_rgu [(0, some 18), (1, some 19), (2, some 20), (3, some 17), (4, some 21), (5, some 22)] [3, 4, 5] (isK k2 r2) [(0, isN r1), (1, isN 5), (4, isV (.int .i64 (k2 : Int))), (5, isN r2)] ws0 (f0 := 2) (by kernel_rfl) (by kernel_rfl) (by rfl) HB.out (fun _ _ => trivial) (fun _ _ _ _ _ h => h) (isK_good _ _) ⟨isN_good _, isN_good _, isV_good _, isN_good _, trivial⟩ ?_ ?_ ?_
  · clear hHeld HB
    show RgOps _ _ _ _ _ _ _ _ _ [0, 1, 2]
    refine RgOps.consL (o := _) (ds := []) rfl rfl (by kernel_rfl) (fun vals wr hbr hC hdep K hK => ?_) ?_
    · have BB := Lib.hid hbr
      clear hdep
      clear hbr hC
      simp only [Upd2, Act.put, List.setIfInBounds_toArray, List.set_cons_zero, List.set_cons_succ] at hK ⊢
      rw [if_pos (by rfl)]
      refine wp_ldZ _ rfl (by rfl) (G1.out.below BB.out G1.out.lt) ?_
      exact hK.out _ _ (LeavesB.same ⟨_, _, rfl, R1.out.below BB.out⟩ rfl)
    refine RgOps.consL (o := _) (ds := []) rfl rfl (by kernel_rfl) (fun vals wr hbr hC hdep K hK => ?_) ?_
    · have BB := Lib.hid hbr
      clear hdep
      clear hbr hC
      simp only [Upd2, Act.put, List.setIfInBounds_toArray, List.set_cons_zero, List.set_cons_succ] at hK ⊢
      go_simp
      go_at_call 39
      refine Calls.mono (fromNat (n := 5) rfl (by decide) _) ?_
      rintro e wq ⟨R, cR, rfl, ho, hb⟩
      exact hK.out _ _ (LeavesB.behind hb ⟨_, _, rfl, ho.rd⟩ rfl)
    refine RgOps.consL (o := _) (ds := [0, 1]) rfl rfl (by kernel_rfl) (fun vals wr hbr hC hdep K hK => ?_) RgOps.nil
    · have BB := Lib.hid hbr
      obtain ⟨⟨P0, c0, e0, o0⟩, ⟨P1, c1, e1, o1⟩, -⟩ := hdep
      clear hbr hC
      simp only [e0, e1, Upd2, Act.put, List.setIfInBounds_toArray, List.set_cons_zero, List.set_cons_succ] at hK ⊢
      clear e0 e1
      go_simp
      go_at_call 38
      refine Calls.mono (rf_at R0.out LT5.out LR.out L5.out o0 o1 H2.out) ?_
      rintro e wq ⟨R, q, rfl, hr, hb⟩
      exact hK.out _ _ (LeavesB.behind hb ⟨_, _, rfl, hr⟩ rfl)
  · clear hHeld HB
    show TaAll _ _ _ _ _ [3, 4, 5]
    refine TaAll.cons (o := _) (ds := [2]) rfl rfl (by kernel_rfl) (fun vals wr hdep => ?_) ?_
    · obtain ⟨⟨P2, c2, e2, o2⟩, -⟩ := hdep
      refine ⟨_, fun S => Or.inl ⟨by rfl, ?_⟩, ⟨_, _, rfl, o2⟩, rfl⟩
      intro w' _
      simp only [e2, Upd2, Act.put, List.setIfInBounds_toArray, List.set_cons_zero, List.set_cons_succ]
      go_simp
    refine TaAll.cons (o := _) (ds := [3]) rfl rfl (by kernel_rfl) (fun vals wr hdep => ?_) ?_
    · obtain ⟨⟨P3, c3, e3, o3⟩, -⟩ := hdep
      refine ⟨_, fun S => Or.inl ⟨by rfl, ?_⟩, ⟨rfl, rfl⟩, rfl⟩
      intro w' _
      simp only [e3, Upd2, Act.put, List.setIfInBounds_toArray, List.set_cons_zero, List.set_cons_succ]
      go_simp
    refine TaAll.cons (o := _) (ds := [3]) rfl rfl (by kernel_rfl) (fun vals wr hdep => ?_) TaAll.nil
    · obtain ⟨⟨P3, c3, e3, o3⟩, -⟩ := hdep
      refine ⟨_, fun S => Or.inl ⟨by rfl, ?_⟩, ⟨_, _, rfl, o3⟩, rfl⟩
      intro w' _
      simp only [e3, Upd2, Act.put, List.setIfInBounds_toArray, List.set_cons_zero, List.set_cons_succ]
      go_simp
  clear hHeld HB
  intro vals wr hb hdep hD
  obtain ⟨⟨P0, c0, e0, o0⟩, ⟨P1, c1, e1, o1⟩, ⟨P2, c2, e2, o2⟩, ⟨P3, c3, e3, o3⟩, ⟨e4, -⟩, ⟨P5, c5, e5, o5⟩, -⟩ := hdep
  simp only [Upd2, e0, e1, e2, e3, e4, e5, Act.put, List.setIfInBounds_toArray, List.set_cons_zero, List.set_cons_succ]
  clear e0 e1 e2 e3 e4 e5
  clear hD vals
  replace V0 := Lib.hid (V0.out.below hb V0.out.lt)
  replace OZ := Lib.hid (OZ.out.below hb)
  replace OD := Lib.hid (OD.out.below hb)
  replace HE := Lib.hid (HE.out.below hb)
  replace R1 := Lib.hid (R1.out.below hb)
  replace G1 := Lib.hid (G1.out.below hb G1.out.lt)
  replace B1 := Lib.hid (B1.out.trans (hb.mono B1.out.size))
  have HB := Lib.hid hb
  clear hb
  have R2 := Lib.hid o5
  clear o0 o1 o2 o3 o5
  have hHeld : True := trivial
  refine wpAnyH_takeL (i := 6) (oi := _) (v := ?_) rfl (by kernel_rfl) (by kernel_rfl) (by kernel_rfl) (fun _ _ _ h => h) (Or.inl ⟨by rfl, ?_⟩) hHeld ?_
  rotate_left
  · (intro w' hSw; (try dsimp only at hSw); go_simp; try (with_reducible rfl))
  try simp only [Act.put, List.setIfInBounds_toArray, List.set_cons_zero, List.set_cons_succ]
  clear hHeld
  refine wpAnyH_ready (rs := [7]) (by kernel_rfl) (by simp) ?_
  refine AllReadyH.consL (o := _) rfl (fun K hK => ?_) AllReadyH.nil
  rw [if_pos (by rfl)]
  refine wp_stZ _ _ rfl (by rfl) (by rfl) G1.out ?_
  intro w6_0 hz hg
  replace V0 := Lib.hid (V0.out.gro hg (by have := LG1.out; have := LT.out; omega))
  replace OZ := Lib.hid (OZ.out.gr G1.out hg)
  replace OD := Lib.hid (OD.out.gr G1.out hg)
  replace HE := Lib.hid (HE.out.gr G1.out hg)
  replace R1 := Lib.hid (R1.out.gr G1.out hg)
  replace R2 := Lib.hid (R2.out.gr G1.out hg)
  replace B1 := Lib.hid (Below.gr B1.out (by have := LG1.out; have := LT.out; omega) hg B1.out.size)
  replace G1 := Lib.hid hz
  refine hK.out _ _ trivial (fun _ => ?_)
  clear hK K hg hz
  try simp only [Act.put]
  refine wpAnyH_done (by kernel_rfl) ?_ _
  clear HB
  go_wp2_with fail
  have HB : Hid (Below w6_0.heap.size w6_0 w6_0.drew) := below_drewN _ w6_0 1
  refine wp_region_held_drew (S := fun w' => Below w6_0.heap.size w6_0 w') (by kernel_rfl) (HB.out) (fun hHeld => ?_)
  refine wpAnyH_takeL (i := 0) (oi := _) rfl (by kernel_rfl) (by kernel_rfl) (by kernel_rfl) (fun _ _ _ h => h) (yields_ldZ (by rfl) _ rfl (by rfl) (fun _ hb => G1.out.below hb G1.out.lt)) hHeld ?_
  try simp only [Act.put, List.setIfInBounds_toArray, List.set_cons_zero, List.set_cons_succ]
  refine wpAnyH_ready (rs := [1]) (by kernel_rfl) (by simp) ?_
  refine AllReadyH.consL (o := _) rfl (fun K hK => ?_) AllReadyH.nil
  clear hHeld
  go_simp
  go_at_call 39
  refine Calls.mono (fromNat (n := 1) rfl (by decide) _) ?_
  rintro e w7 ⟨P9, c9, rfl, ho, hb⟩
  replace HB := Lib.hid (HB.out.trans (hb.mono HB.out.size))
  have RO := Lib.hid ho.rd
  clear ho
  clear hb
  refine hK.out _ _ HB.out (fun hHeld => ?_)
  clear hK K
  try simp only [Act.put, List.setIfInBounds_toArray, List.set_cons_zero, List.set_cons_succ]
  refine wpAnyH_ready (rs := [2]) (by kernel_rfl) (by simp) ?_
  refine AllReadyH.consL (o := _) rfl (fun K hK => ?_) AllReadyH.nil
  clear hHeld
  go_simp
  go_at_call 40
  refine Calls.mono (compare_k (x := ((r2 : Nat) : Int)) (y := ((1 : Nat) : Int)) (rd_zin (R2.out.below HB.out)) (rd_zin RO.out) SS.out) ?_
  rintro e w8 ⟨rfl, hb⟩
  replace HB := Lib.hid (HB.out.trans (hb.mono HB.out.size))
  clear RO
  clear hb
  refine hK.out _ _ HB.out (fun hHeld => ?_)
  clear hK K
  try simp only [Act.put, List.setIfInBounds_toArray, List.set_cons_zero, List.set_cons_succ]
  refine wpAnyH_takeL (i := 3) (oi := _) (v := ?_) rfl (by kernel_rfl) (by kernel_rfl) (by kernel_rfl) (fun _ _ _ h => h) (Or.inl ⟨by rfl, ?_⟩) hHeld ?_
  rotate_left
  · (intro w' hSw; (try dsimp only at hSw); go_simp; try (with_reducible rfl))
  try simp only [Act.put, List.setIfInBounds_toArray, List.set_cons_zero, List.set_cons_succ]
  skip
  refine wpAnyH_done (by kernel_rfl) ?_ _
  have hb := HB.out
  replace V0 := Lib.hid (V0.out.below hb V0.out.lt)
  replace OZ := Lib.hid (OZ.out.below hb)
  replace OD := Lib.hid (OD.out.below hb)
  replace HE := Lib.hid (HE.out.below hb)
  replace R1 := Lib.hid (R1.out.below hb)
  replace G1 := Lib.hid (G1.out.below hb G1.out.lt)
  replace R2 := Lib.hid (R2.out.below hb)
  replace B1 := Lib.hid (B1.out.trans (hb.mono B1.out.size))
  clear hHeld hb HB
  go_wp2
  go_ret2
  exact ⟨rfl, B1.out⟩
end Go.Proofs.YtebpoabflcngoaaGreatDoor
