/-
  The statement RationalRounds: its walk.
-/
import Derived.Test.YtgleknejogbomaaGreatRround
namespace Go.Proofs.YtgleknejogbomaaGreat
open Go.RowKit
set_option linter.unusedVariables false

theorem sgR_le {r : Rat} (h : r ≤ 0) : sgR r ≤ 0 := by
  rcases sgR_cases r with h1 | h1 | h1
  · omega
  · omega
  · have := sgR_pos.1 h1
    grind
theorem sq_le {D : Rat} (h1 : -(1/2) ≤ D) (h2 : D ≤ 1/2) : D * D ≤ 1/4 := by
  have := Rat.mul_nonneg (a := 1/2 - D) (b := 1/2 + D) (by grind) (by grind)
  grind
theorem near_half (r : Rat) : -(1/2) ≤ r - (rndR r : Rat) ∧ r - (rndR r : Rat) ≤ 1/2 := by
  have h1 := Rat.floor_le r
  have h2 := Rat.lt_floor_add_one r
  rw [Rat.intCast_add] at h2
  have e : mkRat (2 * r.floor + 1) 1 = 2 * (r.floor : Rat) + 1 := by
    rw [Rat.mkRat_one, Rat.intCast_add, Rat.intCast_mul]; rfl
  have e1 : ((1 : Int) : Rat) = 1 := rfl
  rw [e1] at h2
  rcases rnd_cases r (f := r.floor) (c := _) (rr := _) rfl rfl rfl with ⟨c, h⟩ | ⟨c, _, h⟩ | ⟨c, _, h⟩ | ⟨c, h⟩
  · rw [h]; rw [e, sgR_neg] at c; constructor <;> grind
  · rw [h]; rw [e, sgR_zero] at c; constructor <;> grind
  · rw [h, Rat.intCast_add, e1]; rw [e, sgR_zero] at c; constructor <;> grind
  · rw [h, Rat.intCast_add, e1]; rw [e, sgR_pos] at c; constructor <;> grind
theorem near_sq (r : Rat) : sgR ((r - Rat.divInt (rndR r) 1) * (r - Rat.divInt (rndR r) 1) - Rat.divInt 1 4) ≤ 0 := by
  have h := near_half r
  rw [divInt_cast]
  have h2 := sq_le h.1 h.2
  have e : Rat.divInt 1 4 = 1/4 := by decide +kernel
  rw [e]
  exact sgR_le (by grind)
theorem low_le (r : Rat) : sgR (Rat.divInt r.floor 1 - r) ≤ 0 := by
  have h1 := Rat.floor_le r
  rw [divInt_cast]
  exact sgR_le (by grind)
theorem high_le (r : Rat) : sgR (r - Rat.divInt (-(-r).floor) 1) ≤ 0 := by
  have h1 := Rat.floor_le (-r)
  rw [divInt_cast, Rat.intCast_neg]
  exact sgR_le (by grind)
theorem rnd_or (r : Rat) : rndR r = r.floor ∨ rndR r = r.floor + 1 := by
  unfold rndR; split
  · exact .inl rfl
  · exact .inr rfl
set_option maxRecDepth 100000 in
set_option maxHeartbeats 16000000 in
theorem rationalRounds_walk (b0 : Bool) (a0 : Option Addr) (len0 cap0 : Nat) (z0 : Int) (e0 : Option Addr) (n0 c0 q0 : Nat) (w : World) (hx0 : Zin w b0 a0 len0 cap0 z0) (hl0 : len0 ≤ 1048576) (hp0 : Nin w e0 n0 c0 q0) (hn0 : n0 ≤ 1048576) :
    Calls Tryz.prog 3 #[.agg #[.bool b0, .slice a0 len0 cap0, .slice e0 n0 c0]] w fun e w' => e = .returned (.bool true) ∧ Below w.heap.size w w' := by
  obtain ⟨B1, V0⟩ := start_R w b0 a0 len0 cap0 e0 n0 c0
  have X0 := Lib.hid (hx0.below B1.out)
  have Y0 := Lib.hid (hp0.below B1.out)
  have LZ0 : Hid (len0 ≤ 100000000) := Nat.le_trans hl0 (by decide)
  have LD0 : Hid (n0 ≤ 100000000) := Nat.le_trans hn0 (by decide)
  have r0 : RL (mkRat z0 q0) 1048576 := rl_mk (Nat.le_trans hx0.len hl0) (Nat.le_trans hp0.len hn0) (by decide)
  have LL : Hid (1 ≤ 100000000 ∧ 100000000 ≤ 35184372088829) := by show _ ∧ _; omega
  have LL2 : Hid (1 ≤ 100000000 ∧ 100000000 ≤ 70368744177660) := by show _ ∧ _; omega
  obtain ⟨f, ef⟩ : ∃ z : Int, (mkRat z0 q0).floor = z := ⟨_, rfl⟩
  obtain ⟨cl, ecl⟩ : ∃ z : Int, -(-mkRat z0 q0).floor = z := ⟨_, rfl⟩
  obtain ⟨nr, enr⟩ : ∃ z : Int, rndR (mkRat z0 q0) = z := ⟨_, rfl⟩
  have EF := Lib.hid ef
  have ECL := Lib.hid ecl
  have ENR := Lib.hid enr
  have lf := floor_len r0
  rw [ef] at lf
  have lcl := floor_len (rl_neg r0)
  rw [← Int.natAbs_neg, ecl] at lcl
  have lnr : (ofv nr.natAbs).length ≤ 1048577 := by
    have h := rnd_or (mkRat z0 q0)
    rw [enr, ef] at h
    rcases h with h | h <;> rw [h]
    · exact Nat.le_succ_of_le lf
    · exact zlen_add lf (Nat.le_trans (len_small (v := 1) (by decide)) (by decide))
  have LF : Hid ((ofv f.natAbs).length ≤ 35184372087808) := Nat.le_trans lf (by decide)
  have LCL : Hid ((ofv cl.natAbs).length ≤ 35184372087808) := Nat.le_trans lcl (by decide)
  have LNR : Hid ((ofv nr.natAbs).length ≤ 35184372087808) := Nat.le_trans lnr (by decide)
  have l1 := len_small (v := 1) (by decide)
  obtain ⟨xw, exw⟩ : ∃ z : Int, (Rat.divInt nr 1).num = z := ⟨_, rfl⟩
  obtain ⟨dw, edw⟩ : ∃ z : Nat, (Rat.divInt nr 1).den = z := ⟨_, rfl⟩
  have Mw : mkRat xw dw = Rat.divInt nr 1 := by rw [← exw, ← edw, mk_self]
  have rw : RL (mkRat xw dw) 1048577 := by rw [Mw, show Rat.divInt nr 1 = mkRat nr 1 from Rat.divInt_ofNat nr 1]; exact rl_mk (Nat.le_trans lnr (by decide)) (Nat.le_trans l1 (by decide)) (by decide)
  have LZw : Hid ((ofv xw.natAbs).length ≤ 100000000) := by show _ ≤ _; have h := rw.1; rw [Mw, exw] at h; exact Nat.le_trans h (by decide)
  have LDw : Hid ((ofv dw).length ≤ 100000000) := by show _ ≤ _; have h := rw.2; rw [Mw, edw] at h; exact Nat.le_trans h (by decide)
  have HZw := Lib.hid exw
  have HDw := Lib.hid edw
  obtain ⟨xu, exu⟩ : ∃ z : Int, (Rat.divInt f 1).num = z := ⟨_, rfl⟩
  obtain ⟨du, edu⟩ : ∃ z : Nat, (Rat.divInt f 1).den = z := ⟨_, rfl⟩
  have Mu : mkRat xu du = Rat.divInt f 1 := by rw [← exu, ← edu, mk_self]
  have ru : RL (mkRat xu du) 1048577 := by rw [Mu, show Rat.divInt f 1 = mkRat f 1 from Rat.divInt_ofNat f 1]; exact rl_mk (Nat.le_trans lf (by decide)) (Nat.le_trans l1 (by decide)) (by decide)
  have LZu : Hid ((ofv xu.natAbs).length ≤ 100000000) := by show _ ≤ _; have h := ru.1; rw [Mu, exu] at h; exact Nat.le_trans h (by decide)
  have LDu : Hid ((ofv du).length ≤ 100000000) := by show _ ≤ _; have h := ru.2; rw [Mu, edu] at h; exact Nat.le_trans h (by decide)
  have HZu := Lib.hid exu
  have HDu := Lib.hid edu
  obtain ⟨xt, ext⟩ : ∃ z : Int, (Rat.divInt cl 1).num = z := ⟨_, rfl⟩
  obtain ⟨dt, edt⟩ : ∃ z : Nat, (Rat.divInt cl 1).den = z := ⟨_, rfl⟩
  have Mt : mkRat xt dt = Rat.divInt cl 1 := by rw [← ext, ← edt, mk_self]
  have rt : RL (mkRat xt dt) 1048577 := by rw [Mt, show Rat.divInt cl 1 = mkRat cl 1 from Rat.divInt_ofNat cl 1]; exact rl_mk (Nat.le_trans lcl (by decide)) (Nat.le_trans l1 (by decide)) (by decide)
  have LZt : Hid ((ofv xt.natAbs).length ≤ 100000000) := by show _ ≤ _; have h := rt.1; rw [Mt, ext] at h; exact Nat.le_trans h (by decide)
  have LDt : Hid ((ofv dt).length ≤ 100000000) := by show _ ≤ _; have h := rt.2; rw [Mt, edt] at h; exact Nat.le_trans h (by decide)
  have HZt := Lib.hid ext
  have HDt := Lib.hid edt
  obtain ⟨xs, exs⟩ : ∃ z : Int, (mkRat z0 q0 - mkRat xw dw).num = z := ⟨_, rfl⟩
  obtain ⟨ds, eds⟩ : ∃ z : Nat, (mkRat z0 q0 - mkRat xw dw).den = z := ⟨_, rfl⟩
  have Ms : mkRat xs ds = mkRat z0 q0 - mkRat xw dw := by rw [← exs, ← eds, mk_self]
  have rs : RL (mkRat xs ds) 2097154 := by rw [Ms]; exact (rl_sub r0 rw).le (by decide)
  have LZs : Hid ((ofv xs.natAbs).length ≤ 100000000) := by show _ ≤ _; have h := rs.1; rw [Ms, exs] at h; exact Nat.le_trans h (by decide)
  have LDs : Hid ((ofv ds).length ≤ 100000000) := by show _ ≤ _; have h := rs.2; rw [Ms, eds] at h; exact Nat.le_trans h (by decide)
  have HZs := Lib.hid exs
  have HDs := Lib.hid eds
  obtain ⟨xm, exm⟩ : ∃ z : Int, (mkRat xs ds * mkRat xs ds).num = z := ⟨_, rfl⟩
  obtain ⟨dm, edm⟩ : ∃ z : Nat, (mkRat xs ds * mkRat xs ds).den = z := ⟨_, rfl⟩
  have Mm : mkRat xm dm = mkRat xs ds * mkRat xs ds := by rw [← exm, ← edm, mk_self]
  have rm : RL (mkRat xm dm) 4194308 := by rw [Mm]; exact (rl_mul rs rs).le (by decide)
  have LZm : Hid ((ofv xm.natAbs).length ≤ 100000000) := by show _ ≤ _; have h := rm.1; rw [Mm, exm] at h; exact Nat.le_trans h (by decide)
  have LDm : Hid ((ofv dm).length ≤ 100000000) := by show _ ≤ _; have h := rm.2; rw [Mm, edm] at h; exact Nat.le_trans h (by decide)
  have HZm := Lib.hid exm
  have HDm := Lib.hid edm
  obtain ⟨xk, exk⟩ : ∃ z : Int, (Rat.divInt 1 4).num = z := ⟨_, rfl⟩
  obtain ⟨dk, edk⟩ : ∃ z : Nat, (Rat.divInt 1 4).den = z := ⟨_, rfl⟩
  have Mk : mkRat xk dk = Rat.divInt 1 4 := by rw [← exk, ← edk, mk_self]
  have LZk : Hid ((ofv xk.natAbs).length ≤ 100000000) := by show _ ≤ _; rw [← exk]; exact Nat.le_trans (len_small (by decide +kernel)) (by decide)
  have LDk : Hid ((ofv dk).length ≤ 100000000) := by show _ ≤ _; rw [← edk]; exact Nat.le_trans (len_small (by decide +kernel)) (by decide)
  have HZk := Lib.hid exk
  have HDk := Lib.hid edk
  have I1 : Hid (-9223372036854775808 ≤ (1 : Int) ∧ (1 : Int) ≤ 9223372036854775807) := by show _ ∧ _; omega
  have I4 : Hid (-9223372036854775808 ≤ (4 : Int) ∧ (4 : Int) ≤ 9223372036854775807) := by show _ ∧ _; omega
  obtain ⟨cmpa, eca⟩ : ∃ r : Int, sgR (mkRat xm dm - mkRat xk dk) = r := ⟨_, rfl⟩
  obtain ⟨cmpb, ecb⟩ : ∃ r : Int, sgR (mkRat xu du - mkRat z0 q0) = r := ⟨_, rfl⟩
  obtain ⟨cmpc, ecc⟩ : ∃ r : Int, sgR (mkRat z0 q0 - mkRat xt dt) = r := ⟨_, rfl⟩
  have hca : cmpa ≤ 0 := by rw [← eca, Mm, Ms, Mw, Mk, ← enr]; exact near_sq _
  have hcb : cmpb ≤ 0 := by rw [← ecb, Mu, ← ef]; exact low_le _
  have hcc : cmpc ≤ 0 := by rw [← ecc, Mt, ← ecl]; exact high_le _
  have CA := Lib.hid eca
  have CB := Lib.hid ecb
  have CC := Lib.hid ecc
  clear hx0 hl0 hp0 hn0 r0 ef ecl enr lf lcl lnr l1 exw edw Mw rw exu edu Mu ru ext edt Mt rt exs eds Ms rs exm edm Mm rm exk edk Mk eca ecb ecc
  go_enter Tryz.func3, Tryz.ntmps3
  go_wp2_with fail
  generalize (w.alloc (.cells #[.bool b0, .slice a0 len0 cap0, .slice e0 n0 c0] 26)) = w2 at *
  have LT1 : Hid (w.heap.size < w2.heap.size) := V0.out.lt
  have HB : Hid (Below w2.heap.size w2 w2.drew) := below_drewN _ w2 1
  have hHeld := HB.out
  refine wp_region_held_split (S := fun w' => Below w2.heap.size w2 w') 9 (by kernel_rfl) (by kernel_rfl) ?_
  simp only [List.take_succ_cons, List.take_zero, List.drop_succ_cons, List.drop_zero]
  refine wpAnyH_takeL (i := 0) (oi := _) rfl (by kernel_rfl) (by kernel_rfl) (by kernel_rfl) (fun _ _ _ h => h) (yields_ldR (by rfl) _ rfl (by rfl) (fun _ hb => V0.out.below hb V0.out.lt)) hHeld ?_
  try simp only [Act.put, List.setIfInBounds_toArray, List.set_cons_zero, List.set_cons_succ]
  refine wpAnyH_takeL (i := 2) (oi := _) rfl (by kernel_rfl) (by kernel_rfl) (by kernel_rfl) (fun _ _ _ h => h) (yields_ldR (by rfl) _ rfl (by rfl) (fun _ hb => V0.out.below hb V0.out.lt)) hHeld ?_
  try simp only [Act.put, List.setIfInBounds_toArray, List.set_cons_zero, List.set_cons_succ]
  refine wpAnyH_takeL (i := 4) (oi := _) rfl (by kernel_rfl) (by kernel_rfl) (by kernel_rfl) (fun _ _ _ h => h) (yields_ldR (by rfl) _ rfl (by rfl) (fun _ hb => V0.out.below hb V0.out.lt)) hHeld ?_
  try simp only [Act.put, List.setIfInBounds_toArray, List.set_cons_zero, List.set_cons_succ]
  refine wpAnyH_rgb [(1, some 8), (3, some 10), (5, some 12), (6, some 3), (7, some 4), (8, some 5)] (isNewZ w2.heap.size) [(1, isZ f w2.heap.size), (3, isZ cl w2.heap.size), (5, isZ nr w2.heap.size)] w2 (by kernel_rfl) (by kernel_rfl) (by decide) HB.out (fun _ h => h) (isNewZ_good _) ⟨isZ_good _ _, isZ_good _ _, isZ_good _ _, trivial⟩ ?_ ?_
  · clear hHeld HB
    refine RgOps.consL (o := _) (ds := []) rfl rfl (by kernel_rfl) (fun vals wr hbr hC hdep K hK => ?_) ?_
    · have BB := Lib.hid hbr
      clear hdep
      clear hbr hC
      simp only [Upd2, Act.put, List.setIfInBounds_toArray, List.set_cons_zero, List.set_cons_succ] at hK ⊢
      go_simp
      go_at_call 5
      refine Calls.mono (qfloor_any (L := 100000000) (v := f) (X0.out.below BB.out) (Y0.out.below BB.out) LZ0.out LD0.out LL2.out EF.out) ?_
      rintro e wq ⟨R, cR, rfl, ho, hb⟩
      exact hK.out _ _ (LeavesB.giveZ BB.out.size ho hb)
    refine RgOps.consL (o := _) (ds := [1]) rfl rfl (by kernel_rfl) (fun vals wr hbr hC hdep K hK => ?_) ?_
    · have BB := Lib.hid hbr
      obtain ⟨⟨P1, c1, e1, o1⟩, -⟩ := hdep
      clear hbr hC
      simp only [e1, Upd2, Act.put, List.setIfInBounds_toArray, List.set_cons_zero, List.set_cons_succ] at hK ⊢
      clear e1
      go_simp
      go_at_call 6
      refine Calls.mono (qceil_any (L := 100000000) (v := cl) (X0.out.below BB.out) (Y0.out.below BB.out) LZ0.out LD0.out LL2.out ECL.out) ?_
      rintro e wq ⟨R, cR, rfl, ho, hb⟩
      exact hK.out _ _ (LeavesB.giveZ BB.out.size ho hb)
    refine RgOps.consL (o := _) (ds := [3]) rfl rfl (by kernel_rfl) (fun vals wr hbr hC hdep K hK => ?_) ?_
    · have BB := Lib.hid hbr
      obtain ⟨⟨P3, c3, e3, o3⟩, -⟩ := hdep
      clear hbr hC
      simp only [e3, Upd2, Act.put, List.setIfInBounds_toArray, List.set_cons_zero, List.set_cons_succ] at hK ⊢
      clear e3
      go_simp
      go_at_call 7
      refine Calls.mono (qround_any (L := 100000000) (v := nr) (X0.out.below BB.out) (Y0.out.below BB.out) LZ0.out LD0.out LL2.out ENR.out) ?_
      rintro e wq ⟨R, cR, rfl, ho, hb⟩
      exact hK.out _ _ (LeavesB.giveZ BB.out.size ho hb)
    refine RgOps.consL (o := _) (ds := []) rfl rfl (by kernel_rfl) (fun vals wr hbr hC hdep K hK => ?_) ?_
    · have BB := Lib.hid hbr
      clear hdep
      clear hbr hC
      simp only [Upd2, Act.put, List.setIfInBounds_toArray, List.set_cons_zero, List.set_cons_succ] at hK ⊢
      go_simp
      exact hK.out _ _ (LeavesB.newZ BB.out.size)
    refine RgOps.consL (o := _) (ds := []) rfl rfl (by kernel_rfl) (fun vals wr hbr hC hdep K hK => ?_) ?_
    · have BB := Lib.hid hbr
      clear hdep
      clear hbr hC
      simp only [Upd2, Act.put, List.setIfInBounds_toArray, List.set_cons_zero, List.set_cons_succ] at hK ⊢
      go_simp
      exact hK.out _ _ (LeavesB.newZ BB.out.size)
    refine RgOps.consL (o := _) (ds := []) rfl rfl (by kernel_rfl) (fun vals wr hbr hC hdep K hK => ?_) RgOps.nil
    · have BB := Lib.hid hbr
      clear hdep
      clear hbr hC
      simp only [Upd2, Act.put, List.setIfInBounds_toArray, List.set_cons_zero, List.set_cons_succ] at hK ⊢
      go_simp
      exact hK.out _ _ (LeavesB.newZ BB.out.size)
  clear hHeld HB
  intro vals wr hb hdep hD
  have NA0 := Lib.hid (hD 6 (by decide) 7 (by decide) (by decide))
  have NB0 := Lib.hid (hD 6 (by decide) 8 (by decide) (by decide))
  have NC0 := Lib.hid (hD 7 (by decide) 8 (by decide) (by decide))
  obtain ⟨⟨P1, c1, e1, o1⟩, ⟨P3, c3, e3, o3⟩, ⟨P5, c5, e5, o5⟩, ⟨g6, e6, l6, z6⟩, ⟨g7, e7, l7, z7⟩, ⟨g8, e8, l8, z8⟩, -⟩ := hdep
  have NA : Hid (g6 ≠ g7) := fun e => NA0.out g6 (by rw [e6]; rfl) (by rw [e7, e]; rfl)
  have NB : Hid (g6 ≠ g8) := fun e => NB0.out g6 (by rw [e6]; rfl) (by rw [e8, e]; rfl)
  have NC : Hid (g7 ≠ g8) := fun e => NC0.out g7 (by rw [e7]; rfl) (by rw [e8, e]; rfl)
  simp only [Upd2, e1, e3, e5, e6, e7, e8, Act.put, List.setIfInBounds_toArray, List.set_cons_zero, List.set_cons_succ]
  clear NA0 NB0 NC0 e1 e3 e5 e6 e7 e8
  clear hD vals
  replace V0 := Lib.hid (V0.out.below hb V0.out.lt)
  replace X0 := Lib.hid (X0.out.below hb)
  replace Y0 := Lib.hid (Y0.out.below hb)
  replace B1 := Lib.hid (B1.out.trans (hb.mono B1.out.size))
  clear hb
  show wpList _ _ _ _ _ _
  have ZF := Lib.hid (Zo.of_own o1); have ZC := Lib.hid (Zo.of_own o3); have ZN := Lib.hid (Zo.of_own o5); have G1 := Lib.hid z6; have G2 := Lib.hid z7; have G3 := Lib.hid z8
  have LG1 : Hid (w.heap.size < g6) := Nat.lt_of_lt_of_le LT1.out l6; have LG2 : Hid (w.heap.size < g7) := Nat.lt_of_lt_of_le LT1.out l7; have LG3 : Hid (w.heap.size < g8) := Nat.lt_of_lt_of_le LT1.out l8
  clear o1 o3 o5 z6 z7 z8 l6 l7 l8
  refine wpList_stZ (by rfl) _ _ rfl (by rfl) (by rfl) G1.out ?_
  intro ws0 hz hg
  replace V0 := Lib.hid (V0.out.gro hg (by have := LG1.out; have := LG2.out; have := LG3.out; have := NA.out; have := NB.out; have := NC.out; omega))
  replace X0 := Lib.hid (X0.out.gr G1.out hg)
  replace Y0 := Lib.hid (Y0.out.gr G1.out hg)
  replace ZF := Lib.hid (ZF.out.gr G1.out hg)
  replace ZC := Lib.hid (ZC.out.gr G1.out hg)
  replace ZN := Lib.hid (ZN.out.gr G1.out hg)
  replace G2 := Lib.hid (G2.out.gr hg (by have := LG1.out; have := LG2.out; have := LG3.out; have := NA.out; have := NB.out; have := NC.out; omega))
  replace G3 := Lib.hid (G3.out.gr hg (by have := LG1.out; have := LG2.out; have := LG3.out; have := NA.out; have := NB.out; have := NC.out; omega))
  replace B1 := Lib.hid (Below.gr B1.out (by have := LG1.out; have := LG2.out; have := LG3.out; have := NA.out; have := NB.out; have := NC.out; omega) hg B1.out.size)
  replace G1 := Lib.hid hz
  clear hz hg
  refine wpList_stZ (by rfl) _ _ rfl (by rfl) (by rfl) G2.out ?_
  intro ws1 hz hg
  replace V0 := Lib.hid (V0.out.gro hg (by have := LG1.out; have := LG2.out; have := LG3.out; have := NA.out; have := NB.out; have := NC.out; omega))
  replace X0 := Lib.hid (X0.out.gr G2.out hg)
  replace Y0 := Lib.hid (Y0.out.gr G2.out hg)
  replace ZF := Lib.hid (ZF.out.gr G2.out hg)
  replace ZC := Lib.hid (ZC.out.gr G2.out hg)
  replace ZN := Lib.hid (ZN.out.gr G2.out hg)
  replace G1 := Lib.hid (G1.out.gr hg (by have := LG1.out; have := LG2.out; have := LG3.out; have := NA.out; have := NB.out; have := NC.out; omega))
  replace G3 := Lib.hid (G3.out.gr hg (by have := LG1.out; have := LG2.out; have := LG3.out; have := NA.out; have := NB.out; have := NC.out; omega))
  replace B1 := Lib.hid (Below.gr B1.out (by have := LG1.out; have := LG2.out; have := LG3.out; have := NA.out; have := NB.out; have := NC.out; omega) hg B1.out.size)
  replace G2 := Lib.hid hz
  clear hz hg
  refine wpList_stZ (by rfl) _ _ rfl (by rfl) (by rfl) G3.out ?_
  intro ws2 hz hg
  replace V0 := Lib.hid (V0.out.gro hg (by have := LG1.out; have := LG2.out; have := LG3.out; have := NA.out; have := NB.out; have := NC.out; omega))
  replace X0 := Lib.hid (X0.out.gr G3.out hg)
  replace Y0 := Lib.hid (Y0.out.gr G3.out hg)
  replace ZF := Lib.hid (ZF.out.gr G3.out hg)
  replace ZC := Lib.hid (ZC.out.gr G3.out hg)
  replace ZN := Lib.hid (ZN.out.gr G3.out hg)
  replace G1 := Lib.hid (G1.out.gr hg (by have := LG1.out; have := LG2.out; have := LG3.out; have := NA.out; have := NB.out; have := NC.out; omega))
  replace G2 := Lib.hid (G2.out.gr hg (by have := LG1.out; have := LG2.out; have := LG3.out; have := NA.out; have := NB.out; have := NC.out; omega))
  replace B1 := Lib.hid (Below.gr B1.out (by have := LG1.out; have := LG2.out; have := LG3.out; have := NA.out; have := NB.out; have := NC.out; omega) hg B1.out.size)
  replace G3 := Lib.hid hz
  clear hz hg
  go_wp2_with fail
  have HB : Hid (Below ws2.heap.size ws2 ws2.drew) := below_drewN _ ws2 1
  refine wp_region_held_drew (S := fun w' => Below ws2.heap.size ws2 w') (by kernel_rfl) (HB.out) (fun hHeld => ?_)
  refine wpAnyH_ready (rs := [0]) (by kernel_rfl) (by simp) ?_
  refine AllReadyH.consL (o := _) rfl (fun K hK => ?_) AllReadyH.nil
  clear hHeld
  go_simp
  go_at_call 8
  refine Calls.mono (rawake_any _) ?_
  rintro e v1 ⟨rfl, hb⟩
  replace HB := Lib.hid (HB.out.trans (hb.mono HB.out.size))
  clear hb
  refine hK.out _ _ HB.out (fun hHeld => ?_)
  clear hK K
  try simp only [Act.put, List.setIfInBounds_toArray, List.set_cons_zero, List.set_cons_succ]
  refine wpAnyH_takeL (i := 1) (oi := _) (v := ?_) rfl (by kernel_rfl) (by kernel_rfl) (by kernel_rfl) (fun _ _ _ h => h) (Or.inl ⟨by rfl, ?_⟩) hHeld ?_
  rotate_left
  · (intro w' hSw; (try dsimp only at hSw); go_simp; try (with_reducible rfl))
  try simp only [Act.put, List.setIfInBounds_toArray, List.set_cons_zero, List.set_cons_succ]
  refine wpAnyH_takeL (i := 2) (oi := _) (v := ?_) rfl (by kernel_rfl) (by kernel_rfl) (by kernel_rfl) (fun _ _ _ h => h) (Or.inl ⟨by rfl, ?_⟩) hHeld ?_
  rotate_left
  · (intro w' hSw; (try dsimp only at hSw); go_simp; try (with_reducible rfl))
  try simp only [Act.put, List.setIfInBounds_toArray, List.set_cons_zero, List.set_cons_succ]
  refine wpAnyH_takeL (i := 3) (oi := _) rfl (by kernel_rfl) (by kernel_rfl) (by kernel_rfl) (fun _ _ _ h => h) (yields_ldZ (by rfl) _ rfl (by rfl) (fun _ hb => G1.out.below hb G1.out.lt)) hHeld ?_
  try simp only [Act.put, List.setIfInBounds_toArray, List.set_cons_zero, List.set_cons_succ]
  refine wpAnyH_takeL (i := 4) (oi := _) rfl (by kernel_rfl) (by kernel_rfl) (by kernel_rfl) (fun _ _ _ h => h) (yields_ldR (by rfl) _ rfl (by rfl) (fun _ hb => V0.out.below hb V0.out.lt)) hHeld ?_
  try simp only [Act.put, List.setIfInBounds_toArray, List.set_cons_zero, List.set_cons_succ]
  refine wpAnyH_ready (rs := [5]) (by kernel_rfl) (by simp) ?_
  refine AllReadyH.consL (o := _) rfl (fun K hK => ?_) AllReadyH.nil
  clear hHeld
  go_simp
  go_at_call 10
  refine Calls.mono (r3floor_any (v := f) (X0.out.below HB.out) (Y0.out.below HB.out) (Nat.le_trans LZ0.out (by decide)) (Nat.le_trans LD0.out (by decide)) EF.out) ?_
  rintro e v2 ⟨Pi_a, ci_a, rfl, ho, hb⟩
  replace HB := Lib.hid (HB.out.trans (hb.mono HB.out.size))
  have Zi_a := Lib.hid (Zo.of_own ho)
  clear ho
  clear hb
  refine hK.out _ _ HB.out (fun hHeld => ?_)
  clear hK K
  try simp only [Act.put, List.setIfInBounds_toArray, List.set_cons_zero, List.set_cons_succ]
  refine wpAnyH_ready (rs := [6]) (by kernel_rfl) (by simp) ?_
  refine AllReadyH.consL (o := _) rfl (fun K hK => ?_) AllReadyH.nil
  clear hHeld
  go_simp
  go_at_call 9
  refine Calls.mono (requal_z (z := f) (ZF.out.below HB.out) Zi_a.out) ?_
  rintro e v3 ⟨rfl, hb⟩
  replace HB := Lib.hid (HB.out.trans (hb.mono HB.out.size))
  replace Zi_a := Lib.hid (Zi_a.out.below hb)
  clear hb
  refine hK.out _ _ HB.out (fun hHeld => ?_)
  clear hK K
  try simp only [Act.put, List.setIfInBounds_toArray, List.set_cons_zero, List.set_cons_succ]
  refine wpAnyH_takeL (i := 7) (oi := _) (v := ?_) rfl (by kernel_rfl) (by kernel_rfl) (by kernel_rfl) (fun _ _ _ h => h) (Or.inl ⟨by rfl, ?_⟩) hHeld ?_
  rotate_left
  · (intro w' hSw; (try dsimp only at hSw); go_simp; try (with_reducible rfl))
  try simp only [Act.put, List.setIfInBounds_toArray, List.set_cons_zero, List.set_cons_succ]
  refine wpAnyH_takeL (i := 8) (oi := _) (v := ?_) rfl (by kernel_rfl) (by kernel_rfl) (by kernel_rfl) (fun _ _ _ h => h) (Or.inl ⟨by rfl, ?_⟩) hHeld ?_
  rotate_left
  · (intro w' hSw; (try dsimp only at hSw); go_simp; try (with_reducible rfl))
  try simp only [Act.put, List.setIfInBounds_toArray, List.set_cons_zero, List.set_cons_succ]
  refine wpAnyH_takeL (i := 9) (oi := _) (v := ?_) rfl (by kernel_rfl) (by kernel_rfl) (by kernel_rfl) (fun _ _ _ h => h) (Or.inl ⟨by rfl, ?_⟩) hHeld ?_
  rotate_left
  · (intro w' hSw; (try dsimp only at hSw); go_simp; try (with_reducible rfl))
  try simp only [Act.put, List.setIfInBounds_toArray, List.set_cons_zero, List.set_cons_succ]
  refine wpAnyH_takeL (i := 10) (oi := _) rfl (by kernel_rfl) (by kernel_rfl) (by kernel_rfl) (fun _ _ _ h => h) (yields_ldZ (by rfl) _ rfl (by rfl) (fun _ hb => G2.out.below hb G2.out.lt)) hHeld ?_
  try simp only [Act.put, List.setIfInBounds_toArray, List.set_cons_zero, List.set_cons_succ]
  refine wpAnyH_takeL (i := 11) (oi := _) rfl (by kernel_rfl) (by kernel_rfl) (by kernel_rfl) (fun _ _ _ h => h) (yields_ldR (by rfl) _ rfl (by rfl) (fun _ hb => V0.out.below hb V0.out.lt)) hHeld ?_
  try simp only [Act.put, List.setIfInBounds_toArray, List.set_cons_zero, List.set_cons_succ]
  refine wpAnyH_ready (rs := [12]) (by kernel_rfl) (by simp) ?_
  refine AllReadyH.consL (o := _) rfl (fun K hK => ?_) AllReadyH.nil
  clear hHeld
  go_simp
  go_at_call 11
  refine Calls.mono (r3ceil_any (v := cl) (X0.out.below HB.out) (Y0.out.below HB.out) (Nat.le_trans LZ0.out (by decide)) (Nat.le_trans LD0.out (by decide)) ECL.out) ?_
  rintro e v4 ⟨Pi_b, ci_b, rfl, ho, hb⟩
  replace HB := Lib.hid (HB.out.trans (hb.mono HB.out.size))
  replace Zi_a := Lib.hid (Zi_a.out.below hb)
  have Zi_b := Lib.hid (Zo.of_own ho)
  clear ho
  clear hb
  refine hK.out _ _ HB.out (fun hHeld => ?_)
  clear hK K
  try simp only [Act.put, List.setIfInBounds_toArray, List.set_cons_zero, List.set_cons_succ]
  refine wpAnyH_ready (rs := [13]) (by kernel_rfl) (by simp) ?_
  refine AllReadyH.consL (o := _) rfl (fun K hK => ?_) AllReadyH.nil
  clear hHeld
  go_simp
  go_at_call 9
  refine Calls.mono (requal_z (z := cl) (ZC.out.below HB.out) Zi_b.out) ?_
  rintro e v5 ⟨rfl, hb⟩
  replace HB := Lib.hid (HB.out.trans (hb.mono HB.out.size))
  replace Zi_a := Lib.hid (Zi_a.out.below hb)
  replace Zi_b := Lib.hid (Zi_b.out.below hb)
  clear hb
  refine hK.out _ _ HB.out (fun hHeld => ?_)
  clear hK K
  try simp only [Act.put, List.setIfInBounds_toArray, List.set_cons_zero, List.set_cons_succ]
  refine wpAnyH_takeL (i := 14) (oi := _) (v := ?_) rfl (by kernel_rfl) (by kernel_rfl) (by kernel_rfl) (fun _ _ _ h => h) (Or.inl ⟨by rfl, ?_⟩) hHeld ?_
  rotate_left
  · (intro w' hSw; (try dsimp only at hSw); go_simp; try (with_reducible rfl))
  try simp only [Act.put, List.setIfInBounds_toArray, List.set_cons_zero, List.set_cons_succ]
  refine wpAnyH_takeL (i := 15) (oi := _) (v := ?_) rfl (by kernel_rfl) (by kernel_rfl) (by kernel_rfl) (fun _ _ _ h => h) (Or.inl ⟨by rfl, ?_⟩) hHeld ?_
  rotate_left
  · (intro w' hSw; (try dsimp only at hSw); go_simp; try (with_reducible rfl))
  try simp only [Act.put, List.setIfInBounds_toArray, List.set_cons_zero, List.set_cons_succ]
  refine wpAnyH_takeL (i := 16) (oi := _) (v := ?_) rfl (by kernel_rfl) (by kernel_rfl) (by kernel_rfl) (fun _ _ _ h => h) (Or.inl ⟨by rfl, ?_⟩) hHeld ?_
  rotate_left
  · (intro w' hSw; (try dsimp only at hSw); go_simp; try (with_reducible rfl))
  try simp only [Act.put, List.setIfInBounds_toArray, List.set_cons_zero, List.set_cons_succ]
  refine wpAnyH_takeL (i := 17) (oi := _) rfl (by kernel_rfl) (by kernel_rfl) (by kernel_rfl) (fun _ _ _ h => h) (yields_ldZ (by rfl) _ rfl (by rfl) (fun _ hb => G3.out.below hb G3.out.lt)) hHeld ?_
  try simp only [Act.put, List.setIfInBounds_toArray, List.set_cons_zero, List.set_cons_succ]
  refine wpAnyH_takeL (i := 18) (oi := _) rfl (by kernel_rfl) (by kernel_rfl) (by kernel_rfl) (fun _ _ _ h => h) (yields_ldR (by rfl) _ rfl (by rfl) (fun _ hb => V0.out.below hb V0.out.lt)) hHeld ?_
  try simp only [Act.put, List.setIfInBounds_toArray, List.set_cons_zero, List.set_cons_succ]
  refine wpAnyH_ready (rs := [19]) (by kernel_rfl) (by simp) ?_
  refine AllReadyH.consL (o := _) rfl (fun K hK => ?_) AllReadyH.nil
  clear hHeld
  go_simp
  go_at_call 12
  refine Calls.mono (r3round_any (v := nr) (X0.out.below HB.out) (Y0.out.below HB.out) (Nat.le_trans LZ0.out (by decide)) (Nat.le_trans LD0.out (by decide)) ENR.out) ?_
  rintro e v6 ⟨Pi_c, ci_c, rfl, ho, hb⟩
  replace HB := Lib.hid (HB.out.trans (hb.mono HB.out.size))
  replace Zi_a := Lib.hid (Zi_a.out.below hb)
  replace Zi_b := Lib.hid (Zi_b.out.below hb)
  have Zi_c := Lib.hid (Zo.of_own ho)
  clear ho
  clear hb
  refine hK.out _ _ HB.out (fun hHeld => ?_)
  clear hK K
  try simp only [Act.put, List.setIfInBounds_toArray, List.set_cons_zero, List.set_cons_succ]
  refine wpAnyH_ready (rs := [20]) (by kernel_rfl) (by simp) ?_
  refine AllReadyH.consL (o := _) rfl (fun K hK => ?_) AllReadyH.nil
  clear hHeld
  go_simp
  go_at_call 9
  refine Calls.mono (requal_z (z := nr) (ZN.out.below HB.out) Zi_c.out) ?_
  rintro e v7 ⟨rfl, hb⟩
  replace HB := Lib.hid (HB.out.trans (hb.mono HB.out.size))
  replace Zi_a := Lib.hid (Zi_a.out.below hb)
  replace Zi_b := Lib.hid (Zi_b.out.below hb)
  replace Zi_c := Lib.hid (Zi_c.out.below hb)
  clear hb
  refine hK.out _ _ HB.out (fun hHeld => ?_)
  clear hK K
  try simp only [Act.put, List.setIfInBounds_toArray, List.set_cons_zero, List.set_cons_succ]
  refine wpAnyH_takeL (i := 21) (oi := _) (v := ?_) rfl (by kernel_rfl) (by kernel_rfl) (by kernel_rfl) (fun _ _ _ h => h) (Or.inl ⟨by rfl, ?_⟩) hHeld ?_
  rotate_left
  · (intro w' hSw; (try dsimp only at hSw); go_simp; try (with_reducible rfl))
  try simp only [Act.put, List.setIfInBounds_toArray, List.set_cons_zero, List.set_cons_succ]
  refine wpAnyH_takeL (i := 22) (oi := _) (v := ?_) rfl (by kernel_rfl) (by kernel_rfl) (by kernel_rfl) (fun _ _ _ h => h) (Or.inl ⟨by rfl, ?_⟩) hHeld ?_
  rotate_left
  · (intro w' hSw; (try dsimp only at hSw); go_simp; try (with_reducible rfl))
  try simp only [Act.put, List.setIfInBounds_toArray, List.set_cons_zero, List.set_cons_succ]
  skip
  refine wpAnyH_done (by kernel_rfl) ?_ _
  have hb := HB.out
  replace V0 := Lib.hid (V0.out.below hb V0.out.lt)
  replace X0 := Lib.hid (X0.out.below hb)
  replace Y0 := Lib.hid (Y0.out.below hb)
  replace ZF := Lib.hid (ZF.out.below hb)
  replace ZC := Lib.hid (ZC.out.below hb)
  replace ZN := Lib.hid (ZN.out.below hb)
  replace G1 := Lib.hid (G1.out.below hb G1.out.lt)
  replace G2 := Lib.hid (G2.out.below hb G2.out.lt)
  replace G3 := Lib.hid (G3.out.below hb G3.out.lt)
  replace B1 := Lib.hid (B1.out.trans (hb.mono B1.out.size))
  clear hHeld hb HB Zi_a Zi_b Zi_c
  go_wp2_with fail
  have LT2 : Hid (w.heap.size < v7.heap.size ∧ g6 < v7.heap.size ∧ g7 < v7.heap.size ∧ g8 < v7.heap.size) := ⟨V0.out.lt, G1.out.lt, G2.out.lt, G3.out.lt⟩
  have HB : Hid (Below v7.heap.size v7 v7.drew) := below_drewN _ v7 1
  refine wp_region_held_drew (S := fun w' => Below v7.heap.size v7 w') (by kernel_rfl) (HB.out) (fun hHeld => ?_)
  refine wpAnyH_takeL (i := 0) (oi := _) rfl (by kernel_rfl) (by kernel_rfl) (by kernel_rfl) (fun _ _ _ h => h) (yields_ldR (by rfl) _ rfl (by rfl) (fun _ hb => V0.out.below hb V0.out.lt)) hHeld ?_
  try simp only [Act.put, List.setIfInBounds_toArray, List.set_cons_zero, List.set_cons_succ]
  refine wpAnyH_takeL (i := 1) (oi := _) rfl (by kernel_rfl) (by kernel_rfl) (by kernel_rfl) (fun _ _ _ h => h) (yields_ldZ (by rfl) _ rfl (by rfl) (fun _ hb => G3.out.below hb G3.out.lt)) hHeld ?_
  try simp only [Act.put, List.setIfInBounds_toArray, List.set_cons_zero, List.set_cons_succ]
  refine wpAnyH_rgt [(2, some 38), (3, some 39), (4, some 6)] [] (isNewR v7.heap.size) [(2, isR xw dw v7.heap.size), (3, isR xs ds v7.heap.size)] v7 (f0 := 1) (by kernel_rfl) (by kernel_rfl) (by rfl) HB.out (fun _ h => h) (fun _ _ _ _ _ h => h) (isNewR_good _) ⟨isR_good _ _ _, isR_good _ _ _, trivial⟩ ?_ ?_ ?_
  · clear hHeld HB
    show RgOps _ _ _ _ _ _ _ _ _ [2, 3, 4]
    refine RgOps.consL (o := _) (ds := []) rfl rfl (by kernel_rfl) (fun vals wr hbr hC hdep K hK => ?_) ?_
    · have BB := Lib.hid hbr
      clear hdep
      clear hbr hC
      simp only [Upd2, Act.put, List.setIfInBounds_toArray, List.set_cons_zero, List.set_cons_succ] at hK ⊢
      go_simp
      go_at_call 14
      refine Calls.mono (r3whole_any (z := xw) (d := dw) (ZN.out.below BB.out).in_ LNR.out HZw.out HDw.out) ?_
      rintro e wq ⟨R, cR, R2, cR2, rfl, ho, ho2, hb⟩
      exact hK.out _ _ (LeavesB.giveR BB.out.size ho ho2 hb)
    refine RgOps.consL (o := _) (ds := [2]) rfl rfl (by kernel_rfl) (fun vals wr hbr hC hdep K hK => ?_) ?_
    · have BB := Lib.hid hbr
      obtain ⟨⟨P2, c2, Q2, k2, e2, o2, u2⟩, -⟩ := hdep
      clear hbr hC
      simp only [e2, Upd2, Act.put, List.setIfInBounds_toArray, List.set_cons_zero, List.set_cons_succ] at hK ⊢
      clear e2
      go_simp
      go_at_call 13
      refine Calls.mono (qsub_any (L := 100000000) (z := xs) (d := ds) (X0.out.below BB.out) (Y0.out.below BB.out) (Zo.of_own o2).in_ (Nin.of_rd u2.rd) LZ0.out LD0.out LZw.out LDw.out LL.out HZs.out HDs.out) ?_
      rintro e wq ⟨R, cR, R2, cR2, rfl, ho, ho2, hb⟩
      exact hK.out _ _ (LeavesB.giveR BB.out.size ho ho2 hb)
    refine RgOps.consL (o := _) (ds := []) rfl rfl (by kernel_rfl) (fun vals wr hbr hC hdep K hK => ?_) RgOps.nil
    · have BB := Lib.hid hbr
      clear hdep
      clear hbr hC
      simp only [Upd2, Act.put, List.setIfInBounds_toArray, List.set_cons_zero, List.set_cons_succ] at hK ⊢
      go_simp
      exact hK.out _ _ (LeavesB.newR BB.out.size)
  · clear hHeld HB
    show TaAll _ _ _ _ _ []
    exact TaAll.nil
  clear hHeld HB
  intro vals wr hb hdep hD
  obtain ⟨⟨P2, c2, Q2, k2, e2, o2, u2⟩, ⟨P3, c3, Q3, k3, e3, o3, u3⟩, ⟨g4, e4, l4, z4⟩, -⟩ := hdep
  simp only [Upd2, e2, e3, e4, Act.put, List.setIfInBounds_toArray, List.set_cons_zero, List.set_cons_succ]
  clear e2 e3 e4
  clear hD vals
  replace V0 := Lib.hid (V0.out.below hb V0.out.lt)
  replace X0 := Lib.hid (X0.out.below hb)
  replace Y0 := Lib.hid (Y0.out.below hb)
  replace ZF := Lib.hid (ZF.out.below hb)
  replace ZC := Lib.hid (ZC.out.below hb)
  replace ZN := Lib.hid (ZN.out.below hb)
  replace G1 := Lib.hid (G1.out.below hb G1.out.lt)
  replace G2 := Lib.hid (G2.out.below hb G2.out.lt)
  replace G3 := Lib.hid (G3.out.below hb G3.out.lt)
  replace B1 := Lib.hid (B1.out.trans (hb.mono B1.out.size))
  have HB := Lib.hid hb
  clear hb
  have Zs := Lib.hid (Zo.of_own o3); have Ns := Lib.hid u3.rd; have G4 := Lib.hid z4; have L4 := Lib.hid l4
  clear o2 u2 o3 u3 z4 l4
  refine wpAnyH_ready (rs := [5]) (by kernel_rfl) (by simp) ?_
  refine AllReadyH.consL (o := _) rfl (fun K hK => ?_) AllReadyH.nil
  rw [if_pos (by rfl)]
  refine wp_stR _ _ rfl (by rfl) (by rfl) G4.out ?_
  intro wt0 hz hg
  replace HB := Lib.hid (Below.gr HB.out (by have := L4.out; omega) hg HB.out.size)
  replace V0 := Lib.hid (V0.out.gro hg (by have := LG1.out; have := LG2.out; have := LG3.out; have := NA.out; have := NB.out; have := NC.out; have := LT2.out; have := L4.out; omega))
  replace X0 := Lib.hid (X0.out.grR G4.out hg)
  replace Y0 := Lib.hid (Y0.out.grR G4.out hg)
  replace ZF := Lib.hid (ZF.out.grR G4.out hg)
  replace ZC := Lib.hid (ZC.out.grR G4.out hg)
  replace ZN := Lib.hid (ZN.out.grR G4.out hg)
  replace G1 := Lib.hid (G1.out.gr hg (by have := LG1.out; have := LG2.out; have := LG3.out; have := NA.out; have := NB.out; have := NC.out; have := LT2.out; have := L4.out; omega))
  replace G2 := Lib.hid (G2.out.gr hg (by have := LG1.out; have := LG2.out; have := LG3.out; have := NA.out; have := NB.out; have := NC.out; have := LT2.out; have := L4.out; omega))
  replace G3 := Lib.hid (G3.out.gr hg (by have := LG1.out; have := LG2.out; have := LG3.out; have := NA.out; have := NB.out; have := NC.out; have := LT2.out; have := L4.out; omega))
  replace Zs := Lib.hid (Zs.out.grR G4.out hg)
  replace Ns := Lib.hid (Ns.out.grR G4.out hg)
  replace B1 := Lib.hid (Below.gr B1.out (by have := LG1.out; have := LG2.out; have := LG3.out; have := NA.out; have := NB.out; have := NC.out; have := LT2.out; have := L4.out; omega) hg B1.out.size)
  replace G4 := Lib.hid hz
  refine hK.out _ _ ⟨HB.out, HB.out⟩ (fun _ => ?_)
  clear hK K hg hz
  try simp only [Act.put]
  refine wpAnyH_done (by kernel_rfl) ?_ _
  clear HB
  go_wp2_with fail
  have HB : Hid (Below wt0.heap.size wt0 wt0.drew) := below_drewN _ wt0 1
  refine wp_region_held_drew (S := fun w' => Below wt0.heap.size wt0 w') (by kernel_rfl) (HB.out) (fun hHeld => ?_)
  refine wpAnyH_takeL (i := 0) (oi := _) rfl (by kernel_rfl) (by kernel_rfl) (by kernel_rfl) (fun _ _ _ h => h) (yields_ldR (by rfl) _ rfl (by rfl) (fun _ hb => G4.out.below hb G4.out.lt)) hHeld ?_
  try simp only [Act.put, List.setIfInBounds_toArray, List.set_cons_zero, List.set_cons_succ]
  refine wpAnyH_takeL (i := 1) (oi := _) rfl (by kernel_rfl) (by kernel_rfl) (by kernel_rfl) (fun _ _ _ h => h) (yields_ldR (by rfl) _ rfl (by rfl) (fun _ hb => G4.out.below hb G4.out.lt)) hHeld ?_
  try simp only [Act.put, List.setIfInBounds_toArray, List.set_cons_zero, List.set_cons_succ]
  refine wpAnyH_ready (rs := [2]) (by kernel_rfl) (by simp) ?_
  refine AllReadyH.consL (o := _) rfl (fun K hK => ?_) AllReadyH.nil
  clear hHeld
  go_simp
  go_at_call 16
  refine Calls.mono (qmul_any (L := 100000000) (z := xm) (d := dm) (Zs.out.below HB.out).in_ (Nin.of_rd (Ns.out.below HB.out)) (Zs.out.below HB.out).in_ (Nin.of_rd (Ns.out.below HB.out)) LZs.out LDs.out LZs.out LDs.out LL.out HZm.out HDm.out) ?_
  rintro e v8 ⟨Pm, cm, Qm, km, rfl, ho, ho2, hb⟩
  replace HB := Lib.hid (HB.out.trans (hb.mono HB.out.size))
  have Zm := Lib.hid (Zo.of_own ho)
  have Nm := Lib.hid ho2.rd
  clear ho ho2
  clear hb
  refine hK.out _ _ HB.out (fun hHeld => ?_)
  clear hK K
  try simp only [Act.put, List.setIfInBounds_toArray, List.set_cons_zero, List.set_cons_succ]
  refine wpAnyH_ready (rs := [3]) (by kernel_rfl) (by simp) ?_
  refine AllReadyH.consL (o := _) rfl (fun K hK => ?_) AllReadyH.nil
  clear hHeld
  go_simp
  go_at_call 17
  refine Calls.mono (rof_any (a := 1) (b := 4) (z := xk) (d := dk) I1.out I4.out HZk.out HDk.out _) ?_
  rintro e v9 ⟨Pk, ck, Qk, kk, rfl, ho, ho2, hb⟩
  replace HB := Lib.hid (HB.out.trans (hb.mono HB.out.size))
  replace Zm := Lib.hid (Zm.out.below hb)
  replace Nm := Lib.hid (Nm.out.below hb)
  have Zk := Lib.hid (Zo.of_own ho)
  have Nk := Lib.hid ho2.rd
  clear ho ho2
  clear hb
  refine hK.out _ _ HB.out (fun hHeld => ?_)
  clear hK K
  try simp only [Act.put, List.setIfInBounds_toArray, List.set_cons_zero, List.set_cons_succ]
  refine wpAnyH_ready (rs := [4]) (by kernel_rfl) (by simp) ?_
  refine AllReadyH.consL (o := _) rfl (fun K hK => ?_) AllReadyH.nil
  clear hHeld
  go_simp
  go_at_call 15
  refine Calls.mono (qcompare_any (L := 100000000) (r := cmpa) Zm.out.in_ (Nin.of_rd Nm.out) Zk.out.in_ (Nin.of_rd Nk.out) LZm.out LDm.out LZk.out LDk.out LL.out CA.out) ?_
  rintro e v10 ⟨rfl, hb⟩
  replace HB := Lib.hid (HB.out.trans (hb.mono HB.out.size))
  replace Zm := Lib.hid (Zm.out.below hb)
  replace Nm := Lib.hid (Nm.out.below hb)
  replace Zk := Lib.hid (Zk.out.below hb)
  replace Nk := Lib.hid (Nk.out.below hb)
  clear hb
  refine hK.out _ _ HB.out (fun hHeld => ?_)
  clear hK K
  try simp only [Act.put, List.setIfInBounds_toArray, List.set_cons_zero, List.set_cons_succ]
  refine wpAnyH_takeL (i := 5) (oi := _) (v := ?_) rfl (by kernel_rfl) (by kernel_rfl) (by kernel_rfl) (fun _ _ _ h => h) (Or.inl ⟨by rfl, ?_⟩) hHeld ?_
  rotate_left
  · (intro w' hSw; (try dsimp only at hSw); go_simp; try (with_reducible rfl))
  try simp only [Act.put, List.setIfInBounds_toArray, List.set_cons_zero, List.set_cons_succ]
  refine wpAnyH_takeL (i := 6) (oi := _) (v := ?_) rfl (by kernel_rfl) (by kernel_rfl) (by kernel_rfl) (fun _ _ _ h => h) (Or.inl ⟨by rfl, ?_⟩) hHeld ?_
  rotate_left
  · (intro w' hSw; (try dsimp only at hSw); go_simp; try (with_reducible rfl))
  try simp only [Act.put, List.setIfInBounds_toArray, List.set_cons_zero, List.set_cons_succ]
  refine wpAnyH_takeL (i := 7) (oi := _) rfl (by kernel_rfl) (by kernel_rfl) (by kernel_rfl) (fun _ _ _ h => h) (yields_ldZ (by rfl) _ rfl (by rfl) (fun _ hb => G1.out.below hb G1.out.lt)) hHeld ?_
  try simp only [Act.put, List.setIfInBounds_toArray, List.set_cons_zero, List.set_cons_succ]
  refine wpAnyH_takeL (i := 9) (oi := _) rfl (by kernel_rfl) (by kernel_rfl) (by kernel_rfl) (fun _ _ _ h => h) (yields_ldR (by rfl) _ rfl (by rfl) (fun _ hb => V0.out.below hb V0.out.lt)) hHeld ?_
  try simp only [Act.put, List.setIfInBounds_toArray, List.set_cons_zero, List.set_cons_succ]
  refine wpAnyH_ready (rs := [8]) (by kernel_rfl) (by simp) ?_
  refine AllReadyH.consL (o := _) rfl (fun K hK => ?_) AllReadyH.nil
  clear hHeld
  go_simp
  go_at_call 14
  refine Calls.mono (r3whole_any (z := xu) (d := du) (ZF.out.below HB.out).in_ LF.out HZu.out HDu.out) ?_
  rintro e v11 ⟨Pu, cu, Qu, ku, rfl, ho, ho2, hb⟩
  replace HB := Lib.hid (HB.out.trans (hb.mono HB.out.size))
  replace Zm := Lib.hid (Zm.out.below hb)
  replace Nm := Lib.hid (Nm.out.below hb)
  replace Zk := Lib.hid (Zk.out.below hb)
  replace Nk := Lib.hid (Nk.out.below hb)
  have Zu := Lib.hid (Zo.of_own ho)
  have Nu := Lib.hid ho2.rd
  clear ho ho2
  clear hb
  refine hK.out _ _ HB.out (fun hHeld => ?_)
  clear hK K
  try simp only [Act.put, List.setIfInBounds_toArray, List.set_cons_zero, List.set_cons_succ]
  refine wpAnyH_ready (rs := [10]) (by kernel_rfl) (by simp) ?_
  refine AllReadyH.consL (o := _) rfl (fun K hK => ?_) AllReadyH.nil
  clear hHeld
  go_simp
  go_at_call 15
  refine Calls.mono (qcompare_any (L := 100000000) (r := cmpb) Zu.out.in_ (Nin.of_rd Nu.out) (X0.out.below HB.out) (Y0.out.below HB.out) LZu.out LDu.out LZ0.out LD0.out LL.out CB.out) ?_
  rintro e v12 ⟨rfl, hb⟩
  replace HB := Lib.hid (HB.out.trans (hb.mono HB.out.size))
  replace Zm := Lib.hid (Zm.out.below hb)
  replace Nm := Lib.hid (Nm.out.below hb)
  replace Zk := Lib.hid (Zk.out.below hb)
  replace Nk := Lib.hid (Nk.out.below hb)
  replace Zu := Lib.hid (Zu.out.below hb)
  replace Nu := Lib.hid (Nu.out.below hb)
  clear hb
  refine hK.out _ _ HB.out (fun hHeld => ?_)
  clear hK K
  try simp only [Act.put, List.setIfInBounds_toArray, List.set_cons_zero, List.set_cons_succ]
  refine wpAnyH_takeL (i := 11) (oi := _) (v := ?_) rfl (by kernel_rfl) (by kernel_rfl) (by kernel_rfl) (fun _ _ _ h => h) (Or.inl ⟨by rfl, ?_⟩) hHeld ?_
  rotate_left
  · (intro w' hSw; (try dsimp only at hSw); go_simp; try (with_reducible rfl))
  try simp only [Act.put, List.setIfInBounds_toArray, List.set_cons_zero, List.set_cons_succ]
  refine wpAnyH_takeL (i := 12) (oi := _) (v := ?_) rfl (by kernel_rfl) (by kernel_rfl) (by kernel_rfl) (fun _ _ _ h => h) (Or.inl ⟨by rfl, ?_⟩) hHeld ?_
  rotate_left
  · (intro w' hSw; (try dsimp only at hSw); go_simp; try (with_reducible rfl))
  try simp only [Act.put, List.setIfInBounds_toArray, List.set_cons_zero, List.set_cons_succ]
  refine wpAnyH_takeL (i := 13) (oi := _) (v := ?_) rfl (by kernel_rfl) (by kernel_rfl) (by kernel_rfl) (fun _ _ _ h => h) (Or.inl ⟨by rfl, ?_⟩) hHeld ?_
  rotate_left
  · (intro w' hSw; (try dsimp only at hSw); go_simp; try (with_reducible rfl))
  try simp only [Act.put, List.setIfInBounds_toArray, List.set_cons_zero, List.set_cons_succ]
  refine wpAnyH_takeL (i := 14) (oi := _) rfl (by kernel_rfl) (by kernel_rfl) (by kernel_rfl) (fun _ _ _ h => h) (yields_ldR (by rfl) _ rfl (by rfl) (fun _ hb => V0.out.below hb V0.out.lt)) hHeld ?_
  try simp only [Act.put, List.setIfInBounds_toArray, List.set_cons_zero, List.set_cons_succ]
  refine wpAnyH_takeL (i := 15) (oi := _) rfl (by kernel_rfl) (by kernel_rfl) (by kernel_rfl) (fun _ _ _ h => h) (yields_ldZ (by rfl) _ rfl (by rfl) (fun _ hb => G2.out.below hb G2.out.lt)) hHeld ?_
  try simp only [Act.put, List.setIfInBounds_toArray, List.set_cons_zero, List.set_cons_succ]
  refine wpAnyH_ready (rs := [16]) (by kernel_rfl) (by simp) ?_
  refine AllReadyH.consL (o := _) rfl (fun K hK => ?_) AllReadyH.nil
  clear hHeld
  go_simp
  go_at_call 14
  refine Calls.mono (r3whole_any (z := xt) (d := dt) (ZC.out.below HB.out).in_ LCL.out HZt.out HDt.out) ?_
  rintro e v13 ⟨Pt, ct, Qt, kt, rfl, ho, ho2, hb⟩
  replace HB := Lib.hid (HB.out.trans (hb.mono HB.out.size))
  replace Zm := Lib.hid (Zm.out.below hb)
  replace Nm := Lib.hid (Nm.out.below hb)
  replace Zk := Lib.hid (Zk.out.below hb)
  replace Nk := Lib.hid (Nk.out.below hb)
  replace Zu := Lib.hid (Zu.out.below hb)
  replace Nu := Lib.hid (Nu.out.below hb)
  have Zt := Lib.hid (Zo.of_own ho)
  have Nt := Lib.hid ho2.rd
  clear ho ho2
  clear hb
  refine hK.out _ _ HB.out (fun hHeld => ?_)
  clear hK K
  try simp only [Act.put, List.setIfInBounds_toArray, List.set_cons_zero, List.set_cons_succ]
  refine wpAnyH_ready (rs := [17]) (by kernel_rfl) (by simp) ?_
  refine AllReadyH.consL (o := _) rfl (fun K hK => ?_) AllReadyH.nil
  clear hHeld
  go_simp
  go_at_call 15
  refine Calls.mono (qcompare_any (L := 100000000) (r := cmpc) (X0.out.below HB.out) (Y0.out.below HB.out) Zt.out.in_ (Nin.of_rd Nt.out) LZ0.out LD0.out LZt.out LDt.out LL.out CC.out) ?_
  rintro e v14 ⟨rfl, hb⟩
  replace HB := Lib.hid (HB.out.trans (hb.mono HB.out.size))
  replace Zm := Lib.hid (Zm.out.below hb)
  replace Nm := Lib.hid (Nm.out.below hb)
  replace Zk := Lib.hid (Zk.out.below hb)
  replace Nk := Lib.hid (Nk.out.below hb)
  replace Zu := Lib.hid (Zu.out.below hb)
  replace Nu := Lib.hid (Nu.out.below hb)
  replace Zt := Lib.hid (Zt.out.below hb)
  replace Nt := Lib.hid (Nt.out.below hb)
  clear hb
  refine hK.out _ _ HB.out (fun hHeld => ?_)
  clear hK K
  try simp only [Act.put, List.setIfInBounds_toArray, List.set_cons_zero, List.set_cons_succ]
  refine wpAnyH_takeL (i := 18) (oi := _) (v := ?_) rfl (by kernel_rfl) (by kernel_rfl) (by kernel_rfl) (fun _ _ _ h => h) (Or.inl ⟨by rfl, ?_⟩) hHeld ?_
  rotate_left
  · (intro w' hSw; (try dsimp only at hSw); go_simp; try (with_reducible rfl))
  try simp only [Act.put, List.setIfInBounds_toArray, List.set_cons_zero, List.set_cons_succ]
  refine wpAnyH_takeL (i := 19) (oi := _) (v := ?_) rfl (by kernel_rfl) (by kernel_rfl) (by kernel_rfl) (fun _ _ _ h => h) (Or.inl ⟨by rfl, ?_⟩) hHeld ?_
  rotate_left
  · (intro w' hSw; (try dsimp only at hSw); go_simp; try (with_reducible rfl))
  try simp only [Act.put, List.setIfInBounds_toArray, List.set_cons_zero, List.set_cons_succ]
  refine wpAnyH_takeL (i := 20) (oi := _) (v := ?_) rfl (by kernel_rfl) (by kernel_rfl) (by kernel_rfl) (fun _ _ _ h => h) (Or.inl ⟨by rfl, ?_⟩) hHeld ?_
  rotate_left
  · (intro w' hSw; (try dsimp only at hSw); go_simp; try (with_reducible rfl))
  try simp only [Act.put, List.setIfInBounds_toArray, List.set_cons_zero, List.set_cons_succ]
  skip
  refine wpAnyH_done (by kernel_rfl) ?_ _
  have hb := HB.out
  replace V0 := Lib.hid (V0.out.below hb V0.out.lt)
  replace X0 := Lib.hid (X0.out.below hb)
  replace Y0 := Lib.hid (Y0.out.below hb)
  replace ZF := Lib.hid (ZF.out.below hb)
  replace ZC := Lib.hid (ZC.out.below hb)
  replace ZN := Lib.hid (ZN.out.below hb)
  replace G1 := Lib.hid (G1.out.below hb G1.out.lt)
  replace G2 := Lib.hid (G2.out.below hb G2.out.lt)
  replace G3 := Lib.hid (G3.out.below hb G3.out.lt)
  replace Zs := Lib.hid (Zs.out.below hb)
  replace Ns := Lib.hid (Ns.out.below hb)
  replace G4 := Lib.hid (G4.out.below hb G4.out.lt)
  replace B1 := Lib.hid (B1.out.trans (hb.mono B1.out.size))
  clear hHeld hb HB Zm Nm Zk Nk Zu Nu Zt Nt
  go_wp2
  go_ret
  exact ⟨rfl, B1.out⟩
end Go.Proofs.YtgleknejogbomaaGreat
