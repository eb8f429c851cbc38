/-
  Contract of the reference's Simplest.
-/
import Derived.Test.YtfmgbfdnmconiaaGreatApw
import Derived.Test.YtfmgbfdnmconiaaGreatZbez
import Derived.Test.YtfmgbfdnmconiaaGreatRrez
namespace Go.Proofs.YtfmgbfdnmconiaaGreat
open Go.RowKit
set_option linter.unusedVariables false

theorem floor_mk {z : Int} {d : Nat} (hd : 0 < d) : (mkRat z d).floor = z / (d : Int) := by
  obtain ⟨h1, h2⟩ := mk_low (z := z) hd rfl
  obtain ⟨g0, g1⟩ := gcd_pos' (z := z) hd rfl
  rw [Rat.floor_def, h1, h2]
  generalize hg : Nat.gcd z.natAbs d = g at *
  have d1 : (g : Int) ∣ z := by rw [← hg]; exact Int.ofNat_dvd_left.2 (Nat.gcd_dvd_left _ _)
  have d2 : g ∣ d := by rw [← hg]; exact Nat.gcd_dvd_right _ _
  obtain ⟨k, hk⟩ := d1
  obtain ⟨j, hj⟩ := d2
  subst hj
  rw [hk, Int.mul_ediv_cancel_left _ (by omega), Nat.mul_div_cancel_left _ g0, Int.natCast_mul, Int.mul_ediv_mul_of_pos _ _ (by omega)]
theorem nlen_mul {p q a b : Nat} (h : (ofv p).length ≤ a) (h' : (ofv q).length ≤ b) : (ofv (p * q)).length ≤ a + b := by
  have := zlen_mul (x := (p : Int)) (y := (q : Int)) (n := a) (m := b) (by simpa using h) (by simpa using h')
  rw [Int.natAbs_mul] at this
  simpa using this
theorem rl_mul {r s : Rat} {a b : Nat} (h : RL r a) (h' : RL s b) : RL (r * s) (a + b) := by
  have e : r * s = mkRat (r.num * s.num) (r.den * s.den) := by rw [← Rat.mkRat_mul_mkRat, mk_self, mk_self]
  have h1 := h.one
  rw [e]
  exact rl_mk (zlen_mul h.1 h'.1) (nlen_mul h.2 h'.2) (by omega)
theorem rl_neg {r : Rat} {a : Nat} (h : RL r a) : RL (-r) a := by
  refine ⟨?_, ?_⟩
  · rw [Rat.neg_num, Int.natAbs_neg]; exact h.1
  · rw [Rat.neg_den]; exact h.2
set_option maxRecDepth 100000 in
set_option maxHeartbeats 16000000 in
theorem r3mul_any {s t : Bool} {A D B E : Option Addr} {n c m k n2 c2 m2 k2 : Nat} {x y : Int} {p q : Nat} {w : World} (h : Zin w s A n c x) (hp : Nin w D m k p) (h' : Zin w t B n2 c2 y) (hq : Nin w E m2 k2 q) (hn : n ≤ 17592186043000) (hm : m ≤ 17592186043000) (hn2 : n2 ≤ 17592186043000) (hm2 : m2 ≤ 17592186043000) {z : Int} {d : Nat} (hz : (mkRat x p * mkRat y q).num = z) (hd : (mkRat x p * mkRat y q).den = d) :
    Calls Tryz.prog 68 #[.agg #[.bool s, .slice A n c, .slice D m k], .agg #[.bool t, .slice B n2 c2, .slice E m2 k2]] w (GivesR w z d) := by
  obtain ⟨B1, V0, V1, V2⟩ := start_RRR w s A n c D m k t B n2 c2 E m2 k2
  have HX := Lib.hid (h.below B1.out)
  have HP := Lib.hid (hp.below B1.out)
  have HY := Lib.hid (h'.below B1.out)
  have HQ := Lib.hid (hq.below B1.out)
  have LN : Hid (n ≤ 35184372087808) := Nat.le_trans hn (by decide)
  have LM : Hid (m ≤ 35184372087808) := Nat.le_trans hm (by decide)
  have LN2 : Hid (n2 ≤ 35184372087808) := Nat.le_trans hn2 (by decide)
  have LM2 : Hid (m2 ≤ 35184372087808) := Nat.le_trans hm2 (by decide)
  have KN := Lib.hid hn
  have KM := Lib.hid hm
  have KN2 := Lib.hid hn2
  have KM2 := Lib.hid hm2
  obtain ⟨z1, ez1⟩ : ∃ z0 : Int, (mkRat x p).num = z0 := ⟨_, rfl⟩
  obtain ⟨d1, ed1⟩ : ∃ z0 : Nat, (mkRat x p).den = z0 := ⟨_, rfl⟩
  obtain ⟨z2, ez2⟩ : ∃ z0 : Int, (mkRat y q).num = z0 := ⟨_, rfl⟩
  obtain ⟨d2, ed2⟩ : ∃ z0 : Nat, (mkRat y q).den = z0 := ⟨_, rfl⟩
  obtain ⟨dz1, edz1⟩ : ∃ z0 : Int, (d1 : Int) = z0 := ⟨_, rfl⟩
  obtain ⟨dz2, edz2⟩ : ∃ z0 : Int, (d2 : Int) = z0 := ⟨_, rfl⟩
  have HZ1 := Lib.hid ez1
  have HD1 := Lib.hid ed1
  have HZ2 := Lib.hid ez2
  have HD2 := Lib.hid ed2
  have ED1 : Hid (((mkRat x p).den : Int) = dz1) := by show _ = _; rw [ed1]; exact edz1
  have ED2 : Hid (((mkRat y q).den : Int) = dz2) := by show _ = _; rw [ed2]; exact edz2
  have EA : mkRat z1 d1 = mkRat x p := by rw [← ez1, ← ed1, mk_self]
  have EB : mkRat z2 d2 = mkRat y q := by rw [← ez2, ← ed2, mk_self]
  have dp1 : 0 < d1 := by rw [← ed1]; exact den_pos _
  have dp2 : 0 < d2 := by rw [← ed2]; exact den_pos _
  have l1 := canon_len (Nat.le_trans h.len hn) (Nat.le_trans hp.len hm) (by decide)
  have l2 := canon_len (Nat.le_trans h'.len hn2) (Nat.le_trans hq.len hm2) (by decide)
  rw [ez1, ed1] at l1
  rw [ez2, ed2] at l2
  have ldz1 : (ofv dz1.natAbs).length ≤ 17592186043000 := by rw [← edz1]; simpa using l1.2
  have ldz2 : (ofv dz2.natAbs).length ≤ 17592186043000 := by rw [← edz2]; simpa using l2.2
  obtain ⟨m1, e1⟩ : ∃ z0 : Int, z1 * z2 = z0 := ⟨_, rfl⟩
  obtain ⟨m4, e4⟩ : ∃ z0 : Int, dz1 * dz2 = z0 := ⟨_, rfl⟩
  have EM : Rat.divInt m1 m4 = mkRat x p * mkRat y q := by
    rw [← EA, ← EB, Rat.mkRat_mul_mkRat, ← Rat.divInt_ofNat, ← e1, ← e4, ← edz1, ← edz2, Int.natCast_mul]
  have HZ : Hid ((Rat.divInt m1 m4).num = z) := by show _ = _; rw [EM]; exact hz
  have HD : Hid ((Rat.divInt m1 m4).den = d) := by show _ = _; rw [EM]; exact hd
  have lm1 := zlen_mul (x := z1) (y := z2) l1.1 l2.1
  rw [e1] at lm1
  have lm4 := zlen_mul (x := dz1) (y := dz2) ldz1 ldz2
  rw [e4] at lm4
  have E1 := Lib.hid e1
  have E4 := Lib.hid e4
  have K1 : Hid ((ofv z1.natAbs).length + (ofv z2.natAbs).length ≤ 70368744177664) := by show _ ≤ _; omega
  have K5 : Hid ((ofv m1.natAbs).length ≤ 35184372087808) := by show _ ≤ _; omega
  have K6 : Hid ((ofv dz1.natAbs).length + (ofv dz2.natAbs).length ≤ 70368744177664) := by show _ ≤ _; omega
  have K7 : Hid ((ofv m4.natAbs).length ≤ 35184372087808) := by show _ ≤ _; omega
  clear h hp h' hq hn hm hn2 hm2 ez1 ed1 ez2 ed2 edz1 edz2 EA EB dp1 dp2 l1 l2 ldz1 ldz2 e1 e4 EM lm1 lm4 hz hd
  go_enter Tryz.func68, Tryz.ntmps68
  go_wp2_with fail
  generalize (((w.alloc (.cells #[.bool s, .slice A n c, .slice D m k] 26)).alloc (.cells #[.bool t, .slice B n2 c2, .slice E m2 k2] 26)).alloc (.cells #[.bool false, .slice none 0 0, .slice none 0 0] 26)) = w2 at *
  have hf0 := field0
  have HB : Hid (Below w2.heap.size w2 w2.drew) := below_drewN _ w2 1
  refine wp_region_held_drew (S := fun w' => w2.grownBy w' (some (w.heap.size + 2))) (by kernel_rfl) ((grown_below HB.out : World.grownBy _ _ (some (w.heap.size + 2)))) (fun hHeld => ?_)
  refine wpAnyH_takeL (i := 0) (oi := _) rfl (by kernel_rfl) (by kernel_rfl) (by kernel_rfl) (fun _ _ _ h => h) (yields_ldR (by rfl) _ rfl (by rfl) (fun _ hb => V0.out.gro hb (by omega))) hHeld ?_
  try simp only [Act.put, List.setIfInBounds_toArray, List.set_cons_zero, List.set_cons_succ]
  refine wpAnyH_takeL (i := 3) (oi := _) rfl (by kernel_rfl) (by kernel_rfl) (by kernel_rfl) (fun _ _ _ h => h) (yields_ldR (by rfl) _ rfl (by rfl) (fun _ hb => V1.out.gro hb (by omega))) hHeld ?_
  try simp only [Act.put, List.setIfInBounds_toArray, List.set_cons_zero, List.set_cons_succ]
  refine wpAnyH_takeL (i := 7) (oi := _) rfl (by kernel_rfl) (by kernel_rfl) (by kernel_rfl) (fun _ _ _ h => h) (yields_ldR (by rfl) _ rfl (by rfl) (fun _ hb => V0.out.gro hb (by omega))) hHeld ?_
  try simp only [Act.put, List.setIfInBounds_toArray, List.set_cons_zero, List.set_cons_succ]
  refine wpAnyH_takeL (i := 9) (oi := _) rfl (by kernel_rfl) (by kernel_rfl) (by kernel_rfl) (fun _ _ _ h => h) (yields_ldR (by rfl) _ rfl (by rfl) (fun _ hb => V1.out.gro hb (by omega))) hHeld ?_
  try simp only [Act.put, List.setIfInBounds_toArray, List.set_cons_zero, List.set_cons_succ]
  refine wpAnyH_ready (rs := [1]) (by kernel_rfl) (by simp) ?_
  refine AllReadyH.consL (o := _) rfl (fun K hK => ?_) AllReadyH.nil
  clear hHeld
  go_simp
  go_at_call 16
  refine Calls.mono (rnorm_any (HX.out.below HB.out) (HP.out.below HB.out) LN.out LM.out HZ1.out HD1.out) ?_
  rintro e wa ⟨PN1, cN1, PM1, cM1, rfl, ho, ho2, hb⟩
  replace HB := Lib.hid (HB.out.trans (hb.mono HB.out.size))
  have Z1 := Lib.hid (Zo.of_own ho)
  clear ho ho2
  clear hb
  refine hK.out _ _ (grown_below HB.out : World.grownBy _ _ (some (w.heap.size + 2))) (fun hHeld => ?_)
  clear hK K
  try simp only [Act.put, List.setIfInBounds_toArray, List.set_cons_zero, List.set_cons_succ]
  refine wpAnyH_takeL (i := 2) (oi := _) (v := ?_) rfl (by kernel_rfl) (by kernel_rfl) (by kernel_rfl) (fun _ _ _ h => h) (Or.inl ⟨by rfl, ?_⟩) hHeld ?_
  rotate_left
  · (intro w' hSw; (try dsimp only at hSw); go_simp; try (with_reducible rfl))
  try simp only [Act.put, List.setIfInBounds_toArray, List.set_cons_zero, List.set_cons_succ]
  refine wpAnyH_ready (rs := [4]) (by kernel_rfl) (by simp) ?_
  refine AllReadyH.consL (o := _) rfl (fun K hK => ?_) AllReadyH.nil
  clear hHeld
  go_simp
  go_at_call 16
  refine Calls.mono (rnorm_any (HY.out.below HB.out) (HQ.out.below HB.out) LN2.out LM2.out HZ2.out HD2.out) ?_
  rintro e wb ⟨PN2, cN2, PM2, cM2, rfl, ho, ho2, hb⟩
  replace HB := Lib.hid (HB.out.trans (hb.mono HB.out.size))
  replace Z1 := Lib.hid (Z1.out.below hb)
  have Z2 := Lib.hid (Zo.of_own ho)
  clear ho ho2
  clear hb
  refine hK.out _ _ (grown_below HB.out : World.grownBy _ _ (some (w.heap.size + 2))) (fun hHeld => ?_)
  clear hK K
  try simp only [Act.put, List.setIfInBounds_toArray, List.set_cons_zero, List.set_cons_succ]
  refine wpAnyH_takeL (i := 5) (oi := _) (v := ?_) rfl (by kernel_rfl) (by kernel_rfl) (by kernel_rfl) (fun _ _ _ h => h) (Or.inl ⟨by rfl, ?_⟩) hHeld ?_
  rotate_left
  · (intro w' hSw; (try dsimp only at hSw); go_simp; try (with_reducible rfl))
  try simp only [Act.put, List.setIfInBounds_toArray, List.set_cons_zero, List.set_cons_succ]
  refine wpAnyH_ready (rs := [6]) (by kernel_rfl) (by simp) ?_
  refine AllReadyH.consL (o := _) rfl (fun K hK => ?_) AllReadyH.nil
  clear hHeld
  go_simp
  go_at_call 114
  refine Calls.mono (rmul_z (x := z1) (y := z2) (z := m1) Z1.out.in_ Z2.out.in_ K1.out E1.out) ?_
  rintro e wc ⟨PP3, cPP3, rfl, ho, hb⟩
  replace HB := Lib.hid (HB.out.trans (hb.mono HB.out.size))
  have Z3 := Lib.hid (Zo.of_own ho)
  clear ho
  clear hb
  refine hK.out _ _ (grown_below HB.out : World.grownBy _ _ (some (w.heap.size + 2))) (fun hHeld => ?_)
  clear hK K
  try simp only [Act.put, List.setIfInBounds_toArray, List.set_cons_zero, List.set_cons_succ]
  refine wpAnyH_ready (rs := [8]) (by kernel_rfl) (by simp) ?_
  refine AllReadyH.consL (o := _) rfl (fun K hK => ?_) AllReadyH.nil
  clear hHeld
  go_simp
  go_at_call 115
  refine Calls.mono (rden_any (HX.out.below HB.out) (HP.out.below HB.out) LN.out LM.out ED1.out) ?_
  rintro e wd ⟨PD4, cPD4, rfl, ho, hb⟩
  replace HB := Lib.hid (HB.out.trans (hb.mono HB.out.size))
  replace Z3 := Lib.hid (Z3.out.below hb)
  have Z4 := Lib.hid (Zo.of_own ho)
  clear ho
  clear hb
  refine hK.out _ _ (grown_below HB.out : World.grownBy _ _ (some (w.heap.size + 2))) (fun hHeld => ?_)
  clear hK K
  try simp only [Act.put, List.setIfInBounds_toArray, List.set_cons_zero, List.set_cons_succ]
  refine wpAnyH_ready (rs := [10]) (by kernel_rfl) (by simp) ?_
  refine AllReadyH.consL (o := _) rfl (fun K hK => ?_) AllReadyH.nil
  clear hHeld
  go_simp
  go_at_call 115
  refine Calls.mono (rden_any (HY.out.below HB.out) (HQ.out.below HB.out) LN2.out LM2.out ED2.out) ?_
  rintro e we ⟨PD5, cPD5, rfl, ho, hb⟩
  replace HB := Lib.hid (HB.out.trans (hb.mono HB.out.size))
  replace Z3 := Lib.hid (Z3.out.below hb)
  replace Z4 := Lib.hid (Z4.out.below hb)
  have Z5 := Lib.hid (Zo.of_own ho)
  clear ho
  clear hb
  refine hK.out _ _ (grown_below HB.out : World.grownBy _ _ (some (w.heap.size + 2))) (fun hHeld => ?_)
  clear hK K
  try simp only [Act.put, List.setIfInBounds_toArray, List.set_cons_zero, List.set_cons_succ]
  refine wpAnyH_ready (rs := [11]) (by kernel_rfl) (by simp) ?_
  refine AllReadyH.consL (o := _) rfl (fun K hK => ?_) AllReadyH.nil
  clear hHeld
  go_simp
  go_at_call 114
  refine Calls.mono (rmul_z (x := dz1) (y := dz2) (z := m4) Z4.out.in_ Z5.out.in_ K6.out E4.out) ?_
  rintro e wf ⟨PP6, cPP6, rfl, ho, hb⟩
  replace HB := Lib.hid (HB.out.trans (hb.mono HB.out.size))
  replace Z3 := Lib.hid (Z3.out.below hb)
  have Z6 := Lib.hid (Zo.of_own ho)
  clear ho
  clear hb
  refine hK.out _ _ (grown_below HB.out : World.grownBy _ _ (some (w.heap.size + 2))) (fun hHeld => ?_)
  clear hK K
  try simp only [Act.put, List.setIfInBounds_toArray, List.set_cons_zero, List.set_cons_succ]
  refine wpAnyH_ready (rs := [12]) (by kernel_rfl) (by simp) ?_
  refine AllReadyH.consL (o := _) rfl (fun K hK => ?_) AllReadyH.nil
  clear hHeld
  have SZ := Lib.hid (Nat.le_trans B1.out.size HB.out.size)
  go_simp
  go_at_call 60
  refine Calls.mono (rmake_any Z3.out.in_ K5.out Z6.out.in_ K7.out HZ.out HD.out) ?_
  rintro e wg ⟨P1, c1, P2, c2, rfl, ho, ho2, hb⟩
  replace HB := Lib.hid (HB.out.trans (hb.mono HB.out.size))
  have OQ := Lib.hid (ho.mono SZ.out)
  have OD := Lib.hid (ho2.mono SZ.out)
  clear ho ho2 SZ
  clear hb
  refine hK.out _ _ (grown_below HB.out : World.grownBy _ _ (some (w.heap.size + 2))) (fun hHeld => ?_)
  clear hK K
  try simp only [Act.put, List.setIfInBounds_toArray, List.set_cons_zero, List.set_cons_succ]
  refine wpAnyH_ready (rs := [13]) (by kernel_rfl) (by simp) ?_
  refine AllReadyH.consL (o := _) rfl (fun K hK => ?_) AllReadyH.nil
  clear hHeld
  have hb := HB.out
  replace V0 := Lib.hid (V0.out.below hb V0.out.lt)
  replace V1 := Lib.hid (V1.out.below hb V1.out.lt)
  replace V2 := Lib.hid (V2.out.below hb V2.out.lt)
  replace HX := Lib.hid (HX.out.below hb)
  replace HP := Lib.hid (HP.out.below hb)
  replace HY := Lib.hid (HY.out.below hb)
  replace HQ := Lib.hid (HQ.out.below hb)
  replace B1 := Lib.hid (B1.out.trans (hb.mono B1.out.size))
  rw [if_pos (by rfl)]
  refine wp_stR _ _ rfl (by rfl) (by rfl) V2.out ?_
  intro wst hz hg
  replace V0 := Lib.hid (V0.out.gro hg (by omega))
  replace V1 := Lib.hid (V1.out.gro hg (by omega))
  replace HX := Lib.hid (HX.out.grR V2.out hg)
  replace HP := Lib.hid (HP.out.grR V2.out hg)
  replace HY := Lib.hid (HY.out.grR V2.out hg)
  replace HQ := Lib.hid (HQ.out.grR V2.out hg)
  replace OQ := Lib.hid (OQ.out.grR V2.out hg)
  replace OD := Lib.hid (OD.out.grR V2.out hg)
  replace B1 := Lib.hid (Below.gr B1.out (by omega) hg B1.out.size)
  replace V2 := Lib.hid hz
  refine hK.out _ _ (World.grownBy.trans (grown_below hb) hg) (fun hHeld => ?_)
  clear hK K hg hb HB hz
  try simp only [Act.put]
  skip
  refine wpAnyH_done (by kernel_rfl) ?_ _
  clear hHeld
  go_wp2
  exact ret_rb Tryz.results68 rfl rfl V2.out ⟨_, _, _, _, rfl, OQ.out, OD.out, B1.out⟩
theorem floor_def' (r : Rat) : r.floor = r.num / (r.den : Int) := by
  have := floor_mk (z := r.num) (den_pos r)
  rwa [mk_self] at this
theorem floor_len {r : Rat} {n : Nat} (h : RL r n) : (ofv r.floor.natAbs).length ≤ n := by
  rw [floor_def']
  exact Nat.le_trans (len_mono (Int.natAbs_ediv_le_natAbs _ _)) h.1
set_option maxRecDepth 100000 in
set_option maxHeartbeats 16000000 in
theorem r3floor_any {s : Bool} {A D : Option Addr} {n c m k : Nat} {x : Int} {p : Nat} {w : World} (h : Zin w s A n c x) (h' : Nin w D m k p) (hn : n ≤ 35184372087808) (hm : m ≤ 35184372087808) {v : Int} (hv : (mkRat x p).floor = v) :
    Calls Tryz.prog 70 #[.agg #[.bool s, .slice A n c, .slice D m k]] w (GivesZ w v) := by
  obtain ⟨B1, V0, V1⟩ := start_RZ w s A n c D m k
  have HX := Lib.hid (h.below B1.out)
  have HP := Lib.hid (h'.below B1.out)
  have LN := Lib.hid hn
  have LM := Lib.hid hm
  have rl := rl_mk (N := 35184372087808) (Nat.le_trans h.len hn) (Nat.le_trans h'.len hm) (by decide)
  obtain ⟨z, ez⟩ : ∃ z0 : Int, (mkRat x p).num = z0 := ⟨_, rfl⟩
  obtain ⟨d, ed⟩ : ∃ z0 : Nat, (mkRat x p).den = z0 := ⟨_, rfl⟩
  obtain ⟨dz, edz⟩ : ∃ z0 : Int, ((mkRat x p).den : Int) = z0 := ⟨_, rfl⟩
  obtain ⟨rr, er⟩ : ∃ z0 : Int, z % dz = z0 := ⟨_, rfl⟩
  have LZ : Hid ((ofv z.natAbs).length ≤ 35184372087808) := by show _ ≤ _; rw [← ez]; exact rl.1
  have LD : Hid ((ofv dz.natAbs).length ≤ 35184372087808) := by show _ ≤ _; rw [← edz]; simpa using rl.2
  have ND : Hid (dz ≠ 0) := by show _ ≠ _; have := den_pos (mkRat x p); omega
  have EQ : Hid (z / dz = v) := by show _ = _; rw [← ez, ← edz, ← floor_def']; exact hv
  have HZ := Lib.hid ez
  have HD := Lib.hid ed
  have EDZ := Lib.hid edz
  have ER := Lib.hid er
  have hf0 := field0
  clear rl ez ed edz er hv
  clear h h' hn hm
  go_enter Tryz.func70, Tryz.ntmps70
  go_wp2_with fail
  generalize ((w.alloc (.cells #[.bool s, .slice A n c, .slice D m k] 26)).alloc (.cells #[.bool false, .slice none 0 0] 24)) = w2 at *
  have LT : Hid (w.heap.size + 1 < w2.heap.size) := V1.out.lt
  have HB : Hid (Below w2.heap.size w2 w2.drew) := below_drewN _ w2 1
  refine wp_region_held_drew (S := fun w' => Below w2.heap.size w2 w') (by kernel_rfl) (HB.out) (fun hHeld => ?_)
  refine wpAnyH_takeL (i := 0) (oi := _) rfl (by kernel_rfl) (by kernel_rfl) (by kernel_rfl) (fun _ _ _ h => h) (yields_ldR (by rfl) _ rfl (by rfl) (fun _ hb => V0.out.below hb V0.out.lt)) hHeld ?_
  try simp only [Act.put, List.setIfInBounds_toArray, List.set_cons_zero, List.set_cons_succ]
  refine wpAnyH_takeL (i := 3) (oi := _) rfl (by kernel_rfl) (by kernel_rfl) (by kernel_rfl) (fun _ _ _ h => h) (yields_ldR (by rfl) _ rfl (by rfl) (fun _ hb => V0.out.below hb V0.out.lt)) hHeld ?_
  try simp only [Act.put, List.setIfInBounds_toArray, List.set_cons_zero, List.set_cons_succ]
  refine wpAnyH_rgt [(1, some 8), (2, some 9), (4, some 11), (5, some 12), (6, some 6), (7, some 13), (8, some 14), (9, some 15), (10, some 3), (11, some 4)] [2, 6, 7, 8, 9] (isNewZ w2.heap.size) [(1, isR z d w2.heap.size), (2, isZ z w2.heap.size), (4, isZ dz w2.heap.size), (5, isQ v rr w2.heap.size), (6, isQ v rr w2.heap.size), (7, isZ v w2.heap.size), (8, isZ rr w2.heap.size), (9, isV (.bool true))] w2 (f0 := 3) (by kernel_rfl) (by kernel_rfl) (by rfl) HB.out (fun _ h => h) (fun _ _ _ _ _ h => h) (isNewZ_good _) ⟨isR_good _ _ _, isZ_good _ _, isZ_good _ _, isQ_good _ _ _, isQ_good _ _ _, isZ_good _ _, isZ_good _ _, isV_good _, trivial⟩ ?_ ?_ ?_
  · clear hHeld HB
    show RgOps _ _ _ _ _ _ _ _ _ [1, 4, 5, 10, 11]
    refine RgOps.consL (o := _) (ds := []) rfl rfl (by kernel_rfl) (fun vals wr hbr hC hdep K hK => ?_) ?_
    · have BB := Lib.hid hbr
      clear hdep
      clear hbr hC
      simp only [Upd2, Act.put, List.setIfInBounds_toArray, List.set_cons_zero, List.set_cons_succ] at hK ⊢
      go_simp
      go_at_call 16
      refine Calls.mono (rnorm_any (HX.out.below BB.out) (HP.out.below BB.out) LN.out LM.out HZ.out HD.out) ?_
      rintro e wq ⟨R, cR, R2, cR2, rfl, ho, ho2, hb⟩
      exact hK.out _ _ (LeavesB.giveR BB.out.size ho ho2 hb)
    refine RgOps.consL (o := _) (ds := [1]) rfl rfl (by kernel_rfl) (fun vals wr hbr hC hdep K hK => ?_) ?_
    · have BB := Lib.hid hbr
      obtain ⟨⟨P1, c1, Q1, k1, e1, o1, u1⟩, -⟩ := hdep
      clear hbr hC
      simp only [e1, Upd2, Act.put, List.setIfInBounds_toArray, List.set_cons_zero, List.set_cons_succ] at hK ⊢
      clear e1
      go_simp
      go_at_call 115
      refine Calls.mono (rden_any (HX.out.below BB.out) (HP.out.below BB.out) LN.out LM.out EDZ.out) ?_
      rintro e wq ⟨R, cR, rfl, ho, hb⟩
      exact hK.out _ _ (LeavesB.giveZ BB.out.size ho hb)
    refine RgOps.consL (o := _) (ds := [2, 4]) rfl rfl (by kernel_rfl) (fun vals wr hbr hC hdep K hK => ?_) ?_
    · have BB := Lib.hid hbr
      obtain ⟨⟨P2, c2, e2, o2⟩, ⟨P4, c4, e4, o4⟩, -⟩ := hdep
      clear hbr hC
      simp only [e2, e4, Upd2, Act.put, List.setIfInBounds_toArray, List.set_cons_zero, List.set_cons_succ] at hK ⊢
      clear e2 e4
      go_simp
      go_at_call 103
      refine Calls.mono (rdm_z (x := z) (y := dz) (q := v) (r := rr) (Zo.of_own o2).in_ (Zo.of_own o4).in_ LZ.out LD.out ND.out EQ.out ER.out) ?_
      rintro e wq ⟨R, cR, R2, cR2, rfl, ho, ho2, hb⟩
      exact hK.out _ _ (LeavesB.behind hb ⟨_, _, _, _, rfl, ho.mono BB.out.size, ho2.mono BB.out.size⟩ rfl)
    refine RgOps.consL (o := _) (ds := []) rfl rfl (by kernel_rfl) (fun vals wr hbr hC hdep K hK => ?_) ?_
    · have BB := Lib.hid hbr
      clear hdep
      clear hbr hC
      simp only [Upd2, Act.put, List.setIfInBounds_toArray, List.set_cons_zero, List.set_cons_succ] at hK ⊢
      go_simp
      exact hK.out _ _ (LeavesB.newZ BB.out.size)
    refine RgOps.consL (o := _) (ds := []) rfl rfl (by kernel_rfl) (fun vals wr hbr hC hdep K hK => ?_) RgOps.nil
    · have BB := Lib.hid hbr
      clear hdep
      clear hbr hC
      simp only [Upd2, Act.put, List.setIfInBounds_toArray, List.set_cons_zero, List.set_cons_succ] at hK ⊢
      go_simp
      exact hK.out _ _ (LeavesB.newZ BB.out.size)
  · clear hHeld HB
    show TaAll _ _ _ _ _ [2, 6, 7, 8, 9]
    refine TaAll.cons (o := _) (ds := [1]) rfl rfl (by kernel_rfl) (fun vals wr hdep => ?_) ?_
    · obtain ⟨⟨P1, c1, Q1, k1, e1, o1, u1⟩, -⟩ := hdep
      refine ⟨_, fun S => Or.inl ⟨by rfl, ?_⟩, ⟨_, _, rfl, o1⟩, rfl⟩
      intro w' _
      simp only [e1, Upd2, Act.put, List.setIfInBounds_toArray, List.set_cons_zero, List.set_cons_succ]
      go_simp
    refine TaAll.cons (o := _) (ds := [5]) rfl rfl (by kernel_rfl) (fun vals wr hdep => ?_) ?_
    · obtain ⟨⟨P5, c5, Q5, d5, e5, o5, u5⟩, -⟩ := hdep
      refine ⟨_, fun S => Or.inl ⟨by rfl, ?_⟩, ⟨_, _, _, _, rfl, o5, u5⟩, rfl⟩
      intro w' _
      simp only [e5, Upd2, Act.put, List.setIfInBounds_toArray, List.set_cons_zero, List.set_cons_succ]
      go_simp
    refine TaAll.cons (o := _) (ds := [6]) rfl rfl (by kernel_rfl) (fun vals wr hdep => ?_) ?_
    · obtain ⟨⟨P6, c6, Q6, d6, e6, o6, u6⟩, -⟩ := hdep
      refine ⟨_, fun S => Or.inl ⟨by rfl, ?_⟩, ⟨_, _, rfl, o6⟩, rfl⟩
      intro w' _
      simp only [e6, Upd2, Act.put, List.setIfInBounds_toArray, List.set_cons_zero, List.set_cons_succ]
      go_simp
    refine TaAll.cons (o := _) (ds := [6]) rfl rfl (by kernel_rfl) (fun vals wr hdep => ?_) ?_
    · obtain ⟨⟨P6, c6, Q6, d6, e6, o6, u6⟩, -⟩ := hdep
      refine ⟨_, fun S => Or.inl ⟨by rfl, ?_⟩, ⟨_, _, rfl, u6⟩, rfl⟩
      intro w' _
      simp only [e6, Upd2, Act.put, List.setIfInBounds_toArray, List.set_cons_zero, List.set_cons_succ]
      go_simp
    refine TaAll.cons (o := _) (ds := [6]) rfl rfl (by kernel_rfl) (fun vals wr hdep => ?_) TaAll.nil
    · obtain ⟨⟨P6, c6, Q6, d6, e6, o6, u6⟩, -⟩ := hdep
      refine ⟨_, fun S => Or.inl ⟨by rfl, ?_⟩, ⟨rfl, rfl⟩, rfl⟩
      intro w' _
      simp only [e6, Upd2, Act.put, List.setIfInBounds_toArray, List.set_cons_zero, List.set_cons_succ]
      go_simp
  clear hHeld HB
  intro vals wr hb hdep hD
  have NG0 := Lib.hid (hD 10 (by decide) 11 (by decide) (by decide))
  obtain ⟨⟨P1, c1, Q1, k1, e1, o1, u1⟩, ⟨P2, c2, e2, o2⟩, ⟨P4, c4, e4, o4⟩, ⟨P5, c5, Q5, d5, e5, o5, u5⟩, ⟨P6, c6, Q6, d6, e6, o6, u6⟩, ⟨P7, c7, e7, o7⟩, ⟨P8, c8, e8, o8⟩, ⟨e9, -⟩, ⟨g10, e10, l10, z10⟩, ⟨g11, e11, l11, z11⟩, -⟩ := hdep
  have NG : Hid (g10 ≠ g11) := fun e => NG0.out g10 (by rw [e10]; rfl) (by rw [e11, e]; rfl)
  simp only [Upd2, e1, e2, e4, e5, e6, e7, e8, e9, e10, e11, Act.put, List.setIfInBounds_toArray, List.set_cons_zero, List.set_cons_succ]
  clear NG0 e1 e2 e4 e5 e6 e7 e8 e9 e10 e11
  clear hD vals
  replace V0 := Lib.hid (V0.out.below hb V0.out.lt)
  replace V1 := Lib.hid (V1.out.below hb V1.out.lt)
  replace HX := Lib.hid (HX.out.below hb)
  replace HP := Lib.hid (HP.out.below hb)
  replace B1 := Lib.hid (B1.out.trans (hb.mono B1.out.size))
  have HB := Lib.hid hb
  clear hb
  have OV := Lib.hid (o7.mono (show w.heap.size ≤ w2.heap.size by have := LT.out; omega)); have G1 := Lib.hid z10; have G2 := Lib.hid z11; have LL1 := Lib.hid l10; have LL2 := Lib.hid l11; have LG1 : Hid (w.heap.size + 1 < g10) := Nat.lt_of_lt_of_le LT.out l10; have LG2 : Hid (w.heap.size + 1 < g11) := Nat.lt_of_lt_of_le LT.out l11
  clear o1 u1 o2 o4 o5 u5 o6 u6 o7 o8 z10 z11 l10 l11
  refine wpAnyH_ready (rs := [12]) (by kernel_rfl) (by simp) ?_
  refine AllReadyH.consL (o := _) rfl (fun K hK => ?_) AllReadyH.nil
  rw [if_pos (by rfl)]
  refine wp_stZ _ _ rfl (by rfl) (by rfl) G1.out ?_
  intro ws0 hz hg
  replace HB := Lib.hid (Below.gr HB.out (by have := LL1.out; have := LL2.out; omega) hg HB.out.size)
  replace V0 := Lib.hid (V0.out.gro hg (by have := LG1.out; have := LG2.out; have := NG.out; omega))
  replace V1 := Lib.hid (V1.out.gr hg (by have := LG1.out; have := LG2.out; have := NG.out; omega))
  replace HX := Lib.hid (HX.out.gr G1.out hg)
  replace HP := Lib.hid (HP.out.gr G1.out hg)
  replace OV := Lib.hid (OV.out.gr G1.out hg)
  replace G2 := Lib.hid (G2.out.gr hg (by have := LG1.out; have := LG2.out; have := NG.out; omega))
  replace B1 := Lib.hid (Below.gr B1.out (by have := LG1.out; have := LG2.out; have := NG.out; omega) hg B1.out.size)
  replace G1 := Lib.hid hz
  refine hK.out _ _ ⟨HB.out, HB.out⟩ (fun _ => ?_)
  clear hK K hg hz
  try simp only [Act.put]
  refine wpAnyH_ready (rs := [13]) (by kernel_rfl) (by simp) ?_
  refine AllReadyH.consL (o := _) rfl (fun K hK => ?_) AllReadyH.nil
  rw [if_pos (by rfl)]
  refine wp_stZ _ _ rfl (by rfl) (by rfl) G2.out ?_
  intro ws1 hz hg
  replace HB := Lib.hid (Below.gr HB.out (by have := LL1.out; have := LL2.out; omega) hg HB.out.size)
  replace V0 := Lib.hid (V0.out.gro hg (by have := LG1.out; have := LG2.out; have := NG.out; omega))
  replace V1 := Lib.hid (V1.out.gr hg (by have := LG1.out; have := LG2.out; have := NG.out; omega))
  replace HX := Lib.hid (HX.out.gr G2.out hg)
  replace HP := Lib.hid (HP.out.gr G2.out hg)
  replace OV := Lib.hid (OV.out.gr G2.out hg)
  replace G1 := Lib.hid (G1.out.gr hg (by have := LG1.out; have := LG2.out; have := NG.out; omega))
  replace B1 := Lib.hid (Below.gr B1.out (by have := LG1.out; have := LG2.out; have := NG.out; omega) hg B1.out.size)
  replace G2 := Lib.hid hz
  refine hK.out _ _ ⟨HB.out, HB.out⟩ (fun _ => ?_)
  clear hK K hg hz
  try simp only [Act.put]
  have hHeld : Below w2.heap.size w2 _ ∧ Below w2.heap.size w2 _ := ⟨HB.out, HB.out⟩
  refine wpAnyH_takeL (i := 14) (oi := _) (v := ?_) rfl (by kernel_rfl) (by kernel_rfl) (by kernel_rfl) (fun _ _ _ h => h) (Or.inl ⟨by rfl, ?_⟩) hHeld ?_
  rotate_left
  · (intro w' hSw; (try dsimp only at hSw); go_simp; try (with_reducible rfl))
  try simp only [Act.put, List.setIfInBounds_toArray, List.set_cons_zero, List.set_cons_succ]
  clear hHeld
  refine wpAnyH_done (by kernel_rfl) ?_ _
  clear HB
  have pc0 := Lib.hid trivial
  go_wp2_with (first
    | (clear pc0; refine wpList_ldZ (by rfl) _ rfl (by rfl) G1.out ?_; have pc1 := Lib.hid trivial)
    | (clear pc1; refine wpList_stZ (by rfl) _ _ rfl (by rfl) (by rfl) V1.out ?_; intro w7 hz hg; replace V0 := Lib.hid (V0.out.gro hg (by have := LG1.out; have := LG2.out; have := NG.out; omega)); replace HX := Lib.hid (HX.out.gr V1.out hg); replace HP := Lib.hid (HP.out.gr V1.out hg); replace OV := Lib.hid (OV.out.gr V1.out hg); replace G1 := Lib.hid (G1.out.gr hg (by have := LG1.out; have := LG2.out; have := NG.out; omega)); replace G2 := Lib.hid (G2.out.gr hg (by have := LG1.out; have := LG2.out; have := NG.out; omega)); replace B1 := Lib.hid (Below.gr B1.out (by omega) hg B1.out.size); replace V1 := Lib.hid hz; clear hz hg; have pc2 := Lib.hid trivial))
  clear pc2
  exact ret_zb Tryz.results70 rfl rfl V1.out ⟨_, _, rfl, OV.out, B1.out⟩
set_option maxRecDepth 100000 in
set_option maxHeartbeats 16000000 in
theorem r3ceil_any {s : Bool} {A D : Option Addr} {n c m k : Nat} {x : Int} {p : Nat} {w : World} (h : Zin w s A n c x) (h' : Nin w D m k p) (hn : n ≤ 35184372087808) (hm : m ≤ 35184372087808) {v : Int} (hv : -(-mkRat x p).floor = v) :
    Calls Tryz.prog 67 #[.agg #[.bool s, .slice A n c, .slice D m k]] w (GivesZ w v) := by
  obtain ⟨B1, V0, V1⟩ := start_RZ w s A n c D m k
  have HX := Lib.hid (h.below B1.out)
  have HP := Lib.hid (h'.below B1.out)
  have LN := Lib.hid hn
  have LM := Lib.hid hm
  have rl := rl_neg (rl_mk (N := 35184372087808) (Nat.le_trans h.len hn) (Nat.le_trans h'.len hm) (by decide))
  obtain ⟨z, ez⟩ : ∃ z0 : Int, (-mkRat x p).num = z0 := ⟨_, rfl⟩
  obtain ⟨d, ed⟩ : ∃ z0 : Nat, (-mkRat x p).den = z0 := ⟨_, rfl⟩
  obtain ⟨f, ef⟩ : ∃ z0 : Int, (-mkRat x p).floor = z0 := ⟨_, rfl⟩
  have EF : Hid ((mkRat z d).floor = f) := by show _ = _; rw [← ez, ← ed, mk_self]; exact ef
  have LF : Hid ((ofv f.natAbs).length ≤ 70368744177664) := by show _ ≤ _; rw [← ef]; exact Nat.le_trans (floor_len rl) (by decide)
  have LZ : Hid ((ofv z.natAbs).length ≤ 35184372087808) := by show _ ≤ _; rw [← ez]; exact rl.1
  have LD : Hid ((ofv d).length ≤ 35184372087808) := by show _ ≤ _; rw [← ed]; exact rl.2
  rw [ef] at hv
  have HV := Lib.hid hv
  have HZ := Lib.hid ez
  have HD := Lib.hid ed
  clear rl ez ed ef hv
  clear h h' hn hm
  go_enter Tryz.func67, Tryz.ntmps67
  go_wp2_with fail
  generalize ((w.alloc (.cells #[.bool s, .slice A n c, .slice D m k] 26)).alloc (.cells #[.bool false, .slice none 0 0] 24)) = w2 at *
  have pc0 := Lib.hid trivial
  go_wp2_with (first
    | (clear pc0; go_at_call 113; refine Calls.mono (r3neg_any (z2 := z) (d2 := d) HX.out HP.out LN.out LM.out HZ.out HD.out) ?_; rintro e w3 ⟨P3, c3, P4, c4, rfl, ho, ho2, hb⟩; replace V0 := Lib.hid (V0.out.below hb V0.out.lt); replace V1 := Lib.hid (V1.out.below hb V1.out.lt); replace HX := Lib.hid (HX.out.below hb); replace HP := Lib.hid (HP.out.below hb); replace B1 := Lib.hid (B1.out.trans (hb.mono B1.out.size)); have ZN := Lib.hid (Zo.of_own ho); have ZD := Lib.hid ho2.rd; clear ho ho2; clear hb; have pc1 := Lib.hid trivial)
    | (clear pc1; go_at_call 70; refine Calls.mono (r3floor_any (v := f) ZN.out.in_ (Nin.of_rd ZD.out) LZ.out LD.out EF.out) ?_; rintro e w4 ⟨P1, c1, rfl, ho, hb⟩; replace V0 := Lib.hid (V0.out.below hb V0.out.lt); replace V1 := Lib.hid (V1.out.below hb V1.out.lt); replace HX := Lib.hid (HX.out.below hb); replace HP := Lib.hid (HP.out.below hb); replace ZN := Lib.hid (ZN.out.below hb); replace ZD := Lib.hid (ZD.out.below hb); replace B1 := Lib.hid (B1.out.trans (hb.mono B1.out.size)); have ZF := Lib.hid (Zo.of_own ho); clear ho; clear hb; have pc2 := Lib.hid trivial)
    | (clear pc2; have SZ := Lib.hid B1.out.size; go_at_call 99; refine Calls.mono (rneg_z (x := f) (z := v) ZF.out.in_ LF.out HV.out) ?_; rintro e w5 ⟨P2, c2, rfl, ho, hb⟩; replace V0 := Lib.hid (V0.out.below hb V0.out.lt); replace V1 := Lib.hid (V1.out.below hb V1.out.lt); replace HX := Lib.hid (HX.out.below hb); replace HP := Lib.hid (HP.out.below hb); replace ZN := Lib.hid (ZN.out.below hb); replace ZD := Lib.hid (ZD.out.below hb); replace ZF := Lib.hid (ZF.out.below hb); replace B1 := Lib.hid (B1.out.trans (hb.mono B1.out.size)); have OV := Lib.hid (ho.mono SZ.out); clear ho SZ; clear hb; have pc3 := Lib.hid trivial)
    | (clear pc3; refine wpList_stZ (by rfl) _ _ rfl (by rfl) (by rfl) V1.out ?_; intro w6 hz hg; replace V0 := Lib.hid (V0.out.gro hg (by omega)); replace HX := Lib.hid (HX.out.gr V1.out hg); replace HP := Lib.hid (HP.out.gr V1.out hg); replace ZN := Lib.hid (ZN.out.gr V1.out hg); replace ZD := Lib.hid (ZD.out.gr V1.out hg); replace ZF := Lib.hid (ZF.out.gr V1.out hg); replace OV := Lib.hid (OV.out.gr V1.out hg); replace B1 := Lib.hid (Below.gr B1.out (by omega) hg B1.out.size); replace V1 := Lib.hid hz; clear hz hg; have pc4 := Lib.hid trivial))
  clear pc4
  exact ret_zb Tryz.results67 rfl rfl V1.out ⟨_, _, rfl, OV.out, B1.out⟩
set_option maxRecDepth 100000 in
set_option maxHeartbeats 16000000 in
theorem r3whole_any {s : Bool} {A : Option Addr} {n c : Nat} {x z : Int} {d : Nat} {w : World} (h : Zin w s A n c x) (hn : n ≤ 35184372087808) (hz : (Rat.divInt x 1).num = z) (hd : (Rat.divInt x 1).den = d) :
    Calls Tryz.prog 69 #[.agg #[.bool s, .slice A n c]] w (GivesR w z d) := by
  obtain ⟨B1, V0, V1⟩ := start_ZR w s A n c
  have HX := Lib.hid (h.below B1.out)
  have LN := Lib.hid hn
  obtain ⟨one, e1⟩ : ∃ z0 : Int, 1 = z0 := ⟨_, rfl⟩
  have E1 := Lib.hid e1
  have I1 : Hid (-9223372036854775808 ≤ (1 : Int) ∧ (1 : Int) ≤ 9223372036854775807) := by show _ ∧ _; omega
  have LO : Hid ((ofv one.natAbs).length ≤ 35184372087808) := by show _ ≤ _; rw [← e1]; exact Nat.le_trans (len_small (by decide)) (by decide)
  have HZ : Hid ((Rat.divInt x one).num = z) := by show _ = _; rw [← e1]; exact hz
  have HD : Hid ((Rat.divInt x one).den = d) := by show _ = _; rw [← e1]; exact hd
  clear h hn e1 hz hd
  go_enter Tryz.func69, Tryz.ntmps69
  go_wp2_with fail
  generalize ((w.alloc (.cells #[.bool s, .slice A n c] 24)).alloc (.cells #[.bool false, .slice none 0 0, .slice none 0 0] 26)) = w2 at *
  have HB : Hid (Below w2.heap.size w2 w2.drew) := below_drewN _ w2 1
  refine wp_region_held_drew (S := fun w' => w2.grownBy w' (some (w.heap.size + 1))) (by kernel_rfl) ((grown_below HB.out : World.grownBy _ _ (some (w.heap.size + 1)))) (fun hHeld => ?_)
  refine wpAnyH_takeL (i := 0) (oi := _) rfl (by kernel_rfl) (by kernel_rfl) (by kernel_rfl) (fun _ _ _ h => h) (yields_ldZ (by rfl) _ rfl (by rfl) (fun _ hb => V0.out.gr hb (by omega))) hHeld ?_
  try simp only [Act.put, List.setIfInBounds_toArray, List.set_cons_zero, List.set_cons_succ]
  refine wpAnyH_ready (rs := [1]) (by kernel_rfl) (by simp) ?_
  refine AllReadyH.consL (o := _) rfl (fun K hK => ?_) AllReadyH.nil
  clear hHeld
  go_simp
  go_at_call 13
  refine Calls.mono (rfromInt_z (v := 1) (z := one) I1.out E1.out _) ?_
  rintro e wa ⟨P4, c4, rfl, ho, hb⟩
  replace HB := Lib.hid (HB.out.trans (hb.mono HB.out.size))
  have Z1 := Lib.hid (Zo.of_own ho)
  clear ho
  clear hb
  refine hK.out _ _ (grown_below HB.out : World.grownBy _ _ (some (w.heap.size + 1))) (fun hHeld => ?_)
  clear hK K
  try simp only [Act.put, List.setIfInBounds_toArray, List.set_cons_zero, List.set_cons_succ]
  refine wpAnyH_ready (rs := [2]) (by kernel_rfl) (by simp) ?_
  refine AllReadyH.consL (o := _) rfl (fun K hK => ?_) AllReadyH.nil
  clear hHeld
  have SZ := Lib.hid (Nat.le_trans B1.out.size HB.out.size)
  go_simp
  go_at_call 60
  refine Calls.mono (rmake_any (HX.out.below HB.out) LN.out Z1.out.in_ LO.out HZ.out HD.out) ?_
  rintro e wb ⟨P1, c1, P2, c2, rfl, ho, ho2, hb⟩
  replace HB := Lib.hid (HB.out.trans (hb.mono HB.out.size))
  have OQ := Lib.hid (ho.mono SZ.out)
  have OD := Lib.hid (ho2.mono SZ.out)
  clear ho ho2 SZ
  clear hb
  refine hK.out _ _ (grown_below HB.out : World.grownBy _ _ (some (w.heap.size + 1))) (fun hHeld => ?_)
  clear hK K
  try simp only [Act.put, List.setIfInBounds_toArray, List.set_cons_zero, List.set_cons_succ]
  refine wpAnyH_ready (rs := [3]) (by kernel_rfl) (by simp) ?_
  refine AllReadyH.consL (o := _) rfl (fun K hK => ?_) AllReadyH.nil
  clear hHeld
  have hb := HB.out
  replace V0 := Lib.hid (V0.out.below hb V0.out.lt)
  replace V1 := Lib.hid (V1.out.below hb V1.out.lt)
  replace HX := Lib.hid (HX.out.below hb)
  replace B1 := Lib.hid (B1.out.trans (hb.mono B1.out.size))
  rw [if_pos (by rfl)]
  refine wp_stR _ _ rfl (by rfl) (by rfl) V1.out ?_
  intro wst hz hg
  replace V0 := Lib.hid (V0.out.gr hg (by omega))
  replace HX := Lib.hid (HX.out.grR V1.out hg)
  replace OQ := Lib.hid (OQ.out.grR V1.out hg)
  replace OD := Lib.hid (OD.out.grR V1.out hg)
  replace B1 := Lib.hid (Below.gr B1.out (by omega) hg B1.out.size)
  replace V1 := Lib.hid hz
  refine hK.out _ _ (World.grownBy.trans (grown_below hb) hg) (fun hHeld => ?_)
  clear hK K hg hb HB hz
  try simp only [Act.put]
  skip
  refine wpAnyH_done (by kernel_rfl) ?_ _
  clear hHeld
  go_wp2
  exact ret_rb Tryz.results69 rfl rfl V1.out ⟨_, _, _, _, rfl, OQ.out, OD.out, B1.out⟩
/-- No number of the range has a denominator below d. -/
def Nod (zl dl zh dh d : Int) : Prop := ∀ N D, 0 < D → D < d → zl * D ≤ N * dl → ¬ N * dh ≤ zh * D
/-- The bounds of the integers N for which N / d lies in the range. -/
theorem lo_iff {zl dl d N : Int} (hl : 0 < dl) : zl * d ≤ N * dl ↔ -((-(zl * d)) / dl) ≤ N := by
  have h1 := Int.ediv_mul_le (-(zl * d)) (show dl ≠ 0 by omega)
  have h2 := Int.lt_ediv_add_one_mul_self (-(zl * d)) hl
  generalize (-(zl * d)) / dl = q at *
  have e1 : (q + 1) * dl = q * dl + dl := by grind
  constructor
  · intro h
    rcases Int.lt_or_le N (-q) with k | k
    · have := Int.mul_le_mul_of_nonneg_right (show N + 1 ≤ -q by omega) (show 0 ≤ dl by omega)
      have e2 : (N + 1) * dl = N * dl + dl := by grind
      have e3 : -q * dl = -(q * dl) := by grind
      omega
    · exact k
  · intro h
    have := Int.mul_le_mul_of_nonneg_right h (show 0 ≤ dl by omega)
    have e3 : -q * dl = -(q * dl) := by grind
    omega
theorem hi_iff {zh dh d N : Int} (hh : 0 < dh) : N * dh ≤ zh * d ↔ N ≤ (zh * d) / dh := (Int.le_ediv_iff_mul_le hh).symm
theorem Nod.start (zl dl zh dh : Int) : Nod zl dl zh dh 1 := fun N D h1 h2 => by omega
theorem Nod.step {zl dl zh dh d : Int} (h : Nod zl dl zh dh d) (hl : 0 < dl) (hh : 0 < dh) (hd : 0 < d) (hgt : (zh * d) / dh < -((-(zl * d)) / dl)) (hle : zl * dh ≤ zh * dl) (hdl : d ≤ dl) : Nod zl dl zh dh (d + 1) ∧ d + 1 ≤ dl := by
  refine ⟨fun N D h1 h2 h3 h4 => ?_, ?_⟩
  · rcases Int.lt_or_le D d with k | k
    · exact h N D h1 k h3 h4
    · have e : D = d := by omega
      subst e
      rw [lo_iff hl] at h3
      rw [hi_iff hh] at h4
      omega
  · rcases Int.lt_or_le d dl with k | k
    · omega
    · have e : d = dl := by omega
      exfalso
      have h3 : -((-(zl * d)) / dl) ≤ zl := (lo_iff hl).1 (by rw [e]; omega)
      have h4 : zl ≤ (zh * d) / dh := (hi_iff hh).1 (by rw [e]; exact hle)
      omega
/-- The first denominator with an integer between the bounds gives the simplest number. -/
theorem Nod.ok {zl dl zh dh d n z : Int} {e : Nat} (h : Nod zl dl zh dh d) (hl : 0 < dl) (hh : 0 < dh) (hd : 0 < d) (hn1 : -((-(zl * d)) / dl) ≤ n) (hn2 : n ≤ (zh * d) / dh) (hmin : ∀ N, -((-(zl * d)) / dl) ≤ N → N ≤ (zh * d) / dh → n.natAbs ≤ N.natAbs)
    (hz : (Rat.divInt n d).num = z) (he : (Rat.divInt n d).den = e) : Smp zl dl zh dh z (e : Int) := by
  obtain ⟨m, rfl⟩ : ∃ m : Nat, d = (m : Int) := ⟨d.natAbs, by omega⟩
  rw [show Rat.divInt n (m : Int) = mkRat n m from rfl] at hz he
  obtain ⟨hg, he0⟩ := gcd_canon _ hz he
  have cr := cross (x := n) (p := m) (by omega) hz he
  have hle : e ≤ m := by have := (num_len (z := n) (d := m) (by omega)).2; rw [he] at this; exact this
  have k1 := (lo_iff hl).2 hn1
  have k2 := (hi_iff hh).2 hn2
  have a1 : zl * (e : Int) ≤ z * dl := by
    have := (lift (x := n) (y := (m : Int)) (z := z) (d := (e : Int)) (N := zl) (D := dl) (by omega) (by omega) cr).2.1 k1
    exact this
  have a2 : z * dh ≤ zh * (e : Int) := (lift (x := n) (y := (m : Int)) (z := z) (d := (e : Int)) (N := zh) (D := dh) (by omega) (by omega) cr).1.1 k2
  have em : e = m := by
    rcases Nat.lt_or_ge e m with k | k
    · exact absurd a2 (h z e (by omega) (by omega) a1)
    · omega
  subst em
  have zn : z = n := by
    have := Int.eq_of_mul_eq_mul_right (by omega : (e : Int) ≠ 0) cr
    exact this.symm
  subst zn
  refine ⟨by omega, hg, a1, a2, fun N D hD b1 b2 => ?_⟩
  rcases Int.lt_or_le D e with k | k
  · exact absurd b2 (h N D hD k b1)
  · rcases Int.lt_or_le (e : Int) D with k' | k'
    · exact .inl k'
    · have ed : D = e := by omega
      subst ed
      exact .inr ⟨rfl, hmin N ((lo_iff hl).1 b1) ((hi_iff hh).1 b2)⟩
theorem Smp.uniq {zl dl zh dh z d z' d' : Int} (h : Smp zl dl zh dh z d) (h' : Smp zl dl zh dh z' d') (hl : 0 < dl) (hh : 0 < dh) : z = z' ∧ d = d' := by
  have b1 := h.best z' d' h'.p h'.lo h'.hi
  have b2 := h'.best z d h.p h.lo h.hi
  have ed : d = d' := by omega
  refine ⟨?_, ed⟩
  have ea : z.natAbs = z'.natAbs := by omega
  rcases Int.lt_or_le 0 (z * z') with k | k
  · rcases Int.natAbs_eq_natAbs_iff.1 ea with e | e
    · exact e
    · rw [e] at k
      have : -z' * z' = -(z' * z') := by grind
      have : 0 ≤ z' * z' := by
        rcases Int.le_total 0 z' with q | q
        · exact Int.mul_nonneg q q
        · rw [← Int.neg_mul_neg]; exact Int.mul_nonneg (by omega) (by omega)
      omega
  · -- the signs differ: 0 lies in the range
    rcases Int.natAbs_eq_natAbs_iff.1 ea with e | e
    · exact e
    · have l1 := h.lo; have l2 := h'.lo; have u1 := h.hi; have u2 := h'.hi
      subst ed
      rw [e] at l1 u1
      have e1 : -z' * dl = -(z' * dl) := by grind
      have e2 : -z' * dh = -(z' * dh) := by grind
      have zz := h.best 0 1 (by decide) (by
        have : zl * d ≤ 0 := by omega
        have := Int.nonpos_of_mul_nonpos_left this h.p
        omega) (by
        have : 0 ≤ zh * d := by omega
        have := Int.nonneg_of_mul_nonneg_left this h.p
        omega)
      have hp := h.p
      rcases zz with q | ⟨_, q⟩
      · omega
      · have : (0 : Int).natAbs = 0 := rfl
        omega
/-- The block of a pointer. -/
def blkOf : Value → Nat
  | .pointer (some p) => p.block
  | _ => 0
theorem rdz_zo {w : World} {g c : Nat} {R : Option Addr} {z : Int} (h : Zb w g (decide (z < 0)) R (ofv z.natAbs).length c) (hr : Zo w R c z) : rdz w g = z.natAbs := by
  rw [rdz_eq h hr rfl, val_ofv]
/-- The product with a whole number. -/
theorem mul_whole (r : Rat) (x : Int) (p : Nat) (hr : r = mkRat x p) (d : Int) : r * mkRat d 1 = mkRat (x * d) p := by
  rw [hr, Rat.mkRat_mul_mkRat, Nat.mul_one]
set_option maxRecDepth 100000 in
set_option maxHeartbeats 16000000 in
theorem rsimplest_no {s t : Bool} {A D B E : Option Addr} {n c m k n2 c2 m2 k2 : Nat} {x x' : Int} {p p' : Nat} {w : World} (h1 : Zin w s A n c x) (h2 : Nin w D m k p) (h3 : Zin w t B n2 c2 x') (h4 : Nin w E m2 k2 p') (l1 : n ≤ 1048576) (l2 : m ≤ 1048576) (l3 : n2 ≤ 1048576) (l4 : m2 ≤ 1048576) (hc : sgR (mkRat x p - mkRat x' p') = 1) :
    Calls Tryz.prog 21 #[.agg #[.bool s, .slice A n c, .slice D m k], .agg #[.bool t, .slice B n2 c2, .slice E m2 k2]] w fun e w' => e = .returned (.tuple #[.agg #[.bool false, .slice none 0 0, .slice none 0 0], .bool false]) ∧ Below w.heap.size w w' := by
  obtain ⟨B1, V0, V1, V2⟩ := start_RRR w s A n c D m k t B n2 c2 E m2 k2
  have H1 := Lib.hid (h1.below B1.out)
  have H2 := Lib.hid (h2.below B1.out)
  have H3 := Lib.hid (h3.below B1.out)
  have H4 := Lib.hid (h4.below B1.out)
  have L1 := Lib.hid l1
  have L2 := Lib.hid l2
  have L3 := Lib.hid l3
  have L4 := Lib.hid l4
  have HC := Lib.hid hc
  clear h1 h2 h3 h4 l1 l2 l3 l4 hc
  go_enter Tryz.func21, Tryz.ntmps21
  go_wp2_with fail
  generalize (((w.alloc (.cells #[.bool s, .slice A n c, .slice D m k] 26)).alloc (.cells #[.bool t, .slice B n2 c2, .slice E m2 k2] 26)).alloc (.cells #[.bool false, .slice none 0 0, .slice none 0 0] 26)) = w2 at *
  have pc0 := Lib.hid trivial
  go_wp2_with (first
    | (clear pc0; go_at_call 22; refine Calls.mono (r3compare_any (r := 1) H1.out H2.out H3.out H4.out (Nat.le_trans L1.out (by decide)) (Nat.le_trans L2.out (by decide)) (Nat.le_trans L3.out (by decide)) (Nat.le_trans L4.out (by decide)) HC.out) ?_; rintro e wa ⟨rfl, hb⟩; replace V0 := Lib.hid (V0.out.below hb V0.out.lt); replace V1 := Lib.hid (V1.out.below hb V1.out.lt); replace V2 := Lib.hid (V2.out.below hb V2.out.lt); replace H1 := Lib.hid (H1.out.below hb); replace H2 := Lib.hid (H2.out.below hb); replace H3 := Lib.hid (H3.out.below hb); replace H4 := Lib.hid (H4.out.below hb); replace B1 := Lib.hid (B1.out.trans (hb.mono B1.out.size)); clear hb; have pc1 := Lib.hid trivial)
    | (clear pc1; refine wpList_stR (by rfl) _ _ rfl (by rfl) (by rfl) V2.out ?_; intro wb hz hg; have bx := V2.out.bx; replace V0 := Lib.hid (V0.out.gro hg (by omega)); replace V1 := Lib.hid (V1.out.gro hg (by omega)); replace H1 := Lib.hid (H1.out.grB bx hg); replace H2 := Lib.hid (H2.out.grB bx hg); replace H3 := Lib.hid (H3.out.grB bx hg); replace H4 := Lib.hid (H4.out.grB bx hg); replace B1 := Lib.hid (Below.gr B1.out (by omega) hg B1.out.size); clear bx; replace V2 := Lib.hid hz; clear hz hg; have pc2 := Lib.hid trivial))
  clear pc2
  exact ret_rk Tryz.results21 rfl rfl rfl V2.out ⟨rfl, B1.out⟩
set_option maxRecDepth 100000 in
set_option maxHeartbeats 16000000 in
theorem rsimplest_yes {s t : Bool} {A D B E : Option Addr} {n c m k n2 c2 m2 k2 : Nat} {x x' : Int} {p p' : Nat} {w : World} (h1 : Zin w s A n c x) (h2 : Nin w D m k p) (h3 : Zin w t B n2 c2 x') (h4 : Nin w E m2 k2 p') (l1 : n ≤ 1048576) (l2 : m ≤ 1048576) (l3 : n2 ≤ 1048576) (l4 : m2 ≤ 1048576) {zl zh : Int} {dl dh : Nat} {r0 : Nat} (a1 : (mkRat x p).num = zl) (a2 : (mkRat x p).den = dl) (a3 : (mkRat x' p').num = zh) (a4 : (mkRat x' p').den = dh) (hc : sgR (mkRat x p - mkRat x' p') = -(r0 : Int)) :
    Calls Tryz.prog 21 #[.agg #[.bool s, .slice A n c, .slice D m k], .agg #[.bool t, .slice B n2 c2, .slice E m2 k2]] w fun e w' => ∃ z d, Smp zl dl zh dh z ((d : Nat) : Int) ∧ GivesK w z d e w' := by
  obtain ⟨B1, V0, V1, V2⟩ := start_RRR w s A n c D m k t B n2 c2 E m2 k2
  have H1 := Lib.hid (h1.below B1.out)
  have H2 := Lib.hid (h2.below B1.out)
  have H3 := Lib.hid (h3.below B1.out)
  have H4 := Lib.hid (h4.below B1.out)
  have L1 := Lib.hid l1
  have L2 := Lib.hid l2
  have L3 := Lib.hid l3
  have L4 := Lib.hid l4
  have d1 : 0 < dl := by rw [← a2]; exact den_pos _
  have d2 : 0 < dh := by rw [← a4]; exact den_pos _
  have hle : zl * dh ≤ zh * dl := by
    rw [sg_sub a1 a2 a3 a4] at hc
    rcases sg_cases (zl * dh - zh * dl) with ⟨e, q⟩ | ⟨e, q⟩ | ⟨e, q⟩ <;> omega
  have rl1 := rl_mk (N := 1048576) (Nat.le_trans h1.len l1) (Nat.le_trans h2.len l2) (by decide)
  have rl2 := rl_mk (N := 1048576) (Nat.le_trans h3.len l3) (Nat.le_trans h4.len l4) (by decide)
  rw [RL, a1, a2] at rl1
  rw [RL, a3, a4] at rl2
  have HLE := Lib.hid hle
  have D1 := Lib.hid d1
  have D2 := Lib.hid d2
  have HC := Lib.hid hc
  have CL := Lib.hid (canon_mk a1 a2)
  have CH := Lib.hid (canon_mk a3 a4)
  have RL1 := Lib.hid rl1
  have RL2 := Lib.hid rl2
  obtain ⟨one, e1⟩ : ∃ z0 : Int, (1 : Int) = z0 := ⟨_, rfl⟩
  have E1 := Lib.hid e1
  have LO : Hid ((ofv one.natAbs).length ≤ 1) := by show _ ≤ _; rw [← e1]; exact len_small (by decide)
  obtain ⟨zero, e0⟩ : ∃ z0 : Int, (0 : Int) = z0 := ⟨_, rfl⟩
  have E0 := Lib.hid e0
  clear h1 h2 h3 h4 l1 l2 l3 l4 hc hle rl1 rl2 d1 d2 e1 e0
  go_enter Tryz.func21, Tryz.ntmps21
  go_wp2_with fail
  generalize (((w.alloc (.cells #[.bool s, .slice A n c, .slice D m k] 26)).alloc (.cells #[.bool t, .slice B n2 c2, .slice E m2 k2] 26)).alloc (.cells #[.bool false, .slice none 0 0, .slice none 0 0] 26)) = w2 at *
  have pc0 := Lib.hid trivial
  go_wp2_with (first
    | (clear pc0; go_at_call 22; refine Calls.mono (r3compare_any (r := _) H1.out H2.out H3.out H4.out (Nat.le_trans L1.out (by decide)) (Nat.le_trans L2.out (by decide)) (Nat.le_trans L3.out (by decide)) (Nat.le_trans L4.out (by decide)) HC.out) ?_; rintro e wa ⟨rfl, hb⟩; replace V0 := Lib.hid (V0.out.below hb V0.out.lt); replace V1 := Lib.hid (V1.out.below hb V1.out.lt); replace V2 := Lib.hid (V2.out.below hb V2.out.lt); replace H1 := Lib.hid (H1.out.below hb); replace H2 := Lib.hid (H2.out.below hb); replace H3 := Lib.hid (H3.out.below hb); replace H4 := Lib.hid (H4.out.below hb); replace B1 := Lib.hid (B1.out.trans (hb.mono B1.out.size)); clear hb; have pc1 := Lib.hid trivial)
    | (clear pc1; go_at_call 13; refine Calls.mono (rfromInt_z (v := 1) (z := one) (by decide) E1.out _) ?_; rintro e wb ⟨PO, cO, rfl, ho, hb⟩; replace V0 := Lib.hid (V0.out.below hb V0.out.lt); replace V1 := Lib.hid (V1.out.below hb V1.out.lt); replace V2 := Lib.hid (V2.out.below hb V2.out.lt); replace H1 := Lib.hid (H1.out.below hb); replace H2 := Lib.hid (H2.out.below hb); replace H3 := Lib.hid (H3.out.below hb); replace H4 := Lib.hid (H4.out.below hb); replace B1 := Lib.hid (B1.out.trans (hb.mono B1.out.size)); have ZO := Lib.hid (Zo.of_own ho); clear ho; clear hb; have pc2 := Lib.hid trivial))
  clear pc2
  have LG : Hid (w.heap.size + 2 < wb.heap.size) := V2.out.lt
  have hb : Below wb.heap.size wb (wb.alloc (.cells #[.bool (decide (one < 0)), .slice PO (ofv one.natAbs).length cO] 24)) := ((Below.refl _ _).alloc (by first | exact Nat.le_refl _ | (simp; done) | (simp; omega)) _)
  replace V0 := Lib.hid (V0.out.below hb V0.out.lt)
  replace V1 := Lib.hid (V1.out.below hb V1.out.lt)
  replace V2 := Lib.hid (V2.out.below hb V2.out.lt)
  replace H1 := Lib.hid (H1.out.below hb)
  replace H2 := Lib.hid (H2.out.below hb)
  replace H3 := Lib.hid (H3.out.below hb)
  replace H4 := Lib.hid (H4.out.below hb)
  replace ZO := Lib.hid (ZO.out.below hb)
  replace B1 := Lib.hid (B1.out.trans (hb.mono B1.out.size))
  have V6 : Hid (Zb (wb.alloc (.cells #[.bool (decide (one < 0)), .slice PO (ofv one.natAbs).length cO] 24)) (wb.heap.size) (decide (one < 0)) PO (ofv one.natAbs).length cO) := (by have h := (Zb.new wb (decide (one < 0)) PO (ofv one.natAbs).length cO); (try simp only [World.size_alloc] at h); exact h)
  clear hb
  generalize (wb.alloc (.cells #[.bool (decide (one < 0)), .slice PO (ofv one.natAbs).length cO] 24)) = wc at *
  generalize wb.heap.size = g60 at *
  try simp only [Act.put]
  go_loopw [6] (fun v6 wr => ∃ (g6 : Nat) (d : Int) (P : Option Addr) (cP : Nat), v6 = .pointer (some ⟨g6, 0, none⟩) ∧ Hid (w.heap.size + 2 < g6) ∧ Hid (0 < d ∧ d ≤ dl) ∧ Hid (Nod zl dl zh dh d) ∧ Hid (Zb wr g6 (decide (d < 0)) P (ofv d.natAbs).length cP) ∧ Hid (Zo wr P cP d) ∧
      Hid (Rb wr w.heap.size s A n c D m k) ∧ Hid (Rb wr (w.heap.size + 1) t B n2 c2 E m2 k2) ∧ Hid (Rb wr (w.heap.size + 2) false none 0 0 none 0 0) ∧ Hid (Zin wr s A n c x) ∧ Hid (Nin wr D m k p) ∧ Hid (Zin wr t B n2 c2 x') ∧ Hid (Nin wr E m2 k2 p') ∧ Hid (Below w.heap.size w wr)) (fun v6 wr => dl - rdz wr (blkOf v6))
  case atStart => exact ⟨g60, one, PO, cO, rfl, LG, Lib.hid ⟨by have := E1.out; omega, by have := E1.out; have := D1.out; omega⟩, by rw [← E1.out]; exact Lib.hid (Nod.start _ _ _ _), V6, ZO, V0, V1, V2, H1, H2, H3, H4, B1⟩
  case round =>
    clear LG V6 ZO V0 V1 V2 H1 H2 H3 H4 B1
    obtain ⟨wl, hwl⟩ : ∃ q0, q0 = wr := ⟨_, rfl⟩
    subst hwl
    obtain ⟨g6, d, P, cP, rfl, LG, DD, NOD, V6, ZD, V0, V1, V2, H1, H2, H3, H4, B1⟩ := hrel
    have MS : Hid (rdz wl g6 = d.natAbs) := rdz_zo V6.out ZD.out
    have LD : Hid ((ofv d.natAbs).length ≤ 1048576) := Nat.le_trans (len_mono (by have := DD.out; omega)) RL1.out.2
    obtain ⟨L, eL⟩ : ∃ z0 : Int, -((-(zl * d)) / dl) = z0 := ⟨_, rfl⟩
    obtain ⟨U, eU⟩ : ∃ z0 : Int, (zh * d) / dh = z0 := ⟨_, rfl⟩
    obtain ⟨dz, edz⟩ : ∃ z0 : Int, (Rat.divInt d 1).num = z0 := ⟨_, rfl⟩
    obtain ⟨de, ede⟩ : ∃ z0 : Nat, (Rat.divInt d 1).den = z0 := ⟨_, rfl⟩
    have dv : mkRat dz de = mkRat d 1 := by rw [← edz, ← ede, mk_self]; rfl
    have LDZ : Hid ((ofv dz.natAbs).length ≤ 1048576 ∧ (ofv de).length ≤ 1048576) := by
      have h := rl_mk (x := d) (p := 1) (N := 1048576) LD.out (by rw [len_one]; decide) (by decide)
      have e : Rat.divInt d 1 = mkRat d 1 := rfl
      rw [RL, ← e, edz, ede] at h; exact h
    obtain ⟨x1, ex1⟩ : ∃ z0 : Int, (mkRat x p * mkRat dz de).num = z0 := ⟨_, rfl⟩
    obtain ⟨y1, ey1⟩ : ∃ z0 : Nat, (mkRat x p * mkRat dz de).den = z0 := ⟨_, rfl⟩
    obtain ⟨x2, ex2⟩ : ∃ z0 : Int, (mkRat x' p' * mkRat dz de).num = z0 := ⟨_, rfl⟩
    obtain ⟨y2, ey2⟩ : ∃ z0 : Nat, (mkRat x' p' * mkRat dz de).den = z0 := ⟨_, rfl⟩
    have m1 : mkRat x1 y1 = mkRat (zl * d) dl := by rw [← ex1, ← ey1, mk_self, dv, mul_whole _ _ _ CL.out]
    have m2' : mkRat x2 y2 = mkRat (zh * d) dh := by rw [← ex2, ← ey2, mk_self, dv, mul_whole _ _ _ CH.out]
    have EL : Hid (-(-mkRat x1 y1).floor = L) := by show _ = _; rw [m1, Rat.neg_mkRat, floor_mk D1.out]; exact eL
    have EU : Hid ((mkRat x2 y2).floor = U) := by show _ = _; rw [m2', floor_mk D2.out]; exact eU
    have rr1 := rl_mul (rl_mk (x := zl) (p := dl) (N := 1048576) RL1.out.1 RL1.out.2 (by decide)) (rl_mk (x := d) (p := 1) (N := 1048576) LD.out (by rw [len_one]; decide) (by decide))
    have rr2 := rl_mul (rl_mk (x := zh) (p := dh) (N := 1048576) RL2.out.1 RL2.out.2 (by decide)) (rl_mk (x := d) (p := 1) (N := 1048576) LD.out (by rw [len_one]; decide) (by decide))
    rw [← CL.out, ← dv, RL, ex1, ey1] at rr1
    rw [← CH.out, ← dv, RL, ex2, ey2] at rr2
    have K1 : Hid ((ofv x1.natAbs).length ≤ 2097152 ∧ (ofv y1).length ≤ 2097152) := rr1
    have K2 : Hid ((ofv x2.natAbs).length ≤ 2097152 ∧ (ofv y2).length ≤ 2097152) := rr2
    have LL : Hid ((ofv L.natAbs).length ≤ 2097152) := by
      show _ ≤ _
      rw [← eL, Int.natAbs_neg]
      have h := zlen_mul RL1.out.1 LD.out
      exact Nat.le_trans (len_mono (ediv_abs_le _ _)) (by rw [Int.natAbs_neg]; exact h)
    have LU : Hid ((ofv U.natAbs).length ≤ 2097152) := by
      show _ ≤ _
      rw [← eU]
      exact Nat.le_trans (len_mono (ediv_abs_le _ _)) (zlen_mul RL2.out.1 LD.out)
    have EL0 := Lib.hid eL
    have EU0 := Lib.hid eU
    have EDZ := Lib.hid edz
    have EDE := Lib.hid ede
    have EX1 := Lib.hid ex1
    have EY1 := Lib.hid ey1
    have EX2 := Lib.hid ex2
    have EY2 := Lib.hid ey2
    clear eL eU edz ede dv ex1 ey1 ex2 ey2 m1 m2' rr1 rr2
    go_wp2_with fail
    have LT7 : Hid (g6 < wl.heap.size) := V6.out.lt
    have HB : Hid (Below wl.heap.size wl wl.drew) := below_drewN _ wl 1
    refine wp_region_held_drew (S := fun w' => Below wl.heap.size wl w') (by kernel_rfl) (HB.out) (fun hHeld => ?_)
    refine wpAnyH_takeL (i := 0) (oi := _) rfl (by kernel_rfl) (by kernel_rfl) (by kernel_rfl) (fun _ _ _ h => h) (yields_ldR (by rfl) _ rfl (by rfl) (fun _ hb => V0.out.below hb V0.out.lt)) hHeld ?_
    try simp only [Act.put, List.setIfInBounds_toArray, List.set_cons_zero, List.set_cons_succ]
    refine wpAnyH_takeL (i := 1) (oi := _) rfl (by kernel_rfl) (by kernel_rfl) (by kernel_rfl) (fun _ _ _ h => h) (yields_ldZ (by rfl) _ rfl (by rfl) (fun _ hb => V6.out.below hb V6.out.lt)) hHeld ?_
    try simp only [Act.put, List.setIfInBounds_toArray, List.set_cons_zero, List.set_cons_succ]
    refine wpAnyH_rgt [(2, some 21), (3, some 22), (4, some 23), (5, some 7)] [] (isNewZ wl.heap.size) [(2, isR dz de wl.heap.size), (3, isR x1 y1 wl.heap.size), (4, isZ L wl.heap.size)] wl (f0 := 1) (by kernel_rfl) (by kernel_rfl) (by rfl) HB.out (fun _ h => h) (fun _ _ _ _ _ h => h) (isNewZ_good _) ⟨isR_good _ _ _, isR_good _ _ _, isZ_good _ _, trivial⟩ ?_ ?_ ?_
    · clear hHeld HB
      show RgOps _ _ _ _ _ _ _ _ _ [2, 3, 4, 5]
      refine RgOps.consL (o := _) (ds := []) rfl rfl (by kernel_rfl) (fun vals wr hbr hC hdep K hK => ?_) ?_
      · have BB := Lib.hid hbr
        clear hdep
        clear hbr hC
        simp only [Upd2, Act.put, List.setIfInBounds_toArray, List.set_cons_zero, List.set_cons_succ] at hK ⊢
        go_simp
        go_at_call 69
        refine Calls.mono (r3whole_any (z := dz) (d := de) (ZD.out.below BB.out).in_ (Nat.le_trans LD.out (by decide)) EDZ.out EDE.out) ?_
        rintro e wq ⟨R, cR, R2, cR2, rfl, ho, ho2, hb⟩
        exact hK.out _ _ (LeavesB.giveR BB.out.size ho ho2 hb)
      refine RgOps.consL (o := _) (ds := [2]) rfl rfl (by kernel_rfl) (fun vals wr hbr hC hdep K hK => ?_) ?_
      · have BB := Lib.hid hbr
        obtain ⟨⟨P2, c2, Q2, k2, e2, o2, u2⟩, -⟩ := hdep
        clear hbr hC
        simp only [e2, Upd2, Act.put, List.setIfInBounds_toArray, List.set_cons_zero, List.set_cons_succ] at hK ⊢
        clear e2
        go_simp
        go_at_call 68
        refine Calls.mono (r3mul_any (z := x1) (d := y1) (H1.out.below BB.out) (H2.out.below BB.out) (Zo.of_own o2).in_ (Nin.of_own u2) (Nat.le_trans L1.out (by decide)) (Nat.le_trans L2.out (by decide)) (Nat.le_trans LDZ.out.1 (by decide)) (Nat.le_trans LDZ.out.2 (by decide)) EX1.out EY1.out) ?_
        rintro e wq ⟨R, cR, R2, cR2, rfl, ho, ho2, hb⟩
        exact hK.out _ _ (LeavesB.giveR BB.out.size ho ho2 hb)
      refine RgOps.consL (o := _) (ds := [3]) rfl rfl (by kernel_rfl) (fun vals wr hbr hC hdep K hK => ?_) ?_
      · have BB := Lib.hid hbr
        obtain ⟨⟨P3, c3, Q3, k3, e3, o3, u3⟩, -⟩ := hdep
        clear hbr hC
        simp only [e3, Upd2, Act.put, List.setIfInBounds_toArray, List.set_cons_zero, List.set_cons_succ] at hK ⊢
        clear e3
        go_simp
        go_at_call 67
        refine Calls.mono (r3ceil_any (v := L) (Zo.of_own o3).in_ (Nin.of_own u3) (Nat.le_trans K1.out.1 (by decide)) (Nat.le_trans K1.out.2 (by decide)) EL.out) ?_
        rintro e wq ⟨R, cR, rfl, ho, hb⟩
        exact hK.out _ _ (LeavesB.giveZ BB.out.size ho hb)
      refine RgOps.consL (o := _) (ds := []) rfl rfl (by kernel_rfl) (fun vals wr hbr hC hdep K hK => ?_) RgOps.nil
      · have BB := Lib.hid hbr
        clear hdep
        clear hbr hC
        simp only [Upd2, Act.put, List.setIfInBounds_toArray, List.set_cons_zero, List.set_cons_succ] at hK ⊢
        go_simp
        exact hK.out _ _ (LeavesB.newZ BB.out.size)
    · clear hHeld HB
      show TaAll _ _ _ _ _ []
      exact TaAll.nil
    clear hHeld HB
    intro vals wr hb hdep hD
    obtain ⟨⟨P2, c2, Q2, k2, e2, o2, u2⟩, ⟨P3, c3, Q3, k3, e3, o3, u3⟩, ⟨PL7, cL7, e4, o4⟩, ⟨g7, e5, l5, z5⟩, -⟩ := hdep
    simp only [Upd2, e2, e3, e4, e5, Act.put, List.setIfInBounds_toArray, List.set_cons_zero, List.set_cons_succ]
    clear e2 e3 e4 e5
    clear hD vals
    replace V6 := Lib.hid (V6.out.below hb V6.out.lt)
    replace ZD := Lib.hid (ZD.out.below hb)
    replace V0 := Lib.hid (V0.out.below hb V0.out.lt)
    replace V1 := Lib.hid (V1.out.below hb V1.out.lt)
    replace V2 := Lib.hid (V2.out.below hb V2.out.lt)
    replace H1 := Lib.hid (H1.out.below hb)
    replace H2 := Lib.hid (H2.out.below hb)
    replace H3 := Lib.hid (H3.out.below hb)
    replace H4 := Lib.hid (H4.out.below hb)
    replace B1 := Lib.hid (B1.out.trans (hb.mono B1.out.size))
    have HB := Lib.hid hb
    clear hb
    have Z7 := Lib.hid (Zo.of_own o4); have W7 := Lib.hid z5; have KK7 := Lib.hid l5; have LG7 : Hid (g6 < g7) := Nat.lt_of_lt_of_le LT7.out l5
    clear o2 u2 o3 u3 o4 z5 l5
    refine wpAnyH_ready (rs := [6]) (by kernel_rfl) (by simp) ?_
    refine AllReadyH.consL (o := _) rfl (fun K hK => ?_) AllReadyH.nil
    rw [if_pos (by rfl)]
    refine wp_stZ _ _ rfl (by rfl) (by rfl) W7.out ?_
    intro wt70 hz hg
    replace HB := Lib.hid (Below.gr HB.out (by have := KK7.out; omega) hg HB.out.size)
    have bx := W7.out.bx
    replace V6 := Lib.hid (V6.out.gro hg (by have := LG.out; have := LG7.out; omega))
    replace ZD := Lib.hid (ZD.out.grB bx hg)
    replace V0 := Lib.hid (V0.out.gro hg (by have := LG.out; have := LG7.out; omega))
    replace V1 := Lib.hid (V1.out.gro hg (by have := LG.out; have := LG7.out; omega))
    replace V2 := Lib.hid (V2.out.gro hg (by have := LG.out; have := LG7.out; omega))
    replace H1 := Lib.hid (H1.out.grB bx hg)
    replace H2 := Lib.hid (H2.out.grB bx hg)
    replace H3 := Lib.hid (H3.out.grB bx hg)
    replace H4 := Lib.hid (H4.out.grB bx hg)
    replace Z7 := Lib.hid (Z7.out.grB bx hg)
    replace B1 := Lib.hid (Below.gr B1.out (by have := LG.out; have := LG7.out; omega) hg B1.out.size)
    clear bx
    replace W7 := Lib.hid hz
    refine hK.out _ _ ⟨HB.out, HB.out⟩ (fun _ => ?_)
    clear hK K hg hz
    try simp only [Act.put]
    refine wpAnyH_done (by kernel_rfl) ?_ _
    clear HB
    try simp only [Act.put]
    go_wp2_with fail
    have LT8 : Hid (g7 < wt70.heap.size) := W7.out.lt
    have HB : Hid (Below wt70.heap.size wt70 wt70.drew) := below_drewN _ wt70 1
    refine wp_region_held_drew (S := fun w' => Below wt70.heap.size wt70 w') (by kernel_rfl) (HB.out) (fun hHeld => ?_)
    refine wpAnyH_takeL (i := 0) (oi := _) rfl (by kernel_rfl) (by kernel_rfl) (by kernel_rfl) (fun _ _ _ h => h) (yields_ldR (by rfl) _ rfl (by rfl) (fun _ hb => V1.out.below hb V1.out.lt)) hHeld ?_
    try simp only [Act.put, List.setIfInBounds_toArray, List.set_cons_zero, List.set_cons_succ]
    refine wpAnyH_takeL (i := 1) (oi := _) rfl (by kernel_rfl) (by kernel_rfl) (by kernel_rfl) (fun _ _ _ h => h) (yields_ldZ (by rfl) _ rfl (by rfl) (fun _ hb => V6.out.below hb V6.out.lt)) hHeld ?_
    try simp only [Act.put, List.setIfInBounds_toArray, List.set_cons_zero, List.set_cons_succ]
    refine wpAnyH_rgt [(2, some 26), (3, some 27), (4, some 28), (5, some 8)] [] (isNewZ wt70.heap.size) [(2, isR dz de wt70.heap.size), (3, isR x2 y2 wt70.heap.size), (4, isZ U wt70.heap.size)] wt70 (f0 := 1) (by kernel_rfl) (by kernel_rfl) (by rfl) HB.out (fun _ h => h) (fun _ _ _ _ _ h => h) (isNewZ_good _) ⟨isR_good _ _ _, isR_good _ _ _, isZ_good _ _, trivial⟩ ?_ ?_ ?_
    · clear hHeld HB
      show RgOps _ _ _ _ _ _ _ _ _ [2, 3, 4, 5]
      refine RgOps.consL (o := _) (ds := []) rfl rfl (by kernel_rfl) (fun vals wr hbr hC hdep K hK => ?_) ?_
      · have BB := Lib.hid hbr
        clear hdep
        clear hbr hC
        simp only [Upd2, Act.put, List.setIfInBounds_toArray, List.set_cons_zero, List.set_cons_succ] at hK ⊢
        go_simp
        go_at_call 69
        refine Calls.mono (r3whole_any (z := dz) (d := de) (ZD.out.below BB.out).in_ (Nat.le_trans LD.out (by decide)) EDZ.out EDE.out) ?_
        rintro e wq ⟨R, cR, R2, cR2, rfl, ho, ho2, hb⟩
        exact hK.out _ _ (LeavesB.giveR BB.out.size ho ho2 hb)
      refine RgOps.consL (o := _) (ds := [2]) rfl rfl (by kernel_rfl) (fun vals wr hbr hC hdep K hK => ?_) ?_
      · have BB := Lib.hid hbr
        obtain ⟨⟨P2, c2, Q2, k2, e2, o2, u2⟩, -⟩ := hdep
        clear hbr hC
        simp only [e2, Upd2, Act.put, List.setIfInBounds_toArray, List.set_cons_zero, List.set_cons_succ] at hK ⊢
        clear e2
        go_simp
        go_at_call 68
        refine Calls.mono (r3mul_any (z := x2) (d := y2) (H3.out.below BB.out) (H4.out.below BB.out) (Zo.of_own o2).in_ (Nin.of_own u2) (Nat.le_trans L3.out (by decide)) (Nat.le_trans L4.out (by decide)) (Nat.le_trans LDZ.out.1 (by decide)) (Nat.le_trans LDZ.out.2 (by decide)) EX2.out EY2.out) ?_
        rintro e wq ⟨R, cR, R2, cR2, rfl, ho, ho2, hb⟩
        exact hK.out _ _ (LeavesB.giveR BB.out.size ho ho2 hb)
      refine RgOps.consL (o := _) (ds := [3]) rfl rfl (by kernel_rfl) (fun vals wr hbr hC hdep K hK => ?_) ?_
      · have BB := Lib.hid hbr
        obtain ⟨⟨P3, c3, Q3, k3, e3, o3, u3⟩, -⟩ := hdep
        clear hbr hC
        simp only [e3, Upd2, Act.put, List.setIfInBounds_toArray, List.set_cons_zero, List.set_cons_succ] at hK ⊢
        clear e3
        go_simp
        go_at_call 70
        refine Calls.mono (r3floor_any (v := U) (Zo.of_own o3).in_ (Nin.of_own u3) (Nat.le_trans K2.out.1 (by decide)) (Nat.le_trans K2.out.2 (by decide)) EU.out) ?_
        rintro e wq ⟨R, cR, rfl, ho, hb⟩
        exact hK.out _ _ (LeavesB.giveZ BB.out.size ho hb)
      refine RgOps.consL (o := _) (ds := []) rfl rfl (by kernel_rfl) (fun vals wr hbr hC hdep K hK => ?_) RgOps.nil
      · have BB := Lib.hid hbr
        clear hdep
        clear hbr hC
        simp only [Upd2, Act.put, List.setIfInBounds_toArray, List.set_cons_zero, List.set_cons_succ] at hK ⊢
        go_simp
        exact hK.out _ _ (LeavesB.newZ BB.out.size)
    · clear hHeld HB
      show TaAll _ _ _ _ _ []
      exact TaAll.nil
    clear hHeld HB
    intro vals wr hb hdep hD
    obtain ⟨⟨P2, c2, Q2, k2, e2, o2, u2⟩, ⟨P3, c3, Q3, k3, e3, o3, u3⟩, ⟨PL8, cL8, e4, o4⟩, ⟨g8, e5, l5, z5⟩, -⟩ := hdep
    simp only [Upd2, e2, e3, e4, e5, Act.put, List.setIfInBounds_toArray, List.set_cons_zero, List.set_cons_succ]
    clear e2 e3 e4 e5
    clear hD vals
    replace V6 := Lib.hid (V6.out.below hb V6.out.lt)
    replace ZD := Lib.hid (ZD.out.below hb)
    replace V0 := Lib.hid (V0.out.below hb V0.out.lt)
    replace V1 := Lib.hid (V1.out.below hb V1.out.lt)
    replace V2 := Lib.hid (V2.out.below hb V2.out.lt)
    replace H1 := Lib.hid (H1.out.below hb)
    replace H2 := Lib.hid (H2.out.below hb)
    replace H3 := Lib.hid (H3.out.below hb)
    replace H4 := Lib.hid (H4.out.below hb)
    replace Z7 := Lib.hid (Z7.out.below hb)
    replace W7 := Lib.hid (W7.out.below hb W7.out.lt)
    replace B1 := Lib.hid (B1.out.trans (hb.mono B1.out.size))
    have HB := Lib.hid hb
    clear hb
    have Z8 := Lib.hid (Zo.of_own o4); have W8 := Lib.hid z5; have KK8 := Lib.hid l5; have LG8 : Hid (g7 < g8) := Nat.lt_of_lt_of_le LT8.out l5
    clear o2 u2 o3 u3 o4 z5 l5
    refine wpAnyH_ready (rs := [6]) (by kernel_rfl) (by simp) ?_
    refine AllReadyH.consL (o := _) rfl (fun K hK => ?_) AllReadyH.nil
    rw [if_pos (by rfl)]
    refine wp_stZ _ _ rfl (by rfl) (by rfl) W8.out ?_
    intro wt80 hz hg
    replace HB := Lib.hid (Below.gr HB.out (by have := KK8.out; omega) hg HB.out.size)
    have bx := W8.out.bx
    replace V6 := Lib.hid (V6.out.gro hg (by have := LG.out; have := LG8.out; have := LG7.out; omega))
    replace ZD := Lib.hid (ZD.out.grB bx hg)
    replace V0 := Lib.hid (V0.out.gro hg (by have := LG.out; have := LG8.out; have := LG7.out; omega))
    replace V1 := Lib.hid (V1.out.gro hg (by have := LG.out; have := LG8.out; have := LG7.out; omega))
    replace V2 := Lib.hid (V2.out.gro hg (by have := LG.out; have := LG8.out; have := LG7.out; omega))
    replace H1 := Lib.hid (H1.out.grB bx hg)
    replace H2 := Lib.hid (H2.out.grB bx hg)
    replace H3 := Lib.hid (H3.out.grB bx hg)
    replace H4 := Lib.hid (H4.out.grB bx hg)
    replace Z7 := Lib.hid (Z7.out.grB bx hg)
    replace W7 := Lib.hid (W7.out.gro hg (by have := LG.out; have := LG8.out; have := LG7.out; omega))
    replace Z8 := Lib.hid (Z8.out.grB bx hg)
    replace B1 := Lib.hid (Below.gr B1.out (by have := LG.out; have := LG8.out; have := LG7.out; omega) hg B1.out.size)
    clear bx
    replace W8 := Lib.hid hz
    refine hK.out _ _ ⟨HB.out, HB.out⟩ (fun _ => ?_)
    clear hK K hg hz
    try simp only [Act.put]
    refine wpAnyH_done (by kernel_rfl) ?_ _
    clear HB
    try simp only [Act.put]
    rcases Int.lt_or_le U L with hlu | hlu
    · have HLU := Lib.hid hlu
      have HK : Hid (sg (L - U) = 1) := by show _ = _; rcases sg_cases (L - U) with ⟨_, e⟩ | ⟨_, e⟩ | ⟨e, _⟩ <;> first | exact e | omega
      obtain ⟨dn, edn⟩ : ∃ z0 : Int, d + one = z0 := ⟨_, rfl⟩
      have EDN := Lib.hid edn
      clear hlu edn
      have pc0 := Lib.hid trivial
      go_wp2_with (first
        | (clear pc0; refine wpList_ldZ (by rfl) _ rfl (by rfl) W7.out ?_; have pc1 := Lib.hid trivial)
        | (clear pc1; refine wpList_ldZ (by rfl) _ rfl (by rfl) W8.out ?_; have pc2 := Lib.hid trivial)
        | (clear pc2; go_at_call 12; refine Calls.mono (rcompare_k (r := 1) Z7.out.in_ Z8.out.in_ (Nat.le_trans LL.out (by decide)) (Nat.le_trans LU.out (by decide)) HK.out) ?_; rintro e wp ⟨rfl, hb⟩; replace V6 := Lib.hid (V6.out.below hb V6.out.lt); replace ZD := Lib.hid (ZD.out.below hb); replace V0 := Lib.hid (V0.out.below hb V0.out.lt); replace V1 := Lib.hid (V1.out.below hb V1.out.lt); replace V2 := Lib.hid (V2.out.below hb V2.out.lt); replace H1 := Lib.hid (H1.out.below hb); replace H2 := Lib.hid (H2.out.below hb); replace H3 := Lib.hid (H3.out.below hb); replace H4 := Lib.hid (H4.out.below hb); replace Z7 := Lib.hid (Z7.out.below hb); replace W7 := Lib.hid (W7.out.below hb W7.out.lt); replace Z8 := Lib.hid (Z8.out.below hb); replace W8 := Lib.hid (W8.out.below hb W8.out.lt); replace B1 := Lib.hid (B1.out.trans (hb.mono B1.out.size)); clear hb; have pc3 := Lib.hid trivial)
        | (clear pc3; refine wpList_ldZ (by rfl) _ rfl (by rfl) V6.out ?_; have pc4 := Lib.hid trivial))
      clear pc4
      have LG9 : Hid (g8 < wp.heap.size) := W8.out.lt
      have hb : Below wp.heap.size wp (wp.alloc (.cells #[.bool (decide (d < 0)), .slice P (ofv d.natAbs).length cP] 24)) := ((Below.refl _ _).alloc (by first | exact Nat.le_refl _ | (simp; done) | (simp; omega)) _)
      replace V6 := Lib.hid (V6.out.below hb V6.out.lt)
      replace ZD := Lib.hid (ZD.out.below hb)
      replace V0 := Lib.hid (V0.out.below hb V0.out.lt)
      replace V1 := Lib.hid (V1.out.below hb V1.out.lt)
      replace V2 := Lib.hid (V2.out.below hb V2.out.lt)
      replace H1 := Lib.hid (H1.out.below hb)
      replace H2 := Lib.hid (H2.out.below hb)
      replace H3 := Lib.hid (H3.out.below hb)
      replace H4 := Lib.hid (H4.out.below hb)
      replace Z7 := Lib.hid (Z7.out.below hb)
      replace W7 := Lib.hid (W7.out.below hb W7.out.lt)
      replace Z8 := Lib.hid (Z8.out.below hb)
      replace W8 := Lib.hid (W8.out.below hb W8.out.lt)
      replace B1 := Lib.hid (B1.out.trans (hb.mono B1.out.size))
      have V6n : Hid (Zb (wp.alloc (.cells #[.bool (decide (d < 0)), .slice P (ofv d.natAbs).length cP] 24)) (wp.heap.size) (decide (d < 0)) P (ofv d.natAbs).length cP) := (by have h := (Zb.new wp (decide (d < 0)) P (ofv d.natAbs).length cP); (try simp only [World.size_alloc] at h); exact h)
      clear hb
      generalize (wp.alloc (.cells #[.bool (decide (d < 0)), .slice P (ofv d.natAbs).length cP] 24)) = wq at *
      generalize wp.heap.size = g6n at *
      try simp only [Act.put]
      have hb : Below wq.heap.size wq wq.drew := below_drewN _ _ 1
      replace V6 := Lib.hid (V6.out.below hb V6.out.lt)
      replace ZD := Lib.hid (ZD.out.below hb)
      replace V0 := Lib.hid (V0.out.below hb V0.out.lt)
      replace V1 := Lib.hid (V1.out.below hb V1.out.lt)
      replace V2 := Lib.hid (V2.out.below hb V2.out.lt)
      replace H1 := Lib.hid (H1.out.below hb)
      replace H2 := Lib.hid (H2.out.below hb)
      replace H3 := Lib.hid (H3.out.below hb)
      replace H4 := Lib.hid (H4.out.below hb)
      replace Z7 := Lib.hid (Z7.out.below hb)
      replace W7 := Lib.hid (W7.out.below hb W7.out.lt)
      replace Z8 := Lib.hid (Z8.out.below hb)
      replace W8 := Lib.hid (W8.out.below hb W8.out.lt)
      replace V6n := Lib.hid (V6n.out.below hb V6n.out.lt)
      replace B1 := Lib.hid (B1.out.trans (hb.mono B1.out.size))
      clear hb
      refine wp_region_held_drew (S := fun w' => True) (by kernel_rfl) trivial (fun hHeld => ?_)
      generalize wq.drew = wqd at *
      refine wpAnyH_ready (rs := [0, 1]) (by kernel_rfl) (by simp) ?_
      refine AllReadyH.consL (o := _) rfl (fun K hK => ?_) (AllReadyH.consL (o := _) rfl (fun K hK => ?_) AllReadyH.nil)
      · skip
        clear hHeld
        rw [if_pos (by rfl)]
        refine wp_ldZ _ rfl (by rfl) V6n.out ?_
        refine hK.out _ _ trivial (fun hHeld => ?_)
        clear hK K
        try simp only [Act.put, List.setIfInBounds_toArray, List.set_cons_zero, List.set_cons_succ]
        refine wpAnyH_ready (rs := [1]) (by kernel_rfl) (by simp) ?_
        refine AllReadyH.consL (o := _) rfl (fun K hK => ?_) AllReadyH.nil
        clear hHeld
        go_simp
        go_at_call 13
        refine Calls.mono (rfromInt_z (v := 1) (z := one) (by decide) E1.out _) ?_
        rintro e wr1 ⟨PO, cO, rfl, ho, hb⟩
        replace V6 := Lib.hid (V6.out.below hb V6.out.lt)
        replace ZD := Lib.hid (ZD.out.below hb)
        replace V0 := Lib.hid (V0.out.below hb V0.out.lt)
        replace V1 := Lib.hid (V1.out.below hb V1.out.lt)
        replace V2 := Lib.hid (V2.out.below hb V2.out.lt)
        replace H1 := Lib.hid (H1.out.below hb)
        replace H2 := Lib.hid (H2.out.below hb)
        replace H3 := Lib.hid (H3.out.below hb)
        replace H4 := Lib.hid (H4.out.below hb)
        replace Z7 := Lib.hid (Z7.out.below hb)
        replace W7 := Lib.hid (W7.out.below hb W7.out.lt)
        replace Z8 := Lib.hid (Z8.out.below hb)
        replace W8 := Lib.hid (W8.out.below hb W8.out.lt)
        replace V6n := Lib.hid (V6n.out.below hb V6n.out.lt)
        replace B1 := Lib.hid (B1.out.trans (hb.mono B1.out.size))
        clear hb
        have ZO := Lib.hid (Zo.of_own ho)
        clear ho
        refine hK.out _ _ trivial (fun hHeld => ?_)
        clear hK K
        try simp only [Act.put, List.setIfInBounds_toArray, List.set_cons_zero, List.set_cons_succ]
        refine wpAnyH_ready (rs := [2]) (by kernel_rfl) (by simp) ?_
        refine AllReadyH.consL (o := _) rfl (fun K hK => ?_) AllReadyH.nil
        clear hHeld
        go_simp
        go_at_call 66
        refine Calls.mono (radd_z (x := d) (y := one) (z := dn) ZD.out.in_ ZO.out.in_ (Nat.le_trans LD.out (by decide)) (Nat.le_trans LO.out (by decide)) EDN.out) ?_
        rintro e wr2 ⟨PN, cN, rfl, ho, hb⟩
        replace V6 := Lib.hid (V6.out.below hb V6.out.lt)
        replace ZD := Lib.hid (ZD.out.below hb)
        replace V0 := Lib.hid (V0.out.below hb V0.out.lt)
        replace V1 := Lib.hid (V1.out.below hb V1.out.lt)
        replace V2 := Lib.hid (V2.out.below hb V2.out.lt)
        replace H1 := Lib.hid (H1.out.below hb)
        replace H2 := Lib.hid (H2.out.below hb)
        replace H3 := Lib.hid (H3.out.below hb)
        replace H4 := Lib.hid (H4.out.below hb)
        replace Z7 := Lib.hid (Z7.out.below hb)
        replace W7 := Lib.hid (W7.out.below hb W7.out.lt)
        replace Z8 := Lib.hid (Z8.out.below hb)
        replace W8 := Lib.hid (W8.out.below hb W8.out.lt)
        replace V6n := Lib.hid (V6n.out.below hb V6n.out.lt)
        replace ZO := Lib.hid (ZO.out.below hb)
        replace B1 := Lib.hid (B1.out.trans (hb.mono B1.out.size))
        clear hb
        have ZN := Lib.hid (Zo.of_own ho)
        clear ho
        refine hK.out _ _ trivial (fun hHeld => ?_)
        clear hK K
        try simp only [Act.put, List.setIfInBounds_toArray, List.set_cons_zero, List.set_cons_succ]
        refine wpAnyH_ready (rs := [3]) (by kernel_rfl) (by simp) ?_
        refine AllReadyH.consL (o := _) rfl (fun K hK => ?_) AllReadyH.nil
        clear hHeld
        rw [if_pos (by rfl)]
        refine wp_stZ _ _ rfl (by rfl) (by rfl) V6n.out ?_
        intro wv3 hz hg
        have bx := V6n.out.bx
        replace V6 := Lib.hid (V6.out.gro hg (by have := LG.out; have := LG7.out; have := LG8.out; have := LG9.out; omega))
        replace ZD := Lib.hid (ZD.out.grB bx hg)
        replace V0 := Lib.hid (V0.out.gro hg (by have := LG.out; have := LG7.out; have := LG8.out; have := LG9.out; omega))
        replace V1 := Lib.hid (V1.out.gro hg (by have := LG.out; have := LG7.out; have := LG8.out; have := LG9.out; omega))
        replace V2 := Lib.hid (V2.out.gro hg (by have := LG.out; have := LG7.out; have := LG8.out; have := LG9.out; omega))
        replace H1 := Lib.hid (H1.out.grB bx hg)
        replace H2 := Lib.hid (H2.out.grB bx hg)
        replace H3 := Lib.hid (H3.out.grB bx hg)
        replace H4 := Lib.hid (H4.out.grB bx hg)
        replace Z7 := Lib.hid (Z7.out.grB bx hg)
        replace W7 := Lib.hid (W7.out.gro hg (by have := LG.out; have := LG7.out; have := LG8.out; have := LG9.out; omega))
        replace Z8 := Lib.hid (Z8.out.grB bx hg)
        replace W8 := Lib.hid (W8.out.gro hg (by have := LG.out; have := LG7.out; have := LG8.out; have := LG9.out; omega))
        replace ZO := Lib.hid (ZO.out.grB bx hg)
        replace ZN := Lib.hid (ZN.out.grB bx hg)
        replace B1 := Lib.hid (Below.gr B1.out (by have := LG.out; have := LG7.out; have := LG8.out; have := LG9.out; omega) hg B1.out.size)
        clear bx
        replace V6n := Lib.hid hz
        clear hz hg
        refine hK.out _ _ trivial (fun hHeld => ?_)
        clear hK K
        try simp only [Act.put]
        clear hHeld
        refine wpAnyH_done (by kernel_rfl) ?_ _
        go_wp2_with fail
        have st := NOD.out.step (show (0 : Int) < dl by have := D1.out; omega) (show (0 : Int) < dh by have := D2.out; omega) DD.out.1 (by rw [EL0.out, EU0.out]; exact HLU.out) HLE.out DD.out.2
        have e9 : d + 1 = dn := by have := EDN.out; have := E1.out; omega
        rw [e9] at st
        try simp only [Act.put]
        go_roundw
        case rel => exact ⟨g6n, dn, _, _, rfl, by have := LG.out; have := LG7.out; have := LG8.out; have := LG9.out; exact Lib.hid (by omega), Lib.hid ⟨by have := DD.out; omega, st.2⟩, Lib.hid st.1, V6n, ZN, V0, V1, V2, H1, H2, H3, H4, B1⟩
        case measure => show dl - rdz _ g6n < dl - rdz _ g6; rw [MS.out, rdz_zo V6n.out ZN.out]; have := DD.out; have := st.2; omega
      · skip
        clear hHeld
        go_simp
        go_at_call 13
        refine Calls.mono (rfromInt_z (v := 1) (z := one) (by decide) E1.out _) ?_
        rintro e wr1 ⟨PO, cO, rfl, ho, hb⟩
        replace V6 := Lib.hid (V6.out.below hb V6.out.lt)
        replace ZD := Lib.hid (ZD.out.below hb)
        replace V0 := Lib.hid (V0.out.below hb V0.out.lt)
        replace V1 := Lib.hid (V1.out.below hb V1.out.lt)
        replace V2 := Lib.hid (V2.out.below hb V2.out.lt)
        replace H1 := Lib.hid (H1.out.below hb)
        replace H2 := Lib.hid (H2.out.below hb)
        replace H3 := Lib.hid (H3.out.below hb)
        replace H4 := Lib.hid (H4.out.below hb)
        replace Z7 := Lib.hid (Z7.out.below hb)
        replace W7 := Lib.hid (W7.out.below hb W7.out.lt)
        replace Z8 := Lib.hid (Z8.out.below hb)
        replace W8 := Lib.hid (W8.out.below hb W8.out.lt)
        replace V6n := Lib.hid (V6n.out.below hb V6n.out.lt)
        replace B1 := Lib.hid (B1.out.trans (hb.mono B1.out.size))
        clear hb
        have ZO := Lib.hid (Zo.of_own ho)
        clear ho
        refine hK.out _ _ trivial (fun hHeld => ?_)
        clear hK K
        try simp only [Act.put, List.setIfInBounds_toArray, List.set_cons_zero, List.set_cons_succ]
        refine wpAnyH_ready (rs := [0]) (by kernel_rfl) (by simp) ?_
        refine AllReadyH.consL (o := _) rfl (fun K hK => ?_) AllReadyH.nil
        clear hHeld
        rw [if_pos (by rfl)]
        refine wp_ldZ _ rfl (by rfl) V6n.out ?_
        refine hK.out _ _ trivial (fun hHeld => ?_)
        clear hK K
        try simp only [Act.put, List.setIfInBounds_toArray, List.set_cons_zero, List.set_cons_succ]
        refine wpAnyH_ready (rs := [2]) (by kernel_rfl) (by simp) ?_
        refine AllReadyH.consL (o := _) rfl (fun K hK => ?_) AllReadyH.nil
        clear hHeld
        go_simp
        go_at_call 66
        refine Calls.mono (radd_z (x := d) (y := one) (z := dn) ZD.out.in_ ZO.out.in_ (Nat.le_trans LD.out (by decide)) (Nat.le_trans LO.out (by decide)) EDN.out) ?_
        rintro e wr2 ⟨PN, cN, rfl, ho, hb⟩
        replace V6 := Lib.hid (V6.out.below hb V6.out.lt)
        replace ZD := Lib.hid (ZD.out.below hb)
        replace V0 := Lib.hid (V0.out.below hb V0.out.lt)
        replace V1 := Lib.hid (V1.out.below hb V1.out.lt)
        replace V2 := Lib.hid (V2.out.below hb V2.out.lt)
        replace H1 := Lib.hid (H1.out.below hb)
        replace H2 := Lib.hid (H2.out.below hb)
        replace H3 := Lib.hid (H3.out.below hb)
        replace H4 := Lib.hid (H4.out.below hb)
        replace Z7 := Lib.hid (Z7.out.below hb)
        replace W7 := Lib.hid (W7.out.below hb W7.out.lt)
        replace Z8 := Lib.hid (Z8.out.below hb)
        replace W8 := Lib.hid (W8.out.below hb W8.out.lt)
        replace V6n := Lib.hid (V6n.out.below hb V6n.out.lt)
        replace ZO := Lib.hid (ZO.out.below hb)
        replace B1 := Lib.hid (B1.out.trans (hb.mono B1.out.size))
        clear hb
        have ZN := Lib.hid (Zo.of_own ho)
        clear ho
        refine hK.out _ _ trivial (fun hHeld => ?_)
        clear hK K
        try simp only [Act.put, List.setIfInBounds_toArray, List.set_cons_zero, List.set_cons_succ]
        refine wpAnyH_ready (rs := [3]) (by kernel_rfl) (by simp) ?_
        refine AllReadyH.consL (o := _) rfl (fun K hK => ?_) AllReadyH.nil
        clear hHeld
        rw [if_pos (by rfl)]
        refine wp_stZ _ _ rfl (by rfl) (by rfl) V6n.out ?_
        intro wv3 hz hg
        have bx := V6n.out.bx
        replace V6 := Lib.hid (V6.out.gro hg (by have := LG.out; have := LG7.out; have := LG8.out; have := LG9.out; omega))
        replace ZD := Lib.hid (ZD.out.grB bx hg)
        replace V0 := Lib.hid (V0.out.gro hg (by have := LG.out; have := LG7.out; have := LG8.out; have := LG9.out; omega))
        replace V1 := Lib.hid (V1.out.gro hg (by have := LG.out; have := LG7.out; have := LG8.out; have := LG9.out; omega))
        replace V2 := Lib.hid (V2.out.gro hg (by have := LG.out; have := LG7.out; have := LG8.out; have := LG9.out; omega))
        replace H1 := Lib.hid (H1.out.grB bx hg)
        replace H2 := Lib.hid (H2.out.grB bx hg)
        replace H3 := Lib.hid (H3.out.grB bx hg)
        replace H4 := Lib.hid (H4.out.grB bx hg)
        replace Z7 := Lib.hid (Z7.out.grB bx hg)
        replace W7 := Lib.hid (W7.out.gro hg (by have := LG.out; have := LG7.out; have := LG8.out; have := LG9.out; omega))
        replace Z8 := Lib.hid (Z8.out.grB bx hg)
        replace W8 := Lib.hid (W8.out.gro hg (by have := LG.out; have := LG7.out; have := LG8.out; have := LG9.out; omega))
        replace ZO := Lib.hid (ZO.out.grB bx hg)
        replace ZN := Lib.hid (ZN.out.grB bx hg)
        replace B1 := Lib.hid (Below.gr B1.out (by have := LG.out; have := LG7.out; have := LG8.out; have := LG9.out; omega) hg B1.out.size)
        clear bx
        replace V6n := Lib.hid hz
        clear hz hg
        refine hK.out _ _ trivial (fun hHeld => ?_)
        clear hK K
        try simp only [Act.put]
        clear hHeld
        refine wpAnyH_done (by kernel_rfl) ?_ _
        go_wp2_with fail
        have st := NOD.out.step (show (0 : Int) < dl by have := D1.out; omega) (show (0 : Int) < dh by have := D2.out; omega) DD.out.1 (by rw [EL0.out, EU0.out]; exact HLU.out) HLE.out DD.out.2
        have e9 : d + 1 = dn := by have := EDN.out; have := E1.out; omega
        rw [e9] at st
        try simp only [Act.put]
        go_roundw
        case rel => exact ⟨g6n, dn, _, _, rfl, by have := LG.out; have := LG7.out; have := LG8.out; have := LG9.out; exact Lib.hid (by omega), Lib.hid ⟨by have := DD.out; omega, st.2⟩, Lib.hid st.1, V6n, ZN, V0, V1, V2, H1, H2, H3, H4, B1⟩
        case measure => show dl - rdz _ g6n < dl - rdz _ g6; rw [MS.out, rdz_zo V6n.out ZN.out]; have := DD.out; have := st.2; omega
    · have HLU := Lib.hid hlu
      obtain ⟨r7, er7⟩ : ∃ r : Int, sg (L - U) = r := ⟨_, rfl⟩
      have n7 : ∃ k : Nat, r7 = -(k : Int) := ⟨r7.natAbs, by rcases sg_cases (L - U) with ⟨e, _⟩ | ⟨e, _⟩ | ⟨_, e⟩ <;> omega⟩
      obtain ⟨k7, rfl⟩ := n7
      have HK := Lib.hid er7
      clear hlu er7
      have CS : (L < 0 ∧ 0 ≤ U) ∨ (L < 0 ∧ U < 0) ∨ 0 ≤ L := by omega
      rcases CS with ⟨c1, c2⟩ | ⟨c1, c2⟩ | c1
      · have SL : Hid (sg L = -1) := by show _ = _; rcases sg_cases L with ⟨e, _⟩ | ⟨_, e⟩ | ⟨_, e⟩ <;> first | exact e | omega
        have C1 := Lib.hid c1
        have C2 := Lib.hid c2
        obtain ⟨r8, er8⟩ : ∃ r : Int, sg U = r := ⟨_, rfl⟩
        have n8 : ∃ k : Nat, r8 = (k : Int) := ⟨r8.natAbs, by rcases sg_cases U with ⟨_, e⟩ | ⟨e, _⟩ | ⟨e, _⟩ <;> omega⟩
        obtain ⟨k8, rfl⟩ := n8
        have SU := Lib.hid er8
        clear er8
        obtain ⟨z, ez⟩ : ∃ z0 : Int, (Rat.divInt zero d).num = z0 := ⟨_, rfl⟩
        obtain ⟨ee, eee⟩ : ∃ z0 : Nat, (Rat.divInt zero d).den = z0 := ⟨_, rfl⟩
        have EZZ := Lib.hid ez
        have EEE := Lib.hid eee
        clear ez eee c1 c2
        have LNN : Hid ((ofv zero.natAbs).length ≤ 35184372087808) := by show _ ≤ _; rw [← E0.out]; simp [ofv_zero]
        have pc0 := Lib.hid trivial
        go_wp2_with (first
          | (clear pc0; refine wpList_ldZ (by rfl) _ rfl (by rfl) W7.out ?_; have pc1 := Lib.hid trivial)
          | (clear pc1; refine wpList_ldZ (by rfl) _ rfl (by rfl) W8.out ?_; have pc2 := Lib.hid trivial)
          | (clear pc2; go_at_call 12; refine Calls.mono (rcompare_k (r := _) Z7.out.in_ Z8.out.in_ (Nat.le_trans LL.out (by decide)) (Nat.le_trans LU.out (by decide)) HK.out) ?_; rintro e wp ⟨rfl, hb⟩; replace V6 := Lib.hid (V6.out.below hb V6.out.lt); replace ZD := Lib.hid (ZD.out.below hb); replace V0 := Lib.hid (V0.out.below hb V0.out.lt); replace V1 := Lib.hid (V1.out.below hb V1.out.lt); replace V2 := Lib.hid (V2.out.below hb V2.out.lt); replace H1 := Lib.hid (H1.out.below hb); replace H2 := Lib.hid (H2.out.below hb); replace H3 := Lib.hid (H3.out.below hb); replace H4 := Lib.hid (H4.out.below hb); replace Z7 := Lib.hid (Z7.out.below hb); replace W7 := Lib.hid (W7.out.below hb W7.out.lt); replace Z8 := Lib.hid (Z8.out.below hb); replace W8 := Lib.hid (W8.out.below hb W8.out.lt); replace B1 := Lib.hid (B1.out.trans (hb.mono B1.out.size)); clear hb; have pc3 := Lib.hid trivial)
          | (clear pc3; refine wpList_ldZ (by rfl) _ rfl (by rfl) W7.out ?_; have pc4 := Lib.hid trivial)
          | (clear pc4; have LG9 : Hid (g8 < wp.heap.size) := W8.out.lt; have hb : Below wp.heap.size wp (wp.alloc (.cells #[.bool (decide (L < 0)), .slice PL7 (ofv L.natAbs).length cL7] 24)) := ((Below.refl _ _).alloc (by first | exact Nat.le_refl _ | (simp; done) | (simp; omega)) _); replace V6 := Lib.hid (V6.out.below hb V6.out.lt); replace ZD := Lib.hid (ZD.out.below hb); replace V0 := Lib.hid (V0.out.below hb V0.out.lt); replace V1 := Lib.hid (V1.out.below hb V1.out.lt); replace V2 := Lib.hid (V2.out.below hb V2.out.lt); replace H1 := Lib.hid (H1.out.below hb); replace H2 := Lib.hid (H2.out.below hb); replace H3 := Lib.hid (H3.out.below hb); replace H4 := Lib.hid (H4.out.below hb); replace Z7 := Lib.hid (Z7.out.below hb); replace W7 := Lib.hid (W7.out.below hb W7.out.lt); replace Z8 := Lib.hid (Z8.out.below hb); replace W8 := Lib.hid (W8.out.below hb W8.out.lt); replace B1 := Lib.hid (B1.out.trans (hb.mono B1.out.size)); have V9 : Hid (Zb (wp.alloc (.cells #[.bool (decide (L < 0)), .slice PL7 (ofv L.natAbs).length cL7] 24)) (wp.heap.size) (decide (L < 0)) PL7 (ofv L.natAbs).length cL7) := (by have h := (Zb.new wp (decide (L < 0)) PL7 (ofv L.natAbs).length cL7); (try simp only [World.size_alloc] at h); exact h); clear hb; generalize (wp.alloc (.cells #[.bool (decide (L < 0)), .slice PL7 (ofv L.natAbs).length cL7] 24)) = wq at *; generalize wp.heap.size = g9 at *; refine wpList_ldZ (by rfl) _ rfl (by rfl) W7.out ?_; have pc5 := Lib.hid trivial)
          | (clear pc5; go_at_call 11; refine Calls.mono (rsign_k Z7.out.in_ (Nat.le_trans LL.out (by decide)) SL.out) ?_; rintro e ws1 ⟨rfl, hb⟩; replace V6 := Lib.hid (V6.out.below hb V6.out.lt); replace ZD := Lib.hid (ZD.out.below hb); replace V0 := Lib.hid (V0.out.below hb V0.out.lt); replace V1 := Lib.hid (V1.out.below hb V1.out.lt); replace V2 := Lib.hid (V2.out.below hb V2.out.lt); replace H1 := Lib.hid (H1.out.below hb); replace H2 := Lib.hid (H2.out.below hb); replace H3 := Lib.hid (H3.out.below hb); replace H4 := Lib.hid (H4.out.below hb); replace Z7 := Lib.hid (Z7.out.below hb); replace W7 := Lib.hid (W7.out.below hb W7.out.lt); replace Z8 := Lib.hid (Z8.out.below hb); replace W8 := Lib.hid (W8.out.below hb W8.out.lt); replace V9 := Lib.hid (V9.out.below hb V9.out.lt); replace B1 := Lib.hid (B1.out.trans (hb.mono B1.out.size)); clear hb; have pc6 := Lib.hid trivial)
          | (clear pc6; refine wpList_ldZ (by rfl) _ rfl (by rfl) W8.out ?_; have pc7 := Lib.hid trivial)
          | (clear pc7; go_at_call 11; refine Calls.mono (rsign_k Z8.out.in_ (Nat.le_trans LU.out (by decide)) SU.out) ?_; rintro e ws2 ⟨rfl, hb⟩; replace V6 := Lib.hid (V6.out.below hb V6.out.lt); replace ZD := Lib.hid (ZD.out.below hb); replace V0 := Lib.hid (V0.out.below hb V0.out.lt); replace V1 := Lib.hid (V1.out.below hb V1.out.lt); replace V2 := Lib.hid (V2.out.below hb V2.out.lt); replace H1 := Lib.hid (H1.out.below hb); replace H2 := Lib.hid (H2.out.below hb); replace H3 := Lib.hid (H3.out.below hb); replace H4 := Lib.hid (H4.out.below hb); replace Z7 := Lib.hid (Z7.out.below hb); replace W7 := Lib.hid (W7.out.below hb W7.out.lt); replace Z8 := Lib.hid (Z8.out.below hb); replace W8 := Lib.hid (W8.out.below hb W8.out.lt); replace V9 := Lib.hid (V9.out.below hb V9.out.lt); replace B1 := Lib.hid (B1.out.trans (hb.mono B1.out.size)); clear hb; have pc8 := Lib.hid trivial)
          | (clear pc8; go_at_call 13; refine Calls.mono (rfromInt_z (v := 0) (z := zero) (by decide) E0.out _) ?_; rintro e ws3 ⟨P0, c0, rfl, ho, hb⟩; replace V6 := Lib.hid (V6.out.below hb V6.out.lt); replace ZD := Lib.hid (ZD.out.below hb); replace V0 := Lib.hid (V0.out.below hb V0.out.lt); replace V1 := Lib.hid (V1.out.below hb V1.out.lt); replace V2 := Lib.hid (V2.out.below hb V2.out.lt); replace H1 := Lib.hid (H1.out.below hb); replace H2 := Lib.hid (H2.out.below hb); replace H3 := Lib.hid (H3.out.below hb); replace H4 := Lib.hid (H4.out.below hb); replace Z7 := Lib.hid (Z7.out.below hb); replace W7 := Lib.hid (W7.out.below hb W7.out.lt); replace Z8 := Lib.hid (Z8.out.below hb); replace W8 := Lib.hid (W8.out.below hb W8.out.lt); replace V9 := Lib.hid (V9.out.below hb V9.out.lt); replace B1 := Lib.hid (B1.out.trans (hb.mono B1.out.size)); have Z0 := Lib.hid (Zo.of_own ho); clear ho; clear hb; have pc9 := Lib.hid trivial)
          | (clear pc9; refine wpList_stZ (by rfl) _ _ rfl (by rfl) (by rfl) V9.out ?_; intro ws4 hz hg; have bx := V9.out.bx; replace V6 := Lib.hid (V6.out.gro hg (by have := LG.out; have := LG7.out; have := LG8.out; have := LG9.out; omega)); replace ZD := Lib.hid (ZD.out.grB bx hg); replace V0 := Lib.hid (V0.out.gro hg (by have := LG.out; have := LG7.out; have := LG8.out; have := LG9.out; omega)); replace V1 := Lib.hid (V1.out.gro hg (by have := LG.out; have := LG7.out; have := LG8.out; have := LG9.out; omega)); replace V2 := Lib.hid (V2.out.gro hg (by have := LG.out; have := LG7.out; have := LG8.out; have := LG9.out; omega)); replace H1 := Lib.hid (H1.out.grB bx hg); replace H2 := Lib.hid (H2.out.grB bx hg); replace H3 := Lib.hid (H3.out.grB bx hg); replace H4 := Lib.hid (H4.out.grB bx hg); replace Z7 := Lib.hid (Z7.out.grB bx hg); replace W7 := Lib.hid (W7.out.gro hg (by have := LG.out; have := LG7.out; have := LG8.out; have := LG9.out; omega)); replace Z8 := Lib.hid (Z8.out.grB bx hg); replace W8 := Lib.hid (W8.out.gro hg (by have := LG.out; have := LG7.out; have := LG8.out; have := LG9.out; omega)); replace Z0 := Lib.hid (Z0.out.grB bx hg); replace B1 := Lib.hid (Below.gr B1.out (by have := LG.out; have := LG7.out; have := LG8.out; have := LG9.out; omega) hg B1.out.size); clear bx; replace V9 := Lib.hid hz; clear hz hg; have pc10 := Lib.hid trivial)
          | (clear pc10; refine wpList_ldZ (by rfl) _ rfl (by rfl) V9.out ?_; have pc11 := Lib.hid trivial)
          | (clear pc11; refine wpList_ldZ (by rfl) _ rfl (by rfl) V6.out ?_; have pc12 := Lib.hid trivial)
          | (clear pc12; go_at_call 60; refine Calls.mono (rmake_any (x := zero) (y := d) (z := z) (d := ee) Z0.out.in_ LNN.out ZD.out.in_ (Nat.le_trans LD.out (by decide)) EZZ.out EEE.out) ?_; rintro e ws5 ⟨P5, c5, Q5, k5, rfl, ho, ho2, hb⟩; replace V6 := Lib.hid (V6.out.below hb V6.out.lt); replace ZD := Lib.hid (ZD.out.below hb); replace V0 := Lib.hid (V0.out.below hb V0.out.lt); replace V1 := Lib.hid (V1.out.below hb V1.out.lt); replace V2 := Lib.hid (V2.out.below hb V2.out.lt); replace H1 := Lib.hid (H1.out.below hb); replace H2 := Lib.hid (H2.out.below hb); replace H3 := Lib.hid (H3.out.below hb); replace H4 := Lib.hid (H4.out.below hb); replace Z7 := Lib.hid (Z7.out.below hb); replace W7 := Lib.hid (W7.out.below hb W7.out.lt); replace Z8 := Lib.hid (Z8.out.below hb); replace W8 := Lib.hid (W8.out.below hb W8.out.lt); replace V9 := Lib.hid (V9.out.below hb V9.out.lt); replace Z0 := Lib.hid (Z0.out.below hb); replace B1 := Lib.hid (B1.out.trans (hb.mono B1.out.size)); have ZZ := Lib.hid (Zo.of_own ho); have ZE := Lib.hid ho2.rd; clear ho ho2; clear hb; have pc13 := Lib.hid trivial)
          | (clear pc13; refine wpList_stR (by rfl) _ _ rfl (by rfl) (by rfl) V2.out ?_; intro ws6 hz hg; have bx := V2.out.bx; replace V6 := Lib.hid (V6.out.gro hg (by have := LG.out; have := LG7.out; have := LG8.out; have := LG9.out; omega)); replace ZD := Lib.hid (ZD.out.grB bx hg); replace V0 := Lib.hid (V0.out.gro hg (by have := LG.out; have := LG7.out; have := LG8.out; have := LG9.out; omega)); replace V1 := Lib.hid (V1.out.gro hg (by have := LG.out; have := LG7.out; have := LG8.out; have := LG9.out; omega)); replace H1 := Lib.hid (H1.out.grB bx hg); replace H2 := Lib.hid (H2.out.grB bx hg); replace H3 := Lib.hid (H3.out.grB bx hg); replace H4 := Lib.hid (H4.out.grB bx hg); replace Z7 := Lib.hid (Z7.out.grB bx hg); replace W7 := Lib.hid (W7.out.gro hg (by have := LG.out; have := LG7.out; have := LG8.out; have := LG9.out; omega)); replace Z8 := Lib.hid (Z8.out.grB bx hg); replace W8 := Lib.hid (W8.out.gro hg (by have := LG.out; have := LG7.out; have := LG8.out; have := LG9.out; omega)); replace V9 := Lib.hid (V9.out.gro hg (by have := LG.out; have := LG7.out; have := LG8.out; have := LG9.out; omega)); replace Z0 := Lib.hid (Z0.out.grB bx hg); replace ZZ := Lib.hid (ZZ.out.grB bx hg); replace ZE := Lib.hid (ZE.out.grB bx hg); replace B1 := Lib.hid (Below.gr B1.out (by have := LG.out; have := LG7.out; have := LG8.out; have := LG9.out; omega) hg B1.out.size); clear bx; replace V2 := Lib.hid hz; clear hz hg; have pc14 := Lib.hid trivial))
        clear pc14
        have sm := NOD.out.ok (n := zero) (show (0 : Int) < dl by have := D1.out; omega) (show (0 : Int) < dh by have := D2.out; omega) DD.out.1 (by rw [EL0.out]; have := HLU.out; have := C1.out; have := E0.out; omega) (by rw [EU0.out]; have := HLU.out; have := C2.out; have := E0.out; omega) (fun N _ _ => by rw [← E0.out]; exact Nat.zero_le _) EZZ.out EEE.out
        exact ret_rk Tryz.results21 rfl rfl rfl V2.out ⟨z, ee, sm, _, _, _, _, rfl, ZZ.out, ZE.out, B1.out⟩
      · have SL : Hid (sg L = -1) := by show _ = _; rcases sg_cases L with ⟨e, _⟩ | ⟨_, e⟩ | ⟨_, e⟩ <;> first | exact e | omega
        have C1 := Lib.hid c1
        have C2 := Lib.hid c2
        have SU : Hid (sg U = -1) := by show _ = _; rcases sg_cases U with ⟨e, _⟩ | ⟨_, e⟩ | ⟨_, e⟩ <;> first | exact e | omega
        obtain ⟨z, ez⟩ : ∃ z0 : Int, (Rat.divInt U d).num = z0 := ⟨_, rfl⟩
        obtain ⟨ee, eee⟩ : ∃ z0 : Nat, (Rat.divInt U d).den = z0 := ⟨_, rfl⟩
        have EZZ := Lib.hid ez
        have EEE := Lib.hid eee
        clear ez eee c1 c2
        have LNN : Hid ((ofv U.natAbs).length ≤ 35184372087808) := Nat.le_trans LU.out (by decide)
        have pc0 := Lib.hid trivial
        go_wp2_with (first
          | (clear pc0; refine wpList_ldZ (by rfl) _ rfl (by rfl) W7.out ?_; have pc1 := Lib.hid trivial)
          | (clear pc1; refine wpList_ldZ (by rfl) _ rfl (by rfl) W8.out ?_; have pc2 := Lib.hid trivial)
          | (clear pc2; go_at_call 12; refine Calls.mono (rcompare_k (r := _) Z7.out.in_ Z8.out.in_ (Nat.le_trans LL.out (by decide)) (Nat.le_trans LU.out (by decide)) HK.out) ?_; rintro e wp ⟨rfl, hb⟩; replace V6 := Lib.hid (V6.out.below hb V6.out.lt); replace ZD := Lib.hid (ZD.out.below hb); replace V0 := Lib.hid (V0.out.below hb V0.out.lt); replace V1 := Lib.hid (V1.out.below hb V1.out.lt); replace V2 := Lib.hid (V2.out.below hb V2.out.lt); replace H1 := Lib.hid (H1.out.below hb); replace H2 := Lib.hid (H2.out.below hb); replace H3 := Lib.hid (H3.out.below hb); replace H4 := Lib.hid (H4.out.below hb); replace Z7 := Lib.hid (Z7.out.below hb); replace W7 := Lib.hid (W7.out.below hb W7.out.lt); replace Z8 := Lib.hid (Z8.out.below hb); replace W8 := Lib.hid (W8.out.below hb W8.out.lt); replace B1 := Lib.hid (B1.out.trans (hb.mono B1.out.size)); clear hb; have pc3 := Lib.hid trivial)
          | (clear pc3; refine wpList_ldZ (by rfl) _ rfl (by rfl) W7.out ?_; have pc4 := Lib.hid trivial)
          | (clear pc4; have LG9 : Hid (g8 < wp.heap.size) := W8.out.lt; have hb : Below wp.heap.size wp (wp.alloc (.cells #[.bool (decide (L < 0)), .slice PL7 (ofv L.natAbs).length cL7] 24)) := ((Below.refl _ _).alloc (by first | exact Nat.le_refl _ | (simp; done) | (simp; omega)) _); replace V6 := Lib.hid (V6.out.below hb V6.out.lt); replace ZD := Lib.hid (ZD.out.below hb); replace V0 := Lib.hid (V0.out.below hb V0.out.lt); replace V1 := Lib.hid (V1.out.below hb V1.out.lt); replace V2 := Lib.hid (V2.out.below hb V2.out.lt); replace H1 := Lib.hid (H1.out.below hb); replace H2 := Lib.hid (H2.out.below hb); replace H3 := Lib.hid (H3.out.below hb); replace H4 := Lib.hid (H4.out.below hb); replace Z7 := Lib.hid (Z7.out.below hb); replace W7 := Lib.hid (W7.out.below hb W7.out.lt); replace Z8 := Lib.hid (Z8.out.below hb); replace W8 := Lib.hid (W8.out.below hb W8.out.lt); replace B1 := Lib.hid (B1.out.trans (hb.mono B1.out.size)); have V9 : Hid (Zb (wp.alloc (.cells #[.bool (decide (L < 0)), .slice PL7 (ofv L.natAbs).length cL7] 24)) (wp.heap.size) (decide (L < 0)) PL7 (ofv L.natAbs).length cL7) := (by have h := (Zb.new wp (decide (L < 0)) PL7 (ofv L.natAbs).length cL7); (try simp only [World.size_alloc] at h); exact h); clear hb; generalize (wp.alloc (.cells #[.bool (decide (L < 0)), .slice PL7 (ofv L.natAbs).length cL7] 24)) = wq at *; generalize wp.heap.size = g9 at *; refine wpList_ldZ (by rfl) _ rfl (by rfl) W7.out ?_; have pc5 := Lib.hid trivial)
          | (clear pc5; go_at_call 11; refine Calls.mono (rsign_k Z7.out.in_ (Nat.le_trans LL.out (by decide)) SL.out) ?_; rintro e ws1 ⟨rfl, hb⟩; replace V6 := Lib.hid (V6.out.below hb V6.out.lt); replace ZD := Lib.hid (ZD.out.below hb); replace V0 := Lib.hid (V0.out.below hb V0.out.lt); replace V1 := Lib.hid (V1.out.below hb V1.out.lt); replace V2 := Lib.hid (V2.out.below hb V2.out.lt); replace H1 := Lib.hid (H1.out.below hb); replace H2 := Lib.hid (H2.out.below hb); replace H3 := Lib.hid (H3.out.below hb); replace H4 := Lib.hid (H4.out.below hb); replace Z7 := Lib.hid (Z7.out.below hb); replace W7 := Lib.hid (W7.out.below hb W7.out.lt); replace Z8 := Lib.hid (Z8.out.below hb); replace W8 := Lib.hid (W8.out.below hb W8.out.lt); replace V9 := Lib.hid (V9.out.below hb V9.out.lt); replace B1 := Lib.hid (B1.out.trans (hb.mono B1.out.size)); clear hb; have pc6 := Lib.hid trivial)
          | (clear pc6; refine wpList_ldZ (by rfl) _ rfl (by rfl) W8.out ?_; have pc7 := Lib.hid trivial)
          | (clear pc7; go_at_call 11; refine Calls.mono (rsign_k Z8.out.in_ (Nat.le_trans LU.out (by decide)) SU.out) ?_; rintro e ws2 ⟨rfl, hb⟩; replace V6 := Lib.hid (V6.out.below hb V6.out.lt); replace ZD := Lib.hid (ZD.out.below hb); replace V0 := Lib.hid (V0.out.below hb V0.out.lt); replace V1 := Lib.hid (V1.out.below hb V1.out.lt); replace V2 := Lib.hid (V2.out.below hb V2.out.lt); replace H1 := Lib.hid (H1.out.below hb); replace H2 := Lib.hid (H2.out.below hb); replace H3 := Lib.hid (H3.out.below hb); replace H4 := Lib.hid (H4.out.below hb); replace Z7 := Lib.hid (Z7.out.below hb); replace W7 := Lib.hid (W7.out.below hb W7.out.lt); replace Z8 := Lib.hid (Z8.out.below hb); replace W8 := Lib.hid (W8.out.below hb W8.out.lt); replace V9 := Lib.hid (V9.out.below hb V9.out.lt); replace B1 := Lib.hid (B1.out.trans (hb.mono B1.out.size)); clear hb; have pc8 := Lib.hid trivial)
          | (clear pc8; refine wpList_ldZ (by rfl) _ rfl (by rfl) W8.out ?_; have pc9 := Lib.hid trivial)
          | (clear pc9; go_at_call 11; refine Calls.mono (rsign_k Z8.out.in_ (Nat.le_trans LU.out (by decide)) SU.out) ?_; rintro e ws3 ⟨rfl, hb⟩; replace V6 := Lib.hid (V6.out.below hb V6.out.lt); replace ZD := Lib.hid (ZD.out.below hb); replace V0 := Lib.hid (V0.out.below hb V0.out.lt); replace V1 := Lib.hid (V1.out.below hb V1.out.lt); replace V2 := Lib.hid (V2.out.below hb V2.out.lt); replace H1 := Lib.hid (H1.out.below hb); replace H2 := Lib.hid (H2.out.below hb); replace H3 := Lib.hid (H3.out.below hb); replace H4 := Lib.hid (H4.out.below hb); replace Z7 := Lib.hid (Z7.out.below hb); replace W7 := Lib.hid (W7.out.below hb W7.out.lt); replace Z8 := Lib.hid (Z8.out.below hb); replace W8 := Lib.hid (W8.out.below hb W8.out.lt); replace V9 := Lib.hid (V9.out.below hb V9.out.lt); replace B1 := Lib.hid (B1.out.trans (hb.mono B1.out.size)); clear hb; have pc10 := Lib.hid trivial)
          | (clear pc10; refine wpList_ldZ (by rfl) _ rfl (by rfl) W8.out ?_; have pc11 := Lib.hid trivial)
          | (clear pc11; refine wpList_stZ (by rfl) _ _ rfl (by rfl) (by rfl) V9.out ?_; intro ws4 hz hg; have bx := V9.out.bx; replace V6 := Lib.hid (V6.out.gro hg (by have := LG.out; have := LG7.out; have := LG8.out; have := LG9.out; omega)); replace ZD := Lib.hid (ZD.out.grB bx hg); replace V0 := Lib.hid (V0.out.gro hg (by have := LG.out; have := LG7.out; have := LG8.out; have := LG9.out; omega)); replace V1 := Lib.hid (V1.out.gro hg (by have := LG.out; have := LG7.out; have := LG8.out; have := LG9.out; omega)); replace V2 := Lib.hid (V2.out.gro hg (by have := LG.out; have := LG7.out; have := LG8.out; have := LG9.out; omega)); replace H1 := Lib.hid (H1.out.grB bx hg); replace H2 := Lib.hid (H2.out.grB bx hg); replace H3 := Lib.hid (H3.out.grB bx hg); replace H4 := Lib.hid (H4.out.grB bx hg); replace Z7 := Lib.hid (Z7.out.grB bx hg); replace W7 := Lib.hid (W7.out.gro hg (by have := LG.out; have := LG7.out; have := LG8.out; have := LG9.out; omega)); replace Z8 := Lib.hid (Z8.out.grB bx hg); replace W8 := Lib.hid (W8.out.gro hg (by have := LG.out; have := LG7.out; have := LG8.out; have := LG9.out; omega)); replace B1 := Lib.hid (Below.gr B1.out (by have := LG.out; have := LG7.out; have := LG8.out; have := LG9.out; omega) hg B1.out.size); clear bx; replace V9 := Lib.hid hz; clear hz hg; have pc12 := Lib.hid trivial)
          | (clear pc12; refine wpList_ldZ (by rfl) _ rfl (by rfl) V9.out ?_; have pc13 := Lib.hid trivial)
          | (clear pc13; refine wpList_ldZ (by rfl) _ rfl (by rfl) V6.out ?_; have pc14 := Lib.hid trivial)
          | (clear pc14; go_at_call 60; refine Calls.mono (rmake_any (x := U) (y := d) (z := z) (d := ee) Z8.out.in_ LNN.out ZD.out.in_ (Nat.le_trans LD.out (by decide)) EZZ.out EEE.out) ?_; rintro e ws5 ⟨P5, c5, Q5, k5, rfl, ho, ho2, hb⟩; replace V6 := Lib.hid (V6.out.below hb V6.out.lt); replace ZD := Lib.hid (ZD.out.below hb); replace V0 := Lib.hid (V0.out.below hb V0.out.lt); replace V1 := Lib.hid (V1.out.below hb V1.out.lt); replace V2 := Lib.hid (V2.out.below hb V2.out.lt); replace H1 := Lib.hid (H1.out.below hb); replace H2 := Lib.hid (H2.out.below hb); replace H3 := Lib.hid (H3.out.below hb); replace H4 := Lib.hid (H4.out.below hb); replace Z7 := Lib.hid (Z7.out.below hb); replace W7 := Lib.hid (W7.out.below hb W7.out.lt); replace Z8 := Lib.hid (Z8.out.below hb); replace W8 := Lib.hid (W8.out.below hb W8.out.lt); replace V9 := Lib.hid (V9.out.below hb V9.out.lt); replace B1 := Lib.hid (B1.out.trans (hb.mono B1.out.size)); have ZZ := Lib.hid (Zo.of_own ho); have ZE := Lib.hid ho2.rd; clear ho ho2; clear hb; have pc15 := Lib.hid trivial)
          | (clear pc15; refine wpList_stR (by rfl) _ _ rfl (by rfl) (by rfl) V2.out ?_; intro ws6 hz hg; have bx := V2.out.bx; replace V6 := Lib.hid (V6.out.gro hg (by have := LG.out; have := LG7.out; have := LG8.out; have := LG9.out; omega)); replace ZD := Lib.hid (ZD.out.grB bx hg); replace V0 := Lib.hid (V0.out.gro hg (by have := LG.out; have := LG7.out; have := LG8.out; have := LG9.out; omega)); replace V1 := Lib.hid (V1.out.gro hg (by have := LG.out; have := LG7.out; have := LG8.out; have := LG9.out; omega)); replace H1 := Lib.hid (H1.out.grB bx hg); replace H2 := Lib.hid (H2.out.grB bx hg); replace H3 := Lib.hid (H3.out.grB bx hg); replace H4 := Lib.hid (H4.out.grB bx hg); replace Z7 := Lib.hid (Z7.out.grB bx hg); replace W7 := Lib.hid (W7.out.gro hg (by have := LG.out; have := LG7.out; have := LG8.out; have := LG9.out; omega)); replace Z8 := Lib.hid (Z8.out.grB bx hg); replace W8 := Lib.hid (W8.out.gro hg (by have := LG.out; have := LG7.out; have := LG8.out; have := LG9.out; omega)); replace V9 := Lib.hid (V9.out.gro hg (by have := LG.out; have := LG7.out; have := LG8.out; have := LG9.out; omega)); replace ZZ := Lib.hid (ZZ.out.grB bx hg); replace ZE := Lib.hid (ZE.out.grB bx hg); replace B1 := Lib.hid (Below.gr B1.out (by have := LG.out; have := LG7.out; have := LG8.out; have := LG9.out; omega) hg B1.out.size); clear bx; replace V2 := Lib.hid hz; clear hz hg; have pc16 := Lib.hid trivial))
        clear pc16
        have sm := NOD.out.ok (n := U) (show (0 : Int) < dl by have := D1.out; omega) (show (0 : Int) < dh by have := D2.out; omega) DD.out.1 (by rw [EL0.out]; have := HLU.out; have := C1.out; omega) (by rw [EU0.out]; have := HLU.out; omega) (fun N h1 h2 => by rw [EU0.out] at h2; have := C2.out; omega) EZZ.out EEE.out
        exact ret_rk Tryz.results21 rfl rfl rfl V2.out ⟨z, ee, sm, _, _, _, _, rfl, ZZ.out, ZE.out, B1.out⟩
      · skip
        have C1 := Lib.hid c1
        obtain ⟨r8, er8⟩ : ∃ r : Int, sg L = r := ⟨_, rfl⟩
        have n8 : ∃ k : Nat, r8 = (k : Int) := ⟨r8.natAbs, by rcases sg_cases L with ⟨_, e⟩ | ⟨e, _⟩ | ⟨e, _⟩ <;> omega⟩
        obtain ⟨k8, rfl⟩ := n8
        have SL := Lib.hid er8
        obtain ⟨r9, er9⟩ : ∃ r : Int, sg U = r := ⟨_, rfl⟩
        have n9 : ∃ k : Nat, r9 = (k : Int) := ⟨r9.natAbs, by have := HLU.out; rcases sg_cases U with ⟨_, e⟩ | ⟨e, _⟩ | ⟨e, _⟩ <;> omega⟩
        obtain ⟨k9, rfl⟩ := n9
        have SU := Lib.hid er9
        clear er8 er9
        obtain ⟨z, ez⟩ : ∃ z0 : Int, (Rat.divInt L d).num = z0 := ⟨_, rfl⟩
        obtain ⟨ee, eee⟩ : ∃ z0 : Nat, (Rat.divInt L d).den = z0 := ⟨_, rfl⟩
        have EZZ := Lib.hid ez
        have EEE := Lib.hid eee
        clear ez eee c1
        have LNN : Hid ((ofv L.natAbs).length ≤ 35184372087808) := Nat.le_trans LL.out (by decide)
        have pc0 := Lib.hid trivial
        go_wp2_with (first
          | (clear pc0; refine wpList_ldZ (by rfl) _ rfl (by rfl) W7.out ?_; have pc1 := Lib.hid trivial)
          | (clear pc1; refine wpList_ldZ (by rfl) _ rfl (by rfl) W8.out ?_; have pc2 := Lib.hid trivial)
          | (clear pc2; go_at_call 12; refine Calls.mono (rcompare_k (r := _) Z7.out.in_ Z8.out.in_ (Nat.le_trans LL.out (by decide)) (Nat.le_trans LU.out (by decide)) HK.out) ?_; rintro e wp ⟨rfl, hb⟩; replace V6 := Lib.hid (V6.out.below hb V6.out.lt); replace ZD := Lib.hid (ZD.out.below hb); replace V0 := Lib.hid (V0.out.below hb V0.out.lt); replace V1 := Lib.hid (V1.out.below hb V1.out.lt); replace V2 := Lib.hid (V2.out.below hb V2.out.lt); replace H1 := Lib.hid (H1.out.below hb); replace H2 := Lib.hid (H2.out.below hb); replace H3 := Lib.hid (H3.out.below hb); replace H4 := Lib.hid (H4.out.below hb); replace Z7 := Lib.hid (Z7.out.below hb); replace W7 := Lib.hid (W7.out.below hb W7.out.lt); replace Z8 := Lib.hid (Z8.out.below hb); replace W8 := Lib.hid (W8.out.below hb W8.out.lt); replace B1 := Lib.hid (B1.out.trans (hb.mono B1.out.size)); clear hb; have pc3 := Lib.hid trivial)
          | (clear pc3; refine wpList_ldZ (by rfl) _ rfl (by rfl) W7.out ?_; have pc4 := Lib.hid trivial)
          | (clear pc4; have LG9 : Hid (g8 < wp.heap.size) := W8.out.lt; have hb : Below wp.heap.size wp (wp.alloc (.cells #[.bool (decide (L < 0)), .slice PL7 (ofv L.natAbs).length cL7] 24)) := ((Below.refl _ _).alloc (by first | exact Nat.le_refl _ | (simp; done) | (simp; omega)) _); replace V6 := Lib.hid (V6.out.below hb V6.out.lt); replace ZD := Lib.hid (ZD.out.below hb); replace V0 := Lib.hid (V0.out.below hb V0.out.lt); replace V1 := Lib.hid (V1.out.below hb V1.out.lt); replace V2 := Lib.hid (V2.out.below hb V2.out.lt); replace H1 := Lib.hid (H1.out.below hb); replace H2 := Lib.hid (H2.out.below hb); replace H3 := Lib.hid (H3.out.below hb); replace H4 := Lib.hid (H4.out.below hb); replace Z7 := Lib.hid (Z7.out.below hb); replace W7 := Lib.hid (W7.out.below hb W7.out.lt); replace Z8 := Lib.hid (Z8.out.below hb); replace W8 := Lib.hid (W8.out.below hb W8.out.lt); replace B1 := Lib.hid (B1.out.trans (hb.mono B1.out.size)); have V9 : Hid (Zb (wp.alloc (.cells #[.bool (decide (L < 0)), .slice PL7 (ofv L.natAbs).length cL7] 24)) (wp.heap.size) (decide (L < 0)) PL7 (ofv L.natAbs).length cL7) := (by have h := (Zb.new wp (decide (L < 0)) PL7 (ofv L.natAbs).length cL7); (try simp only [World.size_alloc] at h); exact h); clear hb; generalize (wp.alloc (.cells #[.bool (decide (L < 0)), .slice PL7 (ofv L.natAbs).length cL7] 24)) = wq at *; generalize wp.heap.size = g9 at *; refine wpList_ldZ (by rfl) _ rfl (by rfl) W7.out ?_; have pc5 := Lib.hid trivial)
          | (clear pc5; go_at_call 11; refine Calls.mono (rsign_k Z7.out.in_ (Nat.le_trans LL.out (by decide)) SL.out) ?_; rintro e ws1 ⟨rfl, hb⟩; replace V6 := Lib.hid (V6.out.below hb V6.out.lt); replace ZD := Lib.hid (ZD.out.below hb); replace V0 := Lib.hid (V0.out.below hb V0.out.lt); replace V1 := Lib.hid (V1.out.below hb V1.out.lt); replace V2 := Lib.hid (V2.out.below hb V2.out.lt); replace H1 := Lib.hid (H1.out.below hb); replace H2 := Lib.hid (H2.out.below hb); replace H3 := Lib.hid (H3.out.below hb); replace H4 := Lib.hid (H4.out.below hb); replace Z7 := Lib.hid (Z7.out.below hb); replace W7 := Lib.hid (W7.out.below hb W7.out.lt); replace Z8 := Lib.hid (Z8.out.below hb); replace W8 := Lib.hid (W8.out.below hb W8.out.lt); replace V9 := Lib.hid (V9.out.below hb V9.out.lt); replace B1 := Lib.hid (B1.out.trans (hb.mono B1.out.size)); clear hb; have pc6 := Lib.hid trivial)
          | (clear pc6; refine wpList_ldZ (by rfl) _ rfl (by rfl) W8.out ?_; have pc7 := Lib.hid trivial)
          | (clear pc7; go_at_call 11; refine Calls.mono (rsign_k Z8.out.in_ (Nat.le_trans LU.out (by decide)) SU.out) ?_; rintro e ws3 ⟨rfl, hb⟩; replace V6 := Lib.hid (V6.out.below hb V6.out.lt); replace ZD := Lib.hid (ZD.out.below hb); replace V0 := Lib.hid (V0.out.below hb V0.out.lt); replace V1 := Lib.hid (V1.out.below hb V1.out.lt); replace V2 := Lib.hid (V2.out.below hb V2.out.lt); replace H1 := Lib.hid (H1.out.below hb); replace H2 := Lib.hid (H2.out.below hb); replace H3 := Lib.hid (H3.out.below hb); replace H4 := Lib.hid (H4.out.below hb); replace Z7 := Lib.hid (Z7.out.below hb); replace W7 := Lib.hid (W7.out.below hb W7.out.lt); replace Z8 := Lib.hid (Z8.out.below hb); replace W8 := Lib.hid (W8.out.below hb W8.out.lt); replace V9 := Lib.hid (V9.out.below hb V9.out.lt); replace B1 := Lib.hid (B1.out.trans (hb.mono B1.out.size)); clear hb; have pc8 := Lib.hid trivial)
          | (clear pc8; refine wpList_ldZ (by rfl) _ rfl (by rfl) V9.out ?_; have pc9 := Lib.hid trivial)
          | (clear pc9; refine wpList_ldZ (by rfl) _ rfl (by rfl) V6.out ?_; have pc10 := Lib.hid trivial)
          | (clear pc10; go_at_call 60; refine Calls.mono (rmake_any (x := L) (y := d) (z := z) (d := ee) Z7.out.in_ LNN.out ZD.out.in_ (Nat.le_trans LD.out (by decide)) EZZ.out EEE.out) ?_; rintro e ws5 ⟨P5, c5, Q5, k5, rfl, ho, ho2, hb⟩; replace V6 := Lib.hid (V6.out.below hb V6.out.lt); replace ZD := Lib.hid (ZD.out.below hb); replace V0 := Lib.hid (V0.out.below hb V0.out.lt); replace V1 := Lib.hid (V1.out.below hb V1.out.lt); replace V2 := Lib.hid (V2.out.below hb V2.out.lt); replace H1 := Lib.hid (H1.out.below hb); replace H2 := Lib.hid (H2.out.below hb); replace H3 := Lib.hid (H3.out.below hb); replace H4 := Lib.hid (H4.out.below hb); replace Z7 := Lib.hid (Z7.out.below hb); replace W7 := Lib.hid (W7.out.below hb W7.out.lt); replace Z8 := Lib.hid (Z8.out.below hb); replace W8 := Lib.hid (W8.out.below hb W8.out.lt); replace V9 := Lib.hid (V9.out.below hb V9.out.lt); replace B1 := Lib.hid (B1.out.trans (hb.mono B1.out.size)); have ZZ := Lib.hid (Zo.of_own ho); have ZE := Lib.hid ho2.rd; clear ho ho2; clear hb; have pc11 := Lib.hid trivial)
          | (clear pc11; refine wpList_stR (by rfl) _ _ rfl (by rfl) (by rfl) V2.out ?_; intro ws6 hz hg; have bx := V2.out.bx; replace V6 := Lib.hid (V6.out.gro hg (by have := LG.out; have := LG7.out; have := LG8.out; have := LG9.out; omega)); replace ZD := Lib.hid (ZD.out.grB bx hg); replace V0 := Lib.hid (V0.out.gro hg (by have := LG.out; have := LG7.out; have := LG8.out; have := LG9.out; omega)); replace V1 := Lib.hid (V1.out.gro hg (by have := LG.out; have := LG7.out; have := LG8.out; have := LG9.out; omega)); replace H1 := Lib.hid (H1.out.grB bx hg); replace H2 := Lib.hid (H2.out.grB bx hg); replace H3 := Lib.hid (H3.out.grB bx hg); replace H4 := Lib.hid (H4.out.grB bx hg); replace Z7 := Lib.hid (Z7.out.grB bx hg); replace W7 := Lib.hid (W7.out.gro hg (by have := LG.out; have := LG7.out; have := LG8.out; have := LG9.out; omega)); replace Z8 := Lib.hid (Z8.out.grB bx hg); replace W8 := Lib.hid (W8.out.gro hg (by have := LG.out; have := LG7.out; have := LG8.out; have := LG9.out; omega)); replace V9 := Lib.hid (V9.out.gro hg (by have := LG.out; have := LG7.out; have := LG8.out; have := LG9.out; omega)); replace ZZ := Lib.hid (ZZ.out.grB bx hg); replace ZE := Lib.hid (ZE.out.grB bx hg); replace B1 := Lib.hid (Below.gr B1.out (by have := LG.out; have := LG7.out; have := LG8.out; have := LG9.out; omega) hg B1.out.size); clear bx; replace V2 := Lib.hid hz; clear hz hg; have pc12 := Lib.hid trivial))
        clear pc12
        have sm := NOD.out.ok (n := L) (show (0 : Int) < dl by have := D1.out; omega) (show (0 : Int) < dh by have := D2.out; omega) DD.out.1 (by rw [EL0.out]; have := HLU.out; have := C1.out; omega) (by rw [EU0.out]; have := HLU.out; omega) (fun N h1 h2 => by rw [EL0.out] at h1; have := C1.out; omega) EZZ.out EEE.out
        exact ret_rk Tryz.results21 rfl rfl rfl V2.out ⟨z, ee, sm, _, _, _, _, rfl, ZZ.out, ZE.out, B1.out⟩
end Go.Proofs.YtfmgbfdnmconiaaGreat
