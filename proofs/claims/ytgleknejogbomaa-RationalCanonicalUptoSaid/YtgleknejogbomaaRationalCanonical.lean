/-
  The statement RationalCanonical: its walk.
-/
import Derived.Test.YtgleknejogbomaaRlen
namespace Go.Proofs.Ytgleknejogbomaa
open Go.RowKit
set_option linter.unusedVariables false

set_option maxRecDepth 100000 in
set_option maxHeartbeats 16000000 in
theorem rationalCanonical_walk (b0 : Bool) (a0 : Option Addr) (len0 cap0 : Nat) (z0 : Int) (e0 : Option Addr) (n0 c0 q0 : Nat) (b1 : Bool) (a1 : Option Addr) (len1 cap1 : Nat) (z1 : Int) (e1 : Option Addr) (n1 c1 q1 : Nat) (w : World) (hx0 : Zin w b0 a0 len0 cap0 z0) (hl0 : len0 ≤ 1048576) (hp0 : Nin w e0 n0 c0 q0) (hn0 : n0 ≤ 1048576) (hx1 : Zin w b1 a1 len1 cap1 z1) (hl1 : len1 ≤ 1048576) (hp1 : Nin w e1 n1 c1 q1) (hn1 : n1 ≤ 1048576) :
    Calls Try.prog 9 #[.agg #[.bool b0, .slice a0 len0 cap0, .slice e0 n0 c0], .agg #[.bool b1, .slice a1 len1 cap1, .slice e1 n1 c1]] w fun e w' => e = .returned (.bool true) ∧ Below w.heap.size w w' := by
  obtain ⟨B1, V0, V1⟩ := start_R2 w b0 a0 len0 cap0 e0 n0 c0 b1 a1 len1 cap1 e1 n1 c1
  have X0 := Lib.hid (hx0.below B1.out)
  have Y0 := Lib.hid (hp0.below B1.out)
  have LZ0 : Hid (len0 ≤ 100000000) := Nat.le_trans hl0 (by decide)
  have LD0 : Hid (n0 ≤ 100000000) := Nat.le_trans hn0 (by decide)
  have r0 : RL (mkRat z0 q0) 1048576 := rl_mk (Nat.le_trans hx0.len hl0) (Nat.le_trans hp0.len hn0) (by decide)
  have X1 := Lib.hid (hx1.below B1.out)
  have Y1 := Lib.hid (hp1.below B1.out)
  have LZ1 : Hid (len1 ≤ 100000000) := Nat.le_trans hl1 (by decide)
  have LD1 : Hid (n1 ≤ 100000000) := Nat.le_trans hn1 (by decide)
  have r1 : RL (mkRat z1 q1) 1048576 := rl_mk (Nat.le_trans hx1.len hl1) (Nat.le_trans hp1.len hn1) (by decide)
  have LL : Hid (1 ≤ 100000000 ∧ 100000000 ≤ 35184372088829) := by show _ ∧ _; omega
  have LL2 : Hid (1 ≤ 100000000 ∧ 100000000 ≤ 70368744177660) := by show _ ∧ _; omega
  obtain ⟨xs, exs⟩ : ∃ z : Int, (mkRat z0 q0).num = z := ⟨_, rfl⟩
  obtain ⟨ds, eds⟩ : ∃ z : Nat, (mkRat z0 q0).den = z := ⟨_, rfl⟩
  have Ms : mkRat xs ds = mkRat z0 q0 := by rw [← exs, ← eds, mk_self]
  have rs : RL (mkRat xs ds) 1048576 := by rw [Ms]; exact (r0).le (by decide)
  have LZs : Hid ((ofv xs.natAbs).length ≤ 100000000) := by show _ ≤ _; have h := rs.1; rw [Ms, exs] at h; exact Nat.le_trans h (by decide)
  have LDs : Hid ((ofv ds).length ≤ 100000000) := by show _ ≤ _; have h := rs.2; rw [Ms, eds] at h; exact Nat.le_trans h (by decide)
  have HZs := Lib.hid exs
  have HDs := Lib.hid eds
  obtain ⟨xt, ext⟩ : ∃ z : Int, (mkRat z1 q1).num = z := ⟨_, rfl⟩
  obtain ⟨dt, edt⟩ : ∃ z : Nat, (mkRat z1 q1).den = z := ⟨_, rfl⟩
  have Mt : mkRat xt dt = mkRat z1 q1 := by rw [← ext, ← edt, mk_self]
  have rt : RL (mkRat xt dt) 1048576 := by rw [Mt]; exact (r1).le (by decide)
  have LZt : Hid ((ofv xt.natAbs).length ≤ 100000000) := by show _ ≤ _; have h := rt.1; rw [Mt, ext] at h; exact Nat.le_trans h (by decide)
  have LDt : Hid ((ofv dt).length ≤ 100000000) := by show _ ≤ _; have h := rt.2; rw [Mt, edt] at h; exact Nat.le_trans h (by decide)
  have HZt := Lib.hid ext
  have HDt := Lib.hid edt
  obtain ⟨xu, exu⟩ : ∃ z : Int, (mkRat xs ds).num = z := ⟨_, rfl⟩
  obtain ⟨du, edu⟩ : ∃ z : Nat, (mkRat xs ds).den = z := ⟨_, rfl⟩
  have Mu : mkRat xu du = mkRat xs ds := by rw [← exu, ← edu, mk_self]
  have ru : RL (mkRat xu du) 1048576 := by rw [Mu]; exact (rs).le (by decide)
  have LZu : Hid ((ofv xu.natAbs).length ≤ 100000000) := by show _ ≤ _; have h := ru.1; rw [Mu, exu] at h; exact Nat.le_trans h (by decide)
  have LDu : Hid ((ofv du).length ≤ 100000000) := by show _ ≤ _; have h := ru.2; rw [Mu, edu] at h; exact Nat.le_trans h (by decide)
  have HZu := Lib.hid exu
  have HDu := Lib.hid edu
  have EQu_s : Hid (xu = xs ∧ du = ds) := by show _ ∧ _; rw [← exu, ← edu, Ms]; exact ⟨exs, eds⟩
  have CS : Hid ((mkRat xs ds).num = xs ∧ (mkRat xs ds).den = ds) := by show _ ∧ _; rw [Ms]; exact ⟨exs, eds⟩
  obtain ⟨r, er⟩ : ∃ r : Int, sgR (mkRat z0 q0 - mkRat z1 q1) = r := ⟨_, rfl⟩
  have SR := Lib.hid er
  have CR : Hid ((r = -1 ∧ decide (xs = xt ∧ ds = dt) = false) ∨ (r = 0 ∧ decide (xs = xt ∧ ds = dt) = true) ∨ (r = 1 ∧ decide (xs = xt ∧ ds = dt) = false)) := by
    show _ ∨ _
    have key : sgR (mkRat z0 q0 - mkRat z1 q1) = 0 ↔ (xs = xt ∧ ds = dt) := by
      rw [sgR_zero]
      constructor
      · intro h
        have h2 : mkRat z0 q0 = mkRat z1 q1 := by grind
        rw [← exs, ← eds, ← ext, ← edt, h2]; exact ⟨rfl, rfl⟩
      · rintro ⟨h1, h2⟩
        have h3 : mkRat z0 q0 = mkRat z1 q1 := by rw [← Ms, ← Mt, h1, h2]
        rw [h3]; exact Rat.sub_self
    rw [er] at key
    have h3 : r = -1 ∨ r = 0 ∨ r = 1 := by
      rw [← er]
      unfold sgR
      rcases sg_cases (mkRat z0 q0 - mkRat z1 q1).num with ⟨h, _⟩ | ⟨h, _⟩ | ⟨h, _⟩ <;> simp [h]
    rcases h3 with h | h | h
    · exact .inl ⟨h, decide_eq_false (fun e => by have := key.2 e; omega)⟩
    · exact .inr (.inl ⟨h, decide_eq_true (key.1 h)⟩)
    · exact .inr (.inr ⟨h, decide_eq_false (fun e => by have := key.2 e; omega)⟩)
  clear hx0 hl0 hp0 hn0 r0 hx1 hl1 hp1 hn1 r1 exs eds Ms rs ext edt Mt rt exu edu Mu ru er
  go_enter Try.func9, Try.ntmps9
  go_wp2_with fail
  generalize ((w.alloc (.cells #[.bool b0, .slice a0 len0 cap0, .slice e0 n0 c0] 42)).alloc (.cells #[.bool b1, .slice a1 len1 cap1, .slice e1 n1 c1] 42)) = w2 at *
  have LT : Hid (w.heap.size + 1 < w2.heap.size) := V1.out.lt
  have HB : Hid (Below w2.heap.size w2 w2.drew) := below_drewN _ w2 1
  refine wp_region_held_drew (S := fun w' => Below w2.heap.size w2 w') (by kernel_rfl) (HB.out) (fun hHeld => ?_)
  refine wpAnyH_takeL (i := 0) (oi := _) rfl (by kernel_rfl) (by kernel_rfl) (by kernel_rfl) (fun _ _ _ h => h) (yields_ldR (by rfl) _ rfl (by rfl) (fun _ hb => V0.out.below hb V0.out.lt)) hHeld ?_
  try simp only [Act.put, List.setIfInBounds_toArray, List.set_cons_zero, List.set_cons_succ]
  refine wpAnyH_takeL (i := 2) (oi := _) rfl (by kernel_rfl) (by kernel_rfl) (by kernel_rfl) (fun _ _ _ h => h) (yields_ldR (by rfl) _ rfl (by rfl) (fun _ hb => V1.out.below hb V1.out.lt)) hHeld ?_
  try simp only [Act.put, List.setIfInBounds_toArray, List.set_cons_zero, List.set_cons_succ]
  refine wpAnyH_rgt [(1, some 8), (3, some 10), (4, some 5), (5, some 6)] [] (isNewR w2.heap.size) [(1, isR xs ds w2.heap.size), (3, isR xt dt w2.heap.size)] w2 (f0 := 2) (by kernel_rfl) (by kernel_rfl) (by rfl) HB.out (fun _ h => h) (fun _ _ _ _ _ h => h) (isNewR_good _) ⟨isR_good _ _ _, isR_good _ _ _, trivial⟩ ?_ ?_ ?_
  · clear hHeld HB
    show RgOps _ _ _ _ _ _ _ _ _ [1, 3, 4, 5]
    refine RgOps.consL (o := _) (ds := []) rfl rfl (by kernel_rfl) (fun vals wr hbr hC hdep K hK => ?_) ?_
    · have BB := Lib.hid hbr
      clear hdep
      clear hbr hC
      simp only [Upd2, Act.put, List.setIfInBounds_toArray, List.set_cons_zero, List.set_cons_succ] at hK ⊢
      go_simp
      go_at_call 46
      refine Calls.mono (norm_any (L := 100000000) (X0.out.below BB.out) (Y0.out.below BB.out) LZ0.out LD0.out LL2.out HZs.out HDs.out) ?_
      rintro e wq ⟨R, cR, R2, cR2, rfl, ho, ho2, hb⟩
      exact hK.out _ _ (LeavesB.giveR BB.out.size ho ho2 hb)
    refine RgOps.consL (o := _) (ds := [1]) rfl rfl (by kernel_rfl) (fun vals wr hbr hC hdep K hK => ?_) ?_
    · have BB := Lib.hid hbr
      obtain ⟨⟨P1, c1, Q1, k1, e1, o1, u1⟩, -⟩ := hdep
      clear hbr hC
      simp only [e1, Upd2, Act.put, List.setIfInBounds_toArray, List.set_cons_zero, List.set_cons_succ] at hK ⊢
      clear e1
      go_simp
      go_at_call 46
      refine Calls.mono (norm_any (L := 100000000) (X1.out.below BB.out) (Y1.out.below BB.out) LZ1.out LD1.out LL2.out HZt.out HDt.out) ?_
      rintro e wq ⟨R, cR, R2, cR2, rfl, ho, ho2, hb⟩
      exact hK.out _ _ (LeavesB.giveR BB.out.size ho ho2 hb)
    refine RgOps.consL (o := _) (ds := []) rfl rfl (by kernel_rfl) (fun vals wr hbr hC hdep K hK => ?_) ?_
    · have BB := Lib.hid hbr
      clear hdep
      clear hbr hC
      simp only [Upd2, Act.put, List.setIfInBounds_toArray, List.set_cons_zero, List.set_cons_succ] at hK ⊢
      go_simp
      exact hK.out _ _ (LeavesB.newR BB.out.size)
    refine RgOps.consL (o := _) (ds := []) rfl rfl (by kernel_rfl) (fun vals wr hbr hC hdep K hK => ?_) RgOps.nil
    · have BB := Lib.hid hbr
      clear hdep
      clear hbr hC
      simp only [Upd2, Act.put, List.setIfInBounds_toArray, List.set_cons_zero, List.set_cons_succ] at hK ⊢
      go_simp
      exact hK.out _ _ (LeavesB.newR BB.out.size)
  · clear hHeld HB
    show TaAll _ _ _ _ _ []
    exact TaAll.nil
  clear hHeld HB
  intro vals wr hb hdep hD
  have NG0 := Lib.hid (hD 4 (by decide) 5 (by decide) (by decide))
  obtain ⟨⟨P1, c1, Q1, k1, e1, o1, u1⟩, ⟨P3, c3, Q3, k3, e3, o3, u3⟩, ⟨g4, e4, l4, z4⟩, ⟨g5, e5, l5, z5⟩, -⟩ := hdep
  have NG : Hid (g4 ≠ g5) := fun e => NG0.out g4 (by rw [e4]; rfl) (by rw [e5, e]; rfl)
  simp only [Upd2, e1, e3, e4, e5, Act.put, List.setIfInBounds_toArray, List.set_cons_zero, List.set_cons_succ]
  clear NG0 e1 e3 e4 e5
  clear hD vals
  replace V0 := Lib.hid (V0.out.below hb V0.out.lt)
  replace X0 := Lib.hid (X0.out.below hb)
  replace Y0 := Lib.hid (Y0.out.below hb)
  replace V1 := Lib.hid (V1.out.below hb V1.out.lt)
  replace X1 := Lib.hid (X1.out.below hb)
  replace Y1 := Lib.hid (Y1.out.below hb)
  replace B1 := Lib.hid (B1.out.trans (hb.mono B1.out.size))
  have HB := Lib.hid hb
  clear hb
  have Zs := Lib.hid (Zo.of_own o1); have Ns := Lib.hid u1.rd; have Zt := Lib.hid (Zo.of_own o3); have Nt := Lib.hid u3.rd; have G1 := Lib.hid z4; have G2 := Lib.hid z5; have LL1 := Lib.hid l4; have LLB := Lib.hid l5; have LG1 : Hid (w.heap.size + 1 < g4) := Nat.lt_of_lt_of_le LT.out l4; have LG2 : Hid (w.heap.size + 1 < g5) := Nat.lt_of_lt_of_le LT.out l5
  clear o1 u1 o3 u3 z4 z5 l4 l5
  refine wpAnyH_ready (rs := [6]) (by kernel_rfl) (by simp) ?_
  refine AllReadyH.consL (o := _) rfl (fun K hK => ?_) AllReadyH.nil
  rw [if_pos (by rfl)]
  refine wp_stR _ _ rfl (by rfl) (by rfl) G1.out ?_
  intro ws0 hz hg
  replace HB := Lib.hid (Below.gr HB.out (by have := LL1.out; have := LLB.out; omega) hg HB.out.size)
  replace V0 := Lib.hid (V0.out.gro hg (by have := LG1.out; have := LG2.out; have := NG.out; omega))
  replace X0 := Lib.hid (X0.out.grR G1.out hg)
  replace Y0 := Lib.hid (Y0.out.grR G1.out hg)
  replace V1 := Lib.hid (V1.out.gro hg (by have := LG1.out; have := LG2.out; have := NG.out; omega))
  replace X1 := Lib.hid (X1.out.grR G1.out hg)
  replace Y1 := Lib.hid (Y1.out.grR G1.out hg)
  replace Zs := Lib.hid (Zs.out.grR G1.out hg)
  replace Ns := Lib.hid (Ns.out.grR G1.out hg)
  replace Zt := Lib.hid (Zt.out.grR G1.out hg)
  replace Nt := Lib.hid (Nt.out.grR G1.out hg)
  replace G2 := Lib.hid (G2.out.gro hg (by have := LG1.out; have := LG2.out; have := NG.out; omega))
  replace B1 := Lib.hid (Below.gr B1.out (by have := LG1.out; have := LG2.out; have := NG.out; omega) hg B1.out.size)
  replace G1 := Lib.hid hz
  refine hK.out _ _ ⟨HB.out, HB.out⟩ (fun _ => ?_)
  clear hK K hg hz
  try simp only [Act.put]
  refine wpAnyH_ready (rs := [7]) (by kernel_rfl) (by simp) ?_
  refine AllReadyH.consL (o := _) rfl (fun K hK => ?_) AllReadyH.nil
  rw [if_pos (by rfl)]
  refine wp_stR _ _ rfl (by rfl) (by rfl) G2.out ?_
  intro ws1 hz hg
  replace HB := Lib.hid (Below.gr HB.out (by have := LL1.out; have := LLB.out; omega) hg HB.out.size)
  replace V0 := Lib.hid (V0.out.gro hg (by have := LG1.out; have := LG2.out; have := NG.out; omega))
  replace X0 := Lib.hid (X0.out.grR G2.out hg)
  replace Y0 := Lib.hid (Y0.out.grR G2.out hg)
  replace V1 := Lib.hid (V1.out.gro hg (by have := LG1.out; have := LG2.out; have := NG.out; omega))
  replace X1 := Lib.hid (X1.out.grR G2.out hg)
  replace Y1 := Lib.hid (Y1.out.grR G2.out hg)
  replace Zs := Lib.hid (Zs.out.grR G2.out hg)
  replace Ns := Lib.hid (Ns.out.grR G2.out hg)
  replace Zt := Lib.hid (Zt.out.grR G2.out hg)
  replace Nt := Lib.hid (Nt.out.grR G2.out hg)
  replace G1 := Lib.hid (G1.out.gro hg (by have := LG1.out; have := LG2.out; have := NG.out; omega))
  replace B1 := Lib.hid (Below.gr B1.out (by have := LG1.out; have := LG2.out; have := NG.out; omega) hg B1.out.size)
  replace G2 := Lib.hid hz
  refine hK.out _ _ ⟨HB.out, HB.out⟩ (fun _ => ?_)
  clear hK K hg hz
  try simp only [Act.put]
  refine wpAnyH_done (by kernel_rfl) ?_ _
  clear HB
  go_wp2_with fail
  rcases CR.out with ⟨hr, h⟩ | ⟨hr, h⟩ | ⟨hr, h⟩
  · subst hr
    clear CR
    have CB := Lib.hid h
    clear h
    have HB : Hid (Below ws1.heap.size ws1 ws1.drew) := below_drewN _ ws1 1
    refine wp_region_held_drew (S := fun w' => Below ws1.heap.size ws1 w') (by kernel_rfl) (HB.out) (fun hHeld => ?_)
    refine wpAnyH_ready (rs := [0]) (by kernel_rfl) (by simp) ?_
    refine AllReadyH.consL (o := _) rfl (fun K hK => ?_) AllReadyH.nil
    clear hHeld
    go_simp
    go_at_call 34
    refine Calls.mono (rawake_any _) ?_
    rintro e v1 ⟨rfl, hb⟩
    replace HB := Lib.hid (HB.out.trans (hb.mono HB.out.size))
    clear hb
    refine hK.out _ _ HB.out (fun hHeld => ?_)
    clear hK K
    try simp only [Act.put, List.setIfInBounds_toArray, List.set_cons_zero, List.set_cons_succ]
    refine wpAnyH_takeL (i := 1) (oi := _) (v := ?_) rfl (by kernel_rfl) (by kernel_rfl) (by kernel_rfl) (fun _ _ _ h => h) (Or.inl ⟨by rfl, ?_⟩) hHeld ?_
    rotate_left
    · (intro w' hSw; (try dsimp only at hSw); go_simp; try (with_reducible rfl))
    try simp only [Act.put, List.setIfInBounds_toArray, List.set_cons_zero, List.set_cons_succ]
    refine wpAnyH_takeL (i := 2) (oi := _) rfl (by kernel_rfl) (by kernel_rfl) (by kernel_rfl) (fun _ _ _ h => h) (yields_ldR (by rfl) _ rfl (by rfl) (fun _ hb => G1.out.below hb G1.out.lt)) hHeld ?_
    try simp only [Act.put, List.setIfInBounds_toArray, List.set_cons_zero, List.set_cons_succ]
    refine wpAnyH_ready (rs := [3]) (by kernel_rfl) (by simp) ?_
    refine AllReadyH.consL (o := _) rfl (fun K hK => ?_) AllReadyH.nil
    clear hHeld
    go_simp
    go_at_call 47
    refine Calls.mono (r3canonical_any (Zs.out.below HB.out) (Ns.out.below HB.out) (Nat.le_trans LZs.out (by decide)) (Nat.le_trans LDs.out (by decide)) CS.out.1 CS.out.2) ?_
    rintro e v2 ⟨rfl, hb⟩
    replace HB := Lib.hid (HB.out.trans (hb.mono HB.out.size))
    clear hb
    refine hK.out _ _ HB.out (fun hHeld => ?_)
    clear hK K
    try simp only [Act.put, List.setIfInBounds_toArray, List.set_cons_zero, List.set_cons_succ]
    refine wpAnyH_takeL (i := 4) (oi := _) (v := ?_) rfl (by kernel_rfl) (by kernel_rfl) (by kernel_rfl) (fun _ _ _ h => h) (Or.inl ⟨by rfl, ?_⟩) hHeld ?_
    rotate_left
    · (intro w' hSw; (try dsimp only at hSw); go_simp; try (with_reducible rfl))
    try simp only [Act.put, List.setIfInBounds_toArray, List.set_cons_zero, List.set_cons_succ]
    refine wpAnyH_takeL (i := 5) (oi := _) (v := ?_) rfl (by kernel_rfl) (by kernel_rfl) (by kernel_rfl) (fun _ _ _ h => h) (Or.inl ⟨by rfl, ?_⟩) hHeld ?_
    rotate_left
    · (intro w' hSw; (try dsimp only at hSw); go_simp; try (with_reducible rfl))
    try simp only [Act.put, List.setIfInBounds_toArray, List.set_cons_zero, List.set_cons_succ]
    refine wpAnyH_takeL (i := 6) (oi := _) rfl (by kernel_rfl) (by kernel_rfl) (by kernel_rfl) (fun _ _ _ h => h) (yields_ldR (by rfl) _ rfl (by rfl) (fun _ hb => G1.out.below hb G1.out.lt)) hHeld ?_
    try simp only [Act.put, List.setIfInBounds_toArray, List.set_cons_zero, List.set_cons_succ]
    refine wpAnyH_takeL (i := 7) (oi := _) rfl (by kernel_rfl) (by kernel_rfl) (by kernel_rfl) (fun _ _ _ h => h) (yields_ldR (by rfl) _ rfl (by rfl) (fun _ hb => G2.out.below hb G2.out.lt)) hHeld ?_
    try simp only [Act.put, List.setIfInBounds_toArray, List.set_cons_zero, List.set_cons_succ]
    refine wpAnyH_takeL (i := 9) (oi := _) rfl (by kernel_rfl) (by kernel_rfl) (by kernel_rfl) (fun _ _ _ h => h) (yields_ldR (by rfl) _ rfl (by rfl) (fun _ hb => V0.out.below hb V0.out.lt)) hHeld ?_
    try simp only [Act.put, List.setIfInBounds_toArray, List.set_cons_zero, List.set_cons_succ]
    refine wpAnyH_takeL (i := 10) (oi := _) rfl (by kernel_rfl) (by kernel_rfl) (by kernel_rfl) (fun _ _ _ h => h) (yields_ldR (by rfl) _ rfl (by rfl) (fun _ hb => V1.out.below hb V1.out.lt)) hHeld ?_
    try simp only [Act.put, List.setIfInBounds_toArray, List.set_cons_zero, List.set_cons_succ]
    refine wpAnyH_ready (rs := [8]) (by kernel_rfl) (by simp) ?_
    refine AllReadyH.consL (o := _) rfl (fun K hK => ?_) AllReadyH.nil
    clear hHeld
    go_simp
    go_at_call 33
    refine Calls.mono (r3equal_any (b := false) (Zs.out.below HB.out) (Zt.out.below HB.out) (Ns.out.below HB.out) (Nt.out.below HB.out) (CB.out)) ?_
    rintro e v3 ⟨rfl, hb⟩
    replace HB := Lib.hid (HB.out.trans (hb.mono HB.out.size))
    clear hb
    refine hK.out _ _ HB.out (fun hHeld => ?_)
    clear hK K
    try simp only [Act.put, List.setIfInBounds_toArray, List.set_cons_zero, List.set_cons_succ]
    refine wpAnyH_ready (rs := [11]) (by kernel_rfl) (by simp) ?_
    refine AllReadyH.consL (o := _) rfl (fun K hK => ?_) AllReadyH.nil
    clear hHeld
    go_simp
    go_at_call 48
    refine Calls.mono (r3compare_any (r := (-1)) (X0.out.below HB.out) (Y0.out.below HB.out) (X1.out.below HB.out) (Y1.out.below HB.out) (Nat.le_trans LZ0.out (by decide)) (Nat.le_trans LD0.out (by decide)) (Nat.le_trans LZ1.out (by decide)) (Nat.le_trans LD1.out (by decide)) SR.out) ?_
    rintro e v4 ⟨rfl, hb⟩
    replace HB := Lib.hid (HB.out.trans (hb.mono HB.out.size))
    clear hb
    refine hK.out _ _ HB.out (fun hHeld => ?_)
    clear hK K
    try simp only [Act.put, List.setIfInBounds_toArray, List.set_cons_zero, List.set_cons_succ]
    refine wpAnyH_takeL (i := 12) (oi := _) (v := ?_) rfl (by kernel_rfl) (by kernel_rfl) (by kernel_rfl) (fun _ _ _ h => h) (Or.inl ⟨by rfl, ?_⟩) hHeld ?_
    rotate_left
    · (intro w' hSw; (try dsimp only at hSw); go_simp; try (with_reducible rfl))
    try simp only [Act.put, List.setIfInBounds_toArray, List.set_cons_zero, List.set_cons_succ]
    refine wpAnyH_takeL (i := 13) (oi := _) (v := ?_) rfl (by kernel_rfl) (by kernel_rfl) (by kernel_rfl) (fun _ _ _ h => h) (Or.inl ⟨by rfl, ?_⟩) hHeld ?_
    rotate_left
    · (intro w' hSw; (try dsimp only at hSw); go_simp; try (with_reducible rfl))
    try simp only [Act.put, List.setIfInBounds_toArray, List.set_cons_zero, List.set_cons_succ]
    refine wpAnyH_takeL (i := 14) (oi := _) (v := ?_) rfl (by kernel_rfl) (by kernel_rfl) (by kernel_rfl) (fun _ _ _ h => h) (Or.inl ⟨by rfl, ?_⟩) hHeld ?_
    rotate_left
    · (intro w' hSw; (try dsimp only at hSw); go_simp; try (with_reducible rfl))
    try simp only [Act.put, List.setIfInBounds_toArray, List.set_cons_zero, List.set_cons_succ]
    refine wpAnyH_takeL (i := 15) (oi := _) (v := ?_) rfl (by kernel_rfl) (by kernel_rfl) (by kernel_rfl) (fun _ _ _ h => h) (Or.inl ⟨by rfl, ?_⟩) hHeld ?_
    rotate_left
    · (intro w' hSw; (try dsimp only at hSw); go_simp; try (with_reducible rfl))
    try simp only [Act.put, List.setIfInBounds_toArray, List.set_cons_zero, List.set_cons_succ]
    refine wpAnyH_takeL (i := 16) (oi := _) rfl (by kernel_rfl) (by kernel_rfl) (by kernel_rfl) (fun _ _ _ h => h) (yields_ldR (by rfl) _ rfl (by rfl) (fun _ hb => G1.out.below hb G1.out.lt)) hHeld ?_
    try simp only [Act.put, List.setIfInBounds_toArray, List.set_cons_zero, List.set_cons_succ]
    refine wpAnyH_takeL (i := 18) (oi := _) rfl (by kernel_rfl) (by kernel_rfl) (by kernel_rfl) (fun _ _ _ h => h) (yields_ldR (by rfl) _ rfl (by rfl) (fun _ hb => G1.out.below hb G1.out.lt)) hHeld ?_
    try simp only [Act.put, List.setIfInBounds_toArray, List.set_cons_zero, List.set_cons_succ]
    refine wpAnyH_ready (rs := [17]) (by kernel_rfl) (by simp) ?_
    refine AllReadyH.consL (o := _) rfl (fun K hK => ?_) AllReadyH.nil
    clear hHeld
    go_simp
    go_at_call 46
    refine Calls.mono (norm_any (L := 100000000) (z := xu) (d := du) (Zs.out.below HB.out).in_ (Nin.of_rd (Ns.out.below HB.out)) LZs.out LDs.out LL2.out HZu.out HDu.out) ?_
    rintro e v5 ⟨Pu, cu, Qu, ku, rfl, ho, ho2, hb⟩
    replace HB := Lib.hid (HB.out.trans (hb.mono HB.out.size))
    have Zu := Lib.hid (Zo.of_own ho)
    have Nu := Lib.hid ho2.rd
    clear ho ho2
    clear hb
    refine hK.out _ _ HB.out (fun hHeld => ?_)
    clear hK K
    try simp only [Act.put, List.setIfInBounds_toArray, List.set_cons_zero, List.set_cons_succ]
    refine wpAnyH_ready (rs := [19]) (by kernel_rfl) (by simp) ?_
    refine AllReadyH.consL (o := _) rfl (fun K hK => ?_) AllReadyH.nil
    clear hHeld
    go_simp
    go_at_call 33
    refine Calls.mono (r3equal_any (b := true) Zu.out (Zs.out.below HB.out) Nu.out (Ns.out.below HB.out) (by simpa using EQu_s.out)) ?_
    rintro e v6 ⟨rfl, hb⟩
    replace HB := Lib.hid (HB.out.trans (hb.mono HB.out.size))
    replace Zu := Lib.hid (Zu.out.below hb)
    replace Nu := Lib.hid (Nu.out.below hb)
    clear hb
    refine hK.out _ _ HB.out (fun hHeld => ?_)
    clear hK K
    try simp only [Act.put, List.setIfInBounds_toArray, List.set_cons_zero, List.set_cons_succ]
    refine wpAnyH_takeL (i := 20) (oi := _) (v := ?_) rfl (by kernel_rfl) (by kernel_rfl) (by kernel_rfl) (fun _ _ _ h => h) (Or.inl ⟨by rfl, ?_⟩) hHeld ?_
    rotate_left
    · (intro w' hSw; (try dsimp only at hSw); go_simp; try (with_reducible rfl))
    try simp only [Act.put, List.setIfInBounds_toArray, List.set_cons_zero, List.set_cons_succ]
    refine wpAnyH_takeL (i := 21) (oi := _) (v := ?_) rfl (by kernel_rfl) (by kernel_rfl) (by kernel_rfl) (fun _ _ _ h => h) (Or.inl ⟨by rfl, ?_⟩) hHeld ?_
    rotate_left
    · (intro w' hSw; (try dsimp only at hSw); go_simp; try (with_reducible rfl))
    try simp only [Act.put, List.setIfInBounds_toArray, List.set_cons_zero, List.set_cons_succ]
    skip
    refine wpAnyH_done (by kernel_rfl) ?_ _
    have hb := HB.out
    replace V0 := Lib.hid (V0.out.below hb V0.out.lt)
    replace X0 := Lib.hid (X0.out.below hb)
    replace Y0 := Lib.hid (Y0.out.below hb)
    replace V1 := Lib.hid (V1.out.below hb V1.out.lt)
    replace X1 := Lib.hid (X1.out.below hb)
    replace Y1 := Lib.hid (Y1.out.below hb)
    replace Zs := Lib.hid (Zs.out.below hb)
    replace Ns := Lib.hid (Ns.out.below hb)
    replace Zt := Lib.hid (Zt.out.below hb)
    replace Nt := Lib.hid (Nt.out.below hb)
    replace G1 := Lib.hid (G1.out.below hb G1.out.lt)
    replace G2 := Lib.hid (G2.out.below hb G2.out.lt)
    replace B1 := Lib.hid (B1.out.trans (hb.mono B1.out.size))
    clear hHeld hb HB Zu Nu
    go_wp2
    go_ret
    exact ⟨rfl, B1.out⟩
  · subst hr
    clear CR
    have CB := Lib.hid h
    clear h
    have HB : Hid (Below ws1.heap.size ws1 ws1.drew) := below_drewN _ ws1 1
    refine wp_region_held_drew (S := fun w' => Below ws1.heap.size ws1 w') (by kernel_rfl) (HB.out) (fun hHeld => ?_)
    refine wpAnyH_ready (rs := [0]) (by kernel_rfl) (by simp) ?_
    refine AllReadyH.consL (o := _) rfl (fun K hK => ?_) AllReadyH.nil
    clear hHeld
    go_simp
    go_at_call 34
    refine Calls.mono (rawake_any _) ?_
    rintro e v1 ⟨rfl, hb⟩
    replace HB := Lib.hid (HB.out.trans (hb.mono HB.out.size))
    clear hb
    refine hK.out _ _ HB.out (fun hHeld => ?_)
    clear hK K
    try simp only [Act.put, List.setIfInBounds_toArray, List.set_cons_zero, List.set_cons_succ]
    refine wpAnyH_takeL (i := 1) (oi := _) (v := ?_) rfl (by kernel_rfl) (by kernel_rfl) (by kernel_rfl) (fun _ _ _ h => h) (Or.inl ⟨by rfl, ?_⟩) hHeld ?_
    rotate_left
    · (intro w' hSw; (try dsimp only at hSw); go_simp; try (with_reducible rfl))
    try simp only [Act.put, List.setIfInBounds_toArray, List.set_cons_zero, List.set_cons_succ]
    refine wpAnyH_takeL (i := 2) (oi := _) rfl (by kernel_rfl) (by kernel_rfl) (by kernel_rfl) (fun _ _ _ h => h) (yields_ldR (by rfl) _ rfl (by rfl) (fun _ hb => G1.out.below hb G1.out.lt)) hHeld ?_
    try simp only [Act.put, List.setIfInBounds_toArray, List.set_cons_zero, List.set_cons_succ]
    refine wpAnyH_ready (rs := [3]) (by kernel_rfl) (by simp) ?_
    refine AllReadyH.consL (o := _) rfl (fun K hK => ?_) AllReadyH.nil
    clear hHeld
    go_simp
    go_at_call 47
    refine Calls.mono (r3canonical_any (Zs.out.below HB.out) (Ns.out.below HB.out) (Nat.le_trans LZs.out (by decide)) (Nat.le_trans LDs.out (by decide)) CS.out.1 CS.out.2) ?_
    rintro e v2 ⟨rfl, hb⟩
    replace HB := Lib.hid (HB.out.trans (hb.mono HB.out.size))
    clear hb
    refine hK.out _ _ HB.out (fun hHeld => ?_)
    clear hK K
    try simp only [Act.put, List.setIfInBounds_toArray, List.set_cons_zero, List.set_cons_succ]
    refine wpAnyH_takeL (i := 4) (oi := _) (v := ?_) rfl (by kernel_rfl) (by kernel_rfl) (by kernel_rfl) (fun _ _ _ h => h) (Or.inl ⟨by rfl, ?_⟩) hHeld ?_
    rotate_left
    · (intro w' hSw; (try dsimp only at hSw); go_simp; try (with_reducible rfl))
    try simp only [Act.put, List.setIfInBounds_toArray, List.set_cons_zero, List.set_cons_succ]
    refine wpAnyH_takeL (i := 5) (oi := _) (v := ?_) rfl (by kernel_rfl) (by kernel_rfl) (by kernel_rfl) (fun _ _ _ h => h) (Or.inl ⟨by rfl, ?_⟩) hHeld ?_
    rotate_left
    · (intro w' hSw; (try dsimp only at hSw); go_simp; try (with_reducible rfl))
    try simp only [Act.put, List.setIfInBounds_toArray, List.set_cons_zero, List.set_cons_succ]
    refine wpAnyH_takeL (i := 6) (oi := _) rfl (by kernel_rfl) (by kernel_rfl) (by kernel_rfl) (fun _ _ _ h => h) (yields_ldR (by rfl) _ rfl (by rfl) (fun _ hb => G1.out.below hb G1.out.lt)) hHeld ?_
    try simp only [Act.put, List.setIfInBounds_toArray, List.set_cons_zero, List.set_cons_succ]
    refine wpAnyH_takeL (i := 7) (oi := _) rfl (by kernel_rfl) (by kernel_rfl) (by kernel_rfl) (fun _ _ _ h => h) (yields_ldR (by rfl) _ rfl (by rfl) (fun _ hb => G2.out.below hb G2.out.lt)) hHeld ?_
    try simp only [Act.put, List.setIfInBounds_toArray, List.set_cons_zero, List.set_cons_succ]
    refine wpAnyH_takeL (i := 9) (oi := _) rfl (by kernel_rfl) (by kernel_rfl) (by kernel_rfl) (fun _ _ _ h => h) (yields_ldR (by rfl) _ rfl (by rfl) (fun _ hb => V0.out.below hb V0.out.lt)) hHeld ?_
    try simp only [Act.put, List.setIfInBounds_toArray, List.set_cons_zero, List.set_cons_succ]
    refine wpAnyH_takeL (i := 10) (oi := _) rfl (by kernel_rfl) (by kernel_rfl) (by kernel_rfl) (fun _ _ _ h => h) (yields_ldR (by rfl) _ rfl (by rfl) (fun _ hb => V1.out.below hb V1.out.lt)) hHeld ?_
    try simp only [Act.put, List.setIfInBounds_toArray, List.set_cons_zero, List.set_cons_succ]
    refine wpAnyH_ready (rs := [8]) (by kernel_rfl) (by simp) ?_
    refine AllReadyH.consL (o := _) rfl (fun K hK => ?_) AllReadyH.nil
    clear hHeld
    go_simp
    go_at_call 33
    refine Calls.mono (r3equal_any (b := true) (Zs.out.below HB.out) (Zt.out.below HB.out) (Ns.out.below HB.out) (Nt.out.below HB.out) (CB.out)) ?_
    rintro e v3 ⟨rfl, hb⟩
    replace HB := Lib.hid (HB.out.trans (hb.mono HB.out.size))
    clear hb
    refine hK.out _ _ HB.out (fun hHeld => ?_)
    clear hK K
    try simp only [Act.put, List.setIfInBounds_toArray, List.set_cons_zero, List.set_cons_succ]
    refine wpAnyH_ready (rs := [11]) (by kernel_rfl) (by simp) ?_
    refine AllReadyH.consL (o := _) rfl (fun K hK => ?_) AllReadyH.nil
    clear hHeld
    go_simp
    go_at_call 48
    refine Calls.mono (r3compare_any (r := 0) (X0.out.below HB.out) (Y0.out.below HB.out) (X1.out.below HB.out) (Y1.out.below HB.out) (Nat.le_trans LZ0.out (by decide)) (Nat.le_trans LD0.out (by decide)) (Nat.le_trans LZ1.out (by decide)) (Nat.le_trans LD1.out (by decide)) SR.out) ?_
    rintro e v4 ⟨rfl, hb⟩
    replace HB := Lib.hid (HB.out.trans (hb.mono HB.out.size))
    clear hb
    refine hK.out _ _ HB.out (fun hHeld => ?_)
    clear hK K
    try simp only [Act.put, List.setIfInBounds_toArray, List.set_cons_zero, List.set_cons_succ]
    refine wpAnyH_takeL (i := 12) (oi := _) (v := ?_) rfl (by kernel_rfl) (by kernel_rfl) (by kernel_rfl) (fun _ _ _ h => h) (Or.inl ⟨by rfl, ?_⟩) hHeld ?_
    rotate_left
    · (intro w' hSw; (try dsimp only at hSw); go_simp; try (with_reducible rfl))
    try simp only [Act.put, List.setIfInBounds_toArray, List.set_cons_zero, List.set_cons_succ]
    refine wpAnyH_takeL (i := 13) (oi := _) (v := ?_) rfl (by kernel_rfl) (by kernel_rfl) (by kernel_rfl) (fun _ _ _ h => h) (Or.inl ⟨by rfl, ?_⟩) hHeld ?_
    rotate_left
    · (intro w' hSw; (try dsimp only at hSw); go_simp; try (with_reducible rfl))
    try simp only [Act.put, List.setIfInBounds_toArray, List.set_cons_zero, List.set_cons_succ]
    refine wpAnyH_takeL (i := 14) (oi := _) (v := ?_) rfl (by kernel_rfl) (by kernel_rfl) (by kernel_rfl) (fun _ _ _ h => h) (Or.inl ⟨by rfl, ?_⟩) hHeld ?_
    rotate_left
    · (intro w' hSw; (try dsimp only at hSw); go_simp; try (with_reducible rfl))
    try simp only [Act.put, List.setIfInBounds_toArray, List.set_cons_zero, List.set_cons_succ]
    refine wpAnyH_takeL (i := 15) (oi := _) (v := ?_) rfl (by kernel_rfl) (by kernel_rfl) (by kernel_rfl) (fun _ _ _ h => h) (Or.inl ⟨by rfl, ?_⟩) hHeld ?_
    rotate_left
    · (intro w' hSw; (try dsimp only at hSw); go_simp; try (with_reducible rfl))
    try simp only [Act.put, List.setIfInBounds_toArray, List.set_cons_zero, List.set_cons_succ]
    refine wpAnyH_takeL (i := 16) (oi := _) rfl (by kernel_rfl) (by kernel_rfl) (by kernel_rfl) (fun _ _ _ h => h) (yields_ldR (by rfl) _ rfl (by rfl) (fun _ hb => G1.out.below hb G1.out.lt)) hHeld ?_
    try simp only [Act.put, List.setIfInBounds_toArray, List.set_cons_zero, List.set_cons_succ]
    refine wpAnyH_takeL (i := 18) (oi := _) rfl (by kernel_rfl) (by kernel_rfl) (by kernel_rfl) (fun _ _ _ h => h) (yields_ldR (by rfl) _ rfl (by rfl) (fun _ hb => G1.out.below hb G1.out.lt)) hHeld ?_
    try simp only [Act.put, List.setIfInBounds_toArray, List.set_cons_zero, List.set_cons_succ]
    refine wpAnyH_ready (rs := [17]) (by kernel_rfl) (by simp) ?_
    refine AllReadyH.consL (o := _) rfl (fun K hK => ?_) AllReadyH.nil
    clear hHeld
    go_simp
    go_at_call 46
    refine Calls.mono (norm_any (L := 100000000) (z := xu) (d := du) (Zs.out.below HB.out).in_ (Nin.of_rd (Ns.out.below HB.out)) LZs.out LDs.out LL2.out HZu.out HDu.out) ?_
    rintro e v5 ⟨Pu, cu, Qu, ku, rfl, ho, ho2, hb⟩
    replace HB := Lib.hid (HB.out.trans (hb.mono HB.out.size))
    have Zu := Lib.hid (Zo.of_own ho)
    have Nu := Lib.hid ho2.rd
    clear ho ho2
    clear hb
    refine hK.out _ _ HB.out (fun hHeld => ?_)
    clear hK K
    try simp only [Act.put, List.setIfInBounds_toArray, List.set_cons_zero, List.set_cons_succ]
    refine wpAnyH_ready (rs := [19]) (by kernel_rfl) (by simp) ?_
    refine AllReadyH.consL (o := _) rfl (fun K hK => ?_) AllReadyH.nil
    clear hHeld
    go_simp
    go_at_call 33
    refine Calls.mono (r3equal_any (b := true) Zu.out (Zs.out.below HB.out) Nu.out (Ns.out.below HB.out) (by simpa using EQu_s.out)) ?_
    rintro e v6 ⟨rfl, hb⟩
    replace HB := Lib.hid (HB.out.trans (hb.mono HB.out.size))
    replace Zu := Lib.hid (Zu.out.below hb)
    replace Nu := Lib.hid (Nu.out.below hb)
    clear hb
    refine hK.out _ _ HB.out (fun hHeld => ?_)
    clear hK K
    try simp only [Act.put, List.setIfInBounds_toArray, List.set_cons_zero, List.set_cons_succ]
    refine wpAnyH_takeL (i := 20) (oi := _) (v := ?_) rfl (by kernel_rfl) (by kernel_rfl) (by kernel_rfl) (fun _ _ _ h => h) (Or.inl ⟨by rfl, ?_⟩) hHeld ?_
    rotate_left
    · (intro w' hSw; (try dsimp only at hSw); go_simp; try (with_reducible rfl))
    try simp only [Act.put, List.setIfInBounds_toArray, List.set_cons_zero, List.set_cons_succ]
    refine wpAnyH_takeL (i := 21) (oi := _) (v := ?_) rfl (by kernel_rfl) (by kernel_rfl) (by kernel_rfl) (fun _ _ _ h => h) (Or.inl ⟨by rfl, ?_⟩) hHeld ?_
    rotate_left
    · (intro w' hSw; (try dsimp only at hSw); go_simp; try (with_reducible rfl))
    try simp only [Act.put, List.setIfInBounds_toArray, List.set_cons_zero, List.set_cons_succ]
    skip
    refine wpAnyH_done (by kernel_rfl) ?_ _
    have hb := HB.out
    replace V0 := Lib.hid (V0.out.below hb V0.out.lt)
    replace X0 := Lib.hid (X0.out.below hb)
    replace Y0 := Lib.hid (Y0.out.below hb)
    replace V1 := Lib.hid (V1.out.below hb V1.out.lt)
    replace X1 := Lib.hid (X1.out.below hb)
    replace Y1 := Lib.hid (Y1.out.below hb)
    replace Zs := Lib.hid (Zs.out.below hb)
    replace Ns := Lib.hid (Ns.out.below hb)
    replace Zt := Lib.hid (Zt.out.below hb)
    replace Nt := Lib.hid (Nt.out.below hb)
    replace G1 := Lib.hid (G1.out.below hb G1.out.lt)
    replace G2 := Lib.hid (G2.out.below hb G2.out.lt)
    replace B1 := Lib.hid (B1.out.trans (hb.mono B1.out.size))
    clear hHeld hb HB Zu Nu
    go_wp2
    go_ret
    exact ⟨rfl, B1.out⟩
  · subst hr
    clear CR
    have CB := Lib.hid h
    clear h
    have HB : Hid (Below ws1.heap.size ws1 ws1.drew) := below_drewN _ ws1 1
    refine wp_region_held_drew (S := fun w' => Below ws1.heap.size ws1 w') (by kernel_rfl) (HB.out) (fun hHeld => ?_)
    refine wpAnyH_ready (rs := [0]) (by kernel_rfl) (by simp) ?_
    refine AllReadyH.consL (o := _) rfl (fun K hK => ?_) AllReadyH.nil
    clear hHeld
    go_simp
    go_at_call 34
    refine Calls.mono (rawake_any _) ?_
    rintro e v1 ⟨rfl, hb⟩
    replace HB := Lib.hid (HB.out.trans (hb.mono HB.out.size))
    clear hb
    refine hK.out _ _ HB.out (fun hHeld => ?_)
    clear hK K
    try simp only [Act.put, List.setIfInBounds_toArray, List.set_cons_zero, List.set_cons_succ]
    refine wpAnyH_takeL (i := 1) (oi := _) (v := ?_) rfl (by kernel_rfl) (by kernel_rfl) (by kernel_rfl) (fun _ _ _ h => h) (Or.inl ⟨by rfl, ?_⟩) hHeld ?_
    rotate_left
    · (intro w' hSw; (try dsimp only at hSw); go_simp; try (with_reducible rfl))
    try simp only [Act.put, List.setIfInBounds_toArray, List.set_cons_zero, List.set_cons_succ]
    refine wpAnyH_takeL (i := 2) (oi := _) rfl (by kernel_rfl) (by kernel_rfl) (by kernel_rfl) (fun _ _ _ h => h) (yields_ldR (by rfl) _ rfl (by rfl) (fun _ hb => G1.out.below hb G1.out.lt)) hHeld ?_
    try simp only [Act.put, List.setIfInBounds_toArray, List.set_cons_zero, List.set_cons_succ]
    refine wpAnyH_ready (rs := [3]) (by kernel_rfl) (by simp) ?_
    refine AllReadyH.consL (o := _) rfl (fun K hK => ?_) AllReadyH.nil
    clear hHeld
    go_simp
    go_at_call 47
    refine Calls.mono (r3canonical_any (Zs.out.below HB.out) (Ns.out.below HB.out) (Nat.le_trans LZs.out (by decide)) (Nat.le_trans LDs.out (by decide)) CS.out.1 CS.out.2) ?_
    rintro e v2 ⟨rfl, hb⟩
    replace HB := Lib.hid (HB.out.trans (hb.mono HB.out.size))
    clear hb
    refine hK.out _ _ HB.out (fun hHeld => ?_)
    clear hK K
    try simp only [Act.put, List.setIfInBounds_toArray, List.set_cons_zero, List.set_cons_succ]
    refine wpAnyH_takeL (i := 4) (oi := _) (v := ?_) rfl (by kernel_rfl) (by kernel_rfl) (by kernel_rfl) (fun _ _ _ h => h) (Or.inl ⟨by rfl, ?_⟩) hHeld ?_
    rotate_left
    · (intro w' hSw; (try dsimp only at hSw); go_simp; try (with_reducible rfl))
    try simp only [Act.put, List.setIfInBounds_toArray, List.set_cons_zero, List.set_cons_succ]
    refine wpAnyH_takeL (i := 5) (oi := _) (v := ?_) rfl (by kernel_rfl) (by kernel_rfl) (by kernel_rfl) (fun _ _ _ h => h) (Or.inl ⟨by rfl, ?_⟩) hHeld ?_
    rotate_left
    · (intro w' hSw; (try dsimp only at hSw); go_simp; try (with_reducible rfl))
    try simp only [Act.put, List.setIfInBounds_toArray, List.set_cons_zero, List.set_cons_succ]
    refine wpAnyH_takeL (i := 6) (oi := _) rfl (by kernel_rfl) (by kernel_rfl) (by kernel_rfl) (fun _ _ _ h => h) (yields_ldR (by rfl) _ rfl (by rfl) (fun _ hb => G1.out.below hb G1.out.lt)) hHeld ?_
    try simp only [Act.put, List.setIfInBounds_toArray, List.set_cons_zero, List.set_cons_succ]
    refine wpAnyH_takeL (i := 7) (oi := _) rfl (by kernel_rfl) (by kernel_rfl) (by kernel_rfl) (fun _ _ _ h => h) (yields_ldR (by rfl) _ rfl (by rfl) (fun _ hb => G2.out.below hb G2.out.lt)) hHeld ?_
    try simp only [Act.put, List.setIfInBounds_toArray, List.set_cons_zero, List.set_cons_succ]
    refine wpAnyH_takeL (i := 9) (oi := _) rfl (by kernel_rfl) (by kernel_rfl) (by kernel_rfl) (fun _ _ _ h => h) (yields_ldR (by rfl) _ rfl (by rfl) (fun _ hb => V0.out.below hb V0.out.lt)) hHeld ?_
    try simp only [Act.put, List.setIfInBounds_toArray, List.set_cons_zero, List.set_cons_succ]
    refine wpAnyH_takeL (i := 10) (oi := _) rfl (by kernel_rfl) (by kernel_rfl) (by kernel_rfl) (fun _ _ _ h => h) (yields_ldR (by rfl) _ rfl (by rfl) (fun _ hb => V1.out.below hb V1.out.lt)) hHeld ?_
    try simp only [Act.put, List.setIfInBounds_toArray, List.set_cons_zero, List.set_cons_succ]
    refine wpAnyH_ready (rs := [8]) (by kernel_rfl) (by simp) ?_
    refine AllReadyH.consL (o := _) rfl (fun K hK => ?_) AllReadyH.nil
    clear hHeld
    go_simp
    go_at_call 33
    refine Calls.mono (r3equal_any (b := false) (Zs.out.below HB.out) (Zt.out.below HB.out) (Ns.out.below HB.out) (Nt.out.below HB.out) (CB.out)) ?_
    rintro e v3 ⟨rfl, hb⟩
    replace HB := Lib.hid (HB.out.trans (hb.mono HB.out.size))
    clear hb
    refine hK.out _ _ HB.out (fun hHeld => ?_)
    clear hK K
    try simp only [Act.put, List.setIfInBounds_toArray, List.set_cons_zero, List.set_cons_succ]
    refine wpAnyH_ready (rs := [11]) (by kernel_rfl) (by simp) ?_
    refine AllReadyH.consL (o := _) rfl (fun K hK => ?_) AllReadyH.nil
    clear hHeld
    go_simp
    go_at_call 48
    refine Calls.mono (r3compare_any (r := 1) (X0.out.below HB.out) (Y0.out.below HB.out) (X1.out.below HB.out) (Y1.out.below HB.out) (Nat.le_trans LZ0.out (by decide)) (Nat.le_trans LD0.out (by decide)) (Nat.le_trans LZ1.out (by decide)) (Nat.le_trans LD1.out (by decide)) SR.out) ?_
    rintro e v4 ⟨rfl, hb⟩
    replace HB := Lib.hid (HB.out.trans (hb.mono HB.out.size))
    clear hb
    refine hK.out _ _ HB.out (fun hHeld => ?_)
    clear hK K
    try simp only [Act.put, List.setIfInBounds_toArray, List.set_cons_zero, List.set_cons_succ]
    refine wpAnyH_takeL (i := 12) (oi := _) (v := ?_) rfl (by kernel_rfl) (by kernel_rfl) (by kernel_rfl) (fun _ _ _ h => h) (Or.inl ⟨by rfl, ?_⟩) hHeld ?_
    rotate_left
    · (intro w' hSw; (try dsimp only at hSw); go_simp; try (with_reducible rfl))
    try simp only [Act.put, List.setIfInBounds_toArray, List.set_cons_zero, List.set_cons_succ]
    refine wpAnyH_takeL (i := 13) (oi := _) (v := ?_) rfl (by kernel_rfl) (by kernel_rfl) (by kernel_rfl) (fun _ _ _ h => h) (Or.inl ⟨by rfl, ?_⟩) hHeld ?_
    rotate_left
    · (intro w' hSw; (try dsimp only at hSw); go_simp; try (with_reducible rfl))
    try simp only [Act.put, List.setIfInBounds_toArray, List.set_cons_zero, List.set_cons_succ]
    refine wpAnyH_takeL (i := 14) (oi := _) (v := ?_) rfl (by kernel_rfl) (by kernel_rfl) (by kernel_rfl) (fun _ _ _ h => h) (Or.inl ⟨by rfl, ?_⟩) hHeld ?_
    rotate_left
    · (intro w' hSw; (try dsimp only at hSw); go_simp; try (with_reducible rfl))
    try simp only [Act.put, List.setIfInBounds_toArray, List.set_cons_zero, List.set_cons_succ]
    refine wpAnyH_takeL (i := 15) (oi := _) (v := ?_) rfl (by kernel_rfl) (by kernel_rfl) (by kernel_rfl) (fun _ _ _ h => h) (Or.inl ⟨by rfl, ?_⟩) hHeld ?_
    rotate_left
    · (intro w' hSw; (try dsimp only at hSw); go_simp; try (with_reducible rfl))
    try simp only [Act.put, List.setIfInBounds_toArray, List.set_cons_zero, List.set_cons_succ]
    refine wpAnyH_takeL (i := 16) (oi := _) rfl (by kernel_rfl) (by kernel_rfl) (by kernel_rfl) (fun _ _ _ h => h) (yields_ldR (by rfl) _ rfl (by rfl) (fun _ hb => G1.out.below hb G1.out.lt)) hHeld ?_
    try simp only [Act.put, List.setIfInBounds_toArray, List.set_cons_zero, List.set_cons_succ]
    refine wpAnyH_takeL (i := 18) (oi := _) rfl (by kernel_rfl) (by kernel_rfl) (by kernel_rfl) (fun _ _ _ h => h) (yields_ldR (by rfl) _ rfl (by rfl) (fun _ hb => G1.out.below hb G1.out.lt)) hHeld ?_
    try simp only [Act.put, List.setIfInBounds_toArray, List.set_cons_zero, List.set_cons_succ]
    refine wpAnyH_ready (rs := [17]) (by kernel_rfl) (by simp) ?_
    refine AllReadyH.consL (o := _) rfl (fun K hK => ?_) AllReadyH.nil
    clear hHeld
    go_simp
    go_at_call 46
    refine Calls.mono (norm_any (L := 100000000) (z := xu) (d := du) (Zs.out.below HB.out).in_ (Nin.of_rd (Ns.out.below HB.out)) LZs.out LDs.out LL2.out HZu.out HDu.out) ?_
    rintro e v5 ⟨Pu, cu, Qu, ku, rfl, ho, ho2, hb⟩
    replace HB := Lib.hid (HB.out.trans (hb.mono HB.out.size))
    have Zu := Lib.hid (Zo.of_own ho)
    have Nu := Lib.hid ho2.rd
    clear ho ho2
    clear hb
    refine hK.out _ _ HB.out (fun hHeld => ?_)
    clear hK K
    try simp only [Act.put, List.setIfInBounds_toArray, List.set_cons_zero, List.set_cons_succ]
    refine wpAnyH_ready (rs := [19]) (by kernel_rfl) (by simp) ?_
    refine AllReadyH.consL (o := _) rfl (fun K hK => ?_) AllReadyH.nil
    clear hHeld
    go_simp
    go_at_call 33
    refine Calls.mono (r3equal_any (b := true) Zu.out (Zs.out.below HB.out) Nu.out (Ns.out.below HB.out) (by simpa using EQu_s.out)) ?_
    rintro e v6 ⟨rfl, hb⟩
    replace HB := Lib.hid (HB.out.trans (hb.mono HB.out.size))
    replace Zu := Lib.hid (Zu.out.below hb)
    replace Nu := Lib.hid (Nu.out.below hb)
    clear hb
    refine hK.out _ _ HB.out (fun hHeld => ?_)
    clear hK K
    try simp only [Act.put, List.setIfInBounds_toArray, List.set_cons_zero, List.set_cons_succ]
    refine wpAnyH_takeL (i := 20) (oi := _) (v := ?_) rfl (by kernel_rfl) (by kernel_rfl) (by kernel_rfl) (fun _ _ _ h => h) (Or.inl ⟨by rfl, ?_⟩) hHeld ?_
    rotate_left
    · (intro w' hSw; (try dsimp only at hSw); go_simp; try (with_reducible rfl))
    try simp only [Act.put, List.setIfInBounds_toArray, List.set_cons_zero, List.set_cons_succ]
    refine wpAnyH_takeL (i := 21) (oi := _) (v := ?_) rfl (by kernel_rfl) (by kernel_rfl) (by kernel_rfl) (fun _ _ _ h => h) (Or.inl ⟨by rfl, ?_⟩) hHeld ?_
    rotate_left
    · (intro w' hSw; (try dsimp only at hSw); go_simp; try (with_reducible rfl))
    try simp only [Act.put, List.setIfInBounds_toArray, List.set_cons_zero, List.set_cons_succ]
    skip
    refine wpAnyH_done (by kernel_rfl) ?_ _
    have hb := HB.out
    replace V0 := Lib.hid (V0.out.below hb V0.out.lt)
    replace X0 := Lib.hid (X0.out.below hb)
    replace Y0 := Lib.hid (Y0.out.below hb)
    replace V1 := Lib.hid (V1.out.below hb V1.out.lt)
    replace X1 := Lib.hid (X1.out.below hb)
    replace Y1 := Lib.hid (Y1.out.below hb)
    replace Zs := Lib.hid (Zs.out.below hb)
    replace Ns := Lib.hid (Ns.out.below hb)
    replace Zt := Lib.hid (Zt.out.below hb)
    replace Nt := Lib.hid (Nt.out.below hb)
    replace G1 := Lib.hid (G1.out.below hb G1.out.lt)
    replace G2 := Lib.hid (G2.out.below hb G2.out.lt)
    replace B1 := Lib.hid (B1.out.trans (hb.mono B1.out.size))
    clear hHeld hb HB Zu Nu
    go_wp2
    go_ret
    exact ⟨rfl, B1.out⟩
end Go.Proofs.Ytgleknejogbomaa
