/-
  The statement RationalOrder: its walk.
-/
import Derived.Test.YtgleknejogbomaaRsgn
namespace Go.Proofs.Ytgleknejogbomaa
open Go.RowKit
set_option linter.unusedVariables false

set_option maxRecDepth 100000 in
set_option maxHeartbeats 16000000 in
theorem rationalOrder_walk (b0 : Bool) (a0 : Option Addr) (len0 cap0 : Nat) (z0 : Int) (e0 : Option Addr) (n0 c0 q0 : Nat) (b1 : Bool) (a1 : Option Addr) (len1 cap1 : Nat) (z1 : Int) (e1 : Option Addr) (n1 c1 q1 : Nat) (b2 : Bool) (a2 : Option Addr) (len2 cap2 : Nat) (z2 : Int) (e2 : Option Addr) (n2 c2 q2 : Nat) (w : World) (hx0 : Zin w b0 a0 len0 cap0 z0) (hl0 : len0 ≤ 1048576) (hp0 : Nin w e0 n0 c0 q0) (hn0 : n0 ≤ 1048576) (hx1 : Zin w b1 a1 len1 cap1 z1) (hl1 : len1 ≤ 1048576) (hp1 : Nin w e1 n1 c1 q1) (hn1 : n1 ≤ 1048576) (hx2 : Zin w b2 a2 len2 cap2 z2) (hl2 : len2 ≤ 1048576) (hp2 : Nin w e2 n2 c2 q2) (hn2 : n2 ≤ 1048576) :
    Calls Try.prog 8 #[.agg #[.bool b0, .slice a0 len0 cap0, .slice e0 n0 c0], .agg #[.bool b1, .slice a1 len1 cap1, .slice e1 n1 c1], .agg #[.bool b2, .slice a2 len2 cap2, .slice e2 n2 c2]] w fun e w' => e = .returned (.bool true) ∧ Below w.heap.size w w' := by
  obtain ⟨B1, V0, V1, V2⟩ := start_R3 w b0 a0 len0 cap0 e0 n0 c0 b1 a1 len1 cap1 e1 n1 c1 b2 a2 len2 cap2 e2 n2 c2
  have X0 := Lib.hid (hx0.below B1.out)
  have Y0 := Lib.hid (hp0.below B1.out)
  have LZ0 : Hid (len0 ≤ 100000000) := Nat.le_trans hl0 (by decide)
  have LD0 : Hid (n0 ≤ 100000000) := Nat.le_trans hn0 (by decide)
  have r0 : RL (mkRat z0 q0) 1048576 := rl_mk (Nat.le_trans hx0.len hl0) (Nat.le_trans hp0.len hn0) (by decide)
  have X1 := Lib.hid (hx1.below B1.out)
  have Y1 := Lib.hid (hp1.below B1.out)
  have LZ1 : Hid (len1 ≤ 100000000) := Nat.le_trans hl1 (by decide)
  have LD1 : Hid (n1 ≤ 100000000) := Nat.le_trans hn1 (by decide)
  have r1 : RL (mkRat z1 q1) 1048576 := rl_mk (Nat.le_trans hx1.len hl1) (Nat.le_trans hp1.len hn1) (by decide)
  have X2 := Lib.hid (hx2.below B1.out)
  have Y2 := Lib.hid (hp2.below B1.out)
  have LZ2 : Hid (len2 ≤ 100000000) := Nat.le_trans hl2 (by decide)
  have LD2 : Hid (n2 ≤ 100000000) := Nat.le_trans hn2 (by decide)
  have r2 : RL (mkRat z2 q2) 1048576 := rl_mk (Nat.le_trans hx2.len hl2) (Nat.le_trans hp2.len hn2) (by decide)
  have LL : Hid (1 ≤ 100000000 ∧ 100000000 ≤ 35184372088829) := by show _ ∧ _; omega
  have LL2 : Hid (1 ≤ 100000000 ∧ 100000000 ≤ 70368744177660) := by show _ ∧ _; omega
  obtain ⟨xs, exs⟩ : ∃ z : Int, (mkRat z0 q0 + mkRat z2 q2).num = z := ⟨_, rfl⟩
  obtain ⟨ds, eds⟩ : ∃ z : Nat, (mkRat z0 q0 + mkRat z2 q2).den = z := ⟨_, rfl⟩
  have Ms : mkRat xs ds = mkRat z0 q0 + mkRat z2 q2 := by rw [← exs, ← eds, mk_self]
  have rs : RL (mkRat xs ds) 2097153 := by rw [Ms]; exact (rl_add r0 r2).le (by decide)
  have LZs : Hid ((ofv xs.natAbs).length ≤ 100000000) := by show _ ≤ _; have h := rs.1; rw [Ms, exs] at h; exact Nat.le_trans h (by decide)
  have LDs : Hid ((ofv ds).length ≤ 100000000) := by show _ ≤ _; have h := rs.2; rw [Ms, eds] at h; exact Nat.le_trans h (by decide)
  have HZs := Lib.hid exs
  have HDs := Lib.hid eds
  obtain ⟨xt, ext⟩ : ∃ z : Int, (mkRat z1 q1 + mkRat z2 q2).num = z := ⟨_, rfl⟩
  obtain ⟨dt, edt⟩ : ∃ z : Nat, (mkRat z1 q1 + mkRat z2 q2).den = z := ⟨_, rfl⟩
  have Mt : mkRat xt dt = mkRat z1 q1 + mkRat z2 q2 := by rw [← ext, ← edt, mk_self]
  have rt : RL (mkRat xt dt) 2097153 := by rw [Mt]; exact (rl_add r1 r2).le (by decide)
  have LZt : Hid ((ofv xt.natAbs).length ≤ 100000000) := by show _ ≤ _; have h := rt.1; rw [Mt, ext] at h; exact Nat.le_trans h (by decide)
  have LDt : Hid ((ofv dt).length ≤ 100000000) := by show _ ≤ _; have h := rt.2; rw [Mt, edt] at h; exact Nat.le_trans h (by decide)
  have HZt := Lib.hid ext
  have HDt := Lib.hid edt
  obtain ⟨xu, exu⟩ : ∃ z : Int, (mkRat z0 q0 - mkRat z1 q1).num = z := ⟨_, rfl⟩
  obtain ⟨du, edu⟩ : ∃ z : Nat, (mkRat z0 q0 - mkRat z1 q1).den = z := ⟨_, rfl⟩
  have Mu : mkRat xu du = mkRat z0 q0 - mkRat z1 q1 := by rw [← exu, ← edu, mk_self]
  have ru : RL (mkRat xu du) 2097153 := by rw [Mu]; exact (rl_sub r0 r1).le (by decide)
  have LZu : Hid ((ofv xu.natAbs).length ≤ 100000000) := by show _ ≤ _; have h := ru.1; rw [Mu, exu] at h; exact Nat.le_trans h (by decide)
  have LDu : Hid ((ofv du).length ≤ 100000000) := by show _ ≤ _; have h := ru.2; rw [Mu, edu] at h; exact Nat.le_trans h (by decide)
  have HZu := Lib.hid exu
  have HDu := Lib.hid edu
  obtain ⟨xv, exv⟩ : ∃ z : Int, (mkRat z0 q0 * mkRat z2 q2).num = z := ⟨_, rfl⟩
  obtain ⟨dv, edv⟩ : ∃ z : Nat, (mkRat z0 q0 * mkRat z2 q2).den = z := ⟨_, rfl⟩
  have Mv : mkRat xv dv = mkRat z0 q0 * mkRat z2 q2 := by rw [← exv, ← edv, mk_self]
  have rv : RL (mkRat xv dv) 2097152 := by rw [Mv]; exact (rl_mul r0 r2).le (by decide)
  have LZv : Hid ((ofv xv.natAbs).length ≤ 100000000) := by show _ ≤ _; have h := rv.1; rw [Mv, exv] at h; exact Nat.le_trans h (by decide)
  have LDv : Hid ((ofv dv).length ≤ 100000000) := by show _ ≤ _; have h := rv.2; rw [Mv, edv] at h; exact Nat.le_trans h (by decide)
  have HZv := Lib.hid exv
  have HDv := Lib.hid edv
  obtain ⟨xy, exy⟩ : ∃ z : Int, (mkRat z1 q1 * mkRat z2 q2).num = z := ⟨_, rfl⟩
  obtain ⟨dy, edy⟩ : ∃ z : Nat, (mkRat z1 q1 * mkRat z2 q2).den = z := ⟨_, rfl⟩
  have My : mkRat xy dy = mkRat z1 q1 * mkRat z2 q2 := by rw [← exy, ← edy, mk_self]
  have ry : RL (mkRat xy dy) 2097152 := by rw [My]; exact (rl_mul r1 r2).le (by decide)
  have LZy : Hid ((ofv xy.natAbs).length ≤ 100000000) := by show _ ≤ _; have h := ry.1; rw [My, exy] at h; exact Nat.le_trans h (by decide)
  have LDy : Hid ((ofv dy).length ≤ 100000000) := by show _ ≤ _; have h := ry.2; rw [My, edy] at h; exact Nat.le_trans h (by decide)
  have HZy := Lib.hid exy
  have HDy := Lib.hid edy
  obtain ⟨r, er⟩ : ∃ r : Int, sgR (mkRat z0 q0 - mkRat z1 q1) = r := ⟨_, rfl⟩
  have S1 := Lib.hid er
  have S2 : Hid (sgR (mkRat z1 q1 - mkRat z0 q0) = -r) := by show _ = _; rw [sgR_swap, er]
  have S3 : Hid (sgR (mkRat xs ds - mkRat xt dt) = r) := by show _ = _; rw [Ms, Mt, sgR_shift, er]
  have S4 : Hid (sgR (mkRat xu du) = r) := by show _ = _; rw [Mu, er]
  obtain ⟨rc, erc⟩ : ∃ r : Int, sgR (mkRat z2 q2) = r := ⟨_, rfl⟩
  have S5 := Lib.hid erc
  have S6 : Hid (rc = 1 → sgR (mkRat xv dv - mkRat xy dy) = r) := by
    show _ → _
    intro h
    rw [Mv, My, sgR_scale (sgR_pos.1 (erc.trans h)), er]
  obtain ⟨rb, erb⟩ : ∃ r : Int, sgR (mkRat z1 q1 - mkRat z2 q2) = r := ⟨_, rfl⟩
  have S7 := Lib.hid erb
  obtain ⟨ra, era⟩ : ∃ r : Int, sgR (mkRat z0 q0 - mkRat z2 q2) = r := ⟨_, rfl⟩
  have S8 := Lib.hid era
  have CR : Hid (r = -1 ∨ r = 0 ∨ r = 1) := by show _ ∨ _; rw [← er]; exact sgR_cases _
  have CC : Hid (rc = -1 ∨ rc = 0 ∨ rc = 1) := by show _ ∨ _; rw [← erc]; exact sgR_cases _
  have CB : Hid (r ≠ 1 → (rb = 1 ∨ (rb = -1 ∧ ra = -1) ∨ (rb = -1 ∧ ra = 0) ∨ (rb = 0 ∧ ra = -1) ∨ (rb = 0 ∧ ra = 0))) := by
    show _ → _
    intro h
    have hb := sgR_cases (mkRat z1 q1 - mkRat z2 q2)
    have ha := sgR_cases (mkRat z0 q0 - mkRat z2 q2)
    have ht := sgR_trans (a := mkRat z0 q0) (b := mkRat z1 q1) (c := mkRat z2 q2)
    rw [er, erb, era] at ht
    rw [erb] at hb
    rw [era] at ha
    have := ht h
    omega
  have wr1 : IntKind.i64.wrap 1 = 1 := by decide
  have wr0 : IntKind.i64.wrap 0 = 0 := by decide
  have wrm : IntKind.i64.wrap (-1) = -1 := by decide
  clear hx0 hl0 hp0 hn0 r0 hx1 hl1 hp1 hn1 r1 hx2 hl2 hp2 hn2 r2 exs eds Ms rs ext edt Mt rt exu edu Mu ru exv edv Mv rv exy edy My ry er erc erb era
  go_enter Try.func8, Try.ntmps8
  go_wp2_with fail
  generalize (((w.alloc (.cells #[.bool b0, .slice a0 len0 cap0, .slice e0 n0 c0] 42)).alloc (.cells #[.bool b1, .slice a1 len1 cap1, .slice e1 n1 c1] 42)).alloc (.cells #[.bool b2, .slice a2 len2 cap2, .slice e2 n2 c2] 42)) = w2 at *
  rcases CR.out with h | h | h
  · subst h
    clear CR
    have pc0 := Lib.hid trivial
    go_wp2_with (first
      | (clear pc0; go_at_call 45; refine Calls.mono (qcompare_any (L := 100000000) (r := (-1)) X0.out Y0.out X1.out Y1.out LZ0.out LD0.out LZ1.out LD1.out LL.out S1.out) ?_; rintro e v1 ⟨rfl, hb⟩; replace V0 := Lib.hid (V0.out.below hb V0.out.lt); replace X0 := Lib.hid (X0.out.below hb); replace Y0 := Lib.hid (Y0.out.below hb); replace V1 := Lib.hid (V1.out.below hb V1.out.lt); replace X1 := Lib.hid (X1.out.below hb); replace Y1 := Lib.hid (Y1.out.below hb); replace V2 := Lib.hid (V2.out.below hb V2.out.lt); replace X2 := Lib.hid (X2.out.below hb); replace Y2 := Lib.hid (Y2.out.below hb); replace B1 := Lib.hid (B1.out.trans (hb.mono B1.out.size)); clear hb; have pc1 := Lib.hid trivial))
    clear pc1
    have HB : Hid (Below v1.heap.size v1 v1.drew) := below_drewN _ v1 1
    refine wp_region_held_drew (S := fun w' => Below v1.heap.size v1 w') (by kernel_rfl) (HB.out) (fun hHeld => ?_)
    refine wpAnyH_ready (rs := [0]) (by kernel_rfl) (by simp) ?_
    refine AllReadyH.consL (o := _) rfl (fun K hK => ?_) AllReadyH.nil
    clear hHeld
    go_simp
    go_at_call 34
    refine Calls.mono (rawake_any _) ?_
    rintro e v2 ⟨rfl, hb⟩
    replace HB := Lib.hid (HB.out.trans (hb.mono HB.out.size))
    clear hb
    refine hK.out _ _ HB.out (fun hHeld => ?_)
    clear hK K
    try simp only [Act.put, List.setIfInBounds_toArray, List.set_cons_zero, List.set_cons_succ]
    refine wpAnyH_takeL (i := 1) (oi := _) (v := ?_) rfl (by kernel_rfl) (by kernel_rfl) (by kernel_rfl) (fun _ _ _ h => h) (Or.inl ⟨by rfl, ?_⟩) hHeld ?_
    rotate_left
    · (intro w' hSw; (try dsimp only at hSw); go_simp; try (with_reducible rfl))
    try simp only [Act.put, List.setIfInBounds_toArray, List.set_cons_zero, List.set_cons_succ]
    refine wpAnyH_takeL (i := 2) (oi := _) (v := ?_) rfl (by kernel_rfl) (by kernel_rfl) (by kernel_rfl) (fun _ _ _ h => h) (Or.inl ⟨by rfl, ?_⟩) hHeld ?_
    rotate_left
    · (intro w' hSw; (try dsimp only at hSw); go_simp; try (with_reducible rfl))
    try simp only [Act.put, List.setIfInBounds_toArray, List.set_cons_zero, List.set_cons_succ]
    refine wpAnyH_takeL (i := 3) (oi := _) rfl (by kernel_rfl) (by kernel_rfl) (by kernel_rfl) (fun _ _ _ h => h) (yields_ldR (by rfl) _ rfl (by rfl) (fun _ hb => V1.out.below hb V1.out.lt)) hHeld ?_
    try simp only [Act.put, List.setIfInBounds_toArray, List.set_cons_zero, List.set_cons_succ]
    refine wpAnyH_takeL (i := 4) (oi := _) rfl (by kernel_rfl) (by kernel_rfl) (by kernel_rfl) (fun _ _ _ h => h) (yields_ldR (by rfl) _ rfl (by rfl) (fun _ hb => V0.out.below hb V0.out.lt)) hHeld ?_
    try simp only [Act.put, List.setIfInBounds_toArray, List.set_cons_zero, List.set_cons_succ]
    refine wpAnyH_takeL (i := 6) (oi := _) (v := ?_) rfl (by kernel_rfl) (by kernel_rfl) (by kernel_rfl) (fun _ _ _ h => h) (Or.inl ⟨by rfl, ?_⟩) hHeld ?_
    rotate_left
    · (intro w' hSw; (try dsimp only at hSw); go_simp; try (with_reducible rfl))
    try simp only [Act.put, List.setIfInBounds_toArray, List.set_cons_zero, List.set_cons_succ]
    refine wpAnyH_takeL (i := 7) (oi := _) (v := ?_) rfl (by kernel_rfl) (by kernel_rfl) (by kernel_rfl) (fun _ _ _ h => h) (Or.inl ⟨by rfl, ?_⟩) hHeld ?_
    rotate_left
    · (intro w' hSw; (try dsimp only at hSw); go_simp; try (with_reducible rfl))
    try simp only [Act.put, List.setIfInBounds_toArray, List.set_cons_zero, List.set_cons_succ]
    refine wpAnyH_ready (rs := [5]) (by kernel_rfl) (by simp) ?_
    refine AllReadyH.consL (o := _) rfl (fun K hK => ?_) AllReadyH.nil
    clear hHeld
    go_simp
    go_at_call 45
    refine Calls.mono (qcompare_any (L := 100000000) (r := (1)) (X1.out.below HB.out) (Y1.out.below HB.out) (X0.out.below HB.out) (Y0.out.below HB.out) LZ1.out LD1.out LZ0.out LD0.out LL.out S2.out) ?_
    rintro e v3 ⟨rfl, hb⟩
    replace HB := Lib.hid (HB.out.trans (hb.mono HB.out.size))
    clear hb
    refine hK.out _ _ HB.out (fun hHeld => ?_)
    clear hK K
    try simp only [Act.put, List.setIfInBounds_toArray, List.set_cons_zero, List.set_cons_succ]
    refine wpAnyH_takeL (i := 8) (oi := _) (v := ?_) rfl (by kernel_rfl) (by kernel_rfl) (by kernel_rfl) (fun _ _ _ h => h) (Or.inl ⟨by rfl, ?_⟩) hHeld ?_
    rotate_left
    · (intro w' hSw; (try dsimp only at hSw); go_simp; try (with_reducible rfl))
    try simp only [Act.put, List.setIfInBounds_toArray, List.set_cons_zero, List.set_cons_succ]
    refine wpAnyH_takeL (i := 9) (oi := _) (v := ?_) rfl (by kernel_rfl) (by kernel_rfl) (by kernel_rfl) (fun _ _ _ h => h) (Or.inl ⟨by rfl, ?_⟩) hHeld ?_
    rotate_left
    · (intro w' hSw; (try dsimp only at hSw); go_simp; try (with_reducible rfl))
    try simp only [Act.put, List.setIfInBounds_toArray, List.set_cons_zero, List.set_cons_succ]
    refine wpAnyH_takeL (i := 10) (oi := _) (v := ?_) rfl (by kernel_rfl) (by kernel_rfl) (by kernel_rfl) (fun _ _ _ h => h) (Or.inl ⟨by rfl, ?_⟩) hHeld ?_
    rotate_left
    · (intro w' hSw; (try dsimp only at hSw); go_simp; try (with_reducible rfl))
    try simp only [Act.put, List.setIfInBounds_toArray, List.set_cons_zero, List.set_cons_succ]
    refine wpAnyH_takeL (i := 11) (oi := _) rfl (by kernel_rfl) (by kernel_rfl) (by kernel_rfl) (fun _ _ _ h => h) (yields_ldR (by rfl) _ rfl (by rfl) (fun _ hb => V0.out.below hb V0.out.lt)) hHeld ?_
    try simp only [Act.put, List.setIfInBounds_toArray, List.set_cons_zero, List.set_cons_succ]
    refine wpAnyH_takeL (i := 12) (oi := _) rfl (by kernel_rfl) (by kernel_rfl) (by kernel_rfl) (fun _ _ _ h => h) (yields_ldR (by rfl) _ rfl (by rfl) (fun _ hb => V2.out.below hb V2.out.lt)) hHeld ?_
    try simp only [Act.put, List.setIfInBounds_toArray, List.set_cons_zero, List.set_cons_succ]
    refine wpAnyH_takeL (i := 14) (oi := _) rfl (by kernel_rfl) (by kernel_rfl) (by kernel_rfl) (fun _ _ _ h => h) (yields_ldR (by rfl) _ rfl (by rfl) (fun _ hb => V1.out.below hb V1.out.lt)) hHeld ?_
    try simp only [Act.put, List.setIfInBounds_toArray, List.set_cons_zero, List.set_cons_succ]
    refine wpAnyH_takeL (i := 15) (oi := _) rfl (by kernel_rfl) (by kernel_rfl) (by kernel_rfl) (fun _ _ _ h => h) (yields_ldR (by rfl) _ rfl (by rfl) (fun _ hb => V2.out.below hb V2.out.lt)) hHeld ?_
    try simp only [Act.put, List.setIfInBounds_toArray, List.set_cons_zero, List.set_cons_succ]
    refine wpAnyH_takeL (i := 18) (oi := _) (v := ?_) rfl (by kernel_rfl) (by kernel_rfl) (by kernel_rfl) (fun _ _ _ h => h) (Or.inl ⟨by rfl, ?_⟩) hHeld ?_
    rotate_left
    · (intro w' hSw; (try dsimp only at hSw); go_simp; try (with_reducible rfl))
    try simp only [Act.put, List.setIfInBounds_toArray, List.set_cons_zero, List.set_cons_succ]
    refine wpAnyH_ready (rs := [13]) (by kernel_rfl) (by simp) ?_
    refine AllReadyH.consL (o := _) rfl (fun K hK => ?_) AllReadyH.nil
    clear hHeld
    go_simp
    go_at_call 37
    refine Calls.mono (qadd_any (L := 100000000) (z := xs) (d := ds) (X0.out.below HB.out) (Y0.out.below HB.out) (X2.out.below HB.out) (Y2.out.below HB.out) LZ0.out LD0.out LZ2.out LD2.out LL.out HZs.out HDs.out) ?_
    rintro e v4 ⟨Ps, cs, Qs, ks, rfl, ho, ho2, hb⟩
    replace HB := Lib.hid (HB.out.trans (hb.mono HB.out.size))
    have Zs := Lib.hid (Zo.of_own ho)
    have Ns := Lib.hid ho2.rd
    clear ho ho2
    clear hb
    refine hK.out _ _ HB.out (fun hHeld => ?_)
    clear hK K
    try simp only [Act.put, List.setIfInBounds_toArray, List.set_cons_zero, List.set_cons_succ]
    refine wpAnyH_ready (rs := [16]) (by kernel_rfl) (by simp) ?_
    refine AllReadyH.consL (o := _) rfl (fun K hK => ?_) AllReadyH.nil
    clear hHeld
    go_simp
    go_at_call 37
    refine Calls.mono (qadd_any (L := 100000000) (z := xt) (d := dt) (X1.out.below HB.out) (Y1.out.below HB.out) (X2.out.below HB.out) (Y2.out.below HB.out) LZ1.out LD1.out LZ2.out LD2.out LL.out HZt.out HDt.out) ?_
    rintro e v5 ⟨Pt, ct, Qt, kt, rfl, ho, ho2, hb⟩
    replace HB := Lib.hid (HB.out.trans (hb.mono HB.out.size))
    replace Zs := Lib.hid (Zs.out.below hb)
    replace Ns := Lib.hid (Ns.out.below hb)
    have Zt := Lib.hid (Zo.of_own ho)
    have Nt := Lib.hid ho2.rd
    clear ho ho2
    clear hb
    refine hK.out _ _ HB.out (fun hHeld => ?_)
    clear hK K
    try simp only [Act.put, List.setIfInBounds_toArray, List.set_cons_zero, List.set_cons_succ]
    refine wpAnyH_ready (rs := [17]) (by kernel_rfl) (by simp) ?_
    refine AllReadyH.consL (o := _) rfl (fun K hK => ?_) AllReadyH.nil
    clear hHeld
    go_simp
    go_at_call 45
    refine Calls.mono (qcompare_any (L := 100000000) (r := (-1)) Zs.out.in_ (Nin.of_rd Ns.out) Zt.out.in_ (Nin.of_rd Nt.out) LZs.out LDs.out LZt.out LDt.out LL.out S3.out) ?_
    rintro e v6 ⟨rfl, hb⟩
    replace HB := Lib.hid (HB.out.trans (hb.mono HB.out.size))
    replace Zs := Lib.hid (Zs.out.below hb)
    replace Ns := Lib.hid (Ns.out.below hb)
    replace Zt := Lib.hid (Zt.out.below hb)
    replace Nt := Lib.hid (Nt.out.below hb)
    clear hb
    refine hK.out _ _ HB.out (fun hHeld => ?_)
    clear hK K
    try simp only [Act.put, List.setIfInBounds_toArray, List.set_cons_zero, List.set_cons_succ]
    refine wpAnyH_takeL (i := 19) (oi := _) (v := ?_) rfl (by kernel_rfl) (by kernel_rfl) (by kernel_rfl) (fun _ _ _ h => h) (Or.inl ⟨by rfl, ?_⟩) hHeld ?_
    rotate_left
    · (intro w' hSw; (try dsimp only at hSw); go_simp; try (with_reducible rfl))
    try simp only [Act.put, List.setIfInBounds_toArray, List.set_cons_zero, List.set_cons_succ]
    refine wpAnyH_takeL (i := 20) (oi := _) (v := ?_) rfl (by kernel_rfl) (by kernel_rfl) (by kernel_rfl) (fun _ _ _ h => h) (Or.inl ⟨by rfl, ?_⟩) hHeld ?_
    rotate_left
    · (intro w' hSw; (try dsimp only at hSw); go_simp; try (with_reducible rfl))
    try simp only [Act.put, List.setIfInBounds_toArray, List.set_cons_zero, List.set_cons_succ]
    refine wpAnyH_takeL (i := 21) (oi := _) (v := ?_) rfl (by kernel_rfl) (by kernel_rfl) (by kernel_rfl) (fun _ _ _ h => h) (Or.inl ⟨by rfl, ?_⟩) hHeld ?_
    rotate_left
    · (intro w' hSw; (try dsimp only at hSw); go_simp; try (with_reducible rfl))
    try simp only [Act.put, List.setIfInBounds_toArray, List.set_cons_zero, List.set_cons_succ]
    refine wpAnyH_takeL (i := 22) (oi := _) rfl (by kernel_rfl) (by kernel_rfl) (by kernel_rfl) (fun _ _ _ h => h) (yields_ldR (by rfl) _ rfl (by rfl) (fun _ hb => V0.out.below hb V0.out.lt)) hHeld ?_
    try simp only [Act.put, List.setIfInBounds_toArray, List.set_cons_zero, List.set_cons_succ]
    refine wpAnyH_takeL (i := 23) (oi := _) rfl (by kernel_rfl) (by kernel_rfl) (by kernel_rfl) (fun _ _ _ h => h) (yields_ldR (by rfl) _ rfl (by rfl) (fun _ hb => V1.out.below hb V1.out.lt)) hHeld ?_
    try simp only [Act.put, List.setIfInBounds_toArray, List.set_cons_zero, List.set_cons_succ]
    refine wpAnyH_takeL (i := 26) (oi := _) (v := ?_) rfl (by kernel_rfl) (by kernel_rfl) (by kernel_rfl) (fun _ _ _ h => h) (Or.inl ⟨by rfl, ?_⟩) hHeld ?_
    rotate_left
    · (intro w' hSw; (try dsimp only at hSw); go_simp; try (with_reducible rfl))
    try simp only [Act.put, List.setIfInBounds_toArray, List.set_cons_zero, List.set_cons_succ]
    refine wpAnyH_ready (rs := [24]) (by kernel_rfl) (by simp) ?_
    refine AllReadyH.consL (o := _) rfl (fun K hK => ?_) AllReadyH.nil
    clear hHeld
    go_simp
    go_at_call 39
    refine Calls.mono (qsub_any (L := 100000000) (z := xu) (d := du) (X0.out.below HB.out) (Y0.out.below HB.out) (X1.out.below HB.out) (Y1.out.below HB.out) LZ0.out LD0.out LZ1.out LD1.out LL.out HZu.out HDu.out) ?_
    rintro e v7 ⟨Pu, cu, Qu, ku, rfl, ho, ho2, hb⟩
    replace HB := Lib.hid (HB.out.trans (hb.mono HB.out.size))
    replace Zs := Lib.hid (Zs.out.below hb)
    replace Ns := Lib.hid (Ns.out.below hb)
    replace Zt := Lib.hid (Zt.out.below hb)
    replace Nt := Lib.hid (Nt.out.below hb)
    have Zu := Lib.hid (Zo.of_own ho)
    have Nu := Lib.hid ho2.rd
    clear ho ho2
    clear hb
    refine hK.out _ _ HB.out (fun hHeld => ?_)
    clear hK K
    try simp only [Act.put, List.setIfInBounds_toArray, List.set_cons_zero, List.set_cons_succ]
    refine wpAnyH_ready (rs := [25]) (by kernel_rfl) (by simp) ?_
    refine AllReadyH.consL (o := _) rfl (fun K hK => ?_) AllReadyH.nil
    clear hHeld
    go_simp
    go_at_call 44
    refine Calls.mono (qsign_any (L := 100000000) (r := (-1)) Zu.out.in_ (Nin.of_rd Nu.out) LZu.out LDu.out LL2.out S4.out) ?_
    rintro e v8 ⟨rfl, hb⟩
    replace HB := Lib.hid (HB.out.trans (hb.mono HB.out.size))
    replace Zs := Lib.hid (Zs.out.below hb)
    replace Ns := Lib.hid (Ns.out.below hb)
    replace Zt := Lib.hid (Zt.out.below hb)
    replace Nt := Lib.hid (Nt.out.below hb)
    replace Zu := Lib.hid (Zu.out.below hb)
    replace Nu := Lib.hid (Nu.out.below hb)
    clear hb
    refine hK.out _ _ HB.out (fun hHeld => ?_)
    clear hK K
    try simp only [Act.put, List.setIfInBounds_toArray, List.set_cons_zero, List.set_cons_succ]
    refine wpAnyH_takeL (i := 27) (oi := _) (v := ?_) rfl (by kernel_rfl) (by kernel_rfl) (by kernel_rfl) (fun _ _ _ h => h) (Or.inl ⟨by rfl, ?_⟩) hHeld ?_
    rotate_left
    · (intro w' hSw; (try dsimp only at hSw); go_simp; try (with_reducible rfl))
    try simp only [Act.put, List.setIfInBounds_toArray, List.set_cons_zero, List.set_cons_succ]
    refine wpAnyH_takeL (i := 28) (oi := _) (v := ?_) rfl (by kernel_rfl) (by kernel_rfl) (by kernel_rfl) (fun _ _ _ h => h) (Or.inl ⟨by rfl, ?_⟩) hHeld ?_
    rotate_left
    · (intro w' hSw; (try dsimp only at hSw); go_simp; try (with_reducible rfl))
    try simp only [Act.put, List.setIfInBounds_toArray, List.set_cons_zero, List.set_cons_succ]
    skip
    refine wpAnyH_done (by kernel_rfl) ?_ _
    have hb := HB.out
    replace V0 := Lib.hid (V0.out.below hb V0.out.lt)
    replace X0 := Lib.hid (X0.out.below hb)
    replace Y0 := Lib.hid (Y0.out.below hb)
    replace V1 := Lib.hid (V1.out.below hb V1.out.lt)
    replace X1 := Lib.hid (X1.out.below hb)
    replace Y1 := Lib.hid (Y1.out.below hb)
    replace V2 := Lib.hid (V2.out.below hb V2.out.lt)
    replace X2 := Lib.hid (X2.out.below hb)
    replace Y2 := Lib.hid (Y2.out.below hb)
    replace B1 := Lib.hid (B1.out.trans (hb.mono B1.out.size))
    clear hHeld hb HB Zs Ns Zt Nt Zu Nu
    go_wp2_with fail
    rcases CC.out with h | h | h
    · subst h
      clear CC
      have HB : Hid (Below v8.heap.size v8 v8.drew) := below_drewN _ v8 1
      refine wp_region_held_drew (S := fun w' => Below v8.heap.size v8 w') (by kernel_rfl) (HB.out) (fun hHeld => ?_)
      refine wpAnyH_takeL (i := 0) (oi := _) rfl (by kernel_rfl) (by kernel_rfl) (by kernel_rfl) (fun _ _ _ h => h) (yields_ldR (by rfl) _ rfl (by rfl) (fun _ hb => V2.out.below hb V2.out.lt)) hHeld ?_
      try simp only [Act.put, List.setIfInBounds_toArray, List.set_cons_zero, List.set_cons_succ]
      refine wpAnyH_ready (rs := [1]) (by kernel_rfl) (by simp) ?_
      refine AllReadyH.consL (o := _) rfl (fun K hK => ?_) AllReadyH.nil
      clear hHeld
      go_simp
      go_at_call 44
      refine Calls.mono (qsign_any (L := 100000000) (r := (-1)) (X2.out.below HB.out) (Y2.out.below HB.out) LZ2.out LD2.out LL2.out S5.out) ?_
      rintro e v9 ⟨rfl, hb⟩
      replace HB := Lib.hid (HB.out.trans (hb.mono HB.out.size))
      clear hb
      refine hK.out _ _ HB.out (fun hHeld => ?_)
      clear hK K
      try simp only [Act.put, List.setIfInBounds_toArray, List.set_cons_zero, List.set_cons_succ]
      refine wpAnyH_takeL (i := 2) (oi := _) (v := ?_) rfl (by kernel_rfl) (by kernel_rfl) (by kernel_rfl) (fun _ _ _ h => h) (Or.inl ⟨by rfl, ?_⟩) hHeld ?_
      rotate_left
      · (intro w' hSw; (try dsimp only at hSw); go_simp; try (with_reducible rfl))
      try simp only [Act.put, List.setIfInBounds_toArray, List.set_cons_zero, List.set_cons_succ]
      refine wpAnyH_takeL (i := 3) (oi := _) (v := ?_) rfl (by kernel_rfl) (by kernel_rfl) (by kernel_rfl) (fun _ _ _ h => h) (Or.inl ⟨by rfl, ?_⟩) hHeld ?_
      rotate_left
      · (intro w' hSw; (try dsimp only at hSw); go_simp; try (with_reducible rfl))
      try simp only [Act.put, List.setIfInBounds_toArray, List.set_cons_zero, List.set_cons_succ]
      refine wpAnyH_takeL (i := 4) (oi := _) (v := undef) rfl (by kernel_rfl) (by kernel_rfl) (by kernel_rfl) (fun _ _ _ h => h) (Or.inr ⟨by rfl, rfl⟩) hHeld ?_
      try simp only [Act.put, List.setIfInBounds_toArray, List.set_cons_zero, List.set_cons_succ]
      refine wpAnyH_takeL (i := 5) (oi := _) (v := undef) rfl (by kernel_rfl) (by kernel_rfl) (by kernel_rfl) (fun _ _ _ h => h) (Or.inr ⟨by rfl, rfl⟩) hHeld ?_
      try simp only [Act.put, List.setIfInBounds_toArray, List.set_cons_zero, List.set_cons_succ]
      refine wpAnyH_takeL (i := 6) (oi := _) (v := undef) rfl (by kernel_rfl) (by kernel_rfl) (by kernel_rfl) (fun _ _ _ h => h) (Or.inr ⟨by rfl, rfl⟩) hHeld ?_
      try simp only [Act.put, List.setIfInBounds_toArray, List.set_cons_zero, List.set_cons_succ]
      refine wpAnyH_takeL (i := 7) (oi := _) (v := undef) rfl (by kernel_rfl) (by kernel_rfl) (by kernel_rfl) (fun _ _ _ h => h) (Or.inr ⟨by rfl, rfl⟩) hHeld ?_
      try simp only [Act.put, List.setIfInBounds_toArray, List.set_cons_zero, List.set_cons_succ]
      refine wpAnyH_takeL (i := 8) (oi := _) (v := undef) rfl (by kernel_rfl) (by kernel_rfl) (by kernel_rfl) (fun _ _ _ h => h) (Or.inr ⟨by rfl, rfl⟩) hHeld ?_
      try simp only [Act.put, List.setIfInBounds_toArray, List.set_cons_zero, List.set_cons_succ]
      refine wpAnyH_takeL (i := 9) (oi := _) (v := undef) rfl (by kernel_rfl) (by kernel_rfl) (by kernel_rfl) (fun _ _ _ h => h) (Or.inr ⟨by rfl, rfl⟩) hHeld ?_
      try simp only [Act.put, List.setIfInBounds_toArray, List.set_cons_zero, List.set_cons_succ]
      refine wpAnyH_takeL (i := 10) (oi := _) (v := undef) rfl (by kernel_rfl) (by kernel_rfl) (by kernel_rfl) (fun _ _ _ h => h) (Or.inr ⟨by rfl, rfl⟩) hHeld ?_
      try simp only [Act.put, List.setIfInBounds_toArray, List.set_cons_zero, List.set_cons_succ]
      refine wpAnyH_takeL (i := 11) (oi := _) (v := undef) rfl (by kernel_rfl) (by kernel_rfl) (by kernel_rfl) (fun _ _ _ h => h) (Or.inr ⟨by rfl, rfl⟩) hHeld ?_
      try simp only [Act.put, List.setIfInBounds_toArray, List.set_cons_zero, List.set_cons_succ]
      refine wpAnyH_takeL (i := 12) (oi := _) (v := undef) rfl (by kernel_rfl) (by kernel_rfl) (by kernel_rfl) (fun _ _ _ h => h) (Or.inr ⟨by rfl, rfl⟩) hHeld ?_
      try simp only [Act.put, List.setIfInBounds_toArray, List.set_cons_zero, List.set_cons_succ]
      refine wpAnyH_takeL (i := 13) (oi := _) (v := ?_) rfl (by kernel_rfl) (by kernel_rfl) (by kernel_rfl) (fun _ _ _ h => h) (Or.inl ⟨by rfl, ?_⟩) hHeld ?_
      rotate_left
      · (intro w' hSw; (try dsimp only at hSw); go_simp; try (with_reducible rfl))
      try simp only [Act.put, List.setIfInBounds_toArray, List.set_cons_zero, List.set_cons_succ]
      skip
      refine wpAnyH_done (by kernel_rfl) ?_ _
      have hb := HB.out
      replace V0 := Lib.hid (V0.out.below hb V0.out.lt)
      replace X0 := Lib.hid (X0.out.below hb)
      replace Y0 := Lib.hid (Y0.out.below hb)
      replace V1 := Lib.hid (V1.out.below hb V1.out.lt)
      replace X1 := Lib.hid (X1.out.below hb)
      replace Y1 := Lib.hid (Y1.out.below hb)
      replace V2 := Lib.hid (V2.out.below hb V2.out.lt)
      replace X2 := Lib.hid (X2.out.below hb)
      replace Y2 := Lib.hid (Y2.out.below hb)
      replace B1 := Lib.hid (B1.out.trans (hb.mono B1.out.size))
      clear hHeld hb HB
      rcases CB.out (by decide) with h | ⟨h, h2⟩ | ⟨h, h2⟩ | ⟨h, h2⟩ | ⟨h, h2⟩
      · subst h
        clear CB
        have pc0 := Lib.hid trivial
        go_wp2_with (first
          | (clear pc0; refine wpList_ldR (by rfl) _ rfl (by rfl) V1.out ?_; have pc1 := Lib.hid trivial)
          | (clear pc1; refine wpList_ldR (by rfl) _ rfl (by rfl) V2.out ?_; have pc2 := Lib.hid trivial)
          | (clear pc2; go_at_call 45; refine Calls.mono (qcompare_any (L := 100000000) (r := (1)) X1.out Y1.out X2.out Y2.out LZ1.out LD1.out LZ2.out LD2.out LL.out S7.out) ?_; rintro e v10 ⟨rfl, hb⟩; replace V0 := Lib.hid (V0.out.below hb V0.out.lt); replace X0 := Lib.hid (X0.out.below hb); replace Y0 := Lib.hid (Y0.out.below hb); replace V1 := Lib.hid (V1.out.below hb V1.out.lt); replace X1 := Lib.hid (X1.out.below hb); replace Y1 := Lib.hid (Y1.out.below hb); replace V2 := Lib.hid (V2.out.below hb V2.out.lt); replace X2 := Lib.hid (X2.out.below hb); replace Y2 := Lib.hid (Y2.out.below hb); replace B1 := Lib.hid (B1.out.trans (hb.mono B1.out.size)); clear hb; have pc3 := Lib.hid trivial))
        clear pc3
        go_ret
        exact ⟨rfl, B1.out⟩
      · subst h
        subst h2
        clear CB
        have pc0 := Lib.hid trivial
        go_wp2_with (first
          | (clear pc0; refine wpList_ldR (by rfl) _ rfl (by rfl) V1.out ?_; have pc1 := Lib.hid trivial)
          | (clear pc1; refine wpList_ldR (by rfl) _ rfl (by rfl) V2.out ?_; have pc2 := Lib.hid trivial)
          | (clear pc2; go_at_call 45; refine Calls.mono (qcompare_any (L := 100000000) (r := (-1)) X1.out Y1.out X2.out Y2.out LZ1.out LD1.out LZ2.out LD2.out LL.out S7.out) ?_; rintro e v10 ⟨rfl, hb⟩; replace V0 := Lib.hid (V0.out.below hb V0.out.lt); replace X0 := Lib.hid (X0.out.below hb); replace Y0 := Lib.hid (Y0.out.below hb); replace V1 := Lib.hid (V1.out.below hb V1.out.lt); replace X1 := Lib.hid (X1.out.below hb); replace Y1 := Lib.hid (Y1.out.below hb); replace V2 := Lib.hid (V2.out.below hb V2.out.lt); replace X2 := Lib.hid (X2.out.below hb); replace Y2 := Lib.hid (Y2.out.below hb); replace B1 := Lib.hid (B1.out.trans (hb.mono B1.out.size)); clear hb; have pc3 := Lib.hid trivial)
          | (clear pc3; refine wpList_ldR (by rfl) _ rfl (by rfl) V0.out ?_; have pc4 := Lib.hid trivial)
          | (clear pc4; refine wpList_ldR (by rfl) _ rfl (by rfl) V2.out ?_; have pc5 := Lib.hid trivial)
          | (clear pc5; go_at_call 45; refine Calls.mono (qcompare_any (L := 100000000) (r := (-1)) X0.out Y0.out X2.out Y2.out LZ0.out LD0.out LZ2.out LD2.out LL.out S8.out) ?_; rintro e v11 ⟨rfl, hb⟩; replace V0 := Lib.hid (V0.out.below hb V0.out.lt); replace X0 := Lib.hid (X0.out.below hb); replace Y0 := Lib.hid (Y0.out.below hb); replace V1 := Lib.hid (V1.out.below hb V1.out.lt); replace X1 := Lib.hid (X1.out.below hb); replace Y1 := Lib.hid (Y1.out.below hb); replace V2 := Lib.hid (V2.out.below hb V2.out.lt); replace X2 := Lib.hid (X2.out.below hb); replace Y2 := Lib.hid (Y2.out.below hb); replace B1 := Lib.hid (B1.out.trans (hb.mono B1.out.size)); clear hb; have pc6 := Lib.hid trivial))
        clear pc6
        go_ret
        exact ⟨rfl, B1.out⟩
      · subst h
        subst h2
        clear CB
        have pc0 := Lib.hid trivial
        go_wp2_with (first
          | (clear pc0; refine wpList_ldR (by rfl) _ rfl (by rfl) V1.out ?_; have pc1 := Lib.hid trivial)
          | (clear pc1; refine wpList_ldR (by rfl) _ rfl (by rfl) V2.out ?_; have pc2 := Lib.hid trivial)
          | (clear pc2; go_at_call 45; refine Calls.mono (qcompare_any (L := 100000000) (r := (-1)) X1.out Y1.out X2.out Y2.out LZ1.out LD1.out LZ2.out LD2.out LL.out S7.out) ?_; rintro e v10 ⟨rfl, hb⟩; replace V0 := Lib.hid (V0.out.below hb V0.out.lt); replace X0 := Lib.hid (X0.out.below hb); replace Y0 := Lib.hid (Y0.out.below hb); replace V1 := Lib.hid (V1.out.below hb V1.out.lt); replace X1 := Lib.hid (X1.out.below hb); replace Y1 := Lib.hid (Y1.out.below hb); replace V2 := Lib.hid (V2.out.below hb V2.out.lt); replace X2 := Lib.hid (X2.out.below hb); replace Y2 := Lib.hid (Y2.out.below hb); replace B1 := Lib.hid (B1.out.trans (hb.mono B1.out.size)); clear hb; have pc3 := Lib.hid trivial)
          | (clear pc3; refine wpList_ldR (by rfl) _ rfl (by rfl) V0.out ?_; have pc4 := Lib.hid trivial)
          | (clear pc4; refine wpList_ldR (by rfl) _ rfl (by rfl) V2.out ?_; have pc5 := Lib.hid trivial)
          | (clear pc5; go_at_call 45; refine Calls.mono (qcompare_any (L := 100000000) (r := (0)) X0.out Y0.out X2.out Y2.out LZ0.out LD0.out LZ2.out LD2.out LL.out S8.out) ?_; rintro e v11 ⟨rfl, hb⟩; replace V0 := Lib.hid (V0.out.below hb V0.out.lt); replace X0 := Lib.hid (X0.out.below hb); replace Y0 := Lib.hid (Y0.out.below hb); replace V1 := Lib.hid (V1.out.below hb V1.out.lt); replace X1 := Lib.hid (X1.out.below hb); replace Y1 := Lib.hid (Y1.out.below hb); replace V2 := Lib.hid (V2.out.below hb V2.out.lt); replace X2 := Lib.hid (X2.out.below hb); replace Y2 := Lib.hid (Y2.out.below hb); replace B1 := Lib.hid (B1.out.trans (hb.mono B1.out.size)); clear hb; have pc6 := Lib.hid trivial))
        clear pc6
        go_ret
        exact ⟨rfl, B1.out⟩
      · subst h
        subst h2
        clear CB
        have pc0 := Lib.hid trivial
        go_wp2_with (first
          | (clear pc0; refine wpList_ldR (by rfl) _ rfl (by rfl) V1.out ?_; have pc1 := Lib.hid trivial)
          | (clear pc1; refine wpList_ldR (by rfl) _ rfl (by rfl) V2.out ?_; have pc2 := Lib.hid trivial)
          | (clear pc2; go_at_call 45; refine Calls.mono (qcompare_any (L := 100000000) (r := (0)) X1.out Y1.out X2.out Y2.out LZ1.out LD1.out LZ2.out LD2.out LL.out S7.out) ?_; rintro e v10 ⟨rfl, hb⟩; replace V0 := Lib.hid (V0.out.below hb V0.out.lt); replace X0 := Lib.hid (X0.out.below hb); replace Y0 := Lib.hid (Y0.out.below hb); replace V1 := Lib.hid (V1.out.below hb V1.out.lt); replace X1 := Lib.hid (X1.out.below hb); replace Y1 := Lib.hid (Y1.out.below hb); replace V2 := Lib.hid (V2.out.below hb V2.out.lt); replace X2 := Lib.hid (X2.out.below hb); replace Y2 := Lib.hid (Y2.out.below hb); replace B1 := Lib.hid (B1.out.trans (hb.mono B1.out.size)); clear hb; have pc3 := Lib.hid trivial)
          | (clear pc3; refine wpList_ldR (by rfl) _ rfl (by rfl) V0.out ?_; have pc4 := Lib.hid trivial)
          | (clear pc4; refine wpList_ldR (by rfl) _ rfl (by rfl) V2.out ?_; have pc5 := Lib.hid trivial)
          | (clear pc5; go_at_call 45; refine Calls.mono (qcompare_any (L := 100000000) (r := (-1)) X0.out Y0.out X2.out Y2.out LZ0.out LD0.out LZ2.out LD2.out LL.out S8.out) ?_; rintro e v11 ⟨rfl, hb⟩; replace V0 := Lib.hid (V0.out.below hb V0.out.lt); replace X0 := Lib.hid (X0.out.below hb); replace Y0 := Lib.hid (Y0.out.below hb); replace V1 := Lib.hid (V1.out.below hb V1.out.lt); replace X1 := Lib.hid (X1.out.below hb); replace Y1 := Lib.hid (Y1.out.below hb); replace V2 := Lib.hid (V2.out.below hb V2.out.lt); replace X2 := Lib.hid (X2.out.below hb); replace Y2 := Lib.hid (Y2.out.below hb); replace B1 := Lib.hid (B1.out.trans (hb.mono B1.out.size)); clear hb; have pc6 := Lib.hid trivial))
        clear pc6
        go_ret
        exact ⟨rfl, B1.out⟩
      · subst h
        subst h2
        clear CB
        have pc0 := Lib.hid trivial
        go_wp2_with (first
          | (clear pc0; refine wpList_ldR (by rfl) _ rfl (by rfl) V1.out ?_; have pc1 := Lib.hid trivial)
          | (clear pc1; refine wpList_ldR (by rfl) _ rfl (by rfl) V2.out ?_; have pc2 := Lib.hid trivial)
          | (clear pc2; go_at_call 45; refine Calls.mono (qcompare_any (L := 100000000) (r := (0)) X1.out Y1.out X2.out Y2.out LZ1.out LD1.out LZ2.out LD2.out LL.out S7.out) ?_; rintro e v10 ⟨rfl, hb⟩; replace V0 := Lib.hid (V0.out.below hb V0.out.lt); replace X0 := Lib.hid (X0.out.below hb); replace Y0 := Lib.hid (Y0.out.below hb); replace V1 := Lib.hid (V1.out.below hb V1.out.lt); replace X1 := Lib.hid (X1.out.below hb); replace Y1 := Lib.hid (Y1.out.below hb); replace V2 := Lib.hid (V2.out.below hb V2.out.lt); replace X2 := Lib.hid (X2.out.below hb); replace Y2 := Lib.hid (Y2.out.below hb); replace B1 := Lib.hid (B1.out.trans (hb.mono B1.out.size)); clear hb; have pc3 := Lib.hid trivial)
          | (clear pc3; refine wpList_ldR (by rfl) _ rfl (by rfl) V0.out ?_; have pc4 := Lib.hid trivial)
          | (clear pc4; refine wpList_ldR (by rfl) _ rfl (by rfl) V2.out ?_; have pc5 := Lib.hid trivial)
          | (clear pc5; go_at_call 45; refine Calls.mono (qcompare_any (L := 100000000) (r := (0)) X0.out Y0.out X2.out Y2.out LZ0.out LD0.out LZ2.out LD2.out LL.out S8.out) ?_; rintro e v11 ⟨rfl, hb⟩; replace V0 := Lib.hid (V0.out.below hb V0.out.lt); replace X0 := Lib.hid (X0.out.below hb); replace Y0 := Lib.hid (Y0.out.below hb); replace V1 := Lib.hid (V1.out.below hb V1.out.lt); replace X1 := Lib.hid (X1.out.below hb); replace Y1 := Lib.hid (Y1.out.below hb); replace V2 := Lib.hid (V2.out.below hb V2.out.lt); replace X2 := Lib.hid (X2.out.below hb); replace Y2 := Lib.hid (Y2.out.below hb); replace B1 := Lib.hid (B1.out.trans (hb.mono B1.out.size)); clear hb; have pc6 := Lib.hid trivial))
        clear pc6
        go_ret
        exact ⟨rfl, B1.out⟩
    · subst h
      clear CC
      have HB : Hid (Below v8.heap.size v8 v8.drew) := below_drewN _ v8 1
      refine wp_region_held_drew (S := fun w' => Below v8.heap.size v8 w') (by kernel_rfl) (HB.out) (fun hHeld => ?_)
      refine wpAnyH_takeL (i := 0) (oi := _) rfl (by kernel_rfl) (by kernel_rfl) (by kernel_rfl) (fun _ _ _ h => h) (yields_ldR (by rfl) _ rfl (by rfl) (fun _ hb => V2.out.below hb V2.out.lt)) hHeld ?_
      try simp only [Act.put, List.setIfInBounds_toArray, List.set_cons_zero, List.set_cons_succ]
      refine wpAnyH_ready (rs := [1]) (by kernel_rfl) (by simp) ?_
      refine AllReadyH.consL (o := _) rfl (fun K hK => ?_) AllReadyH.nil
      clear hHeld
      go_simp
      go_at_call 44
      refine Calls.mono (qsign_any (L := 100000000) (r := (0)) (X2.out.below HB.out) (Y2.out.below HB.out) LZ2.out LD2.out LL2.out S5.out) ?_
      rintro e v9 ⟨rfl, hb⟩
      replace HB := Lib.hid (HB.out.trans (hb.mono HB.out.size))
      clear hb
      refine hK.out _ _ HB.out (fun hHeld => ?_)
      clear hK K
      try simp only [Act.put, List.setIfInBounds_toArray, List.set_cons_zero, List.set_cons_succ]
      refine wpAnyH_takeL (i := 2) (oi := _) (v := ?_) rfl (by kernel_rfl) (by kernel_rfl) (by kernel_rfl) (fun _ _ _ h => h) (Or.inl ⟨by rfl, ?_⟩) hHeld ?_
      rotate_left
      · (intro w' hSw; (try dsimp only at hSw); go_simp; try (with_reducible rfl))
      try simp only [Act.put, List.setIfInBounds_toArray, List.set_cons_zero, List.set_cons_succ]
      refine wpAnyH_takeL (i := 3) (oi := _) (v := ?_) rfl (by kernel_rfl) (by kernel_rfl) (by kernel_rfl) (fun _ _ _ h => h) (Or.inl ⟨by rfl, ?_⟩) hHeld ?_
      rotate_left
      · (intro w' hSw; (try dsimp only at hSw); go_simp; try (with_reducible rfl))
      try simp only [Act.put, List.setIfInBounds_toArray, List.set_cons_zero, List.set_cons_succ]
      refine wpAnyH_takeL (i := 4) (oi := _) (v := undef) rfl (by kernel_rfl) (by kernel_rfl) (by kernel_rfl) (fun _ _ _ h => h) (Or.inr ⟨by rfl, rfl⟩) hHeld ?_
      try simp only [Act.put, List.setIfInBounds_toArray, List.set_cons_zero, List.set_cons_succ]
      refine wpAnyH_takeL (i := 5) (oi := _) (v := undef) rfl (by kernel_rfl) (by kernel_rfl) (by kernel_rfl) (fun _ _ _ h => h) (Or.inr ⟨by rfl, rfl⟩) hHeld ?_
      try simp only [Act.put, List.setIfInBounds_toArray, List.set_cons_zero, List.set_cons_succ]
      refine wpAnyH_takeL (i := 6) (oi := _) (v := undef) rfl (by kernel_rfl) (by kernel_rfl) (by kernel_rfl) (fun _ _ _ h => h) (Or.inr ⟨by rfl, rfl⟩) hHeld ?_
      try simp only [Act.put, List.setIfInBounds_toArray, List.set_cons_zero, List.set_cons_succ]
      refine wpAnyH_takeL (i := 7) (oi := _) (v := undef) rfl (by kernel_rfl) (by kernel_rfl) (by kernel_rfl) (fun _ _ _ h => h) (Or.inr ⟨by rfl, rfl⟩) hHeld ?_
      try simp only [Act.put, List.setIfInBounds_toArray, List.set_cons_zero, List.set_cons_succ]
      refine wpAnyH_takeL (i := 8) (oi := _) (v := undef) rfl (by kernel_rfl) (by kernel_rfl) (by kernel_rfl) (fun _ _ _ h => h) (Or.inr ⟨by rfl, rfl⟩) hHeld ?_
      try simp only [Act.put, List.setIfInBounds_toArray, List.set_cons_zero, List.set_cons_succ]
      refine wpAnyH_takeL (i := 9) (oi := _) (v := undef) rfl (by kernel_rfl) (by kernel_rfl) (by kernel_rfl) (fun _ _ _ h => h) (Or.inr ⟨by rfl, rfl⟩) hHeld ?_
      try simp only [Act.put, List.setIfInBounds_toArray, List.set_cons_zero, List.set_cons_succ]
      refine wpAnyH_takeL (i := 10) (oi := _) (v := undef) rfl (by kernel_rfl) (by kernel_rfl) (by kernel_rfl) (fun _ _ _ h => h) (Or.inr ⟨by rfl, rfl⟩) hHeld ?_
      try simp only [Act.put, List.setIfInBounds_toArray, List.set_cons_zero, List.set_cons_succ]
      refine wpAnyH_takeL (i := 11) (oi := _) (v := undef) rfl (by kernel_rfl) (by kernel_rfl) (by kernel_rfl) (fun _ _ _ h => h) (Or.inr ⟨by rfl, rfl⟩) hHeld ?_
      try simp only [Act.put, List.setIfInBounds_toArray, List.set_cons_zero, List.set_cons_succ]
      refine wpAnyH_takeL (i := 12) (oi := _) (v := undef) rfl (by kernel_rfl) (by kernel_rfl) (by kernel_rfl) (fun _ _ _ h => h) (Or.inr ⟨by rfl, rfl⟩) hHeld ?_
      try simp only [Act.put, List.setIfInBounds_toArray, List.set_cons_zero, List.set_cons_succ]
      refine wpAnyH_takeL (i := 13) (oi := _) (v := ?_) rfl (by kernel_rfl) (by kernel_rfl) (by kernel_rfl) (fun _ _ _ h => h) (Or.inl ⟨by rfl, ?_⟩) hHeld ?_
      rotate_left
      · (intro w' hSw; (try dsimp only at hSw); go_simp; try (with_reducible rfl))
      try simp only [Act.put, List.setIfInBounds_toArray, List.set_cons_zero, List.set_cons_succ]
      skip
      refine wpAnyH_done (by kernel_rfl) ?_ _
      have hb := HB.out
      replace V0 := Lib.hid (V0.out.below hb V0.out.lt)
      replace X0 := Lib.hid (X0.out.below hb)
      replace Y0 := Lib.hid (Y0.out.below hb)
      replace V1 := Lib.hid (V1.out.below hb V1.out.lt)
      replace X1 := Lib.hid (X1.out.below hb)
      replace Y1 := Lib.hid (Y1.out.below hb)
      replace V2 := Lib.hid (V2.out.below hb V2.out.lt)
      replace X2 := Lib.hid (X2.out.below hb)
      replace Y2 := Lib.hid (Y2.out.below hb)
      replace B1 := Lib.hid (B1.out.trans (hb.mono B1.out.size))
      clear hHeld hb HB
      rcases CB.out (by decide) with h | ⟨h, h2⟩ | ⟨h, h2⟩ | ⟨h, h2⟩ | ⟨h, h2⟩
      · subst h
        clear CB
        have pc0 := Lib.hid trivial
        go_wp2_with (first
          | (clear pc0; refine wpList_ldR (by rfl) _ rfl (by rfl) V1.out ?_; have pc1 := Lib.hid trivial)
          | (clear pc1; refine wpList_ldR (by rfl) _ rfl (by rfl) V2.out ?_; have pc2 := Lib.hid trivial)
          | (clear pc2; go_at_call 45; refine Calls.mono (qcompare_any (L := 100000000) (r := (1)) X1.out Y1.out X2.out Y2.out LZ1.out LD1.out LZ2.out LD2.out LL.out S7.out) ?_; rintro e v10 ⟨rfl, hb⟩; replace V0 := Lib.hid (V0.out.below hb V0.out.lt); replace X0 := Lib.hid (X0.out.below hb); replace Y0 := Lib.hid (Y0.out.below hb); replace V1 := Lib.hid (V1.out.below hb V1.out.lt); replace X1 := Lib.hid (X1.out.below hb); replace Y1 := Lib.hid (Y1.out.below hb); replace V2 := Lib.hid (V2.out.below hb V2.out.lt); replace X2 := Lib.hid (X2.out.below hb); replace Y2 := Lib.hid (Y2.out.below hb); replace B1 := Lib.hid (B1.out.trans (hb.mono B1.out.size)); clear hb; have pc3 := Lib.hid trivial))
        clear pc3
        go_ret
        exact ⟨rfl, B1.out⟩
      · subst h
        subst h2
        clear CB
        have pc0 := Lib.hid trivial
        go_wp2_with (first
          | (clear pc0; refine wpList_ldR (by rfl) _ rfl (by rfl) V1.out ?_; have pc1 := Lib.hid trivial)
          | (clear pc1; refine wpList_ldR (by rfl) _ rfl (by rfl) V2.out ?_; have pc2 := Lib.hid trivial)
          | (clear pc2; go_at_call 45; refine Calls.mono (qcompare_any (L := 100000000) (r := (-1)) X1.out Y1.out X2.out Y2.out LZ1.out LD1.out LZ2.out LD2.out LL.out S7.out) ?_; rintro e v10 ⟨rfl, hb⟩; replace V0 := Lib.hid (V0.out.below hb V0.out.lt); replace X0 := Lib.hid (X0.out.below hb); replace Y0 := Lib.hid (Y0.out.below hb); replace V1 := Lib.hid (V1.out.below hb V1.out.lt); replace X1 := Lib.hid (X1.out.below hb); replace Y1 := Lib.hid (Y1.out.below hb); replace V2 := Lib.hid (V2.out.below hb V2.out.lt); replace X2 := Lib.hid (X2.out.below hb); replace Y2 := Lib.hid (Y2.out.below hb); replace B1 := Lib.hid (B1.out.trans (hb.mono B1.out.size)); clear hb; have pc3 := Lib.hid trivial)
          | (clear pc3; refine wpList_ldR (by rfl) _ rfl (by rfl) V0.out ?_; have pc4 := Lib.hid trivial)
          | (clear pc4; refine wpList_ldR (by rfl) _ rfl (by rfl) V2.out ?_; have pc5 := Lib.hid trivial)
          | (clear pc5; go_at_call 45; refine Calls.mono (qcompare_any (L := 100000000) (r := (-1)) X0.out Y0.out X2.out Y2.out LZ0.out LD0.out LZ2.out LD2.out LL.out S8.out) ?_; rintro e v11 ⟨rfl, hb⟩; replace V0 := Lib.hid (V0.out.below hb V0.out.lt); replace X0 := Lib.hid (X0.out.below hb); replace Y0 := Lib.hid (Y0.out.below hb); replace V1 := Lib.hid (V1.out.below hb V1.out.lt); replace X1 := Lib.hid (X1.out.below hb); replace Y1 := Lib.hid (Y1.out.below hb); replace V2 := Lib.hid (V2.out.below hb V2.out.lt); replace X2 := Lib.hid (X2.out.below hb); replace Y2 := Lib.hid (Y2.out.below hb); replace B1 := Lib.hid (B1.out.trans (hb.mono B1.out.size)); clear hb; have pc6 := Lib.hid trivial))
        clear pc6
        go_ret
        exact ⟨rfl, B1.out⟩
      · subst h
        subst h2
        clear CB
        have pc0 := Lib.hid trivial
        go_wp2_with (first
          | (clear pc0; refine wpList_ldR (by rfl) _ rfl (by rfl) V1.out ?_; have pc1 := Lib.hid trivial)
          | (clear pc1; refine wpList_ldR (by rfl) _ rfl (by rfl) V2.out ?_; have pc2 := Lib.hid trivial)
          | (clear pc2; go_at_call 45; refine Calls.mono (qcompare_any (L := 100000000) (r := (-1)) X1.out Y1.out X2.out Y2.out LZ1.out LD1.out LZ2.out LD2.out LL.out S7.out) ?_; rintro e v10 ⟨rfl, hb⟩; replace V0 := Lib.hid (V0.out.below hb V0.out.lt); replace X0 := Lib.hid (X0.out.below hb); replace Y0 := Lib.hid (Y0.out.below hb); replace V1 := Lib.hid (V1.out.below hb V1.out.lt); replace X1 := Lib.hid (X1.out.below hb); replace Y1 := Lib.hid (Y1.out.below hb); replace V2 := Lib.hid (V2.out.below hb V2.out.lt); replace X2 := Lib.hid (X2.out.below hb); replace Y2 := Lib.hid (Y2.out.below hb); replace B1 := Lib.hid (B1.out.trans (hb.mono B1.out.size)); clear hb; have pc3 := Lib.hid trivial)
          | (clear pc3; refine wpList_ldR (by rfl) _ rfl (by rfl) V0.out ?_; have pc4 := Lib.hid trivial)
          | (clear pc4; refine wpList_ldR (by rfl) _ rfl (by rfl) V2.out ?_; have pc5 := Lib.hid trivial)
          | (clear pc5; go_at_call 45; refine Calls.mono (qcompare_any (L := 100000000) (r := (0)) X0.out Y0.out X2.out Y2.out LZ0.out LD0.out LZ2.out LD2.out LL.out S8.out) ?_; rintro e v11 ⟨rfl, hb⟩; replace V0 := Lib.hid (V0.out.below hb V0.out.lt); replace X0 := Lib.hid (X0.out.below hb); replace Y0 := Lib.hid (Y0.out.below hb); replace V1 := Lib.hid (V1.out.below hb V1.out.lt); replace X1 := Lib.hid (X1.out.below hb); replace Y1 := Lib.hid (Y1.out.below hb); replace V2 := Lib.hid (V2.out.below hb V2.out.lt); replace X2 := Lib.hid (X2.out.below hb); replace Y2 := Lib.hid (Y2.out.below hb); replace B1 := Lib.hid (B1.out.trans (hb.mono B1.out.size)); clear hb; have pc6 := Lib.hid trivial))
        clear pc6
        go_ret
        exact ⟨rfl, B1.out⟩
      · subst h
        subst h2
        clear CB
        have pc0 := Lib.hid trivial
        go_wp2_with (first
          | (clear pc0; refine wpList_ldR (by rfl) _ rfl (by rfl) V1.out ?_; have pc1 := Lib.hid trivial)
          | (clear pc1; refine wpList_ldR (by rfl) _ rfl (by rfl) V2.out ?_; have pc2 := Lib.hid trivial)
          | (clear pc2; go_at_call 45; refine Calls.mono (qcompare_any (L := 100000000) (r := (0)) X1.out Y1.out X2.out Y2.out LZ1.out LD1.out LZ2.out LD2.out LL.out S7.out) ?_; rintro e v10 ⟨rfl, hb⟩; replace V0 := Lib.hid (V0.out.below hb V0.out.lt); replace X0 := Lib.hid (X0.out.below hb); replace Y0 := Lib.hid (Y0.out.below hb); replace V1 := Lib.hid (V1.out.below hb V1.out.lt); replace X1 := Lib.hid (X1.out.below hb); replace Y1 := Lib.hid (Y1.out.below hb); replace V2 := Lib.hid (V2.out.below hb V2.out.lt); replace X2 := Lib.hid (X2.out.below hb); replace Y2 := Lib.hid (Y2.out.below hb); replace B1 := Lib.hid (B1.out.trans (hb.mono B1.out.size)); clear hb; have pc3 := Lib.hid trivial)
          | (clear pc3; refine wpList_ldR (by rfl) _ rfl (by rfl) V0.out ?_; have pc4 := Lib.hid trivial)
          | (clear pc4; refine wpList_ldR (by rfl) _ rfl (by rfl) V2.out ?_; have pc5 := Lib.hid trivial)
          | (clear pc5; go_at_call 45; refine Calls.mono (qcompare_any (L := 100000000) (r := (-1)) X0.out Y0.out X2.out Y2.out LZ0.out LD0.out LZ2.out LD2.out LL.out S8.out) ?_; rintro e v11 ⟨rfl, hb⟩; replace V0 := Lib.hid (V0.out.below hb V0.out.lt); replace X0 := Lib.hid (X0.out.below hb); replace Y0 := Lib.hid (Y0.out.below hb); replace V1 := Lib.hid (V1.out.below hb V1.out.lt); replace X1 := Lib.hid (X1.out.below hb); replace Y1 := Lib.hid (Y1.out.below hb); replace V2 := Lib.hid (V2.out.below hb V2.out.lt); replace X2 := Lib.hid (X2.out.below hb); replace Y2 := Lib.hid (Y2.out.below hb); replace B1 := Lib.hid (B1.out.trans (hb.mono B1.out.size)); clear hb; have pc6 := Lib.hid trivial))
        clear pc6
        go_ret
        exact ⟨rfl, B1.out⟩
      · subst h
        subst h2
        clear CB
        have pc0 := Lib.hid trivial
        go_wp2_with (first
          | (clear pc0; refine wpList_ldR (by rfl) _ rfl (by rfl) V1.out ?_; have pc1 := Lib.hid trivial)
          | (clear pc1; refine wpList_ldR (by rfl) _ rfl (by rfl) V2.out ?_; have pc2 := Lib.hid trivial)
          | (clear pc2; go_at_call 45; refine Calls.mono (qcompare_any (L := 100000000) (r := (0)) X1.out Y1.out X2.out Y2.out LZ1.out LD1.out LZ2.out LD2.out LL.out S7.out) ?_; rintro e v10 ⟨rfl, hb⟩; replace V0 := Lib.hid (V0.out.below hb V0.out.lt); replace X0 := Lib.hid (X0.out.below hb); replace Y0 := Lib.hid (Y0.out.below hb); replace V1 := Lib.hid (V1.out.below hb V1.out.lt); replace X1 := Lib.hid (X1.out.below hb); replace Y1 := Lib.hid (Y1.out.below hb); replace V2 := Lib.hid (V2.out.below hb V2.out.lt); replace X2 := Lib.hid (X2.out.below hb); replace Y2 := Lib.hid (Y2.out.below hb); replace B1 := Lib.hid (B1.out.trans (hb.mono B1.out.size)); clear hb; have pc3 := Lib.hid trivial)
          | (clear pc3; refine wpList_ldR (by rfl) _ rfl (by rfl) V0.out ?_; have pc4 := Lib.hid trivial)
          | (clear pc4; refine wpList_ldR (by rfl) _ rfl (by rfl) V2.out ?_; have pc5 := Lib.hid trivial)
          | (clear pc5; go_at_call 45; refine Calls.mono (qcompare_any (L := 100000000) (r := (0)) X0.out Y0.out X2.out Y2.out LZ0.out LD0.out LZ2.out LD2.out LL.out S8.out) ?_; rintro e v11 ⟨rfl, hb⟩; replace V0 := Lib.hid (V0.out.below hb V0.out.lt); replace X0 := Lib.hid (X0.out.below hb); replace Y0 := Lib.hid (Y0.out.below hb); replace V1 := Lib.hid (V1.out.below hb V1.out.lt); replace X1 := Lib.hid (X1.out.below hb); replace Y1 := Lib.hid (Y1.out.below hb); replace V2 := Lib.hid (V2.out.below hb V2.out.lt); replace X2 := Lib.hid (X2.out.below hb); replace Y2 := Lib.hid (Y2.out.below hb); replace B1 := Lib.hid (B1.out.trans (hb.mono B1.out.size)); clear hb; have pc6 := Lib.hid trivial))
        clear pc6
        go_ret
        exact ⟨rfl, B1.out⟩
    · subst h
      clear CC
      have S9 := Lib.hid (S6.out rfl)
      have HB : Hid (Below v8.heap.size v8 v8.drew) := below_drewN _ v8 1
      refine wp_region_held_drew (S := fun w' => Below v8.heap.size v8 w') (by kernel_rfl) (HB.out) (fun hHeld => ?_)
      refine wpAnyH_takeL (i := 0) (oi := _) rfl (by kernel_rfl) (by kernel_rfl) (by kernel_rfl) (fun _ _ _ h => h) (yields_ldR (by rfl) _ rfl (by rfl) (fun _ hb => V2.out.below hb V2.out.lt)) hHeld ?_
      try simp only [Act.put, List.setIfInBounds_toArray, List.set_cons_zero, List.set_cons_succ]
      refine wpAnyH_ready (rs := [1]) (by kernel_rfl) (by simp) ?_
      refine AllReadyH.consL (o := _) rfl (fun K hK => ?_) AllReadyH.nil
      clear hHeld
      go_simp
      go_at_call 44
      refine Calls.mono (qsign_any (L := 100000000) (r := (1)) (X2.out.below HB.out) (Y2.out.below HB.out) LZ2.out LD2.out LL2.out S5.out) ?_
      rintro e v9 ⟨rfl, hb⟩
      replace HB := Lib.hid (HB.out.trans (hb.mono HB.out.size))
      clear hb
      refine hK.out _ _ HB.out (fun hHeld => ?_)
      clear hK K
      try simp only [Act.put, List.setIfInBounds_toArray, List.set_cons_zero, List.set_cons_succ]
      refine wpAnyH_takeL (i := 2) (oi := _) (v := ?_) rfl (by kernel_rfl) (by kernel_rfl) (by kernel_rfl) (fun _ _ _ h => h) (Or.inl ⟨by rfl, ?_⟩) hHeld ?_
      rotate_left
      · (intro w' hSw; (try dsimp only at hSw); go_simp; try (with_reducible rfl))
      try simp only [Act.put, List.setIfInBounds_toArray, List.set_cons_zero, List.set_cons_succ]
      refine wpAnyH_takeL (i := 3) (oi := _) (v := ?_) rfl (by kernel_rfl) (by kernel_rfl) (by kernel_rfl) (fun _ _ _ h => h) (Or.inl ⟨by rfl, ?_⟩) hHeld ?_
      rotate_left
      · (intro w' hSw; (try dsimp only at hSw); go_simp; try (with_reducible rfl))
      try simp only [Act.put, List.setIfInBounds_toArray, List.set_cons_zero, List.set_cons_succ]
      refine wpAnyH_takeL (i := 4) (oi := _) rfl (by kernel_rfl) (by kernel_rfl) (by kernel_rfl) (fun _ _ _ h => h) (yields_ldR (by rfl) _ rfl (by rfl) (fun _ hb => V0.out.below hb V0.out.lt)) hHeld ?_
      try simp only [Act.put, List.setIfInBounds_toArray, List.set_cons_zero, List.set_cons_succ]
      refine wpAnyH_takeL (i := 5) (oi := _) rfl (by kernel_rfl) (by kernel_rfl) (by kernel_rfl) (fun _ _ _ h => h) (yields_ldR (by rfl) _ rfl (by rfl) (fun _ hb => V2.out.below hb V2.out.lt)) hHeld ?_
      try simp only [Act.put, List.setIfInBounds_toArray, List.set_cons_zero, List.set_cons_succ]
      refine wpAnyH_takeL (i := 7) (oi := _) rfl (by kernel_rfl) (by kernel_rfl) (by kernel_rfl) (fun _ _ _ h => h) (yields_ldR (by rfl) _ rfl (by rfl) (fun _ hb => V1.out.below hb V1.out.lt)) hHeld ?_
      try simp only [Act.put, List.setIfInBounds_toArray, List.set_cons_zero, List.set_cons_succ]
      refine wpAnyH_takeL (i := 8) (oi := _) rfl (by kernel_rfl) (by kernel_rfl) (by kernel_rfl) (fun _ _ _ h => h) (yields_ldR (by rfl) _ rfl (by rfl) (fun _ hb => V2.out.below hb V2.out.lt)) hHeld ?_
      try simp only [Act.put, List.setIfInBounds_toArray, List.set_cons_zero, List.set_cons_succ]
      refine wpAnyH_takeL (i := 11) (oi := _) (v := ?_) rfl (by kernel_rfl) (by kernel_rfl) (by kernel_rfl) (fun _ _ _ h => h) (Or.inl ⟨by rfl, ?_⟩) hHeld ?_
      rotate_left
      · (intro w' hSw; (try dsimp only at hSw); go_simp; try (with_reducible rfl))
      try simp only [Act.put, List.setIfInBounds_toArray, List.set_cons_zero, List.set_cons_succ]
      refine wpAnyH_ready (rs := [6]) (by kernel_rfl) (by simp) ?_
      refine AllReadyH.consL (o := _) rfl (fun K hK => ?_) AllReadyH.nil
      clear hHeld
      go_simp
      go_at_call 41
      refine Calls.mono (qmul_any (L := 100000000) (z := xv) (d := dv) (X0.out.below HB.out) (Y0.out.below HB.out) (X2.out.below HB.out) (Y2.out.below HB.out) LZ0.out LD0.out LZ2.out LD2.out LL.out HZv.out HDv.out) ?_
      rintro e v10 ⟨Pv, cv, Qv, kv, rfl, ho, ho2, hb⟩
      replace HB := Lib.hid (HB.out.trans (hb.mono HB.out.size))
      have Zv := Lib.hid (Zo.of_own ho)
      have Nv := Lib.hid ho2.rd
      clear ho ho2
      clear hb
      refine hK.out _ _ HB.out (fun hHeld => ?_)
      clear hK K
      try simp only [Act.put, List.setIfInBounds_toArray, List.set_cons_zero, List.set_cons_succ]
      refine wpAnyH_ready (rs := [9]) (by kernel_rfl) (by simp) ?_
      refine AllReadyH.consL (o := _) rfl (fun K hK => ?_) AllReadyH.nil
      clear hHeld
      go_simp
      go_at_call 41
      refine Calls.mono (qmul_any (L := 100000000) (z := xy) (d := dy) (X1.out.below HB.out) (Y1.out.below HB.out) (X2.out.below HB.out) (Y2.out.below HB.out) LZ1.out LD1.out LZ2.out LD2.out LL.out HZy.out HDy.out) ?_
      rintro e v11 ⟨Py, cy, Qy, ky, rfl, ho, ho2, hb⟩
      replace HB := Lib.hid (HB.out.trans (hb.mono HB.out.size))
      replace Zv := Lib.hid (Zv.out.below hb)
      replace Nv := Lib.hid (Nv.out.below hb)
      have Zy := Lib.hid (Zo.of_own ho)
      have Ny := Lib.hid ho2.rd
      clear ho ho2
      clear hb
      refine hK.out _ _ HB.out (fun hHeld => ?_)
      clear hK K
      try simp only [Act.put, List.setIfInBounds_toArray, List.set_cons_zero, List.set_cons_succ]
      refine wpAnyH_ready (rs := [10]) (by kernel_rfl) (by simp) ?_
      refine AllReadyH.consL (o := _) rfl (fun K hK => ?_) AllReadyH.nil
      clear hHeld
      go_simp
      go_at_call 45
      refine Calls.mono (qcompare_any (L := 100000000) (r := (-1)) Zv.out.in_ (Nin.of_rd Nv.out) Zy.out.in_ (Nin.of_rd Ny.out) LZv.out LDv.out LZy.out LDy.out LL.out S9.out) ?_
      rintro e v12 ⟨rfl, hb⟩
      replace HB := Lib.hid (HB.out.trans (hb.mono HB.out.size))
      replace Zv := Lib.hid (Zv.out.below hb)
      replace Nv := Lib.hid (Nv.out.below hb)
      replace Zy := Lib.hid (Zy.out.below hb)
      replace Ny := Lib.hid (Ny.out.below hb)
      clear hb
      refine hK.out _ _ HB.out (fun hHeld => ?_)
      clear hK K
      try simp only [Act.put, List.setIfInBounds_toArray, List.set_cons_zero, List.set_cons_succ]
      refine wpAnyH_takeL (i := 12) (oi := _) (v := ?_) rfl (by kernel_rfl) (by kernel_rfl) (by kernel_rfl) (fun _ _ _ h => h) (Or.inl ⟨by rfl, ?_⟩) hHeld ?_
      rotate_left
      · (intro w' hSw; (try dsimp only at hSw); go_simp; try (with_reducible rfl))
      try simp only [Act.put, List.setIfInBounds_toArray, List.set_cons_zero, List.set_cons_succ]
      refine wpAnyH_takeL (i := 13) (oi := _) (v := ?_) rfl (by kernel_rfl) (by kernel_rfl) (by kernel_rfl) (fun _ _ _ h => h) (Or.inl ⟨by rfl, ?_⟩) hHeld ?_
      rotate_left
      · (intro w' hSw; (try dsimp only at hSw); go_simp; try (with_reducible rfl))
      try simp only [Act.put, List.setIfInBounds_toArray, List.set_cons_zero, List.set_cons_succ]
      skip
      refine wpAnyH_done (by kernel_rfl) ?_ _
      have hb := HB.out
      replace V0 := Lib.hid (V0.out.below hb V0.out.lt)
      replace X0 := Lib.hid (X0.out.below hb)
      replace Y0 := Lib.hid (Y0.out.below hb)
      replace V1 := Lib.hid (V1.out.below hb V1.out.lt)
      replace X1 := Lib.hid (X1.out.below hb)
      replace Y1 := Lib.hid (Y1.out.below hb)
      replace V2 := Lib.hid (V2.out.below hb V2.out.lt)
      replace X2 := Lib.hid (X2.out.below hb)
      replace Y2 := Lib.hid (Y2.out.below hb)
      replace B1 := Lib.hid (B1.out.trans (hb.mono B1.out.size))
      clear hHeld hb HB Zv Nv Zy Ny
      rcases CB.out (by decide) with h | ⟨h, h2⟩ | ⟨h, h2⟩ | ⟨h, h2⟩ | ⟨h, h2⟩
      · subst h
        clear CB
        have pc0 := Lib.hid trivial
        go_wp2_with (first
          | (clear pc0; refine wpList_ldR (by rfl) _ rfl (by rfl) V1.out ?_; have pc1 := Lib.hid trivial)
          | (clear pc1; refine wpList_ldR (by rfl) _ rfl (by rfl) V2.out ?_; have pc2 := Lib.hid trivial)
          | (clear pc2; go_at_call 45; refine Calls.mono (qcompare_any (L := 100000000) (r := (1)) X1.out Y1.out X2.out Y2.out LZ1.out LD1.out LZ2.out LD2.out LL.out S7.out) ?_; rintro e v13 ⟨rfl, hb⟩; replace V0 := Lib.hid (V0.out.below hb V0.out.lt); replace X0 := Lib.hid (X0.out.below hb); replace Y0 := Lib.hid (Y0.out.below hb); replace V1 := Lib.hid (V1.out.below hb V1.out.lt); replace X1 := Lib.hid (X1.out.below hb); replace Y1 := Lib.hid (Y1.out.below hb); replace V2 := Lib.hid (V2.out.below hb V2.out.lt); replace X2 := Lib.hid (X2.out.below hb); replace Y2 := Lib.hid (Y2.out.below hb); replace B1 := Lib.hid (B1.out.trans (hb.mono B1.out.size)); clear hb; have pc3 := Lib.hid trivial))
        clear pc3
        go_ret
        exact ⟨rfl, B1.out⟩
      · subst h
        subst h2
        clear CB
        have pc0 := Lib.hid trivial
        go_wp2_with (first
          | (clear pc0; refine wpList_ldR (by rfl) _ rfl (by rfl) V1.out ?_; have pc1 := Lib.hid trivial)
          | (clear pc1; refine wpList_ldR (by rfl) _ rfl (by rfl) V2.out ?_; have pc2 := Lib.hid trivial)
          | (clear pc2; go_at_call 45; refine Calls.mono (qcompare_any (L := 100000000) (r := (-1)) X1.out Y1.out X2.out Y2.out LZ1.out LD1.out LZ2.out LD2.out LL.out S7.out) ?_; rintro e v13 ⟨rfl, hb⟩; replace V0 := Lib.hid (V0.out.below hb V0.out.lt); replace X0 := Lib.hid (X0.out.below hb); replace Y0 := Lib.hid (Y0.out.below hb); replace V1 := Lib.hid (V1.out.below hb V1.out.lt); replace X1 := Lib.hid (X1.out.below hb); replace Y1 := Lib.hid (Y1.out.below hb); replace V2 := Lib.hid (V2.out.below hb V2.out.lt); replace X2 := Lib.hid (X2.out.below hb); replace Y2 := Lib.hid (Y2.out.below hb); replace B1 := Lib.hid (B1.out.trans (hb.mono B1.out.size)); clear hb; have pc3 := Lib.hid trivial)
          | (clear pc3; refine wpList_ldR (by rfl) _ rfl (by rfl) V0.out ?_; have pc4 := Lib.hid trivial)
          | (clear pc4; refine wpList_ldR (by rfl) _ rfl (by rfl) V2.out ?_; have pc5 := Lib.hid trivial)
          | (clear pc5; go_at_call 45; refine Calls.mono (qcompare_any (L := 100000000) (r := (-1)) X0.out Y0.out X2.out Y2.out LZ0.out LD0.out LZ2.out LD2.out LL.out S8.out) ?_; rintro e v14 ⟨rfl, hb⟩; replace V0 := Lib.hid (V0.out.below hb V0.out.lt); replace X0 := Lib.hid (X0.out.below hb); replace Y0 := Lib.hid (Y0.out.below hb); replace V1 := Lib.hid (V1.out.below hb V1.out.lt); replace X1 := Lib.hid (X1.out.below hb); replace Y1 := Lib.hid (Y1.out.below hb); replace V2 := Lib.hid (V2.out.below hb V2.out.lt); replace X2 := Lib.hid (X2.out.below hb); replace Y2 := Lib.hid (Y2.out.below hb); replace B1 := Lib.hid (B1.out.trans (hb.mono B1.out.size)); clear hb; have pc6 := Lib.hid trivial))
        clear pc6
        go_ret
        exact ⟨rfl, B1.out⟩
      · subst h
        subst h2
        clear CB
        have pc0 := Lib.hid trivial
        go_wp2_with (first
          | (clear pc0; refine wpList_ldR (by rfl) _ rfl (by rfl) V1.out ?_; have pc1 := Lib.hid trivial)
          | (clear pc1; refine wpList_ldR (by rfl) _ rfl (by rfl) V2.out ?_; have pc2 := Lib.hid trivial)
          | (clear pc2; go_at_call 45; refine Calls.mono (qcompare_any (L := 100000000) (r := (-1)) X1.out Y1.out X2.out Y2.out LZ1.out LD1.out LZ2.out LD2.out LL.out S7.out) ?_; rintro e v13 ⟨rfl, hb⟩; replace V0 := Lib.hid (V0.out.below hb V0.out.lt); replace X0 := Lib.hid (X0.out.below hb); replace Y0 := Lib.hid (Y0.out.below hb); replace V1 := Lib.hid (V1.out.below hb V1.out.lt); replace X1 := Lib.hid (X1.out.below hb); replace Y1 := Lib.hid (Y1.out.below hb); replace V2 := Lib.hid (V2.out.below hb V2.out.lt); replace X2 := Lib.hid (X2.out.below hb); replace Y2 := Lib.hid (Y2.out.below hb); replace B1 := Lib.hid (B1.out.trans (hb.mono B1.out.size)); clear hb; have pc3 := Lib.hid trivial)
          | (clear pc3; refine wpList_ldR (by rfl) _ rfl (by rfl) V0.out ?_; have pc4 := Lib.hid trivial)
          | (clear pc4; refine wpList_ldR (by rfl) _ rfl (by rfl) V2.out ?_; have pc5 := Lib.hid trivial)
          | (clear pc5; go_at_call 45; refine Calls.mono (qcompare_any (L := 100000000) (r := (0)) X0.out Y0.out X2.out Y2.out LZ0.out LD0.out LZ2.out LD2.out LL.out S8.out) ?_; rintro e v14 ⟨rfl, hb⟩; replace V0 := Lib.hid (V0.out.below hb V0.out.lt); replace X0 := Lib.hid (X0.out.below hb); replace Y0 := Lib.hid (Y0.out.below hb); replace V1 := Lib.hid (V1.out.below hb V1.out.lt); replace X1 := Lib.hid (X1.out.below hb); replace Y1 := Lib.hid (Y1.out.below hb); replace V2 := Lib.hid (V2.out.below hb V2.out.lt); replace X2 := Lib.hid (X2.out.below hb); replace Y2 := Lib.hid (Y2.out.below hb); replace B1 := Lib.hid (B1.out.trans (hb.mono B1.out.size)); clear hb; have pc6 := Lib.hid trivial))
        clear pc6
        go_ret
        exact ⟨rfl, B1.out⟩
      · subst h
        subst h2
        clear CB
        have pc0 := Lib.hid trivial
        go_wp2_with (first
          | (clear pc0; refine wpList_ldR (by rfl) _ rfl (by rfl) V1.out ?_; have pc1 := Lib.hid trivial)
          | (clear pc1; refine wpList_ldR (by rfl) _ rfl (by rfl) V2.out ?_; have pc2 := Lib.hid trivial)
          | (clear pc2; go_at_call 45; refine Calls.mono (qcompare_any (L := 100000000) (r := (0)) X1.out Y1.out X2.out Y2.out LZ1.out LD1.out LZ2.out LD2.out LL.out S7.out) ?_; rintro e v13 ⟨rfl, hb⟩; replace V0 := Lib.hid (V0.out.below hb V0.out.lt); replace X0 := Lib.hid (X0.out.below hb); replace Y0 := Lib.hid (Y0.out.below hb); replace V1 := Lib.hid (V1.out.below hb V1.out.lt); replace X1 := Lib.hid (X1.out.below hb); replace Y1 := Lib.hid (Y1.out.below hb); replace V2 := Lib.hid (V2.out.below hb V2.out.lt); replace X2 := Lib.hid (X2.out.below hb); replace Y2 := Lib.hid (Y2.out.below hb); replace B1 := Lib.hid (B1.out.trans (hb.mono B1.out.size)); clear hb; have pc3 := Lib.hid trivial)
          | (clear pc3; refine wpList_ldR (by rfl) _ rfl (by rfl) V0.out ?_; have pc4 := Lib.hid trivial)
          | (clear pc4; refine wpList_ldR (by rfl) _ rfl (by rfl) V2.out ?_; have pc5 := Lib.hid trivial)
          | (clear pc5; go_at_call 45; refine Calls.mono (qcompare_any (L := 100000000) (r := (-1)) X0.out Y0.out X2.out Y2.out LZ0.out LD0.out LZ2.out LD2.out LL.out S8.out) ?_; rintro e v14 ⟨rfl, hb⟩; replace V0 := Lib.hid (V0.out.below hb V0.out.lt); replace X0 := Lib.hid (X0.out.below hb); replace Y0 := Lib.hid (Y0.out.below hb); replace V1 := Lib.hid (V1.out.below hb V1.out.lt); replace X1 := Lib.hid (X1.out.below hb); replace Y1 := Lib.hid (Y1.out.below hb); replace V2 := Lib.hid (V2.out.below hb V2.out.lt); replace X2 := Lib.hid (X2.out.below hb); replace Y2 := Lib.hid (Y2.out.below hb); replace B1 := Lib.hid (B1.out.trans (hb.mono B1.out.size)); clear hb; have pc6 := Lib.hid trivial))
        clear pc6
        go_ret
        exact ⟨rfl, B1.out⟩
      · subst h
        subst h2
        clear CB
        have pc0 := Lib.hid trivial
        go_wp2_with (first
          | (clear pc0; refine wpList_ldR (by rfl) _ rfl (by rfl) V1.out ?_; have pc1 := Lib.hid trivial)
          | (clear pc1; refine wpList_ldR (by rfl) _ rfl (by rfl) V2.out ?_; have pc2 := Lib.hid trivial)
          | (clear pc2; go_at_call 45; refine Calls.mono (qcompare_any (L := 100000000) (r := (0)) X1.out Y1.out X2.out Y2.out LZ1.out LD1.out LZ2.out LD2.out LL.out S7.out) ?_; rintro e v13 ⟨rfl, hb⟩; replace V0 := Lib.hid (V0.out.below hb V0.out.lt); replace X0 := Lib.hid (X0.out.below hb); replace Y0 := Lib.hid (Y0.out.below hb); replace V1 := Lib.hid (V1.out.below hb V1.out.lt); replace X1 := Lib.hid (X1.out.below hb); replace Y1 := Lib.hid (Y1.out.below hb); replace V2 := Lib.hid (V2.out.below hb V2.out.lt); replace X2 := Lib.hid (X2.out.below hb); replace Y2 := Lib.hid (Y2.out.below hb); replace B1 := Lib.hid (B1.out.trans (hb.mono B1.out.size)); clear hb; have pc3 := Lib.hid trivial)
          | (clear pc3; refine wpList_ldR (by rfl) _ rfl (by rfl) V0.out ?_; have pc4 := Lib.hid trivial)
          | (clear pc4; refine wpList_ldR (by rfl) _ rfl (by rfl) V2.out ?_; have pc5 := Lib.hid trivial)
          | (clear pc5; go_at_call 45; refine Calls.mono (qcompare_any (L := 100000000) (r := (0)) X0.out Y0.out X2.out Y2.out LZ0.out LD0.out LZ2.out LD2.out LL.out S8.out) ?_; rintro e v14 ⟨rfl, hb⟩; replace V0 := Lib.hid (V0.out.below hb V0.out.lt); replace X0 := Lib.hid (X0.out.below hb); replace Y0 := Lib.hid (Y0.out.below hb); replace V1 := Lib.hid (V1.out.below hb V1.out.lt); replace X1 := Lib.hid (X1.out.below hb); replace Y1 := Lib.hid (Y1.out.below hb); replace V2 := Lib.hid (V2.out.below hb V2.out.lt); replace X2 := Lib.hid (X2.out.below hb); replace Y2 := Lib.hid (Y2.out.below hb); replace B1 := Lib.hid (B1.out.trans (hb.mono B1.out.size)); clear hb; have pc6 := Lib.hid trivial))
        clear pc6
        go_ret
        exact ⟨rfl, B1.out⟩
  · subst h
    clear CR
    have pc0 := Lib.hid trivial
    go_wp2_with (first
      | (clear pc0; go_at_call 45; refine Calls.mono (qcompare_any (L := 100000000) (r := (0)) X0.out Y0.out X1.out Y1.out LZ0.out LD0.out LZ1.out LD1.out LL.out S1.out) ?_; rintro e v1 ⟨rfl, hb⟩; replace V0 := Lib.hid (V0.out.below hb V0.out.lt); replace X0 := Lib.hid (X0.out.below hb); replace Y0 := Lib.hid (Y0.out.below hb); replace V1 := Lib.hid (V1.out.below hb V1.out.lt); replace X1 := Lib.hid (X1.out.below hb); replace Y1 := Lib.hid (Y1.out.below hb); replace V2 := Lib.hid (V2.out.below hb V2.out.lt); replace X2 := Lib.hid (X2.out.below hb); replace Y2 := Lib.hid (Y2.out.below hb); replace B1 := Lib.hid (B1.out.trans (hb.mono B1.out.size)); clear hb; have pc1 := Lib.hid trivial))
    clear pc1
    have HB : Hid (Below v1.heap.size v1 v1.drew) := below_drewN _ v1 1
    refine wp_region_held_drew (S := fun w' => Below v1.heap.size v1 w') (by kernel_rfl) (HB.out) (fun hHeld => ?_)
    refine wpAnyH_ready (rs := [0]) (by kernel_rfl) (by simp) ?_
    refine AllReadyH.consL (o := _) rfl (fun K hK => ?_) AllReadyH.nil
    clear hHeld
    go_simp
    go_at_call 34
    refine Calls.mono (rawake_any _) ?_
    rintro e v2 ⟨rfl, hb⟩
    replace HB := Lib.hid (HB.out.trans (hb.mono HB.out.size))
    clear hb
    refine hK.out _ _ HB.out (fun hHeld => ?_)
    clear hK K
    try simp only [Act.put, List.setIfInBounds_toArray, List.set_cons_zero, List.set_cons_succ]
    refine wpAnyH_takeL (i := 1) (oi := _) (v := ?_) rfl (by kernel_rfl) (by kernel_rfl) (by kernel_rfl) (fun _ _ _ h => h) (Or.inl ⟨by rfl, ?_⟩) hHeld ?_
    rotate_left
    · (intro w' hSw; (try dsimp only at hSw); go_simp; try (with_reducible rfl))
    try simp only [Act.put, List.setIfInBounds_toArray, List.set_cons_zero, List.set_cons_succ]
    refine wpAnyH_takeL (i := 2) (oi := _) (v := ?_) rfl (by kernel_rfl) (by kernel_rfl) (by kernel_rfl) (fun _ _ _ h => h) (Or.inl ⟨by rfl, ?_⟩) hHeld ?_
    rotate_left
    · (intro w' hSw; (try dsimp only at hSw); go_simp; try (with_reducible rfl))
    try simp only [Act.put, List.setIfInBounds_toArray, List.set_cons_zero, List.set_cons_succ]
    refine wpAnyH_takeL (i := 3) (oi := _) rfl (by kernel_rfl) (by kernel_rfl) (by kernel_rfl) (fun _ _ _ h => h) (yields_ldR (by rfl) _ rfl (by rfl) (fun _ hb => V1.out.below hb V1.out.lt)) hHeld ?_
    try simp only [Act.put, List.setIfInBounds_toArray, List.set_cons_zero, List.set_cons_succ]
    refine wpAnyH_takeL (i := 4) (oi := _) rfl (by kernel_rfl) (by kernel_rfl) (by kernel_rfl) (fun _ _ _ h => h) (yields_ldR (by rfl) _ rfl (by rfl) (fun _ hb => V0.out.below hb V0.out.lt)) hHeld ?_
    try simp only [Act.put, List.setIfInBounds_toArray, List.set_cons_zero, List.set_cons_succ]
    refine wpAnyH_takeL (i := 6) (oi := _) (v := ?_) rfl (by kernel_rfl) (by kernel_rfl) (by kernel_rfl) (fun _ _ _ h => h) (Or.inl ⟨by rfl, ?_⟩) hHeld ?_
    rotate_left
    · (intro w' hSw; (try dsimp only at hSw); go_simp; try (with_reducible rfl))
    try simp only [Act.put, List.setIfInBounds_toArray, List.set_cons_zero, List.set_cons_succ]
    refine wpAnyH_takeL (i := 7) (oi := _) (v := ?_) rfl (by kernel_rfl) (by kernel_rfl) (by kernel_rfl) (fun _ _ _ h => h) (Or.inl ⟨by rfl, ?_⟩) hHeld ?_
    rotate_left
    · (intro w' hSw; (try dsimp only at hSw); go_simp; try (with_reducible rfl))
    try simp only [Act.put, List.setIfInBounds_toArray, List.set_cons_zero, List.set_cons_succ]
    refine wpAnyH_ready (rs := [5]) (by kernel_rfl) (by simp) ?_
    refine AllReadyH.consL (o := _) rfl (fun K hK => ?_) AllReadyH.nil
    clear hHeld
    go_simp
    go_at_call 45
    refine Calls.mono (qcompare_any (L := 100000000) (r := (0)) (X1.out.below HB.out) (Y1.out.below HB.out) (X0.out.below HB.out) (Y0.out.below HB.out) LZ1.out LD1.out LZ0.out LD0.out LL.out S2.out) ?_
    rintro e v3 ⟨rfl, hb⟩
    replace HB := Lib.hid (HB.out.trans (hb.mono HB.out.size))
    clear hb
    refine hK.out _ _ HB.out (fun hHeld => ?_)
    clear hK K
    try simp only [Act.put, List.setIfInBounds_toArray, List.set_cons_zero, List.set_cons_succ]
    refine wpAnyH_takeL (i := 8) (oi := _) (v := ?_) rfl (by kernel_rfl) (by kernel_rfl) (by kernel_rfl) (fun _ _ _ h => h) (Or.inl ⟨by rfl, ?_⟩) hHeld ?_
    rotate_left
    · (intro w' hSw; (try dsimp only at hSw); go_simp; try (with_reducible rfl))
    try simp only [Act.put, List.setIfInBounds_toArray, List.set_cons_zero, List.set_cons_succ]
    refine wpAnyH_takeL (i := 9) (oi := _) (v := ?_) rfl (by kernel_rfl) (by kernel_rfl) (by kernel_rfl) (fun _ _ _ h => h) (Or.inl ⟨by rfl, ?_⟩) hHeld ?_
    rotate_left
    · (intro w' hSw; (try dsimp only at hSw); go_simp; try (with_reducible rfl))
    try simp only [Act.put, List.setIfInBounds_toArray, List.set_cons_zero, List.set_cons_succ]
    refine wpAnyH_takeL (i := 10) (oi := _) (v := ?_) rfl (by kernel_rfl) (by kernel_rfl) (by kernel_rfl) (fun _ _ _ h => h) (Or.inl ⟨by rfl, ?_⟩) hHeld ?_
    rotate_left
    · (intro w' hSw; (try dsimp only at hSw); go_simp; try (with_reducible rfl))
    try simp only [Act.put, List.setIfInBounds_toArray, List.set_cons_zero, List.set_cons_succ]
    refine wpAnyH_takeL (i := 11) (oi := _) rfl (by kernel_rfl) (by kernel_rfl) (by kernel_rfl) (fun _ _ _ h => h) (yields_ldR (by rfl) _ rfl (by rfl) (fun _ hb => V0.out.below hb V0.out.lt)) hHeld ?_
    try simp only [Act.put, List.setIfInBounds_toArray, List.set_cons_zero, List.set_cons_succ]
    refine wpAnyH_takeL (i := 12) (oi := _) rfl (by kernel_rfl) (by kernel_rfl) (by kernel_rfl) (fun _ _ _ h => h) (yields_ldR (by rfl) _ rfl (by rfl) (fun _ hb => V2.out.below hb V2.out.lt)) hHeld ?_
    try simp only [Act.put, List.setIfInBounds_toArray, List.set_cons_zero, List.set_cons_succ]
    refine wpAnyH_takeL (i := 14) (oi := _) rfl (by kernel_rfl) (by kernel_rfl) (by kernel_rfl) (fun _ _ _ h => h) (yields_ldR (by rfl) _ rfl (by rfl) (fun _ hb => V1.out.below hb V1.out.lt)) hHeld ?_
    try simp only [Act.put, List.setIfInBounds_toArray, List.set_cons_zero, List.set_cons_succ]
    refine wpAnyH_takeL (i := 15) (oi := _) rfl (by kernel_rfl) (by kernel_rfl) (by kernel_rfl) (fun _ _ _ h => h) (yields_ldR (by rfl) _ rfl (by rfl) (fun _ hb => V2.out.below hb V2.out.lt)) hHeld ?_
    try simp only [Act.put, List.setIfInBounds_toArray, List.set_cons_zero, List.set_cons_succ]
    refine wpAnyH_takeL (i := 18) (oi := _) (v := ?_) rfl (by kernel_rfl) (by kernel_rfl) (by kernel_rfl) (fun _ _ _ h => h) (Or.inl ⟨by rfl, ?_⟩) hHeld ?_
    rotate_left
    · (intro w' hSw; (try dsimp only at hSw); go_simp; try (with_reducible rfl))
    try simp only [Act.put, List.setIfInBounds_toArray, List.set_cons_zero, List.set_cons_succ]
    refine wpAnyH_ready (rs := [13]) (by kernel_rfl) (by simp) ?_
    refine AllReadyH.consL (o := _) rfl (fun K hK => ?_) AllReadyH.nil
    clear hHeld
    go_simp
    go_at_call 37
    refine Calls.mono (qadd_any (L := 100000000) (z := xs) (d := ds) (X0.out.below HB.out) (Y0.out.below HB.out) (X2.out.below HB.out) (Y2.out.below HB.out) LZ0.out LD0.out LZ2.out LD2.out LL.out HZs.out HDs.out) ?_
    rintro e v4 ⟨Ps, cs, Qs, ks, rfl, ho, ho2, hb⟩
    replace HB := Lib.hid (HB.out.trans (hb.mono HB.out.size))
    have Zs := Lib.hid (Zo.of_own ho)
    have Ns := Lib.hid ho2.rd
    clear ho ho2
    clear hb
    refine hK.out _ _ HB.out (fun hHeld => ?_)
    clear hK K
    try simp only [Act.put, List.setIfInBounds_toArray, List.set_cons_zero, List.set_cons_succ]
    refine wpAnyH_ready (rs := [16]) (by kernel_rfl) (by simp) ?_
    refine AllReadyH.consL (o := _) rfl (fun K hK => ?_) AllReadyH.nil
    clear hHeld
    go_simp
    go_at_call 37
    refine Calls.mono (qadd_any (L := 100000000) (z := xt) (d := dt) (X1.out.below HB.out) (Y1.out.below HB.out) (X2.out.below HB.out) (Y2.out.below HB.out) LZ1.out LD1.out LZ2.out LD2.out LL.out HZt.out HDt.out) ?_
    rintro e v5 ⟨Pt, ct, Qt, kt, rfl, ho, ho2, hb⟩
    replace HB := Lib.hid (HB.out.trans (hb.mono HB.out.size))
    replace Zs := Lib.hid (Zs.out.below hb)
    replace Ns := Lib.hid (Ns.out.below hb)
    have Zt := Lib.hid (Zo.of_own ho)
    have Nt := Lib.hid ho2.rd
    clear ho ho2
    clear hb
    refine hK.out _ _ HB.out (fun hHeld => ?_)
    clear hK K
    try simp only [Act.put, List.setIfInBounds_toArray, List.set_cons_zero, List.set_cons_succ]
    refine wpAnyH_ready (rs := [17]) (by kernel_rfl) (by simp) ?_
    refine AllReadyH.consL (o := _) rfl (fun K hK => ?_) AllReadyH.nil
    clear hHeld
    go_simp
    go_at_call 45
    refine Calls.mono (qcompare_any (L := 100000000) (r := (0)) Zs.out.in_ (Nin.of_rd Ns.out) Zt.out.in_ (Nin.of_rd Nt.out) LZs.out LDs.out LZt.out LDt.out LL.out S3.out) ?_
    rintro e v6 ⟨rfl, hb⟩
    replace HB := Lib.hid (HB.out.trans (hb.mono HB.out.size))
    replace Zs := Lib.hid (Zs.out.below hb)
    replace Ns := Lib.hid (Ns.out.below hb)
    replace Zt := Lib.hid (Zt.out.below hb)
    replace Nt := Lib.hid (Nt.out.below hb)
    clear hb
    refine hK.out _ _ HB.out (fun hHeld => ?_)
    clear hK K
    try simp only [Act.put, List.setIfInBounds_toArray, List.set_cons_zero, List.set_cons_succ]
    refine wpAnyH_takeL (i := 19) (oi := _) (v := ?_) rfl (by kernel_rfl) (by kernel_rfl) (by kernel_rfl) (fun _ _ _ h => h) (Or.inl ⟨by rfl, ?_⟩) hHeld ?_
    rotate_left
    · (intro w' hSw; (try dsimp only at hSw); go_simp; try (with_reducible rfl))
    try simp only [Act.put, List.setIfInBounds_toArray, List.set_cons_zero, List.set_cons_succ]
    refine wpAnyH_takeL (i := 20) (oi := _) (v := ?_) rfl (by kernel_rfl) (by kernel_rfl) (by kernel_rfl) (fun _ _ _ h => h) (Or.inl ⟨by rfl, ?_⟩) hHeld ?_
    rotate_left
    · (intro w' hSw; (try dsimp only at hSw); go_simp; try (with_reducible rfl))
    try simp only [Act.put, List.setIfInBounds_toArray, List.set_cons_zero, List.set_cons_succ]
    refine wpAnyH_takeL (i := 21) (oi := _) (v := ?_) rfl (by kernel_rfl) (by kernel_rfl) (by kernel_rfl) (fun _ _ _ h => h) (Or.inl ⟨by rfl, ?_⟩) hHeld ?_
    rotate_left
    · (intro w' hSw; (try dsimp only at hSw); go_simp; try (with_reducible rfl))
    try simp only [Act.put, List.setIfInBounds_toArray, List.set_cons_zero, List.set_cons_succ]
    refine wpAnyH_takeL (i := 22) (oi := _) rfl (by kernel_rfl) (by kernel_rfl) (by kernel_rfl) (fun _ _ _ h => h) (yields_ldR (by rfl) _ rfl (by rfl) (fun _ hb => V0.out.below hb V0.out.lt)) hHeld ?_
    try simp only [Act.put, List.setIfInBounds_toArray, List.set_cons_zero, List.set_cons_succ]
    refine wpAnyH_takeL (i := 23) (oi := _) rfl (by kernel_rfl) (by kernel_rfl) (by kernel_rfl) (fun _ _ _ h => h) (yields_ldR (by rfl) _ rfl (by rfl) (fun _ hb => V1.out.below hb V1.out.lt)) hHeld ?_
    try simp only [Act.put, List.setIfInBounds_toArray, List.set_cons_zero, List.set_cons_succ]
    refine wpAnyH_takeL (i := 26) (oi := _) (v := ?_) rfl (by kernel_rfl) (by kernel_rfl) (by kernel_rfl) (fun _ _ _ h => h) (Or.inl ⟨by rfl, ?_⟩) hHeld ?_
    rotate_left
    · (intro w' hSw; (try dsimp only at hSw); go_simp; try (with_reducible rfl))
    try simp only [Act.put, List.setIfInBounds_toArray, List.set_cons_zero, List.set_cons_succ]
    refine wpAnyH_ready (rs := [24]) (by kernel_rfl) (by simp) ?_
    refine AllReadyH.consL (o := _) rfl (fun K hK => ?_) AllReadyH.nil
    clear hHeld
    go_simp
    go_at_call 39
    refine Calls.mono (qsub_any (L := 100000000) (z := xu) (d := du) (X0.out.below HB.out) (Y0.out.below HB.out) (X1.out.below HB.out) (Y1.out.below HB.out) LZ0.out LD0.out LZ1.out LD1.out LL.out HZu.out HDu.out) ?_
    rintro e v7 ⟨Pu, cu, Qu, ku, rfl, ho, ho2, hb⟩
    replace HB := Lib.hid (HB.out.trans (hb.mono HB.out.size))
    replace Zs := Lib.hid (Zs.out.below hb)
    replace Ns := Lib.hid (Ns.out.below hb)
    replace Zt := Lib.hid (Zt.out.below hb)
    replace Nt := Lib.hid (Nt.out.below hb)
    have Zu := Lib.hid (Zo.of_own ho)
    have Nu := Lib.hid ho2.rd
    clear ho ho2
    clear hb
    refine hK.out _ _ HB.out (fun hHeld => ?_)
    clear hK K
    try simp only [Act.put, List.setIfInBounds_toArray, List.set_cons_zero, List.set_cons_succ]
    refine wpAnyH_ready (rs := [25]) (by kernel_rfl) (by simp) ?_
    refine AllReadyH.consL (o := _) rfl (fun K hK => ?_) AllReadyH.nil
    clear hHeld
    go_simp
    go_at_call 44
    refine Calls.mono (qsign_any (L := 100000000) (r := (0)) Zu.out.in_ (Nin.of_rd Nu.out) LZu.out LDu.out LL2.out S4.out) ?_
    rintro e v8 ⟨rfl, hb⟩
    replace HB := Lib.hid (HB.out.trans (hb.mono HB.out.size))
    replace Zs := Lib.hid (Zs.out.below hb)
    replace Ns := Lib.hid (Ns.out.below hb)
    replace Zt := Lib.hid (Zt.out.below hb)
    replace Nt := Lib.hid (Nt.out.below hb)
    replace Zu := Lib.hid (Zu.out.below hb)
    replace Nu := Lib.hid (Nu.out.below hb)
    clear hb
    refine hK.out _ _ HB.out (fun hHeld => ?_)
    clear hK K
    try simp only [Act.put, List.setIfInBounds_toArray, List.set_cons_zero, List.set_cons_succ]
    refine wpAnyH_takeL (i := 27) (oi := _) (v := ?_) rfl (by kernel_rfl) (by kernel_rfl) (by kernel_rfl) (fun _ _ _ h => h) (Or.inl ⟨by rfl, ?_⟩) hHeld ?_
    rotate_left
    · (intro w' hSw; (try dsimp only at hSw); go_simp; try (with_reducible rfl))
    try simp only [Act.put, List.setIfInBounds_toArray, List.set_cons_zero, List.set_cons_succ]
    refine wpAnyH_takeL (i := 28) (oi := _) (v := ?_) rfl (by kernel_rfl) (by kernel_rfl) (by kernel_rfl) (fun _ _ _ h => h) (Or.inl ⟨by rfl, ?_⟩) hHeld ?_
    rotate_left
    · (intro w' hSw; (try dsimp only at hSw); go_simp; try (with_reducible rfl))
    try simp only [Act.put, List.setIfInBounds_toArray, List.set_cons_zero, List.set_cons_succ]
    skip
    refine wpAnyH_done (by kernel_rfl) ?_ _
    have hb := HB.out
    replace V0 := Lib.hid (V0.out.below hb V0.out.lt)
    replace X0 := Lib.hid (X0.out.below hb)
    replace Y0 := Lib.hid (Y0.out.below hb)
    replace V1 := Lib.hid (V1.out.below hb V1.out.lt)
    replace X1 := Lib.hid (X1.out.below hb)
    replace Y1 := Lib.hid (Y1.out.below hb)
    replace V2 := Lib.hid (V2.out.below hb V2.out.lt)
    replace X2 := Lib.hid (X2.out.below hb)
    replace Y2 := Lib.hid (Y2.out.below hb)
    replace B1 := Lib.hid (B1.out.trans (hb.mono B1.out.size))
    clear hHeld hb HB Zs Ns Zt Nt Zu Nu
    go_wp2_with fail
    rcases CC.out with h | h | h
    · subst h
      clear CC
      have HB : Hid (Below v8.heap.size v8 v8.drew) := below_drewN _ v8 1
      refine wp_region_held_drew (S := fun w' => Below v8.heap.size v8 w') (by kernel_rfl) (HB.out) (fun hHeld => ?_)
      refine wpAnyH_takeL (i := 0) (oi := _) rfl (by kernel_rfl) (by kernel_rfl) (by kernel_rfl) (fun _ _ _ h => h) (yields_ldR (by rfl) _ rfl (by rfl) (fun _ hb => V2.out.below hb V2.out.lt)) hHeld ?_
      try simp only [Act.put, List.setIfInBounds_toArray, List.set_cons_zero, List.set_cons_succ]
      refine wpAnyH_ready (rs := [1]) (by kernel_rfl) (by simp) ?_
      refine AllReadyH.consL (o := _) rfl (fun K hK => ?_) AllReadyH.nil
      clear hHeld
      go_simp
      go_at_call 44
      refine Calls.mono (qsign_any (L := 100000000) (r := (-1)) (X2.out.below HB.out) (Y2.out.below HB.out) LZ2.out LD2.out LL2.out S5.out) ?_
      rintro e v9 ⟨rfl, hb⟩
      replace HB := Lib.hid (HB.out.trans (hb.mono HB.out.size))
      clear hb
      refine hK.out _ _ HB.out (fun hHeld => ?_)
      clear hK K
      try simp only [Act.put, List.setIfInBounds_toArray, List.set_cons_zero, List.set_cons_succ]
      refine wpAnyH_takeL (i := 2) (oi := _) (v := ?_) rfl (by kernel_rfl) (by kernel_rfl) (by kernel_rfl) (fun _ _ _ h => h) (Or.inl ⟨by rfl, ?_⟩) hHeld ?_
      rotate_left
      · (intro w' hSw; (try dsimp only at hSw); go_simp; try (with_reducible rfl))
      try simp only [Act.put, List.setIfInBounds_toArray, List.set_cons_zero, List.set_cons_succ]
      refine wpAnyH_takeL (i := 3) (oi := _) (v := ?_) rfl (by kernel_rfl) (by kernel_rfl) (by kernel_rfl) (fun _ _ _ h => h) (Or.inl ⟨by rfl, ?_⟩) hHeld ?_
      rotate_left
      · (intro w' hSw; (try dsimp only at hSw); go_simp; try (with_reducible rfl))
      try simp only [Act.put, List.setIfInBounds_toArray, List.set_cons_zero, List.set_cons_succ]
      refine wpAnyH_takeL (i := 4) (oi := _) (v := undef) rfl (by kernel_rfl) (by kernel_rfl) (by kernel_rfl) (fun _ _ _ h => h) (Or.inr ⟨by rfl, rfl⟩) hHeld ?_
      try simp only [Act.put, List.setIfInBounds_toArray, List.set_cons_zero, List.set_cons_succ]
      refine wpAnyH_takeL (i := 5) (oi := _) (v := undef) rfl (by kernel_rfl) (by kernel_rfl) (by kernel_rfl) (fun _ _ _ h => h) (Or.inr ⟨by rfl, rfl⟩) hHeld ?_
      try simp only [Act.put, List.setIfInBounds_toArray, List.set_cons_zero, List.set_cons_succ]
      refine wpAnyH_takeL (i := 6) (oi := _) (v := undef) rfl (by kernel_rfl) (by kernel_rfl) (by kernel_rfl) (fun _ _ _ h => h) (Or.inr ⟨by rfl, rfl⟩) hHeld ?_
      try simp only [Act.put, List.setIfInBounds_toArray, List.set_cons_zero, List.set_cons_succ]
      refine wpAnyH_takeL (i := 7) (oi := _) (v := undef) rfl (by kernel_rfl) (by kernel_rfl) (by kernel_rfl) (fun _ _ _ h => h) (Or.inr ⟨by rfl, rfl⟩) hHeld ?_
      try simp only [Act.put, List.setIfInBounds_toArray, List.set_cons_zero, List.set_cons_succ]
      refine wpAnyH_takeL (i := 8) (oi := _) (v := undef) rfl (by kernel_rfl) (by kernel_rfl) (by kernel_rfl) (fun _ _ _ h => h) (Or.inr ⟨by rfl, rfl⟩) hHeld ?_
      try simp only [Act.put, List.setIfInBounds_toArray, List.set_cons_zero, List.set_cons_succ]
      refine wpAnyH_takeL (i := 9) (oi := _) (v := undef) rfl (by kernel_rfl) (by kernel_rfl) (by kernel_rfl) (fun _ _ _ h => h) (Or.inr ⟨by rfl, rfl⟩) hHeld ?_
      try simp only [Act.put, List.setIfInBounds_toArray, List.set_cons_zero, List.set_cons_succ]
      refine wpAnyH_takeL (i := 10) (oi := _) (v := undef) rfl (by kernel_rfl) (by kernel_rfl) (by kernel_rfl) (fun _ _ _ h => h) (Or.inr ⟨by rfl, rfl⟩) hHeld ?_
      try simp only [Act.put, List.setIfInBounds_toArray, List.set_cons_zero, List.set_cons_succ]
      refine wpAnyH_takeL (i := 11) (oi := _) (v := undef) rfl (by kernel_rfl) (by kernel_rfl) (by kernel_rfl) (fun _ _ _ h => h) (Or.inr ⟨by rfl, rfl⟩) hHeld ?_
      try simp only [Act.put, List.setIfInBounds_toArray, List.set_cons_zero, List.set_cons_succ]
      refine wpAnyH_takeL (i := 12) (oi := _) (v := undef) rfl (by kernel_rfl) (by kernel_rfl) (by kernel_rfl) (fun _ _ _ h => h) (Or.inr ⟨by rfl, rfl⟩) hHeld ?_
      try simp only [Act.put, List.setIfInBounds_toArray, List.set_cons_zero, List.set_cons_succ]
      refine wpAnyH_takeL (i := 13) (oi := _) (v := ?_) rfl (by kernel_rfl) (by kernel_rfl) (by kernel_rfl) (fun _ _ _ h => h) (Or.inl ⟨by rfl, ?_⟩) hHeld ?_
      rotate_left
      · (intro w' hSw; (try dsimp only at hSw); go_simp; try (with_reducible rfl))
      try simp only [Act.put, List.setIfInBounds_toArray, List.set_cons_zero, List.set_cons_succ]
      skip
      refine wpAnyH_done (by kernel_rfl) ?_ _
      have hb := HB.out
      replace V0 := Lib.hid (V0.out.below hb V0.out.lt)
      replace X0 := Lib.hid (X0.out.below hb)
      replace Y0 := Lib.hid (Y0.out.below hb)
      replace V1 := Lib.hid (V1.out.below hb V1.out.lt)
      replace X1 := Lib.hid (X1.out.below hb)
      replace Y1 := Lib.hid (Y1.out.below hb)
      replace V2 := Lib.hid (V2.out.below hb V2.out.lt)
      replace X2 := Lib.hid (X2.out.below hb)
      replace Y2 := Lib.hid (Y2.out.below hb)
      replace B1 := Lib.hid (B1.out.trans (hb.mono B1.out.size))
      clear hHeld hb HB
      rcases CB.out (by decide) with h | ⟨h, h2⟩ | ⟨h, h2⟩ | ⟨h, h2⟩ | ⟨h, h2⟩
      · subst h
        clear CB
        have pc0 := Lib.hid trivial
        go_wp2_with (first
          | (clear pc0; refine wpList_ldR (by rfl) _ rfl (by rfl) V1.out ?_; have pc1 := Lib.hid trivial)
          | (clear pc1; refine wpList_ldR (by rfl) _ rfl (by rfl) V2.out ?_; have pc2 := Lib.hid trivial)
          | (clear pc2; go_at_call 45; refine Calls.mono (qcompare_any (L := 100000000) (r := (1)) X1.out Y1.out X2.out Y2.out LZ1.out LD1.out LZ2.out LD2.out LL.out S7.out) ?_; rintro e v10 ⟨rfl, hb⟩; replace V0 := Lib.hid (V0.out.below hb V0.out.lt); replace X0 := Lib.hid (X0.out.below hb); replace Y0 := Lib.hid (Y0.out.below hb); replace V1 := Lib.hid (V1.out.below hb V1.out.lt); replace X1 := Lib.hid (X1.out.below hb); replace Y1 := Lib.hid (Y1.out.below hb); replace V2 := Lib.hid (V2.out.below hb V2.out.lt); replace X2 := Lib.hid (X2.out.below hb); replace Y2 := Lib.hid (Y2.out.below hb); replace B1 := Lib.hid (B1.out.trans (hb.mono B1.out.size)); clear hb; have pc3 := Lib.hid trivial))
        clear pc3
        go_ret
        exact ⟨rfl, B1.out⟩
      · subst h
        subst h2
        clear CB
        have pc0 := Lib.hid trivial
        go_wp2_with (first
          | (clear pc0; refine wpList_ldR (by rfl) _ rfl (by rfl) V1.out ?_; have pc1 := Lib.hid trivial)
          | (clear pc1; refine wpList_ldR (by rfl) _ rfl (by rfl) V2.out ?_; have pc2 := Lib.hid trivial)
          | (clear pc2; go_at_call 45; refine Calls.mono (qcompare_any (L := 100000000) (r := (-1)) X1.out Y1.out X2.out Y2.out LZ1.out LD1.out LZ2.out LD2.out LL.out S7.out) ?_; rintro e v10 ⟨rfl, hb⟩; replace V0 := Lib.hid (V0.out.below hb V0.out.lt); replace X0 := Lib.hid (X0.out.below hb); replace Y0 := Lib.hid (Y0.out.below hb); replace V1 := Lib.hid (V1.out.below hb V1.out.lt); replace X1 := Lib.hid (X1.out.below hb); replace Y1 := Lib.hid (Y1.out.below hb); replace V2 := Lib.hid (V2.out.below hb V2.out.lt); replace X2 := Lib.hid (X2.out.below hb); replace Y2 := Lib.hid (Y2.out.below hb); replace B1 := Lib.hid (B1.out.trans (hb.mono B1.out.size)); clear hb; have pc3 := Lib.hid trivial)
          | (clear pc3; refine wpList_ldR (by rfl) _ rfl (by rfl) V0.out ?_; have pc4 := Lib.hid trivial)
          | (clear pc4; refine wpList_ldR (by rfl) _ rfl (by rfl) V2.out ?_; have pc5 := Lib.hid trivial)
          | (clear pc5; go_at_call 45; refine Calls.mono (qcompare_any (L := 100000000) (r := (-1)) X0.out Y0.out X2.out Y2.out LZ0.out LD0.out LZ2.out LD2.out LL.out S8.out) ?_; rintro e v11 ⟨rfl, hb⟩; replace V0 := Lib.hid (V0.out.below hb V0.out.lt); replace X0 := Lib.hid (X0.out.below hb); replace Y0 := Lib.hid (Y0.out.below hb); replace V1 := Lib.hid (V1.out.below hb V1.out.lt); replace X1 := Lib.hid (X1.out.below hb); replace Y1 := Lib.hid (Y1.out.below hb); replace V2 := Lib.hid (V2.out.below hb V2.out.lt); replace X2 := Lib.hid (X2.out.below hb); replace Y2 := Lib.hid (Y2.out.below hb); replace B1 := Lib.hid (B1.out.trans (hb.mono B1.out.size)); clear hb; have pc6 := Lib.hid trivial))
        clear pc6
        go_ret
        exact ⟨rfl, B1.out⟩
      · subst h
        subst h2
        clear CB
        have pc0 := Lib.hid trivial
        go_wp2_with (first
          | (clear pc0; refine wpList_ldR (by rfl) _ rfl (by rfl) V1.out ?_; have pc1 := Lib.hid trivial)
          | (clear pc1; refine wpList_ldR (by rfl) _ rfl (by rfl) V2.out ?_; have pc2 := Lib.hid trivial)
          | (clear pc2; go_at_call 45; refine Calls.mono (qcompare_any (L := 100000000) (r := (-1)) X1.out Y1.out X2.out Y2.out LZ1.out LD1.out LZ2.out LD2.out LL.out S7.out) ?_; rintro e v10 ⟨rfl, hb⟩; replace V0 := Lib.hid (V0.out.below hb V0.out.lt); replace X0 := Lib.hid (X0.out.below hb); replace Y0 := Lib.hid (Y0.out.below hb); replace V1 := Lib.hid (V1.out.below hb V1.out.lt); replace X1 := Lib.hid (X1.out.below hb); replace Y1 := Lib.hid (Y1.out.below hb); replace V2 := Lib.hid (V2.out.below hb V2.out.lt); replace X2 := Lib.hid (X2.out.below hb); replace Y2 := Lib.hid (Y2.out.below hb); replace B1 := Lib.hid (B1.out.trans (hb.mono B1.out.size)); clear hb; have pc3 := Lib.hid trivial)
          | (clear pc3; refine wpList_ldR (by rfl) _ rfl (by rfl) V0.out ?_; have pc4 := Lib.hid trivial)
          | (clear pc4; refine wpList_ldR (by rfl) _ rfl (by rfl) V2.out ?_; have pc5 := Lib.hid trivial)
          | (clear pc5; go_at_call 45; refine Calls.mono (qcompare_any (L := 100000000) (r := (0)) X0.out Y0.out X2.out Y2.out LZ0.out LD0.out LZ2.out LD2.out LL.out S8.out) ?_; rintro e v11 ⟨rfl, hb⟩; replace V0 := Lib.hid (V0.out.below hb V0.out.lt); replace X0 := Lib.hid (X0.out.below hb); replace Y0 := Lib.hid (Y0.out.below hb); replace V1 := Lib.hid (V1.out.below hb V1.out.lt); replace X1 := Lib.hid (X1.out.below hb); replace Y1 := Lib.hid (Y1.out.below hb); replace V2 := Lib.hid (V2.out.below hb V2.out.lt); replace X2 := Lib.hid (X2.out.below hb); replace Y2 := Lib.hid (Y2.out.below hb); replace B1 := Lib.hid (B1.out.trans (hb.mono B1.out.size)); clear hb; have pc6 := Lib.hid trivial))
        clear pc6
        go_ret
        exact ⟨rfl, B1.out⟩
      · subst h
        subst h2
        clear CB
        have pc0 := Lib.hid trivial
        go_wp2_with (first
          | (clear pc0; refine wpList_ldR (by rfl) _ rfl (by rfl) V1.out ?_; have pc1 := Lib.hid trivial)
          | (clear pc1; refine wpList_ldR (by rfl) _ rfl (by rfl) V2.out ?_; have pc2 := Lib.hid trivial)
          | (clear pc2; go_at_call 45; refine Calls.mono (qcompare_any (L := 100000000) (r := (0)) X1.out Y1.out X2.out Y2.out LZ1.out LD1.out LZ2.out LD2.out LL.out S7.out) ?_; rintro e v10 ⟨rfl, hb⟩; replace V0 := Lib.hid (V0.out.below hb V0.out.lt); replace X0 := Lib.hid (X0.out.below hb); replace Y0 := Lib.hid (Y0.out.below hb); replace V1 := Lib.hid (V1.out.below hb V1.out.lt); replace X1 := Lib.hid (X1.out.below hb); replace Y1 := Lib.hid (Y1.out.below hb); replace V2 := Lib.hid (V2.out.below hb V2.out.lt); replace X2 := Lib.hid (X2.out.below hb); replace Y2 := Lib.hid (Y2.out.below hb); replace B1 := Lib.hid (B1.out.trans (hb.mono B1.out.size)); clear hb; have pc3 := Lib.hid trivial)
          | (clear pc3; refine wpList_ldR (by rfl) _ rfl (by rfl) V0.out ?_; have pc4 := Lib.hid trivial)
          | (clear pc4; refine wpList_ldR (by rfl) _ rfl (by rfl) V2.out ?_; have pc5 := Lib.hid trivial)
          | (clear pc5; go_at_call 45; refine Calls.mono (qcompare_any (L := 100000000) (r := (-1)) X0.out Y0.out X2.out Y2.out LZ0.out LD0.out LZ2.out LD2.out LL.out S8.out) ?_; rintro e v11 ⟨rfl, hb⟩; replace V0 := Lib.hid (V0.out.below hb V0.out.lt); replace X0 := Lib.hid (X0.out.below hb); replace Y0 := Lib.hid (Y0.out.below hb); replace V1 := Lib.hid (V1.out.below hb V1.out.lt); replace X1 := Lib.hid (X1.out.below hb); replace Y1 := Lib.hid (Y1.out.below hb); replace V2 := Lib.hid (V2.out.below hb V2.out.lt); replace X2 := Lib.hid (X2.out.below hb); replace Y2 := Lib.hid (Y2.out.below hb); replace B1 := Lib.hid (B1.out.trans (hb.mono B1.out.size)); clear hb; have pc6 := Lib.hid trivial))
        clear pc6
        go_ret
        exact ⟨rfl, B1.out⟩
      · subst h
        subst h2
        clear CB
        have pc0 := Lib.hid trivial
        go_wp2_with (first
          | (clear pc0; refine wpList_ldR (by rfl) _ rfl (by rfl) V1.out ?_; have pc1 := Lib.hid trivial)
          | (clear pc1; refine wpList_ldR (by rfl) _ rfl (by rfl) V2.out ?_; have pc2 := Lib.hid trivial)
          | (clear pc2; go_at_call 45; refine Calls.mono (qcompare_any (L := 100000000) (r := (0)) X1.out Y1.out X2.out Y2.out LZ1.out LD1.out LZ2.out LD2.out LL.out S7.out) ?_; rintro e v10 ⟨rfl, hb⟩; replace V0 := Lib.hid (V0.out.below hb V0.out.lt); replace X0 := Lib.hid (X0.out.below hb); replace Y0 := Lib.hid (Y0.out.below hb); replace V1 := Lib.hid (V1.out.below hb V1.out.lt); replace X1 := Lib.hid (X1.out.below hb); replace Y1 := Lib.hid (Y1.out.below hb); replace V2 := Lib.hid (V2.out.below hb V2.out.lt); replace X2 := Lib.hid (X2.out.below hb); replace Y2 := Lib.hid (Y2.out.below hb); replace B1 := Lib.hid (B1.out.trans (hb.mono B1.out.size)); clear hb; have pc3 := Lib.hid trivial)
          | (clear pc3; refine wpList_ldR (by rfl) _ rfl (by rfl) V0.out ?_; have pc4 := Lib.hid trivial)
          | (clear pc4; refine wpList_ldR (by rfl) _ rfl (by rfl) V2.out ?_; have pc5 := Lib.hid trivial)
          | (clear pc5; go_at_call 45; refine Calls.mono (qcompare_any (L := 100000000) (r := (0)) X0.out Y0.out X2.out Y2.out LZ0.out LD0.out LZ2.out LD2.out LL.out S8.out) ?_; rintro e v11 ⟨rfl, hb⟩; replace V0 := Lib.hid (V0.out.below hb V0.out.lt); replace X0 := Lib.hid (X0.out.below hb); replace Y0 := Lib.hid (Y0.out.below hb); replace V1 := Lib.hid (V1.out.below hb V1.out.lt); replace X1 := Lib.hid (X1.out.below hb); replace Y1 := Lib.hid (Y1.out.below hb); replace V2 := Lib.hid (V2.out.below hb V2.out.lt); replace X2 := Lib.hid (X2.out.below hb); replace Y2 := Lib.hid (Y2.out.below hb); replace B1 := Lib.hid (B1.out.trans (hb.mono B1.out.size)); clear hb; have pc6 := Lib.hid trivial))
        clear pc6
        go_ret
        exact ⟨rfl, B1.out⟩
    · subst h
      clear CC
      have HB : Hid (Below v8.heap.size v8 v8.drew) := below_drewN _ v8 1
      refine wp_region_held_drew (S := fun w' => Below v8.heap.size v8 w') (by kernel_rfl) (HB.out) (fun hHeld => ?_)
      refine wpAnyH_takeL (i := 0) (oi := _) rfl (by kernel_rfl) (by kernel_rfl) (by kernel_rfl) (fun _ _ _ h => h) (yields_ldR (by rfl) _ rfl (by rfl) (fun _ hb => V2.out.below hb V2.out.lt)) hHeld ?_
      try simp only [Act.put, List.setIfInBounds_toArray, List.set_cons_zero, List.set_cons_succ]
      refine wpAnyH_ready (rs := [1]) (by kernel_rfl) (by simp) ?_
      refine AllReadyH.consL (o := _) rfl (fun K hK => ?_) AllReadyH.nil
      clear hHeld
      go_simp
      go_at_call 44
      refine Calls.mono (qsign_any (L := 100000000) (r := (0)) (X2.out.below HB.out) (Y2.out.below HB.out) LZ2.out LD2.out LL2.out S5.out) ?_
      rintro e v9 ⟨rfl, hb⟩
      replace HB := Lib.hid (HB.out.trans (hb.mono HB.out.size))
      clear hb
      refine hK.out _ _ HB.out (fun hHeld => ?_)
      clear hK K
      try simp only [Act.put, List.setIfInBounds_toArray, List.set_cons_zero, List.set_cons_succ]
      refine wpAnyH_takeL (i := 2) (oi := _) (v := ?_) rfl (by kernel_rfl) (by kernel_rfl) (by kernel_rfl) (fun _ _ _ h => h) (Or.inl ⟨by rfl, ?_⟩) hHeld ?_
      rotate_left
      · (intro w' hSw; (try dsimp only at hSw); go_simp; try (with_reducible rfl))
      try simp only [Act.put, List.setIfInBounds_toArray, List.set_cons_zero, List.set_cons_succ]
      refine wpAnyH_takeL (i := 3) (oi := _) (v := ?_) rfl (by kernel_rfl) (by kernel_rfl) (by kernel_rfl) (fun _ _ _ h => h) (Or.inl ⟨by rfl, ?_⟩) hHeld ?_
      rotate_left
      · (intro w' hSw; (try dsimp only at hSw); go_simp; try (with_reducible rfl))
      try simp only [Act.put, List.setIfInBounds_toArray, List.set_cons_zero, List.set_cons_succ]
      refine wpAnyH_takeL (i := 4) (oi := _) (v := undef) rfl (by kernel_rfl) (by kernel_rfl) (by kernel_rfl) (fun _ _ _ h => h) (Or.inr ⟨by rfl, rfl⟩) hHeld ?_
      try simp only [Act.put, List.setIfInBounds_toArray, List.set_cons_zero, List.set_cons_succ]
      refine wpAnyH_takeL (i := 5) (oi := _) (v := undef) rfl (by kernel_rfl) (by kernel_rfl) (by kernel_rfl) (fun _ _ _ h => h) (Or.inr ⟨by rfl, rfl⟩) hHeld ?_
      try simp only [Act.put, List.setIfInBounds_toArray, List.set_cons_zero, List.set_cons_succ]
      refine wpAnyH_takeL (i := 6) (oi := _) (v := undef) rfl (by kernel_rfl) (by kernel_rfl) (by kernel_rfl) (fun _ _ _ h => h) (Or.inr ⟨by rfl, rfl⟩) hHeld ?_
      try simp only [Act.put, List.setIfInBounds_toArray, List.set_cons_zero, List.set_cons_succ]
      refine wpAnyH_takeL (i := 7) (oi := _) (v := undef) rfl (by kernel_rfl) (by kernel_rfl) (by kernel_rfl) (fun _ _ _ h => h) (Or.inr ⟨by rfl, rfl⟩) hHeld ?_
      try simp only [Act.put, List.setIfInBounds_toArray, List.set_cons_zero, List.set_cons_succ]
      refine wpAnyH_takeL (i := 8) (oi := _) (v := undef) rfl (by kernel_rfl) (by kernel_rfl) (by kernel_rfl) (fun _ _ _ h => h) (Or.inr ⟨by rfl, rfl⟩) hHeld ?_
      try simp only [Act.put, List.setIfInBounds_toArray, List.set_cons_zero, List.set_cons_succ]
      refine wpAnyH_takeL (i := 9) (oi := _) (v := undef) rfl (by kernel_rfl) (by kernel_rfl) (by kernel_rfl) (fun _ _ _ h => h) (Or.inr ⟨by rfl, rfl⟩) hHeld ?_
      try simp only [Act.put, List.setIfInBounds_toArray, List.set_cons_zero, List.set_cons_succ]
      refine wpAnyH_takeL (i := 10) (oi := _) (v := undef) rfl (by kernel_rfl) (by kernel_rfl) (by kernel_rfl) (fun _ _ _ h => h) (Or.inr ⟨by rfl, rfl⟩) hHeld ?_
      try simp only [Act.put, List.setIfInBounds_toArray, List.set_cons_zero, List.set_cons_succ]
      refine wpAnyH_takeL (i := 11) (oi := _) (v := undef) rfl (by kernel_rfl) (by kernel_rfl) (by kernel_rfl) (fun _ _ _ h => h) (Or.inr ⟨by rfl, rfl⟩) hHeld ?_
      try simp only [Act.put, List.setIfInBounds_toArray, List.set_cons_zero, List.set_cons_succ]
      refine wpAnyH_takeL (i := 12) (oi := _) (v := undef) rfl (by kernel_rfl) (by kernel_rfl) (by kernel_rfl) (fun _ _ _ h => h) (Or.inr ⟨by rfl, rfl⟩) hHeld ?_
      try simp only [Act.put, List.setIfInBounds_toArray, List.set_cons_zero, List.set_cons_succ]
      refine wpAnyH_takeL (i := 13) (oi := _) (v := ?_) rfl (by kernel_rfl) (by kernel_rfl) (by kernel_rfl) (fun _ _ _ h => h) (Or.inl ⟨by rfl, ?_⟩) hHeld ?_
      rotate_left
      · (intro w' hSw; (try dsimp only at hSw); go_simp; try (with_reducible rfl))
      try simp only [Act.put, List.setIfInBounds_toArray, List.set_cons_zero, List.set_cons_succ]
      skip
      refine wpAnyH_done (by kernel_rfl) ?_ _
      have hb := HB.out
      replace V0 := Lib.hid (V0.out.below hb V0.out.lt)
      replace X0 := Lib.hid (X0.out.below hb)
      replace Y0 := Lib.hid (Y0.out.below hb)
      replace V1 := Lib.hid (V1.out.below hb V1.out.lt)
      replace X1 := Lib.hid (X1.out.below hb)
      replace Y1 := Lib.hid (Y1.out.below hb)
      replace V2 := Lib.hid (V2.out.below hb V2.out.lt)
      replace X2 := Lib.hid (X2.out.below hb)
      replace Y2 := Lib.hid (Y2.out.below hb)
      replace B1 := Lib.hid (B1.out.trans (hb.mono B1.out.size))
      clear hHeld hb HB
      rcases CB.out (by decide) with h | ⟨h, h2⟩ | ⟨h, h2⟩ | ⟨h, h2⟩ | ⟨h, h2⟩
      · subst h
        clear CB
        have pc0 := Lib.hid trivial
        go_wp2_with (first
          | (clear pc0; refine wpList_ldR (by rfl) _ rfl (by rfl) V1.out ?_; have pc1 := Lib.hid trivial)
          | (clear pc1; refine wpList_ldR (by rfl) _ rfl (by rfl) V2.out ?_; have pc2 := Lib.hid trivial)
          | (clear pc2; go_at_call 45; refine Calls.mono (qcompare_any (L := 100000000) (r := (1)) X1.out Y1.out X2.out Y2.out LZ1.out LD1.out LZ2.out LD2.out LL.out S7.out) ?_; rintro e v10 ⟨rfl, hb⟩; replace V0 := Lib.hid (V0.out.below hb V0.out.lt); replace X0 := Lib.hid (X0.out.below hb); replace Y0 := Lib.hid (Y0.out.below hb); replace V1 := Lib.hid (V1.out.below hb V1.out.lt); replace X1 := Lib.hid (X1.out.below hb); replace Y1 := Lib.hid (Y1.out.below hb); replace V2 := Lib.hid (V2.out.below hb V2.out.lt); replace X2 := Lib.hid (X2.out.below hb); replace Y2 := Lib.hid (Y2.out.below hb); replace B1 := Lib.hid (B1.out.trans (hb.mono B1.out.size)); clear hb; have pc3 := Lib.hid trivial))
        clear pc3
        go_ret
        exact ⟨rfl, B1.out⟩
      · subst h
        subst h2
        clear CB
        have pc0 := Lib.hid trivial
        go_wp2_with (first
          | (clear pc0; refine wpList_ldR (by rfl) _ rfl (by rfl) V1.out ?_; have pc1 := Lib.hid trivial)
          | (clear pc1; refine wpList_ldR (by rfl) _ rfl (by rfl) V2.out ?_; have pc2 := Lib.hid trivial)
          | (clear pc2; go_at_call 45; refine Calls.mono (qcompare_any (L := 100000000) (r := (-1)) X1.out Y1.out X2.out Y2.out LZ1.out LD1.out LZ2.out LD2.out LL.out S7.out) ?_; rintro e v10 ⟨rfl, hb⟩; replace V0 := Lib.hid (V0.out.below hb V0.out.lt); replace X0 := Lib.hid (X0.out.below hb); replace Y0 := Lib.hid (Y0.out.below hb); replace V1 := Lib.hid (V1.out.below hb V1.out.lt); replace X1 := Lib.hid (X1.out.below hb); replace Y1 := Lib.hid (Y1.out.below hb); replace V2 := Lib.hid (V2.out.below hb V2.out.lt); replace X2 := Lib.hid (X2.out.below hb); replace Y2 := Lib.hid (Y2.out.below hb); replace B1 := Lib.hid (B1.out.trans (hb.mono B1.out.size)); clear hb; have pc3 := Lib.hid trivial)
          | (clear pc3; refine wpList_ldR (by rfl) _ rfl (by rfl) V0.out ?_; have pc4 := Lib.hid trivial)
          | (clear pc4; refine wpList_ldR (by rfl) _ rfl (by rfl) V2.out ?_; have pc5 := Lib.hid trivial)
          | (clear pc5; go_at_call 45; refine Calls.mono (qcompare_any (L := 100000000) (r := (-1)) X0.out Y0.out X2.out Y2.out LZ0.out LD0.out LZ2.out LD2.out LL.out S8.out) ?_; rintro e v11 ⟨rfl, hb⟩; replace V0 := Lib.hid (V0.out.below hb V0.out.lt); replace X0 := Lib.hid (X0.out.below hb); replace Y0 := Lib.hid (Y0.out.below hb); replace V1 := Lib.hid (V1.out.below hb V1.out.lt); replace X1 := Lib.hid (X1.out.below hb); replace Y1 := Lib.hid (Y1.out.below hb); replace V2 := Lib.hid (V2.out.below hb V2.out.lt); replace X2 := Lib.hid (X2.out.below hb); replace Y2 := Lib.hid (Y2.out.below hb); replace B1 := Lib.hid (B1.out.trans (hb.mono B1.out.size)); clear hb; have pc6 := Lib.hid trivial))
        clear pc6
        go_ret
        exact ⟨rfl, B1.out⟩
      · subst h
        subst h2
        clear CB
        have pc0 := Lib.hid trivial
        go_wp2_with (first
          | (clear pc0; refine wpList_ldR (by rfl) _ rfl (by rfl) V1.out ?_; have pc1 := Lib.hid trivial)
          | (clear pc1; refine wpList_ldR (by rfl) _ rfl (by rfl) V2.out ?_; have pc2 := Lib.hid trivial)
          | (clear pc2; go_at_call 45; refine Calls.mono (qcompare_any (L := 100000000) (r := (-1)) X1.out Y1.out X2.out Y2.out LZ1.out LD1.out LZ2.out LD2.out LL.out S7.out) ?_; rintro e v10 ⟨rfl, hb⟩; replace V0 := Lib.hid (V0.out.below hb V0.out.lt); replace X0 := Lib.hid (X0.out.below hb); replace Y0 := Lib.hid (Y0.out.below hb); replace V1 := Lib.hid (V1.out.below hb V1.out.lt); replace X1 := Lib.hid (X1.out.below hb); replace Y1 := Lib.hid (Y1.out.below hb); replace V2 := Lib.hid (V2.out.below hb V2.out.lt); replace X2 := Lib.hid (X2.out.below hb); replace Y2 := Lib.hid (Y2.out.below hb); replace B1 := Lib.hid (B1.out.trans (hb.mono B1.out.size)); clear hb; have pc3 := Lib.hid trivial)
          | (clear pc3; refine wpList_ldR (by rfl) _ rfl (by rfl) V0.out ?_; have pc4 := Lib.hid trivial)
          | (clear pc4; refine wpList_ldR (by rfl) _ rfl (by rfl) V2.out ?_; have pc5 := Lib.hid trivial)
          | (clear pc5; go_at_call 45; refine Calls.mono (qcompare_any (L := 100000000) (r := (0)) X0.out Y0.out X2.out Y2.out LZ0.out LD0.out LZ2.out LD2.out LL.out S8.out) ?_; rintro e v11 ⟨rfl, hb⟩; replace V0 := Lib.hid (V0.out.below hb V0.out.lt); replace X0 := Lib.hid (X0.out.below hb); replace Y0 := Lib.hid (Y0.out.below hb); replace V1 := Lib.hid (V1.out.below hb V1.out.lt); replace X1 := Lib.hid (X1.out.below hb); replace Y1 := Lib.hid (Y1.out.below hb); replace V2 := Lib.hid (V2.out.below hb V2.out.lt); replace X2 := Lib.hid (X2.out.below hb); replace Y2 := Lib.hid (Y2.out.below hb); replace B1 := Lib.hid (B1.out.trans (hb.mono B1.out.size)); clear hb; have pc6 := Lib.hid trivial))
        clear pc6
        go_ret
        exact ⟨rfl, B1.out⟩
      · subst h
        subst h2
        clear CB
        have pc0 := Lib.hid trivial
        go_wp2_with (first
          | (clear pc0; refine wpList_ldR (by rfl) _ rfl (by rfl) V1.out ?_; have pc1 := Lib.hid trivial)
          | (clear pc1; refine wpList_ldR (by rfl) _ rfl (by rfl) V2.out ?_; have pc2 := Lib.hid trivial)
          | (clear pc2; go_at_call 45; refine Calls.mono (qcompare_any (L := 100000000) (r := (0)) X1.out Y1.out X2.out Y2.out LZ1.out LD1.out LZ2.out LD2.out LL.out S7.out) ?_; rintro e v10 ⟨rfl, hb⟩; replace V0 := Lib.hid (V0.out.below hb V0.out.lt); replace X0 := Lib.hid (X0.out.below hb); replace Y0 := Lib.hid (Y0.out.below hb); replace V1 := Lib.hid (V1.out.below hb V1.out.lt); replace X1 := Lib.hid (X1.out.below hb); replace Y1 := Lib.hid (Y1.out.below hb); replace V2 := Lib.hid (V2.out.below hb V2.out.lt); replace X2 := Lib.hid (X2.out.below hb); replace Y2 := Lib.hid (Y2.out.below hb); replace B1 := Lib.hid (B1.out.trans (hb.mono B1.out.size)); clear hb; have pc3 := Lib.hid trivial)
          | (clear pc3; refine wpList_ldR (by rfl) _ rfl (by rfl) V0.out ?_; have pc4 := Lib.hid trivial)
          | (clear pc4; refine wpList_ldR (by rfl) _ rfl (by rfl) V2.out ?_; have pc5 := Lib.hid trivial)
          | (clear pc5; go_at_call 45; refine Calls.mono (qcompare_any (L := 100000000) (r := (-1)) X0.out Y0.out X2.out Y2.out LZ0.out LD0.out LZ2.out LD2.out LL.out S8.out) ?_; rintro e v11 ⟨rfl, hb⟩; replace V0 := Lib.hid (V0.out.below hb V0.out.lt); replace X0 := Lib.hid (X0.out.below hb); replace Y0 := Lib.hid (Y0.out.below hb); replace V1 := Lib.hid (V1.out.below hb V1.out.lt); replace X1 := Lib.hid (X1.out.below hb); replace Y1 := Lib.hid (Y1.out.below hb); replace V2 := Lib.hid (V2.out.below hb V2.out.lt); replace X2 := Lib.hid (X2.out.below hb); replace Y2 := Lib.hid (Y2.out.below hb); replace B1 := Lib.hid (B1.out.trans (hb.mono B1.out.size)); clear hb; have pc6 := Lib.hid trivial))
        clear pc6
        go_ret
        exact ⟨rfl, B1.out⟩
      · subst h
        subst h2
        clear CB
        have pc0 := Lib.hid trivial
        go_wp2_with (first
          | (clear pc0; refine wpList_ldR (by rfl) _ rfl (by rfl) V1.out ?_; have pc1 := Lib.hid trivial)
          | (clear pc1; refine wpList_ldR (by rfl) _ rfl (by rfl) V2.out ?_; have pc2 := Lib.hid trivial)
          | (clear pc2; go_at_call 45; refine Calls.mono (qcompare_any (L := 100000000) (r := (0)) X1.out Y1.out X2.out Y2.out LZ1.out LD1.out LZ2.out LD2.out LL.out S7.out) ?_; rintro e v10 ⟨rfl, hb⟩; replace V0 := Lib.hid (V0.out.below hb V0.out.lt); replace X0 := Lib.hid (X0.out.below hb); replace Y0 := Lib.hid (Y0.out.below hb); replace V1 := Lib.hid (V1.out.below hb V1.out.lt); replace X1 := Lib.hid (X1.out.below hb); replace Y1 := Lib.hid (Y1.out.below hb); replace V2 := Lib.hid (V2.out.below hb V2.out.lt); replace X2 := Lib.hid (X2.out.below hb); replace Y2 := Lib.hid (Y2.out.below hb); replace B1 := Lib.hid (B1.out.trans (hb.mono B1.out.size)); clear hb; have pc3 := Lib.hid trivial)
          | (clear pc3; refine wpList_ldR (by rfl) _ rfl (by rfl) V0.out ?_; have pc4 := Lib.hid trivial)
          | (clear pc4; refine wpList_ldR (by rfl) _ rfl (by rfl) V2.out ?_; have pc5 := Lib.hid trivial)
          | (clear pc5; go_at_call 45; refine Calls.mono (qcompare_any (L := 100000000) (r := (0)) X0.out Y0.out X2.out Y2.out LZ0.out LD0.out LZ2.out LD2.out LL.out S8.out) ?_; rintro e v11 ⟨rfl, hb⟩; replace V0 := Lib.hid (V0.out.below hb V0.out.lt); replace X0 := Lib.hid (X0.out.below hb); replace Y0 := Lib.hid (Y0.out.below hb); replace V1 := Lib.hid (V1.out.below hb V1.out.lt); replace X1 := Lib.hid (X1.out.below hb); replace Y1 := Lib.hid (Y1.out.below hb); replace V2 := Lib.hid (V2.out.below hb V2.out.lt); replace X2 := Lib.hid (X2.out.below hb); replace Y2 := Lib.hid (Y2.out.below hb); replace B1 := Lib.hid (B1.out.trans (hb.mono B1.out.size)); clear hb; have pc6 := Lib.hid trivial))
        clear pc6
        go_ret
        exact ⟨rfl, B1.out⟩
    · subst h
      clear CC
      have S9 := Lib.hid (S6.out rfl)
      have HB : Hid (Below v8.heap.size v8 v8.drew) := below_drewN _ v8 1
      refine wp_region_held_drew (S := fun w' => Below v8.heap.size v8 w') (by kernel_rfl) (HB.out) (fun hHeld => ?_)
      refine wpAnyH_takeL (i := 0) (oi := _) rfl (by kernel_rfl) (by kernel_rfl) (by kernel_rfl) (fun _ _ _ h => h) (yields_ldR (by rfl) _ rfl (by rfl) (fun _ hb => V2.out.below hb V2.out.lt)) hHeld ?_
      try simp only [Act.put, List.setIfInBounds_toArray, List.set_cons_zero, List.set_cons_succ]
      refine wpAnyH_ready (rs := [1]) (by kernel_rfl) (by simp) ?_
      refine AllReadyH.consL (o := _) rfl (fun K hK => ?_) AllReadyH.nil
      clear hHeld
      go_simp
      go_at_call 44
      refine Calls.mono (qsign_any (L := 100000000) (r := (1)) (X2.out.below HB.out) (Y2.out.below HB.out) LZ2.out LD2.out LL2.out S5.out) ?_
      rintro e v9 ⟨rfl, hb⟩
      replace HB := Lib.hid (HB.out.trans (hb.mono HB.out.size))
      clear hb
      refine hK.out _ _ HB.out (fun hHeld => ?_)
      clear hK K
      try simp only [Act.put, List.setIfInBounds_toArray, List.set_cons_zero, List.set_cons_succ]
      refine wpAnyH_takeL (i := 2) (oi := _) (v := ?_) rfl (by kernel_rfl) (by kernel_rfl) (by kernel_rfl) (fun _ _ _ h => h) (Or.inl ⟨by rfl, ?_⟩) hHeld ?_
      rotate_left
      · (intro w' hSw; (try dsimp only at hSw); go_simp; try (with_reducible rfl))
      try simp only [Act.put, List.setIfInBounds_toArray, List.set_cons_zero, List.set_cons_succ]
      refine wpAnyH_takeL (i := 3) (oi := _) (v := ?_) rfl (by kernel_rfl) (by kernel_rfl) (by kernel_rfl) (fun _ _ _ h => h) (Or.inl ⟨by rfl, ?_⟩) hHeld ?_
      rotate_left
      · (intro w' hSw; (try dsimp only at hSw); go_simp; try (with_reducible rfl))
      try simp only [Act.put, List.setIfInBounds_toArray, List.set_cons_zero, List.set_cons_succ]
      refine wpAnyH_takeL (i := 4) (oi := _) rfl (by kernel_rfl) (by kernel_rfl) (by kernel_rfl) (fun _ _ _ h => h) (yields_ldR (by rfl) _ rfl (by rfl) (fun _ hb => V0.out.below hb V0.out.lt)) hHeld ?_
      try simp only [Act.put, List.setIfInBounds_toArray, List.set_cons_zero, List.set_cons_succ]
      refine wpAnyH_takeL (i := 5) (oi := _) rfl (by kernel_rfl) (by kernel_rfl) (by kernel_rfl) (fun _ _ _ h => h) (yields_ldR (by rfl) _ rfl (by rfl) (fun _ hb => V2.out.below hb V2.out.lt)) hHeld ?_
      try simp only [Act.put, List.setIfInBounds_toArray, List.set_cons_zero, List.set_cons_succ]
      refine wpAnyH_takeL (i := 7) (oi := _) rfl (by kernel_rfl) (by kernel_rfl) (by kernel_rfl) (fun _ _ _ h => h) (yields_ldR (by rfl) _ rfl (by rfl) (fun _ hb => V1.out.below hb V1.out.lt)) hHeld ?_
      try simp only [Act.put, List.setIfInBounds_toArray, List.set_cons_zero, List.set_cons_succ]
      refine wpAnyH_takeL (i := 8) (oi := _) rfl (by kernel_rfl) (by kernel_rfl) (by kernel_rfl) (fun _ _ _ h => h) (yields_ldR (by rfl) _ rfl (by rfl) (fun _ hb => V2.out.below hb V2.out.lt)) hHeld ?_
      try simp only [Act.put, List.setIfInBounds_toArray, List.set_cons_zero, List.set_cons_succ]
      refine wpAnyH_takeL (i := 11) (oi := _) (v := ?_) rfl (by kernel_rfl) (by kernel_rfl) (by kernel_rfl) (fun _ _ _ h => h) (Or.inl ⟨by rfl, ?_⟩) hHeld ?_
      rotate_left
      · (intro w' hSw; (try dsimp only at hSw); go_simp; try (with_reducible rfl))
      try simp only [Act.put, List.setIfInBounds_toArray, List.set_cons_zero, List.set_cons_succ]
      refine wpAnyH_ready (rs := [6]) (by kernel_rfl) (by simp) ?_
      refine AllReadyH.consL (o := _) rfl (fun K hK => ?_) AllReadyH.nil
      clear hHeld
      go_simp
      go_at_call 41
      refine Calls.mono (qmul_any (L := 100000000) (z := xv) (d := dv) (X0.out.below HB.out) (Y0.out.below HB.out) (X2.out.below HB.out) (Y2.out.below HB.out) LZ0.out LD0.out LZ2.out LD2.out LL.out HZv.out HDv.out) ?_
      rintro e v10 ⟨Pv, cv, Qv, kv, rfl, ho, ho2, hb⟩
      replace HB := Lib.hid (HB.out.trans (hb.mono HB.out.size))
      have Zv := Lib.hid (Zo.of_own ho)
      have Nv := Lib.hid ho2.rd
      clear ho ho2
      clear hb
      refine hK.out _ _ HB.out (fun hHeld => ?_)
      clear hK K
      try simp only [Act.put, List.setIfInBounds_toArray, List.set_cons_zero, List.set_cons_succ]
      refine wpAnyH_ready (rs := [9]) (by kernel_rfl) (by simp) ?_
      refine AllReadyH.consL (o := _) rfl (fun K hK => ?_) AllReadyH.nil
      clear hHeld
      go_simp
      go_at_call 41
      refine Calls.mono (qmul_any (L := 100000000) (z := xy) (d := dy) (X1.out.below HB.out) (Y1.out.below HB.out) (X2.out.below HB.out) (Y2.out.below HB.out) LZ1.out LD1.out LZ2.out LD2.out LL.out HZy.out HDy.out) ?_
      rintro e v11 ⟨Py, cy, Qy, ky, rfl, ho, ho2, hb⟩
      replace HB := Lib.hid (HB.out.trans (hb.mono HB.out.size))
      replace Zv := Lib.hid (Zv.out.below hb)
      replace Nv := Lib.hid (Nv.out.below hb)
      have Zy := Lib.hid (Zo.of_own ho)
      have Ny := Lib.hid ho2.rd
      clear ho ho2
      clear hb
      refine hK.out _ _ HB.out (fun hHeld => ?_)
      clear hK K
      try simp only [Act.put, List.setIfInBounds_toArray, List.set_cons_zero, List.set_cons_succ]
      refine wpAnyH_ready (rs := [10]) (by kernel_rfl) (by simp) ?_
      refine AllReadyH.consL (o := _) rfl (fun K hK => ?_) AllReadyH.nil
      clear hHeld
      go_simp
      go_at_call 45
      refine Calls.mono (qcompare_any (L := 100000000) (r := (0)) Zv.out.in_ (Nin.of_rd Nv.out) Zy.out.in_ (Nin.of_rd Ny.out) LZv.out LDv.out LZy.out LDy.out LL.out S9.out) ?_
      rintro e v12 ⟨rfl, hb⟩
      replace HB := Lib.hid (HB.out.trans (hb.mono HB.out.size))
      replace Zv := Lib.hid (Zv.out.below hb)
      replace Nv := Lib.hid (Nv.out.below hb)
      replace Zy := Lib.hid (Zy.out.below hb)
      replace Ny := Lib.hid (Ny.out.below hb)
      clear hb
      refine hK.out _ _ HB.out (fun hHeld => ?_)
      clear hK K
      try simp only [Act.put, List.setIfInBounds_toArray, List.set_cons_zero, List.set_cons_succ]
      refine wpAnyH_takeL (i := 12) (oi := _) (v := ?_) rfl (by kernel_rfl) (by kernel_rfl) (by kernel_rfl) (fun _ _ _ h => h) (Or.inl ⟨by rfl, ?_⟩) hHeld ?_
      rotate_left
      · (intro w' hSw; (try dsimp only at hSw); go_simp; try (with_reducible rfl))
      try simp only [Act.put, List.setIfInBounds_toArray, List.set_cons_zero, List.set_cons_succ]
      refine wpAnyH_takeL (i := 13) (oi := _) (v := ?_) rfl (by kernel_rfl) (by kernel_rfl) (by kernel_rfl) (fun _ _ _ h => h) (Or.inl ⟨by rfl, ?_⟩) hHeld ?_
      rotate_left
      · (intro w' hSw; (try dsimp only at hSw); go_simp; try (with_reducible rfl))
      try simp only [Act.put, List.setIfInBounds_toArray, List.set_cons_zero, List.set_cons_succ]
      skip
      refine wpAnyH_done (by kernel_rfl) ?_ _
      have hb := HB.out
      replace V0 := Lib.hid (V0.out.below hb V0.out.lt)
      replace X0 := Lib.hid (X0.out.below hb)
      replace Y0 := Lib.hid (Y0.out.below hb)
      replace V1 := Lib.hid (V1.out.below hb V1.out.lt)
      replace X1 := Lib.hid (X1.out.below hb)
      replace Y1 := Lib.hid (Y1.out.below hb)
      replace V2 := Lib.hid (V2.out.below hb V2.out.lt)
      replace X2 := Lib.hid (X2.out.below hb)
      replace Y2 := Lib.hid (Y2.out.below hb)
      replace B1 := Lib.hid (B1.out.trans (hb.mono B1.out.size))
      clear hHeld hb HB Zv Nv Zy Ny
      rcases CB.out (by decide) with h | ⟨h, h2⟩ | ⟨h, h2⟩ | ⟨h, h2⟩ | ⟨h, h2⟩
      · subst h
        clear CB
        have pc0 := Lib.hid trivial
        go_wp2_with (first
          | (clear pc0; refine wpList_ldR (by rfl) _ rfl (by rfl) V1.out ?_; have pc1 := Lib.hid trivial)
          | (clear pc1; refine wpList_ldR (by rfl) _ rfl (by rfl) V2.out ?_; have pc2 := Lib.hid trivial)
          | (clear pc2; go_at_call 45; refine Calls.mono (qcompare_any (L := 100000000) (r := (1)) X1.out Y1.out X2.out Y2.out LZ1.out LD1.out LZ2.out LD2.out LL.out S7.out) ?_; rintro e v13 ⟨rfl, hb⟩; replace V0 := Lib.hid (V0.out.below hb V0.out.lt); replace X0 := Lib.hid (X0.out.below hb); replace Y0 := Lib.hid (Y0.out.below hb); replace V1 := Lib.hid (V1.out.below hb V1.out.lt); replace X1 := Lib.hid (X1.out.below hb); replace Y1 := Lib.hid (Y1.out.below hb); replace V2 := Lib.hid (V2.out.below hb V2.out.lt); replace X2 := Lib.hid (X2.out.below hb); replace Y2 := Lib.hid (Y2.out.below hb); replace B1 := Lib.hid (B1.out.trans (hb.mono B1.out.size)); clear hb; have pc3 := Lib.hid trivial))
        clear pc3
        go_ret
        exact ⟨rfl, B1.out⟩
      · subst h
        subst h2
        clear CB
        have pc0 := Lib.hid trivial
        go_wp2_with (first
          | (clear pc0; refine wpList_ldR (by rfl) _ rfl (by rfl) V1.out ?_; have pc1 := Lib.hid trivial)
          | (clear pc1; refine wpList_ldR (by rfl) _ rfl (by rfl) V2.out ?_; have pc2 := Lib.hid trivial)
          | (clear pc2; go_at_call 45; refine Calls.mono (qcompare_any (L := 100000000) (r := (-1)) X1.out Y1.out X2.out Y2.out LZ1.out LD1.out LZ2.out LD2.out LL.out S7.out) ?_; rintro e v13 ⟨rfl, hb⟩; replace V0 := Lib.hid (V0.out.below hb V0.out.lt); replace X0 := Lib.hid (X0.out.below hb); replace Y0 := Lib.hid (Y0.out.below hb); replace V1 := Lib.hid (V1.out.below hb V1.out.lt); replace X1 := Lib.hid (X1.out.below hb); replace Y1 := Lib.hid (Y1.out.below hb); replace V2 := Lib.hid (V2.out.below hb V2.out.lt); replace X2 := Lib.hid (X2.out.below hb); replace Y2 := Lib.hid (Y2.out.below hb); replace B1 := Lib.hid (B1.out.trans (hb.mono B1.out.size)); clear hb; have pc3 := Lib.hid trivial)
          | (clear pc3; refine wpList_ldR (by rfl) _ rfl (by rfl) V0.out ?_; have pc4 := Lib.hid trivial)
          | (clear pc4; refine wpList_ldR (by rfl) _ rfl (by rfl) V2.out ?_; have pc5 := Lib.hid trivial)
          | (clear pc5; go_at_call 45; refine Calls.mono (qcompare_any (L := 100000000) (r := (-1)) X0.out Y0.out X2.out Y2.out LZ0.out LD0.out LZ2.out LD2.out LL.out S8.out) ?_; rintro e v14 ⟨rfl, hb⟩; replace V0 := Lib.hid (V0.out.below hb V0.out.lt); replace X0 := Lib.hid (X0.out.below hb); replace Y0 := Lib.hid (Y0.out.below hb); replace V1 := Lib.hid (V1.out.below hb V1.out.lt); replace X1 := Lib.hid (X1.out.below hb); replace Y1 := Lib.hid (Y1.out.below hb); replace V2 := Lib.hid (V2.out.below hb V2.out.lt); replace X2 := Lib.hid (X2.out.below hb); replace Y2 := Lib.hid (Y2.out.below hb); replace B1 := Lib.hid (B1.out.trans (hb.mono B1.out.size)); clear hb; have pc6 := Lib.hid trivial))
        clear pc6
        go_ret
        exact ⟨rfl, B1.out⟩
      · subst h
        subst h2
        clear CB
        have pc0 := Lib.hid trivial
        go_wp2_with (first
          | (clear pc0; refine wpList_ldR (by rfl) _ rfl (by rfl) V1.out ?_; have pc1 := Lib.hid trivial)
          | (clear pc1; refine wpList_ldR (by rfl) _ rfl (by rfl) V2.out ?_; have pc2 := Lib.hid trivial)
          | (clear pc2; go_at_call 45; refine Calls.mono (qcompare_any (L := 100000000) (r := (-1)) X1.out Y1.out X2.out Y2.out LZ1.out LD1.out LZ2.out LD2.out LL.out S7.out) ?_; rintro e v13 ⟨rfl, hb⟩; replace V0 := Lib.hid (V0.out.below hb V0.out.lt); replace X0 := Lib.hid (X0.out.below hb); replace Y0 := Lib.hid (Y0.out.below hb); replace V1 := Lib.hid (V1.out.below hb V1.out.lt); replace X1 := Lib.hid (X1.out.below hb); replace Y1 := Lib.hid (Y1.out.below hb); replace V2 := Lib.hid (V2.out.below hb V2.out.lt); replace X2 := Lib.hid (X2.out.below hb); replace Y2 := Lib.hid (Y2.out.below hb); replace B1 := Lib.hid (B1.out.trans (hb.mono B1.out.size)); clear hb; have pc3 := Lib.hid trivial)
          | (clear pc3; refine wpList_ldR (by rfl) _ rfl (by rfl) V0.out ?_; have pc4 := Lib.hid trivial)
          | (clear pc4; refine wpList_ldR (by rfl) _ rfl (by rfl) V2.out ?_; have pc5 := Lib.hid trivial)
          | (clear pc5; go_at_call 45; refine Calls.mono (qcompare_any (L := 100000000) (r := (0)) X0.out Y0.out X2.out Y2.out LZ0.out LD0.out LZ2.out LD2.out LL.out S8.out) ?_; rintro e v14 ⟨rfl, hb⟩; replace V0 := Lib.hid (V0.out.below hb V0.out.lt); replace X0 := Lib.hid (X0.out.below hb); replace Y0 := Lib.hid (Y0.out.below hb); replace V1 := Lib.hid (V1.out.below hb V1.out.lt); replace X1 := Lib.hid (X1.out.below hb); replace Y1 := Lib.hid (Y1.out.below hb); replace V2 := Lib.hid (V2.out.below hb V2.out.lt); replace X2 := Lib.hid (X2.out.below hb); replace Y2 := Lib.hid (Y2.out.below hb); replace B1 := Lib.hid (B1.out.trans (hb.mono B1.out.size)); clear hb; have pc6 := Lib.hid trivial))
        clear pc6
        go_ret
        exact ⟨rfl, B1.out⟩
      · subst h
        subst h2
        clear CB
        have pc0 := Lib.hid trivial
        go_wp2_with (first
          | (clear pc0; refine wpList_ldR (by rfl) _ rfl (by rfl) V1.out ?_; have pc1 := Lib.hid trivial)
          | (clear pc1; refine wpList_ldR (by rfl) _ rfl (by rfl) V2.out ?_; have pc2 := Lib.hid trivial)
          | (clear pc2; go_at_call 45; refine Calls.mono (qcompare_any (L := 100000000) (r := (0)) X1.out Y1.out X2.out Y2.out LZ1.out LD1.out LZ2.out LD2.out LL.out S7.out) ?_; rintro e v13 ⟨rfl, hb⟩; replace V0 := Lib.hid (V0.out.below hb V0.out.lt); replace X0 := Lib.hid (X0.out.below hb); replace Y0 := Lib.hid (Y0.out.below hb); replace V1 := Lib.hid (V1.out.below hb V1.out.lt); replace X1 := Lib.hid (X1.out.below hb); replace Y1 := Lib.hid (Y1.out.below hb); replace V2 := Lib.hid (V2.out.below hb V2.out.lt); replace X2 := Lib.hid (X2.out.below hb); replace Y2 := Lib.hid (Y2.out.below hb); replace B1 := Lib.hid (B1.out.trans (hb.mono B1.out.size)); clear hb; have pc3 := Lib.hid trivial)
          | (clear pc3; refine wpList_ldR (by rfl) _ rfl (by rfl) V0.out ?_; have pc4 := Lib.hid trivial)
          | (clear pc4; refine wpList_ldR (by rfl) _ rfl (by rfl) V2.out ?_; have pc5 := Lib.hid trivial)
          | (clear pc5; go_at_call 45; refine Calls.mono (qcompare_any (L := 100000000) (r := (-1)) X0.out Y0.out X2.out Y2.out LZ0.out LD0.out LZ2.out LD2.out LL.out S8.out) ?_; rintro e v14 ⟨rfl, hb⟩; replace V0 := Lib.hid (V0.out.below hb V0.out.lt); replace X0 := Lib.hid (X0.out.below hb); replace Y0 := Lib.hid (Y0.out.below hb); replace V1 := Lib.hid (V1.out.below hb V1.out.lt); replace X1 := Lib.hid (X1.out.below hb); replace Y1 := Lib.hid (Y1.out.below hb); replace V2 := Lib.hid (V2.out.below hb V2.out.lt); replace X2 := Lib.hid (X2.out.below hb); replace Y2 := Lib.hid (Y2.out.below hb); replace B1 := Lib.hid (B1.out.trans (hb.mono B1.out.size)); clear hb; have pc6 := Lib.hid trivial))
        clear pc6
        go_ret
        exact ⟨rfl, B1.out⟩
      · subst h
        subst h2
        clear CB
        have pc0 := Lib.hid trivial
        go_wp2_with (first
          | (clear pc0; refine wpList_ldR (by rfl) _ rfl (by rfl) V1.out ?_; have pc1 := Lib.hid trivial)
          | (clear pc1; refine wpList_ldR (by rfl) _ rfl (by rfl) V2.out ?_; have pc2 := Lib.hid trivial)
          | (clear pc2; go_at_call 45; refine Calls.mono (qcompare_any (L := 100000000) (r := (0)) X1.out Y1.out X2.out Y2.out LZ1.out LD1.out LZ2.out LD2.out LL.out S7.out) ?_; rintro e v13 ⟨rfl, hb⟩; replace V0 := Lib.hid (V0.out.below hb V0.out.lt); replace X0 := Lib.hid (X0.out.below hb); replace Y0 := Lib.hid (Y0.out.below hb); replace V1 := Lib.hid (V1.out.below hb V1.out.lt); replace X1 := Lib.hid (X1.out.below hb); replace Y1 := Lib.hid (Y1.out.below hb); replace V2 := Lib.hid (V2.out.below hb V2.out.lt); replace X2 := Lib.hid (X2.out.below hb); replace Y2 := Lib.hid (Y2.out.below hb); replace B1 := Lib.hid (B1.out.trans (hb.mono B1.out.size)); clear hb; have pc3 := Lib.hid trivial)
          | (clear pc3; refine wpList_ldR (by rfl) _ rfl (by rfl) V0.out ?_; have pc4 := Lib.hid trivial)
          | (clear pc4; refine wpList_ldR (by rfl) _ rfl (by rfl) V2.out ?_; have pc5 := Lib.hid trivial)
          | (clear pc5; go_at_call 45; refine Calls.mono (qcompare_any (L := 100000000) (r := (0)) X0.out Y0.out X2.out Y2.out LZ0.out LD0.out LZ2.out LD2.out LL.out S8.out) ?_; rintro e v14 ⟨rfl, hb⟩; replace V0 := Lib.hid (V0.out.below hb V0.out.lt); replace X0 := Lib.hid (X0.out.below hb); replace Y0 := Lib.hid (Y0.out.below hb); replace V1 := Lib.hid (V1.out.below hb V1.out.lt); replace X1 := Lib.hid (X1.out.below hb); replace Y1 := Lib.hid (Y1.out.below hb); replace V2 := Lib.hid (V2.out.below hb V2.out.lt); replace X2 := Lib.hid (X2.out.below hb); replace Y2 := Lib.hid (Y2.out.below hb); replace B1 := Lib.hid (B1.out.trans (hb.mono B1.out.size)); clear hb; have pc6 := Lib.hid trivial))
        clear pc6
        go_ret
        exact ⟨rfl, B1.out⟩
  · subst h
    clear CR
    have pc0 := Lib.hid trivial
    go_wp2_with (first
      | (clear pc0; go_at_call 45; refine Calls.mono (qcompare_any (L := 100000000) (r := (1)) X0.out Y0.out X1.out Y1.out LZ0.out LD0.out LZ1.out LD1.out LL.out S1.out) ?_; rintro e v1 ⟨rfl, hb⟩; replace V0 := Lib.hid (V0.out.below hb V0.out.lt); replace X0 := Lib.hid (X0.out.below hb); replace Y0 := Lib.hid (Y0.out.below hb); replace V1 := Lib.hid (V1.out.below hb V1.out.lt); replace X1 := Lib.hid (X1.out.below hb); replace Y1 := Lib.hid (Y1.out.below hb); replace V2 := Lib.hid (V2.out.below hb V2.out.lt); replace X2 := Lib.hid (X2.out.below hb); replace Y2 := Lib.hid (Y2.out.below hb); replace B1 := Lib.hid (B1.out.trans (hb.mono B1.out.size)); clear hb; have pc1 := Lib.hid trivial))
    clear pc1
    have HB : Hid (Below v1.heap.size v1 v1.drew) := below_drewN _ v1 1
    refine wp_region_held_drew (S := fun w' => Below v1.heap.size v1 w') (by kernel_rfl) (HB.out) (fun hHeld => ?_)
    refine wpAnyH_ready (rs := [0]) (by kernel_rfl) (by simp) ?_
    refine AllReadyH.consL (o := _) rfl (fun K hK => ?_) AllReadyH.nil
    clear hHeld
    go_simp
    go_at_call 34
    refine Calls.mono (rawake_any _) ?_
    rintro e v2 ⟨rfl, hb⟩
    replace HB := Lib.hid (HB.out.trans (hb.mono HB.out.size))
    clear hb
    refine hK.out _ _ HB.out (fun hHeld => ?_)
    clear hK K
    try simp only [Act.put, List.setIfInBounds_toArray, List.set_cons_zero, List.set_cons_succ]
    refine wpAnyH_takeL (i := 1) (oi := _) (v := ?_) rfl (by kernel_rfl) (by kernel_rfl) (by kernel_rfl) (fun _ _ _ h => h) (Or.inl ⟨by rfl, ?_⟩) hHeld ?_
    rotate_left
    · (intro w' hSw; (try dsimp only at hSw); go_simp; try (with_reducible rfl))
    try simp only [Act.put, List.setIfInBounds_toArray, List.set_cons_zero, List.set_cons_succ]
    refine wpAnyH_takeL (i := 2) (oi := _) (v := ?_) rfl (by kernel_rfl) (by kernel_rfl) (by kernel_rfl) (fun _ _ _ h => h) (Or.inl ⟨by rfl, ?_⟩) hHeld ?_
    rotate_left
    · (intro w' hSw; (try dsimp only at hSw); go_simp; try (with_reducible rfl))
    try simp only [Act.put, List.setIfInBounds_toArray, List.set_cons_zero, List.set_cons_succ]
    refine wpAnyH_takeL (i := 3) (oi := _) rfl (by kernel_rfl) (by kernel_rfl) (by kernel_rfl) (fun _ _ _ h => h) (yields_ldR (by rfl) _ rfl (by rfl) (fun _ hb => V1.out.below hb V1.out.lt)) hHeld ?_
    try simp only [Act.put, List.setIfInBounds_toArray, List.set_cons_zero, List.set_cons_succ]
    refine wpAnyH_takeL (i := 4) (oi := _) rfl (by kernel_rfl) (by kernel_rfl) (by kernel_rfl) (fun _ _ _ h => h) (yields_ldR (by rfl) _ rfl (by rfl) (fun _ hb => V0.out.below hb V0.out.lt)) hHeld ?_
    try simp only [Act.put, List.setIfInBounds_toArray, List.set_cons_zero, List.set_cons_succ]
    refine wpAnyH_takeL (i := 6) (oi := _) (v := ?_) rfl (by kernel_rfl) (by kernel_rfl) (by kernel_rfl) (fun _ _ _ h => h) (Or.inl ⟨by rfl, ?_⟩) hHeld ?_
    rotate_left
    · (intro w' hSw; (try dsimp only at hSw); go_simp; try (with_reducible rfl))
    try simp only [Act.put, List.setIfInBounds_toArray, List.set_cons_zero, List.set_cons_succ]
    refine wpAnyH_takeL (i := 7) (oi := _) (v := ?_) rfl (by kernel_rfl) (by kernel_rfl) (by kernel_rfl) (fun _ _ _ h => h) (Or.inl ⟨by rfl, ?_⟩) hHeld ?_
    rotate_left
    · (intro w' hSw; (try dsimp only at hSw); go_simp; try (with_reducible rfl))
    try simp only [Act.put, List.setIfInBounds_toArray, List.set_cons_zero, List.set_cons_succ]
    refine wpAnyH_ready (rs := [5]) (by kernel_rfl) (by simp) ?_
    refine AllReadyH.consL (o := _) rfl (fun K hK => ?_) AllReadyH.nil
    clear hHeld
    go_simp
    go_at_call 45
    refine Calls.mono (qcompare_any (L := 100000000) (r := (-1)) (X1.out.below HB.out) (Y1.out.below HB.out) (X0.out.below HB.out) (Y0.out.below HB.out) LZ1.out LD1.out LZ0.out LD0.out LL.out S2.out) ?_
    rintro e v3 ⟨rfl, hb⟩
    replace HB := Lib.hid (HB.out.trans (hb.mono HB.out.size))
    clear hb
    refine hK.out _ _ HB.out (fun hHeld => ?_)
    clear hK K
    try simp only [Act.put, List.setIfInBounds_toArray, List.set_cons_zero, List.set_cons_succ]
    refine wpAnyH_takeL (i := 8) (oi := _) (v := ?_) rfl (by kernel_rfl) (by kernel_rfl) (by kernel_rfl) (fun _ _ _ h => h) (Or.inl ⟨by rfl, ?_⟩) hHeld ?_
    rotate_left
    · (intro w' hSw; (try dsimp only at hSw); go_simp; try (with_reducible rfl))
    try simp only [Act.put, List.setIfInBounds_toArray, List.set_cons_zero, List.set_cons_succ]
    refine wpAnyH_takeL (i := 9) (oi := _) (v := ?_) rfl (by kernel_rfl) (by kernel_rfl) (by kernel_rfl) (fun _ _ _ h => h) (Or.inl ⟨by rfl, ?_⟩) hHeld ?_
    rotate_left
    · (intro w' hSw; (try dsimp only at hSw); go_simp; try (with_reducible rfl))
    try simp only [Act.put, List.setIfInBounds_toArray, List.set_cons_zero, List.set_cons_succ]
    refine wpAnyH_takeL (i := 10) (oi := _) (v := ?_) rfl (by kernel_rfl) (by kernel_rfl) (by kernel_rfl) (fun _ _ _ h => h) (Or.inl ⟨by rfl, ?_⟩) hHeld ?_
    rotate_left
    · (intro w' hSw; (try dsimp only at hSw); go_simp; try (with_reducible rfl))
    try simp only [Act.put, List.setIfInBounds_toArray, List.set_cons_zero, List.set_cons_succ]
    refine wpAnyH_takeL (i := 11) (oi := _) rfl (by kernel_rfl) (by kernel_rfl) (by kernel_rfl) (fun _ _ _ h => h) (yields_ldR (by rfl) _ rfl (by rfl) (fun _ hb => V0.out.below hb V0.out.lt)) hHeld ?_
    try simp only [Act.put, List.setIfInBounds_toArray, List.set_cons_zero, List.set_cons_succ]
    refine wpAnyH_takeL (i := 12) (oi := _) rfl (by kernel_rfl) (by kernel_rfl) (by kernel_rfl) (fun _ _ _ h => h) (yields_ldR (by rfl) _ rfl (by rfl) (fun _ hb => V2.out.below hb V2.out.lt)) hHeld ?_
    try simp only [Act.put, List.setIfInBounds_toArray, List.set_cons_zero, List.set_cons_succ]
    refine wpAnyH_takeL (i := 14) (oi := _) rfl (by kernel_rfl) (by kernel_rfl) (by kernel_rfl) (fun _ _ _ h => h) (yields_ldR (by rfl) _ rfl (by rfl) (fun _ hb => V1.out.below hb V1.out.lt)) hHeld ?_
    try simp only [Act.put, List.setIfInBounds_toArray, List.set_cons_zero, List.set_cons_succ]
    refine wpAnyH_takeL (i := 15) (oi := _) rfl (by kernel_rfl) (by kernel_rfl) (by kernel_rfl) (fun _ _ _ h => h) (yields_ldR (by rfl) _ rfl (by rfl) (fun _ hb => V2.out.below hb V2.out.lt)) hHeld ?_
    try simp only [Act.put, List.setIfInBounds_toArray, List.set_cons_zero, List.set_cons_succ]
    refine wpAnyH_takeL (i := 18) (oi := _) (v := ?_) rfl (by kernel_rfl) (by kernel_rfl) (by kernel_rfl) (fun _ _ _ h => h) (Or.inl ⟨by rfl, ?_⟩) hHeld ?_
    rotate_left
    · (intro w' hSw; (try dsimp only at hSw); go_simp; try (with_reducible rfl))
    try simp only [Act.put, List.setIfInBounds_toArray, List.set_cons_zero, List.set_cons_succ]
    refine wpAnyH_ready (rs := [13]) (by kernel_rfl) (by simp) ?_
    refine AllReadyH.consL (o := _) rfl (fun K hK => ?_) AllReadyH.nil
    clear hHeld
    go_simp
    go_at_call 37
    refine Calls.mono (qadd_any (L := 100000000) (z := xs) (d := ds) (X0.out.below HB.out) (Y0.out.below HB.out) (X2.out.below HB.out) (Y2.out.below HB.out) LZ0.out LD0.out LZ2.out LD2.out LL.out HZs.out HDs.out) ?_
    rintro e v4 ⟨Ps, cs, Qs, ks, rfl, ho, ho2, hb⟩
    replace HB := Lib.hid (HB.out.trans (hb.mono HB.out.size))
    have Zs := Lib.hid (Zo.of_own ho)
    have Ns := Lib.hid ho2.rd
    clear ho ho2
    clear hb
    refine hK.out _ _ HB.out (fun hHeld => ?_)
    clear hK K
    try simp only [Act.put, List.setIfInBounds_toArray, List.set_cons_zero, List.set_cons_succ]
    refine wpAnyH_ready (rs := [16]) (by kernel_rfl) (by simp) ?_
    refine AllReadyH.consL (o := _) rfl (fun K hK => ?_) AllReadyH.nil
    clear hHeld
    go_simp
    go_at_call 37
    refine Calls.mono (qadd_any (L := 100000000) (z := xt) (d := dt) (X1.out.below HB.out) (Y1.out.below HB.out) (X2.out.below HB.out) (Y2.out.below HB.out) LZ1.out LD1.out LZ2.out LD2.out LL.out HZt.out HDt.out) ?_
    rintro e v5 ⟨Pt, ct, Qt, kt, rfl, ho, ho2, hb⟩
    replace HB := Lib.hid (HB.out.trans (hb.mono HB.out.size))
    replace Zs := Lib.hid (Zs.out.below hb)
    replace Ns := Lib.hid (Ns.out.below hb)
    have Zt := Lib.hid (Zo.of_own ho)
    have Nt := Lib.hid ho2.rd
    clear ho ho2
    clear hb
    refine hK.out _ _ HB.out (fun hHeld => ?_)
    clear hK K
    try simp only [Act.put, List.setIfInBounds_toArray, List.set_cons_zero, List.set_cons_succ]
    refine wpAnyH_ready (rs := [17]) (by kernel_rfl) (by simp) ?_
    refine AllReadyH.consL (o := _) rfl (fun K hK => ?_) AllReadyH.nil
    clear hHeld
    go_simp
    go_at_call 45
    refine Calls.mono (qcompare_any (L := 100000000) (r := (1)) Zs.out.in_ (Nin.of_rd Ns.out) Zt.out.in_ (Nin.of_rd Nt.out) LZs.out LDs.out LZt.out LDt.out LL.out S3.out) ?_
    rintro e v6 ⟨rfl, hb⟩
    replace HB := Lib.hid (HB.out.trans (hb.mono HB.out.size))
    replace Zs := Lib.hid (Zs.out.below hb)
    replace Ns := Lib.hid (Ns.out.below hb)
    replace Zt := Lib.hid (Zt.out.below hb)
    replace Nt := Lib.hid (Nt.out.below hb)
    clear hb
    refine hK.out _ _ HB.out (fun hHeld => ?_)
    clear hK K
    try simp only [Act.put, List.setIfInBounds_toArray, List.set_cons_zero, List.set_cons_succ]
    refine wpAnyH_takeL (i := 19) (oi := _) (v := ?_) rfl (by kernel_rfl) (by kernel_rfl) (by kernel_rfl) (fun _ _ _ h => h) (Or.inl ⟨by rfl, ?_⟩) hHeld ?_
    rotate_left
    · (intro w' hSw; (try dsimp only at hSw); go_simp; try (with_reducible rfl))
    try simp only [Act.put, List.setIfInBounds_toArray, List.set_cons_zero, List.set_cons_succ]
    refine wpAnyH_takeL (i := 20) (oi := _) (v := ?_) rfl (by kernel_rfl) (by kernel_rfl) (by kernel_rfl) (fun _ _ _ h => h) (Or.inl ⟨by rfl, ?_⟩) hHeld ?_
    rotate_left
    · (intro w' hSw; (try dsimp only at hSw); go_simp; try (with_reducible rfl))
    try simp only [Act.put, List.setIfInBounds_toArray, List.set_cons_zero, List.set_cons_succ]
    refine wpAnyH_takeL (i := 21) (oi := _) (v := ?_) rfl (by kernel_rfl) (by kernel_rfl) (by kernel_rfl) (fun _ _ _ h => h) (Or.inl ⟨by rfl, ?_⟩) hHeld ?_
    rotate_left
    · (intro w' hSw; (try dsimp only at hSw); go_simp; try (with_reducible rfl))
    try simp only [Act.put, List.setIfInBounds_toArray, List.set_cons_zero, List.set_cons_succ]
    refine wpAnyH_takeL (i := 22) (oi := _) rfl (by kernel_rfl) (by kernel_rfl) (by kernel_rfl) (fun _ _ _ h => h) (yields_ldR (by rfl) _ rfl (by rfl) (fun _ hb => V0.out.below hb V0.out.lt)) hHeld ?_
    try simp only [Act.put, List.setIfInBounds_toArray, List.set_cons_zero, List.set_cons_succ]
    refine wpAnyH_takeL (i := 23) (oi := _) rfl (by kernel_rfl) (by kernel_rfl) (by kernel_rfl) (fun _ _ _ h => h) (yields_ldR (by rfl) _ rfl (by rfl) (fun _ hb => V1.out.below hb V1.out.lt)) hHeld ?_
    try simp only [Act.put, List.setIfInBounds_toArray, List.set_cons_zero, List.set_cons_succ]
    refine wpAnyH_takeL (i := 26) (oi := _) (v := ?_) rfl (by kernel_rfl) (by kernel_rfl) (by kernel_rfl) (fun _ _ _ h => h) (Or.inl ⟨by rfl, ?_⟩) hHeld ?_
    rotate_left
    · (intro w' hSw; (try dsimp only at hSw); go_simp; try (with_reducible rfl))
    try simp only [Act.put, List.setIfInBounds_toArray, List.set_cons_zero, List.set_cons_succ]
    refine wpAnyH_ready (rs := [24]) (by kernel_rfl) (by simp) ?_
    refine AllReadyH.consL (o := _) rfl (fun K hK => ?_) AllReadyH.nil
    clear hHeld
    go_simp
    go_at_call 39
    refine Calls.mono (qsub_any (L := 100000000) (z := xu) (d := du) (X0.out.below HB.out) (Y0.out.below HB.out) (X1.out.below HB.out) (Y1.out.below HB.out) LZ0.out LD0.out LZ1.out LD1.out LL.out HZu.out HDu.out) ?_
    rintro e v7 ⟨Pu, cu, Qu, ku, rfl, ho, ho2, hb⟩
    replace HB := Lib.hid (HB.out.trans (hb.mono HB.out.size))
    replace Zs := Lib.hid (Zs.out.below hb)
    replace Ns := Lib.hid (Ns.out.below hb)
    replace Zt := Lib.hid (Zt.out.below hb)
    replace Nt := Lib.hid (Nt.out.below hb)
    have Zu := Lib.hid (Zo.of_own ho)
    have Nu := Lib.hid ho2.rd
    clear ho ho2
    clear hb
    refine hK.out _ _ HB.out (fun hHeld => ?_)
    clear hK K
    try simp only [Act.put, List.setIfInBounds_toArray, List.set_cons_zero, List.set_cons_succ]
    refine wpAnyH_ready (rs := [25]) (by kernel_rfl) (by simp) ?_
    refine AllReadyH.consL (o := _) rfl (fun K hK => ?_) AllReadyH.nil
    clear hHeld
    go_simp
    go_at_call 44
    refine Calls.mono (qsign_any (L := 100000000) (r := (1)) Zu.out.in_ (Nin.of_rd Nu.out) LZu.out LDu.out LL2.out S4.out) ?_
    rintro e v8 ⟨rfl, hb⟩
    replace HB := Lib.hid (HB.out.trans (hb.mono HB.out.size))
    replace Zs := Lib.hid (Zs.out.below hb)
    replace Ns := Lib.hid (Ns.out.below hb)
    replace Zt := Lib.hid (Zt.out.below hb)
    replace Nt := Lib.hid (Nt.out.below hb)
    replace Zu := Lib.hid (Zu.out.below hb)
    replace Nu := Lib.hid (Nu.out.below hb)
    clear hb
    refine hK.out _ _ HB.out (fun hHeld => ?_)
    clear hK K
    try simp only [Act.put, List.setIfInBounds_toArray, List.set_cons_zero, List.set_cons_succ]
    refine wpAnyH_takeL (i := 27) (oi := _) (v := ?_) rfl (by kernel_rfl) (by kernel_rfl) (by kernel_rfl) (fun _ _ _ h => h) (Or.inl ⟨by rfl, ?_⟩) hHeld ?_
    rotate_left
    · (intro w' hSw; (try dsimp only at hSw); go_simp; try (with_reducible rfl))
    try simp only [Act.put, List.setIfInBounds_toArray, List.set_cons_zero, List.set_cons_succ]
    refine wpAnyH_takeL (i := 28) (oi := _) (v := ?_) rfl (by kernel_rfl) (by kernel_rfl) (by kernel_rfl) (fun _ _ _ h => h) (Or.inl ⟨by rfl, ?_⟩) hHeld ?_
    rotate_left
    · (intro w' hSw; (try dsimp only at hSw); go_simp; try (with_reducible rfl))
    try simp only [Act.put, List.setIfInBounds_toArray, List.set_cons_zero, List.set_cons_succ]
    skip
    refine wpAnyH_done (by kernel_rfl) ?_ _
    have hb := HB.out
    replace V0 := Lib.hid (V0.out.below hb V0.out.lt)
    replace X0 := Lib.hid (X0.out.below hb)
    replace Y0 := Lib.hid (Y0.out.below hb)
    replace V1 := Lib.hid (V1.out.below hb V1.out.lt)
    replace X1 := Lib.hid (X1.out.below hb)
    replace Y1 := Lib.hid (Y1.out.below hb)
    replace V2 := Lib.hid (V2.out.below hb V2.out.lt)
    replace X2 := Lib.hid (X2.out.below hb)
    replace Y2 := Lib.hid (Y2.out.below hb)
    replace B1 := Lib.hid (B1.out.trans (hb.mono B1.out.size))
    clear hHeld hb HB Zs Ns Zt Nt Zu Nu
    go_wp2_with fail
    rcases CC.out with h | h | h
    · subst h
      clear CC
      have HB : Hid (Below v8.heap.size v8 v8.drew) := below_drewN _ v8 1
      refine wp_region_held_drew (S := fun w' => Below v8.heap.size v8 w') (by kernel_rfl) (HB.out) (fun hHeld => ?_)
      refine wpAnyH_takeL (i := 0) (oi := _) rfl (by kernel_rfl) (by kernel_rfl) (by kernel_rfl) (fun _ _ _ h => h) (yields_ldR (by rfl) _ rfl (by rfl) (fun _ hb => V2.out.below hb V2.out.lt)) hHeld ?_
      try simp only [Act.put, List.setIfInBounds_toArray, List.set_cons_zero, List.set_cons_succ]
      refine wpAnyH_ready (rs := [1]) (by kernel_rfl) (by simp) ?_
      refine AllReadyH.consL (o := _) rfl (fun K hK => ?_) AllReadyH.nil
      clear hHeld
      go_simp
      go_at_call 44
      refine Calls.mono (qsign_any (L := 100000000) (r := (-1)) (X2.out.below HB.out) (Y2.out.below HB.out) LZ2.out LD2.out LL2.out S5.out) ?_
      rintro e v9 ⟨rfl, hb⟩
      replace HB := Lib.hid (HB.out.trans (hb.mono HB.out.size))
      clear hb
      refine hK.out _ _ HB.out (fun hHeld => ?_)
      clear hK K
      try simp only [Act.put, List.setIfInBounds_toArray, List.set_cons_zero, List.set_cons_succ]
      refine wpAnyH_takeL (i := 2) (oi := _) (v := ?_) rfl (by kernel_rfl) (by kernel_rfl) (by kernel_rfl) (fun _ _ _ h => h) (Or.inl ⟨by rfl, ?_⟩) hHeld ?_
      rotate_left
      · (intro w' hSw; (try dsimp only at hSw); go_simp; try (with_reducible rfl))
      try simp only [Act.put, List.setIfInBounds_toArray, List.set_cons_zero, List.set_cons_succ]
      refine wpAnyH_takeL (i := 3) (oi := _) (v := ?_) rfl (by kernel_rfl) (by kernel_rfl) (by kernel_rfl) (fun _ _ _ h => h) (Or.inl ⟨by rfl, ?_⟩) hHeld ?_
      rotate_left
      · (intro w' hSw; (try dsimp only at hSw); go_simp; try (with_reducible rfl))
      try simp only [Act.put, List.setIfInBounds_toArray, List.set_cons_zero, List.set_cons_succ]
      refine wpAnyH_takeL (i := 4) (oi := _) (v := undef) rfl (by kernel_rfl) (by kernel_rfl) (by kernel_rfl) (fun _ _ _ h => h) (Or.inr ⟨by rfl, rfl⟩) hHeld ?_
      try simp only [Act.put, List.setIfInBounds_toArray, List.set_cons_zero, List.set_cons_succ]
      refine wpAnyH_takeL (i := 5) (oi := _) (v := undef) rfl (by kernel_rfl) (by kernel_rfl) (by kernel_rfl) (fun _ _ _ h => h) (Or.inr ⟨by rfl, rfl⟩) hHeld ?_
      try simp only [Act.put, List.setIfInBounds_toArray, List.set_cons_zero, List.set_cons_succ]
      refine wpAnyH_takeL (i := 6) (oi := _) (v := undef) rfl (by kernel_rfl) (by kernel_rfl) (by kernel_rfl) (fun _ _ _ h => h) (Or.inr ⟨by rfl, rfl⟩) hHeld ?_
      try simp only [Act.put, List.setIfInBounds_toArray, List.set_cons_zero, List.set_cons_succ]
      refine wpAnyH_takeL (i := 7) (oi := _) (v := undef) rfl (by kernel_rfl) (by kernel_rfl) (by kernel_rfl) (fun _ _ _ h => h) (Or.inr ⟨by rfl, rfl⟩) hHeld ?_
      try simp only [Act.put, List.setIfInBounds_toArray, List.set_cons_zero, List.set_cons_succ]
      refine wpAnyH_takeL (i := 8) (oi := _) (v := undef) rfl (by kernel_rfl) (by kernel_rfl) (by kernel_rfl) (fun _ _ _ h => h) (Or.inr ⟨by rfl, rfl⟩) hHeld ?_
      try simp only [Act.put, List.setIfInBounds_toArray, List.set_cons_zero, List.set_cons_succ]
      refine wpAnyH_takeL (i := 9) (oi := _) (v := undef) rfl (by kernel_rfl) (by kernel_rfl) (by kernel_rfl) (fun _ _ _ h => h) (Or.inr ⟨by rfl, rfl⟩) hHeld ?_
      try simp only [Act.put, List.setIfInBounds_toArray, List.set_cons_zero, List.set_cons_succ]
      refine wpAnyH_takeL (i := 10) (oi := _) (v := undef) rfl (by kernel_rfl) (by kernel_rfl) (by kernel_rfl) (fun _ _ _ h => h) (Or.inr ⟨by rfl, rfl⟩) hHeld ?_
      try simp only [Act.put, List.setIfInBounds_toArray, List.set_cons_zero, List.set_cons_succ]
      refine wpAnyH_takeL (i := 11) (oi := _) (v := undef) rfl (by kernel_rfl) (by kernel_rfl) (by kernel_rfl) (fun _ _ _ h => h) (Or.inr ⟨by rfl, rfl⟩) hHeld ?_
      try simp only [Act.put, List.setIfInBounds_toArray, List.set_cons_zero, List.set_cons_succ]
      refine wpAnyH_takeL (i := 12) (oi := _) (v := undef) rfl (by kernel_rfl) (by kernel_rfl) (by kernel_rfl) (fun _ _ _ h => h) (Or.inr ⟨by rfl, rfl⟩) hHeld ?_
      try simp only [Act.put, List.setIfInBounds_toArray, List.set_cons_zero, List.set_cons_succ]
      refine wpAnyH_takeL (i := 13) (oi := _) (v := ?_) rfl (by kernel_rfl) (by kernel_rfl) (by kernel_rfl) (fun _ _ _ h => h) (Or.inl ⟨by rfl, ?_⟩) hHeld ?_
      rotate_left
      · (intro w' hSw; (try dsimp only at hSw); go_simp; try (with_reducible rfl))
      try simp only [Act.put, List.setIfInBounds_toArray, List.set_cons_zero, List.set_cons_succ]
      skip
      refine wpAnyH_done (by kernel_rfl) ?_ _
      have hb := HB.out
      replace V0 := Lib.hid (V0.out.below hb V0.out.lt)
      replace X0 := Lib.hid (X0.out.below hb)
      replace Y0 := Lib.hid (Y0.out.below hb)
      replace V1 := Lib.hid (V1.out.below hb V1.out.lt)
      replace X1 := Lib.hid (X1.out.below hb)
      replace Y1 := Lib.hid (Y1.out.below hb)
      replace V2 := Lib.hid (V2.out.below hb V2.out.lt)
      replace X2 := Lib.hid (X2.out.below hb)
      replace Y2 := Lib.hid (Y2.out.below hb)
      replace B1 := Lib.hid (B1.out.trans (hb.mono B1.out.size))
      clear hHeld hb HB
      go_wp2
      go_ret
      exact ⟨rfl, B1.out⟩
    · subst h
      clear CC
      have HB : Hid (Below v8.heap.size v8 v8.drew) := below_drewN _ v8 1
      refine wp_region_held_drew (S := fun w' => Below v8.heap.size v8 w') (by kernel_rfl) (HB.out) (fun hHeld => ?_)
      refine wpAnyH_takeL (i := 0) (oi := _) rfl (by kernel_rfl) (by kernel_rfl) (by kernel_rfl) (fun _ _ _ h => h) (yields_ldR (by rfl) _ rfl (by rfl) (fun _ hb => V2.out.below hb V2.out.lt)) hHeld ?_
      try simp only [Act.put, List.setIfInBounds_toArray, List.set_cons_zero, List.set_cons_succ]
      refine wpAnyH_ready (rs := [1]) (by kernel_rfl) (by simp) ?_
      refine AllReadyH.consL (o := _) rfl (fun K hK => ?_) AllReadyH.nil
      clear hHeld
      go_simp
      go_at_call 44
      refine Calls.mono (qsign_any (L := 100000000) (r := (0)) (X2.out.below HB.out) (Y2.out.below HB.out) LZ2.out LD2.out LL2.out S5.out) ?_
      rintro e v9 ⟨rfl, hb⟩
      replace HB := Lib.hid (HB.out.trans (hb.mono HB.out.size))
      clear hb
      refine hK.out _ _ HB.out (fun hHeld => ?_)
      clear hK K
      try simp only [Act.put, List.setIfInBounds_toArray, List.set_cons_zero, List.set_cons_succ]
      refine wpAnyH_takeL (i := 2) (oi := _) (v := ?_) rfl (by kernel_rfl) (by kernel_rfl) (by kernel_rfl) (fun _ _ _ h => h) (Or.inl ⟨by rfl, ?_⟩) hHeld ?_
      rotate_left
      · (intro w' hSw; (try dsimp only at hSw); go_simp; try (with_reducible rfl))
      try simp only [Act.put, List.setIfInBounds_toArray, List.set_cons_zero, List.set_cons_succ]
      refine wpAnyH_takeL (i := 3) (oi := _) (v := ?_) rfl (by kernel_rfl) (by kernel_rfl) (by kernel_rfl) (fun _ _ _ h => h) (Or.inl ⟨by rfl, ?_⟩) hHeld ?_
      rotate_left
      · (intro w' hSw; (try dsimp only at hSw); go_simp; try (with_reducible rfl))
      try simp only [Act.put, List.setIfInBounds_toArray, List.set_cons_zero, List.set_cons_succ]
      refine wpAnyH_takeL (i := 4) (oi := _) (v := undef) rfl (by kernel_rfl) (by kernel_rfl) (by kernel_rfl) (fun _ _ _ h => h) (Or.inr ⟨by rfl, rfl⟩) hHeld ?_
      try simp only [Act.put, List.setIfInBounds_toArray, List.set_cons_zero, List.set_cons_succ]
      refine wpAnyH_takeL (i := 5) (oi := _) (v := undef) rfl (by kernel_rfl) (by kernel_rfl) (by kernel_rfl) (fun _ _ _ h => h) (Or.inr ⟨by rfl, rfl⟩) hHeld ?_
      try simp only [Act.put, List.setIfInBounds_toArray, List.set_cons_zero, List.set_cons_succ]
      refine wpAnyH_takeL (i := 6) (oi := _) (v := undef) rfl (by kernel_rfl) (by kernel_rfl) (by kernel_rfl) (fun _ _ _ h => h) (Or.inr ⟨by rfl, rfl⟩) hHeld ?_
      try simp only [Act.put, List.setIfInBounds_toArray, List.set_cons_zero, List.set_cons_succ]
      refine wpAnyH_takeL (i := 7) (oi := _) (v := undef) rfl (by kernel_rfl) (by kernel_rfl) (by kernel_rfl) (fun _ _ _ h => h) (Or.inr ⟨by rfl, rfl⟩) hHeld ?_
      try simp only [Act.put, List.setIfInBounds_toArray, List.set_cons_zero, List.set_cons_succ]
      refine wpAnyH_takeL (i := 8) (oi := _) (v := undef) rfl (by kernel_rfl) (by kernel_rfl) (by kernel_rfl) (fun _ _ _ h => h) (Or.inr ⟨by rfl, rfl⟩) hHeld ?_
      try simp only [Act.put, List.setIfInBounds_toArray, List.set_cons_zero, List.set_cons_succ]
      refine wpAnyH_takeL (i := 9) (oi := _) (v := undef) rfl (by kernel_rfl) (by kernel_rfl) (by kernel_rfl) (fun _ _ _ h => h) (Or.inr ⟨by rfl, rfl⟩) hHeld ?_
      try simp only [Act.put, List.setIfInBounds_toArray, List.set_cons_zero, List.set_cons_succ]
      refine wpAnyH_takeL (i := 10) (oi := _) (v := undef) rfl (by kernel_rfl) (by kernel_rfl) (by kernel_rfl) (fun _ _ _ h => h) (Or.inr ⟨by rfl, rfl⟩) hHeld ?_
      try simp only [Act.put, List.setIfInBounds_toArray, List.set_cons_zero, List.set_cons_succ]
      refine wpAnyH_takeL (i := 11) (oi := _) (v := undef) rfl (by kernel_rfl) (by kernel_rfl) (by kernel_rfl) (fun _ _ _ h => h) (Or.inr ⟨by rfl, rfl⟩) hHeld ?_
      try simp only [Act.put, List.setIfInBounds_toArray, List.set_cons_zero, List.set_cons_succ]
      refine wpAnyH_takeL (i := 12) (oi := _) (v := undef) rfl (by kernel_rfl) (by kernel_rfl) (by kernel_rfl) (fun _ _ _ h => h) (Or.inr ⟨by rfl, rfl⟩) hHeld ?_
      try simp only [Act.put, List.setIfInBounds_toArray, List.set_cons_zero, List.set_cons_succ]
      refine wpAnyH_takeL (i := 13) (oi := _) (v := ?_) rfl (by kernel_rfl) (by kernel_rfl) (by kernel_rfl) (fun _ _ _ h => h) (Or.inl ⟨by rfl, ?_⟩) hHeld ?_
      rotate_left
      · (intro w' hSw; (try dsimp only at hSw); go_simp; try (with_reducible rfl))
      try simp only [Act.put, List.setIfInBounds_toArray, List.set_cons_zero, List.set_cons_succ]
      skip
      refine wpAnyH_done (by kernel_rfl) ?_ _
      have hb := HB.out
      replace V0 := Lib.hid (V0.out.below hb V0.out.lt)
      replace X0 := Lib.hid (X0.out.below hb)
      replace Y0 := Lib.hid (Y0.out.below hb)
      replace V1 := Lib.hid (V1.out.below hb V1.out.lt)
      replace X1 := Lib.hid (X1.out.below hb)
      replace Y1 := Lib.hid (Y1.out.below hb)
      replace V2 := Lib.hid (V2.out.below hb V2.out.lt)
      replace X2 := Lib.hid (X2.out.below hb)
      replace Y2 := Lib.hid (Y2.out.below hb)
      replace B1 := Lib.hid (B1.out.trans (hb.mono B1.out.size))
      clear hHeld hb HB
      go_wp2
      go_ret
      exact ⟨rfl, B1.out⟩
    · subst h
      clear CC
      have S9 := Lib.hid (S6.out rfl)
      have HB : Hid (Below v8.heap.size v8 v8.drew) := below_drewN _ v8 1
      refine wp_region_held_drew (S := fun w' => Below v8.heap.size v8 w') (by kernel_rfl) (HB.out) (fun hHeld => ?_)
      refine wpAnyH_takeL (i := 0) (oi := _) rfl (by kernel_rfl) (by kernel_rfl) (by kernel_rfl) (fun _ _ _ h => h) (yields_ldR (by rfl) _ rfl (by rfl) (fun _ hb => V2.out.below hb V2.out.lt)) hHeld ?_
      try simp only [Act.put, List.setIfInBounds_toArray, List.set_cons_zero, List.set_cons_succ]
      refine wpAnyH_ready (rs := [1]) (by kernel_rfl) (by simp) ?_
      refine AllReadyH.consL (o := _) rfl (fun K hK => ?_) AllReadyH.nil
      clear hHeld
      go_simp
      go_at_call 44
      refine Calls.mono (qsign_any (L := 100000000) (r := (1)) (X2.out.below HB.out) (Y2.out.below HB.out) LZ2.out LD2.out LL2.out S5.out) ?_
      rintro e v9 ⟨rfl, hb⟩
      replace HB := Lib.hid (HB.out.trans (hb.mono HB.out.size))
      clear hb
      refine hK.out _ _ HB.out (fun hHeld => ?_)
      clear hK K
      try simp only [Act.put, List.setIfInBounds_toArray, List.set_cons_zero, List.set_cons_succ]
      refine wpAnyH_takeL (i := 2) (oi := _) (v := ?_) rfl (by kernel_rfl) (by kernel_rfl) (by kernel_rfl) (fun _ _ _ h => h) (Or.inl ⟨by rfl, ?_⟩) hHeld ?_
      rotate_left
      · (intro w' hSw; (try dsimp only at hSw); go_simp; try (with_reducible rfl))
      try simp only [Act.put, List.setIfInBounds_toArray, List.set_cons_zero, List.set_cons_succ]
      refine wpAnyH_takeL (i := 3) (oi := _) (v := ?_) rfl (by kernel_rfl) (by kernel_rfl) (by kernel_rfl) (fun _ _ _ h => h) (Or.inl ⟨by rfl, ?_⟩) hHeld ?_
      rotate_left
      · (intro w' hSw; (try dsimp only at hSw); go_simp; try (with_reducible rfl))
      try simp only [Act.put, List.setIfInBounds_toArray, List.set_cons_zero, List.set_cons_succ]
      refine wpAnyH_takeL (i := 4) (oi := _) rfl (by kernel_rfl) (by kernel_rfl) (by kernel_rfl) (fun _ _ _ h => h) (yields_ldR (by rfl) _ rfl (by rfl) (fun _ hb => V0.out.below hb V0.out.lt)) hHeld ?_
      try simp only [Act.put, List.setIfInBounds_toArray, List.set_cons_zero, List.set_cons_succ]
      refine wpAnyH_takeL (i := 5) (oi := _) rfl (by kernel_rfl) (by kernel_rfl) (by kernel_rfl) (fun _ _ _ h => h) (yields_ldR (by rfl) _ rfl (by rfl) (fun _ hb => V2.out.below hb V2.out.lt)) hHeld ?_
      try simp only [Act.put, List.setIfInBounds_toArray, List.set_cons_zero, List.set_cons_succ]
      refine wpAnyH_takeL (i := 7) (oi := _) rfl (by kernel_rfl) (by kernel_rfl) (by kernel_rfl) (fun _ _ _ h => h) (yields_ldR (by rfl) _ rfl (by rfl) (fun _ hb => V1.out.below hb V1.out.lt)) hHeld ?_
      try simp only [Act.put, List.setIfInBounds_toArray, List.set_cons_zero, List.set_cons_succ]
      refine wpAnyH_takeL (i := 8) (oi := _) rfl (by kernel_rfl) (by kernel_rfl) (by kernel_rfl) (fun _ _ _ h => h) (yields_ldR (by rfl) _ rfl (by rfl) (fun _ hb => V2.out.below hb V2.out.lt)) hHeld ?_
      try simp only [Act.put, List.setIfInBounds_toArray, List.set_cons_zero, List.set_cons_succ]
      refine wpAnyH_takeL (i := 11) (oi := _) (v := ?_) rfl (by kernel_rfl) (by kernel_rfl) (by kernel_rfl) (fun _ _ _ h => h) (Or.inl ⟨by rfl, ?_⟩) hHeld ?_
      rotate_left
      · (intro w' hSw; (try dsimp only at hSw); go_simp; try (with_reducible rfl))
      try simp only [Act.put, List.setIfInBounds_toArray, List.set_cons_zero, List.set_cons_succ]
      refine wpAnyH_ready (rs := [6]) (by kernel_rfl) (by simp) ?_
      refine AllReadyH.consL (o := _) rfl (fun K hK => ?_) AllReadyH.nil
      clear hHeld
      go_simp
      go_at_call 41
      refine Calls.mono (qmul_any (L := 100000000) (z := xv) (d := dv) (X0.out.below HB.out) (Y0.out.below HB.out) (X2.out.below HB.out) (Y2.out.below HB.out) LZ0.out LD0.out LZ2.out LD2.out LL.out HZv.out HDv.out) ?_
      rintro e v10 ⟨Pv, cv, Qv, kv, rfl, ho, ho2, hb⟩
      replace HB := Lib.hid (HB.out.trans (hb.mono HB.out.size))
      have Zv := Lib.hid (Zo.of_own ho)
      have Nv := Lib.hid ho2.rd
      clear ho ho2
      clear hb
      refine hK.out _ _ HB.out (fun hHeld => ?_)
      clear hK K
      try simp only [Act.put, List.setIfInBounds_toArray, List.set_cons_zero, List.set_cons_succ]
      refine wpAnyH_ready (rs := [9]) (by kernel_rfl) (by simp) ?_
      refine AllReadyH.consL (o := _) rfl (fun K hK => ?_) AllReadyH.nil
      clear hHeld
      go_simp
      go_at_call 41
      refine Calls.mono (qmul_any (L := 100000000) (z := xy) (d := dy) (X1.out.below HB.out) (Y1.out.below HB.out) (X2.out.below HB.out) (Y2.out.below HB.out) LZ1.out LD1.out LZ2.out LD2.out LL.out HZy.out HDy.out) ?_
      rintro e v11 ⟨Py, cy, Qy, ky, rfl, ho, ho2, hb⟩
      replace HB := Lib.hid (HB.out.trans (hb.mono HB.out.size))
      replace Zv := Lib.hid (Zv.out.below hb)
      replace Nv := Lib.hid (Nv.out.below hb)
      have Zy := Lib.hid (Zo.of_own ho)
      have Ny := Lib.hid ho2.rd
      clear ho ho2
      clear hb
      refine hK.out _ _ HB.out (fun hHeld => ?_)
      clear hK K
      try simp only [Act.put, List.setIfInBounds_toArray, List.set_cons_zero, List.set_cons_succ]
      refine wpAnyH_ready (rs := [10]) (by kernel_rfl) (by simp) ?_
      refine AllReadyH.consL (o := _) rfl (fun K hK => ?_) AllReadyH.nil
      clear hHeld
      go_simp
      go_at_call 45
      refine Calls.mono (qcompare_any (L := 100000000) (r := (1)) Zv.out.in_ (Nin.of_rd Nv.out) Zy.out.in_ (Nin.of_rd Ny.out) LZv.out LDv.out LZy.out LDy.out LL.out S9.out) ?_
      rintro e v12 ⟨rfl, hb⟩
      replace HB := Lib.hid (HB.out.trans (hb.mono HB.out.size))
      replace Zv := Lib.hid (Zv.out.below hb)
      replace Nv := Lib.hid (Nv.out.below hb)
      replace Zy := Lib.hid (Zy.out.below hb)
      replace Ny := Lib.hid (Ny.out.below hb)
      clear hb
      refine hK.out _ _ HB.out (fun hHeld => ?_)
      clear hK K
      try simp only [Act.put, List.setIfInBounds_toArray, List.set_cons_zero, List.set_cons_succ]
      refine wpAnyH_takeL (i := 12) (oi := _) (v := ?_) rfl (by kernel_rfl) (by kernel_rfl) (by kernel_rfl) (fun _ _ _ h => h) (Or.inl ⟨by rfl, ?_⟩) hHeld ?_
      rotate_left
      · (intro w' hSw; (try dsimp only at hSw); go_simp; try (with_reducible rfl))
      try simp only [Act.put, List.setIfInBounds_toArray, List.set_cons_zero, List.set_cons_succ]
      refine wpAnyH_takeL (i := 13) (oi := _) (v := ?_) rfl (by kernel_rfl) (by kernel_rfl) (by kernel_rfl) (fun _ _ _ h => h) (Or.inl ⟨by rfl, ?_⟩) hHeld ?_
      rotate_left
      · (intro w' hSw; (try dsimp only at hSw); go_simp; try (with_reducible rfl))
      try simp only [Act.put, List.setIfInBounds_toArray, List.set_cons_zero, List.set_cons_succ]
      skip
      refine wpAnyH_done (by kernel_rfl) ?_ _
      have hb := HB.out
      replace V0 := Lib.hid (V0.out.below hb V0.out.lt)
      replace X0 := Lib.hid (X0.out.below hb)
      replace Y0 := Lib.hid (Y0.out.below hb)
      replace V1 := Lib.hid (V1.out.below hb V1.out.lt)
      replace X1 := Lib.hid (X1.out.below hb)
      replace Y1 := Lib.hid (Y1.out.below hb)
      replace V2 := Lib.hid (V2.out.below hb V2.out.lt)
      replace X2 := Lib.hid (X2.out.below hb)
      replace Y2 := Lib.hid (Y2.out.below hb)
      replace B1 := Lib.hid (B1.out.trans (hb.mono B1.out.size))
      clear hHeld hb HB Zv Nv Zy Ny
      go_wp2
      go_ret
      exact ⟨rfl, B1.out⟩
end Go.Proofs.Ytgleknejogbomaa
