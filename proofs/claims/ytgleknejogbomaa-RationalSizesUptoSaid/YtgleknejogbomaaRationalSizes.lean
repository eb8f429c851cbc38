/-
  The statement RationalSizes: its walk.
-/
import Derived.Test.YtgleknejogbomaaRsize
namespace Go.Proofs.Ytgleknejogbomaa
open Go.RowKit
set_option linter.unusedVariables false

set_option maxRecDepth 100000 in
set_option maxHeartbeats 16000000 in
theorem rationalSizes_walk (b0 : Bool) (a0 : Option Addr) (len0 cap0 : Nat) (z0 : Int) (e0 : Option Addr) (n0 c0 q0 : Nat) (b1 : Bool) (a1 : Option Addr) (len1 cap1 : Nat) (z1 : Int) (e1 : Option Addr) (n1 c1 q1 : Nat) (w : World) (hx0 : Zin w b0 a0 len0 cap0 z0) (hl0 : len0 ≤ 1048576) (hp0 : Nin w e0 n0 c0 q0) (hn0 : n0 ≤ 1048576) (hx1 : Zin w b1 a1 len1 cap1 z1) (hl1 : len1 ≤ 1048576) (hp1 : Nin w e1 n1 c1 q1) (hn1 : n1 ≤ 1048576) :
    Calls Try.prog 11 #[.agg #[.bool b0, .slice a0 len0 cap0, .slice e0 n0 c0], .agg #[.bool b1, .slice a1 len1 cap1, .slice e1 n1 c1]] w fun e w' => e = .returned (.bool true) ∧ Below w.heap.size w w' := by
  obtain ⟨B1, V0, V1⟩ := start_R2 w b0 a0 len0 cap0 e0 n0 c0 b1 a1 len1 cap1 e1 n1 c1
  have X0 := Lib.hid (hx0.below B1.out)
  have Y0 := Lib.hid (hp0.below B1.out)
  have LZ0 : Hid (len0 ≤ 100000000) := Nat.le_trans hl0 (by decide)
  have LD0 : Hid (n0 ≤ 100000000) := Nat.le_trans hn0 (by decide)
  have r0 : RL (mkRat z0 q0) 1048576 := rl_mk (Nat.le_trans hx0.len hl0) (Nat.le_trans hp0.len hn0) (by decide)
  have X1 := Lib.hid (hx1.below B1.out)
  have Y1 := Lib.hid (hp1.below B1.out)
  have LZ1 : Hid (len1 ≤ 100000000) := Nat.le_trans hl1 (by decide)
  have LD1 : Hid (n1 ≤ 100000000) := Nat.le_trans hn1 (by decide)
  have r1 : RL (mkRat z1 q1) 1048576 := rl_mk (Nat.le_trans hx1.len hl1) (Nat.le_trans hp1.len hn1) (by decide)
  have LL : Hid (1 ≤ 100000000 ∧ 100000000 ≤ 35184372088829) := by show _ ∧ _; omega
  have LL2 : Hid (1 ≤ 100000000 ∧ 100000000 ≤ 70368744177660) := by show _ ∧ _; omega
  obtain ⟨xm, exm⟩ : ∃ z : Int, (mkRat z0 q0 * mkRat z1 q1).num = z := ⟨_, rfl⟩
  obtain ⟨dm, edm⟩ : ∃ z : Nat, (mkRat z0 q0 * mkRat z1 q1).den = z := ⟨_, rfl⟩
  have Mm : mkRat xm dm = mkRat z0 q0 * mkRat z1 q1 := by rw [← exm, ← edm, mk_self]
  have rm : RL (mkRat xm dm) 2097152 := by rw [Mm]; exact (rl_mul r0 r1).le (by decide)
  have LZm : Hid ((ofv xm.natAbs).length ≤ 100000000) := by show _ ≤ _; have h := rm.1; rw [Mm, exm] at h; exact Nat.le_trans h (by decide)
  have LDm : Hid ((ofv dm).length ≤ 100000000) := by show _ ≤ _; have h := rm.2; rw [Mm, edm] at h; exact Nat.le_trans h (by decide)
  have HZm := Lib.hid exm
  have HDm := Lib.hid edm
  obtain ⟨s0, es0⟩ : ∃ z : Int, szR (mkRat z0 q0) = z := ⟨_, rfl⟩
  obtain ⟨s1, es1⟩ : ∃ z : Int, szR (mkRat z1 q1) = z := ⟨_, rfl⟩
  obtain ⟨s2, es2⟩ : ∃ z : Int, szR (mkRat xm dm) = z := ⟨_, rfl⟩
  have S0 := Lib.hid es0
  have S1 := Lib.hid es1
  have S2 := Lib.hid es2
  have b0 := szR_len r0
  have b1 := szR_len r1
  have hle := szR_mul (mkRat z0 q0) (mkRat z1 q1)
  rw [← Mm, es0, es1, es2] at hle
  rw [es0] at b0
  rw [es1] at b1
  have hw : IntKind.i64.wrap (s0 + s1) = s0 + s1 := IntWalk.i64_in _ (by omega)
  clear hx0 hl0 hp0 hn0 r0 hx1 hl1 hp1 hn1 r1 exm edm Mm rm es0 es1 es2 b0 b1
  go_enter Try.func11, Try.ntmps11
  go_wp2_with fail
  generalize ((w.alloc (.cells #[.bool b0, .slice a0 len0 cap0, .slice e0 n0 c0] 42)).alloc (.cells #[.bool b1, .slice a1 len1 cap1, .slice e1 n1 c1] 42)) = w2 at *
  have HB : Hid (Below w2.heap.size w2 w2.drew) := below_drewN _ w2 1
  refine wp_region_held_drew (S := fun w' => Below w2.heap.size w2 w') (by kernel_rfl) (HB.out) (fun hHeld => ?_)
  refine wpAnyH_ready (rs := [0]) (by kernel_rfl) (by simp) ?_
  refine AllReadyH.consL (o := _) rfl (fun K hK => ?_) AllReadyH.nil
  clear hHeld
  go_simp
  go_at_call 34
  refine Calls.mono (rawake_any _) ?_
  rintro e v1 ⟨rfl, hb⟩
  replace HB := Lib.hid (HB.out.trans (hb.mono HB.out.size))
  clear hb
  refine hK.out _ _ HB.out (fun hHeld => ?_)
  clear hK K
  try simp only [Act.put, List.setIfInBounds_toArray, List.set_cons_zero, List.set_cons_succ]
  refine wpAnyH_takeL (i := 1) (oi := _) (v := ?_) rfl (by kernel_rfl) (by kernel_rfl) (by kernel_rfl) (fun _ _ _ h => h) (Or.inl ⟨by rfl, ?_⟩) hHeld ?_
  rotate_left
  · (intro w' hSw; (try dsimp only at hSw); go_simp; try (with_reducible rfl))
  try simp only [Act.put, List.setIfInBounds_toArray, List.set_cons_zero, List.set_cons_succ]
  refine wpAnyH_takeL (i := 2) (oi := _) rfl (by kernel_rfl) (by kernel_rfl) (by kernel_rfl) (fun _ _ _ h => h) (yields_ldR (by rfl) _ rfl (by rfl) (fun _ hb => V0.out.below hb V0.out.lt)) hHeld ?_
  try simp only [Act.put, List.setIfInBounds_toArray, List.set_cons_zero, List.set_cons_succ]
  refine wpAnyH_takeL (i := 4) (oi := _) rfl (by kernel_rfl) (by kernel_rfl) (by kernel_rfl) (fun _ _ _ h => h) (yields_ldR (by rfl) _ rfl (by rfl) (fun _ hb => V0.out.below hb V0.out.lt)) hHeld ?_
  try simp only [Act.put, List.setIfInBounds_toArray, List.set_cons_zero, List.set_cons_succ]
  refine wpAnyH_ready (rs := [3]) (by kernel_rfl) (by simp) ?_
  refine AllReadyH.consL (o := _) rfl (fun K hK => ?_) AllReadyH.nil
  clear hHeld
  go_simp
  go_at_call 52
  refine Calls.mono (qsize_any (L := 100000000) (v := s0) (X0.out.below HB.out) (Y0.out.below HB.out) LZ0.out LD0.out LL2.out S0.out) ?_
  rintro e v2 ⟨rfl, hb⟩
  replace HB := Lib.hid (HB.out.trans (hb.mono HB.out.size))
  clear hb
  refine hK.out _ _ HB.out (fun hHeld => ?_)
  clear hK K
  try simp only [Act.put, List.setIfInBounds_toArray, List.set_cons_zero, List.set_cons_succ]
  refine wpAnyH_ready (rs := [5]) (by kernel_rfl) (by simp) ?_
  refine AllReadyH.consL (o := _) rfl (fun K hK => ?_) AllReadyH.nil
  clear hHeld
  go_simp
  go_at_call 53
  refine Calls.mono (r3size_any (v := s0) (X0.out.below HB.out) (Y0.out.below HB.out) (Nat.le_trans LZ0.out (by decide)) (Nat.le_trans LD0.out (by decide)) S0.out) ?_
  rintro e v3 ⟨rfl, hb⟩
  replace HB := Lib.hid (HB.out.trans (hb.mono HB.out.size))
  clear hb
  refine hK.out _ _ HB.out (fun hHeld => ?_)
  clear hK K
  try simp only [Act.put, List.setIfInBounds_toArray, List.set_cons_zero, List.set_cons_succ]
  refine wpAnyH_takeL (i := 6) (oi := _) (v := ?_) rfl (by kernel_rfl) (by kernel_rfl) (by kernel_rfl) (fun _ _ _ h => h) (Or.inl ⟨by rfl, ?_⟩) hHeld ?_
  rotate_left
  · (intro w' hSw; (try dsimp only at hSw); go_simp; try (with_reducible rfl))
  try simp only [Act.put, List.setIfInBounds_toArray, List.set_cons_zero, List.set_cons_succ]
  refine wpAnyH_takeL (i := 7) (oi := _) (v := ?_) rfl (by kernel_rfl) (by kernel_rfl) (by kernel_rfl) (fun _ _ _ h => h) (Or.inl ⟨by rfl, ?_⟩) hHeld ?_
  rotate_left
  · (intro w' hSw; (try dsimp only at hSw); go_simp; try (with_reducible rfl))
  try simp only [Act.put, List.setIfInBounds_toArray, List.set_cons_zero, List.set_cons_succ]
  refine wpAnyH_takeL (i := 8) (oi := _) (v := ?_) rfl (by kernel_rfl) (by kernel_rfl) (by kernel_rfl) (fun _ _ _ h => h) (Or.inl ⟨by rfl, ?_⟩) hHeld ?_
  rotate_left
  · (intro w' hSw; (try dsimp only at hSw); go_simp; try (with_reducible rfl))
  try simp only [Act.put, List.setIfInBounds_toArray, List.set_cons_zero, List.set_cons_succ]
  refine wpAnyH_takeL (i := 9) (oi := _) rfl (by kernel_rfl) (by kernel_rfl) (by kernel_rfl) (fun _ _ _ h => h) (yields_ldR (by rfl) _ rfl (by rfl) (fun _ hb => V0.out.below hb V0.out.lt)) hHeld ?_
  try simp only [Act.put, List.setIfInBounds_toArray, List.set_cons_zero, List.set_cons_succ]
  refine wpAnyH_takeL (i := 10) (oi := _) rfl (by kernel_rfl) (by kernel_rfl) (by kernel_rfl) (fun _ _ _ h => h) (yields_ldR (by rfl) _ rfl (by rfl) (fun _ hb => V1.out.below hb V1.out.lt)) hHeld ?_
  try simp only [Act.put, List.setIfInBounds_toArray, List.set_cons_zero, List.set_cons_succ]
  refine wpAnyH_takeL (i := 13) (oi := _) rfl (by kernel_rfl) (by kernel_rfl) (by kernel_rfl) (fun _ _ _ h => h) (yields_ldR (by rfl) _ rfl (by rfl) (fun _ hb => V0.out.below hb V0.out.lt)) hHeld ?_
  try simp only [Act.put, List.setIfInBounds_toArray, List.set_cons_zero, List.set_cons_succ]
  refine wpAnyH_takeL (i := 15) (oi := _) rfl (by kernel_rfl) (by kernel_rfl) (by kernel_rfl) (fun _ _ _ h => h) (yields_ldR (by rfl) _ rfl (by rfl) (fun _ hb => V1.out.below hb V1.out.lt)) hHeld ?_
  try simp only [Act.put, List.setIfInBounds_toArray, List.set_cons_zero, List.set_cons_succ]
  refine wpAnyH_ready (rs := [11]) (by kernel_rfl) (by simp) ?_
  refine AllReadyH.consL (o := _) rfl (fun K hK => ?_) AllReadyH.nil
  clear hHeld
  go_simp
  go_at_call 41
  refine Calls.mono (qmul_any (L := 100000000) (z := xm) (d := dm) (X0.out.below HB.out) (Y0.out.below HB.out) (X1.out.below HB.out) (Y1.out.below HB.out) LZ0.out LD0.out LZ1.out LD1.out LL.out HZm.out HDm.out) ?_
  rintro e v4 ⟨Pm, cm, Qm, km, rfl, ho, ho2, hb⟩
  replace HB := Lib.hid (HB.out.trans (hb.mono HB.out.size))
  have Zm := Lib.hid (Zo.of_own ho)
  have Nm := Lib.hid ho2.rd
  clear ho ho2
  clear hb
  refine hK.out _ _ HB.out (fun hHeld => ?_)
  clear hK K
  try simp only [Act.put, List.setIfInBounds_toArray, List.set_cons_zero, List.set_cons_succ]
  refine wpAnyH_ready (rs := [12]) (by kernel_rfl) (by simp) ?_
  refine AllReadyH.consL (o := _) rfl (fun K hK => ?_) AllReadyH.nil
  clear hHeld
  go_simp
  go_at_call 52
  refine Calls.mono (qsize_any (L := 100000000) (v := s2) Zm.out.in_ (Nin.of_rd Nm.out) LZm.out LDm.out LL2.out S2.out) ?_
  rintro e v5 ⟨rfl, hb⟩
  replace HB := Lib.hid (HB.out.trans (hb.mono HB.out.size))
  replace Zm := Lib.hid (Zm.out.below hb)
  replace Nm := Lib.hid (Nm.out.below hb)
  clear hb
  refine hK.out _ _ HB.out (fun hHeld => ?_)
  clear hK K
  try simp only [Act.put, List.setIfInBounds_toArray, List.set_cons_zero, List.set_cons_succ]
  refine wpAnyH_ready (rs := [14]) (by kernel_rfl) (by simp) ?_
  refine AllReadyH.consL (o := _) rfl (fun K hK => ?_) AllReadyH.nil
  clear hHeld
  go_simp
  go_at_call 52
  refine Calls.mono (qsize_any (L := 100000000) (v := s0) (X0.out.below HB.out) (Y0.out.below HB.out) LZ0.out LD0.out LL2.out S0.out) ?_
  rintro e v6 ⟨rfl, hb⟩
  replace HB := Lib.hid (HB.out.trans (hb.mono HB.out.size))
  replace Zm := Lib.hid (Zm.out.below hb)
  replace Nm := Lib.hid (Nm.out.below hb)
  clear hb
  refine hK.out _ _ HB.out (fun hHeld => ?_)
  clear hK K
  try simp only [Act.put, List.setIfInBounds_toArray, List.set_cons_zero, List.set_cons_succ]
  refine wpAnyH_ready (rs := [16]) (by kernel_rfl) (by simp) ?_
  refine AllReadyH.consL (o := _) rfl (fun K hK => ?_) AllReadyH.nil
  clear hHeld
  go_simp
  go_at_call 52
  refine Calls.mono (qsize_any (L := 100000000) (v := s1) (X1.out.below HB.out) (Y1.out.below HB.out) LZ1.out LD1.out LL2.out S1.out) ?_
  rintro e v7 ⟨rfl, hb⟩
  replace HB := Lib.hid (HB.out.trans (hb.mono HB.out.size))
  replace Zm := Lib.hid (Zm.out.below hb)
  replace Nm := Lib.hid (Nm.out.below hb)
  clear hb
  refine hK.out _ _ HB.out (fun hHeld => ?_)
  clear hK K
  try simp only [Act.put, List.setIfInBounds_toArray, List.set_cons_zero, List.set_cons_succ]
  refine wpAnyH_takeL (i := 17) (oi := _) (v := ?_) rfl (by kernel_rfl) (by kernel_rfl) (by kernel_rfl) (fun _ _ _ h => h) (Or.inl ⟨by rfl, ?_⟩) hHeld ?_
  rotate_left
  · (intro w' hSw; (try dsimp only at hSw); go_simp; try (with_reducible rfl))
  try simp only [Act.put, List.setIfInBounds_toArray, List.set_cons_zero, List.set_cons_succ]
  refine wpAnyH_takeL (i := 18) (oi := _) (v := ?_) rfl (by kernel_rfl) (by kernel_rfl) (by kernel_rfl) (fun _ _ _ h => h) (Or.inl ⟨by rfl, ?_⟩) hHeld ?_
  rotate_left
  · (intro w' hSw; (try dsimp only at hSw); go_simp; try (with_reducible rfl))
  try simp only [Act.put, List.setIfInBounds_toArray, List.set_cons_zero, List.set_cons_succ]
  refine wpAnyH_takeL (i := 19) (oi := _) (v := ?_) rfl (by kernel_rfl) (by kernel_rfl) (by kernel_rfl) (fun _ _ _ h => h) (Or.inl ⟨by rfl, ?_⟩) hHeld ?_
  rotate_left
  · (intro w' hSw; (try dsimp only at hSw); go_simp; try (with_reducible rfl))
  try simp only [Act.put, List.setIfInBounds_toArray, List.set_cons_zero, List.set_cons_succ]
  refine wpAnyH_takeL (i := 20) (oi := _) (v := ?_) rfl (by kernel_rfl) (by kernel_rfl) (by kernel_rfl) (fun _ _ _ h => h) (Or.inl ⟨by rfl, ?_⟩) hHeld ?_
  rotate_left
  · (intro w' hSw; (try dsimp only at hSw); go_simp; try (with_reducible rfl))
  try simp only [Act.put, List.setIfInBounds_toArray, List.set_cons_zero, List.set_cons_succ]
  skip
  refine wpAnyH_done (by kernel_rfl) ?_ _
  have hb := HB.out
  replace V0 := Lib.hid (V0.out.below hb V0.out.lt)
  replace X0 := Lib.hid (X0.out.below hb)
  replace Y0 := Lib.hid (Y0.out.below hb)
  replace V1 := Lib.hid (V1.out.below hb V1.out.lt)
  replace X1 := Lib.hid (X1.out.below hb)
  replace Y1 := Lib.hid (Y1.out.below hb)
  replace B1 := Lib.hid (B1.out.trans (hb.mono B1.out.size))
  clear hHeld hb HB Zm Nm
  go_wp2
  go_ret
  exact ⟨rfl, B1.out⟩
end Go.Proofs.Ytgleknejogbomaa
