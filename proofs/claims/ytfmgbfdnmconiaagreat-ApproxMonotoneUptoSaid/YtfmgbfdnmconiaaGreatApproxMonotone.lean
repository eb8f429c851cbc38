/-
  The statement ApproxMonotone: its walk.
-/
import Derived.Test.YtfmgbfdnmconiaaGreatApw
import Derived.Test.YtfmgbfdnmconiaaGreatZbez
namespace Go.Proofs.YtfmgbfdnmconiaaGreat
open Go.RowKit
set_option linter.unusedVariables false

theorem start_ApproxMonotone (w : World) (s0 : Bool) (A0 : Option Addr) (n0 c0 : Nat) (D0 : Option Addr) (m0 k0 : Nat) (s1 : Bool) (A1 : Option Addr) (n1 c1 : Nat) (s2 : Bool) (A2 : Option Addr) (n2 c2 : Nat) :
    Hid (Below w.heap.size w (((w.alloc (.cells #[.bool s0, .slice A0 n0 c0, .slice D0 m0 k0] 26)).alloc (.cells #[.bool s1, .slice A1 n1 c1] 24)).alloc (.cells #[.bool s2, .slice A2 n2 c2] 24))) ∧ Hid (Rb (((w.alloc (.cells #[.bool s0, .slice A0 n0 c0, .slice D0 m0 k0] 26)).alloc (.cells #[.bool s1, .slice A1 n1 c1] 24)).alloc (.cells #[.bool s2, .slice A2 n2 c2] 24)) (w.heap.size) s0 A0 n0 c0 D0 m0 k0) ∧ Hid (Zb (((w.alloc (.cells #[.bool s0, .slice A0 n0 c0, .slice D0 m0 k0] 26)).alloc (.cells #[.bool s1, .slice A1 n1 c1] 24)).alloc (.cells #[.bool s2, .slice A2 n2 c2] 24)) (w.heap.size + 1) s1 A1 n1 c1) ∧ Hid (Zb (((w.alloc (.cells #[.bool s0, .slice A0 n0 c0, .slice D0 m0 k0] 26)).alloc (.cells #[.bool s1, .slice A1 n1 c1] 24)).alloc (.cells #[.bool s2, .slice A2 n2 c2] 24)) (w.heap.size + 2) s2 A2 n2 c2) := by
  refine ⟨?_, ?_, ?_, ?_⟩
  · exact ((((Below.refl _ _).alloc (by first | exact Nat.le_refl _ | (simp; done) | (simp; omega)) _).alloc (by first | exact Nat.le_refl _ | (simp; done) | (simp; omega)) _).alloc (by first | exact Nat.le_refl _ | (simp; done) | (simp; omega)) _)
  · have := Rb.new w s0 A0 n0 c0 D0 m0 k0
    exact ((this.alloc _).alloc _)
  · have := Zb.new (w.alloc (.cells #[.bool s0, .slice A0 n0 c0, .slice D0 m0 k0] 26)) s1 A1 n1 c1
    simp only [World.size_alloc] at this
    exact (this.alloc _)
  · have := Zb.new ((w.alloc (.cells #[.bool s0, .slice A0 n0 c0, .slice D0 m0 k0] 26)).alloc (.cells #[.bool s1, .slice A1 n1 c1] 24)) s2 A2 n2 c2
    simp only [World.size_alloc] at this
    exact this
set_option maxRecDepth 100000 in
set_option maxHeartbeats 16000000 in
theorem approxMonotone_a (b0 : Bool) (a0 : Option Addr) (len0 cap0 : Nat) (z0 : Int) (e0 : Option Addr) (n0 c0 q0 : Nat) (b1 : Bool) (a1 : Option Addr) (len1 cap1 : Nat) (z1 : Int) (b2 : Bool) (a2 : Option Addr) (len2 cap2 : Nat) (z2 : Int) (w : World) (hx0 : Zin w b0 a0 len0 cap0 z0) (hl0 : len0 ≤ 1048576) (hp0 : Nin w e0 n0 c0 q0) (hn0 : n0 ≤ 1048576) (hx1 : Zin w b1 a1 len1 cap1 z1) (hl1 : len1 ≤ 1048576) (hx2 : Zin w b2 a2 len2 cap2 z2) (hl2 : len2 ≤ 1048576) (hM : z1 ≤ 0) :
    Calls Tryz.prog 7 #[.agg #[.bool b0, .slice a0 len0 cap0, .slice e0 n0 c0], .agg #[.bool b1, .slice a1 len1 cap1], .agg #[.bool b2, .slice a2 len2 cap2]] w fun e w' => e = .returned (.bool true) ∧ Below w.heap.size w w' := by
  obtain ⟨B1, V0, V1, V2⟩ := start_ApproxMonotone w b0 a0 len0 cap0 e0 n0 c0 b1 a1 len1 cap1 b2 a2 len2 cap2
  have X0 := Lib.hid (hx0.below B1.out)
  have L0 := Lib.hid hl0
  have Y0 := Lib.hid (hp0.below B1.out)
  have N0 := Lib.hid hn0
  have X1 := Lib.hid (hx1.below B1.out)
  have L1 := Lib.hid hl1
  have X2 := Lib.hid (hx2.below B1.out)
  have L2 := Lib.hid hl2
  obtain ⟨one, e1⟩ : ∃ z0 : Int, (1 : Int) = z0 := ⟨_, rfl⟩
  have E1 := Lib.hid e1
  have LO : Hid ((ofv one.natAbs).length ≤ 1048576) := by show _ ≤ _; rw [← e1]; exact Nat.le_trans (len_small (by decide)) (by decide)
  have S1 : Hid (sg (z1 - one) = -1) := by show _ = _; rw [← e1]; rcases sg_cases (z1 - 1) with ⟨e, _⟩ | ⟨_, e⟩ | ⟨_, e⟩ <;> first | exact e | omega
  clear hx0 hl0 hp0 hn0 hx1 hl1 hx2 hl2 hM e1
  go_enter Tryz.func7, Tryz.ntmps7
  go_wp2_with fail
  generalize (((w.alloc (.cells #[.bool b0, .slice a0 len0 cap0, .slice e0 n0 c0] 26)).alloc (.cells #[.bool b1, .slice a1 len1 cap1] 24)).alloc (.cells #[.bool b2, .slice a2 len2 cap2] 24)) = w2 at *
  have hb := below_drewN w2.heap.size w2 1
  replace V0 := Lib.hid (V0.out.below hb V0.out.lt)
  replace X0 := Lib.hid (X0.out.below hb)
  replace Y0 := Lib.hid (Y0.out.below hb)
  replace V1 := Lib.hid (V1.out.below hb V1.out.lt)
  replace X1 := Lib.hid (X1.out.below hb)
  replace V2 := Lib.hid (V2.out.below hb V2.out.lt)
  replace X2 := Lib.hid (X2.out.below hb)
  replace B1 := Lib.hid (B1.out.trans (hb.mono B1.out.size))
  clear hb
  refine wp_region_held_drew (S := fun w' => Zb w' (w.heap.size + 1) b1 a1 len1 cap1) (by kernel_rfl) V1.out (fun hHeld => ?_)
  refine wpAnyH_takeL (i := 0) (oi := _) rfl (by kernel_rfl) (by kernel_rfl) (by kernel_rfl) (fun _ _ _ h => h) (yields_ldZ (by rfl) _ rfl (by rfl) (fun _ hS => hS)) hHeld ?_
  try simp only [Act.put, List.setIfInBounds_toArray, List.set_cons_zero, List.set_cons_succ]
  refine wpAnyH_ready (rs := [1]) (by kernel_rfl) (by simp) ?_
  refine AllReadyH.consL (o := _) rfl (fun K hK => ?_) AllReadyH.nil
  clear hHeld
  go_simp
  go_at_call 13
  refine Calls.mono (rfromInt_z (v := 1) (z := one) (by decide) E1.out _) ?_
  rintro e w3 ⟨PO, cO, rfl, ho, hb⟩
  replace V0 := Lib.hid (V0.out.below hb V0.out.lt)
  replace X0 := Lib.hid (X0.out.below hb)
  replace Y0 := Lib.hid (Y0.out.below hb)
  replace V1 := Lib.hid (V1.out.below hb V1.out.lt)
  replace X1 := Lib.hid (X1.out.below hb)
  replace V2 := Lib.hid (V2.out.below hb V2.out.lt)
  replace X2 := Lib.hid (X2.out.below hb)
  replace B1 := Lib.hid (B1.out.trans (hb.mono B1.out.size))
  have ZO := Lib.hid (Zo.of_own ho)
  clear ho
  clear hb
  refine hK.out _ _ V1.out (fun hHeld => ?_)
  clear hK K
  try simp only [Act.put, List.setIfInBounds_toArray, List.set_cons_zero, List.set_cons_succ]
  refine wpAnyH_ready (rs := [2]) (by kernel_rfl) (by simp) ?_
  refine AllReadyH.consL (o := _) rfl (fun K hK => ?_) AllReadyH.nil
  clear hHeld
  go_simp
  go_at_call 12
  refine Calls.mono (rcompare_k (r := (-1)) X1.out ZO.out.in_ (Nat.le_trans L1.out (by decide)) (Nat.le_trans LO.out (by decide)) S1.out) ?_
  rintro e w4 ⟨rfl, hb⟩
  replace V0 := Lib.hid (V0.out.below hb V0.out.lt)
  replace X0 := Lib.hid (X0.out.below hb)
  replace Y0 := Lib.hid (Y0.out.below hb)
  replace V1 := Lib.hid (V1.out.below hb V1.out.lt)
  replace X1 := Lib.hid (X1.out.below hb)
  replace V2 := Lib.hid (V2.out.below hb V2.out.lt)
  replace X2 := Lib.hid (X2.out.below hb)
  replace ZO := Lib.hid (ZO.out.below hb)
  replace B1 := Lib.hid (B1.out.trans (hb.mono B1.out.size))
  clear hb
  refine hK.out _ _ V1.out (fun hHeld => ?_)
  clear hK K
  try simp only [Act.put, List.setIfInBounds_toArray, List.set_cons_zero, List.set_cons_succ]
  refine wpAnyH_takeL (i := 3) (oi := _) (v := ?_) rfl (by kernel_rfl) (by kernel_rfl) (by kernel_rfl) (fun _ _ _ h => h) (Or.inl ⟨by rfl, ?_⟩) hHeld ?_
  rotate_left
  · (intro w' hSw; (try dsimp only at hSw); go_simp; try (with_reducible rfl))
  try simp only [Act.put, List.setIfInBounds_toArray, List.set_cons_zero, List.set_cons_succ]
  refine wpAnyH_takeL (i := 4) (oi := _) (v := ?_) rfl (by kernel_rfl) (by kernel_rfl) (by kernel_rfl) (fun _ _ _ h => h) (Or.inl ⟨by rfl, ?_⟩) hHeld ?_
  rotate_left
  · (intro w' hSw; (try dsimp only at hSw); go_simp; try (with_reducible rfl))
  try simp only [Act.put, List.setIfInBounds_toArray, List.set_cons_zero, List.set_cons_succ]
  refine wpAnyH_takeL (i := 5) (oi := _) (v := undef) rfl (by kernel_rfl) (by kernel_rfl) (by kernel_rfl) (fun _ _ _ h => h) (Or.inr ⟨by rfl, rfl⟩) hHeld ?_
  try simp only [Act.put, List.setIfInBounds_toArray, List.set_cons_zero, List.set_cons_succ]
  refine wpAnyH_takeL (i := 6) (oi := _) (v := undef) rfl (by kernel_rfl) (by kernel_rfl) (by kernel_rfl) (fun _ _ _ h => h) (Or.inr ⟨by rfl, rfl⟩) hHeld ?_
  try simp only [Act.put, List.setIfInBounds_toArray, List.set_cons_zero, List.set_cons_succ]
  refine wpAnyH_takeL (i := 7) (oi := _) (v := undef) rfl (by kernel_rfl) (by kernel_rfl) (by kernel_rfl) (fun _ _ _ h => h) (Or.inr ⟨by rfl, rfl⟩) hHeld ?_
  try simp only [Act.put, List.setIfInBounds_toArray, List.set_cons_zero, List.set_cons_succ]
  refine wpAnyH_takeL (i := 8) (oi := _) (v := undef) rfl (by kernel_rfl) (by kernel_rfl) (by kernel_rfl) (fun _ _ _ h => h) (Or.inr ⟨by rfl, rfl⟩) hHeld ?_
  try simp only [Act.put, List.setIfInBounds_toArray, List.set_cons_zero, List.set_cons_succ]
  refine wpAnyH_takeL (i := 9) (oi := _) (v := ?_) rfl (by kernel_rfl) (by kernel_rfl) (by kernel_rfl) (fun _ _ _ h => h) (Or.inl ⟨by rfl, ?_⟩) hHeld ?_
  rotate_left
  · (intro w' hSw; (try dsimp only at hSw); go_simp; try (with_reducible rfl))
  try simp only [Act.put, List.setIfInBounds_toArray, List.set_cons_zero, List.set_cons_succ]
  clear hHeld
  refine wpAnyH_done (by kernel_rfl) ?_ _
  have pc0 := Lib.hid trivial
  go_wp2_with (first
    | (clear pc0; go_at_call 14; refine Calls.mono (awake5_any _) ?_; rintro e w5 ⟨rfl, hb⟩; replace V0 := Lib.hid (V0.out.below hb V0.out.lt); replace X0 := Lib.hid (X0.out.below hb); replace Y0 := Lib.hid (Y0.out.below hb); replace V1 := Lib.hid (V1.out.below hb V1.out.lt); replace X1 := Lib.hid (X1.out.below hb); replace V2 := Lib.hid (V2.out.below hb V2.out.lt); replace X2 := Lib.hid (X2.out.below hb); replace ZO := Lib.hid (ZO.out.below hb); replace B1 := Lib.hid (B1.out.trans (hb.mono B1.out.size)); clear hb; have pc1 := Lib.hid trivial))
  clear pc1
  go_ret
  exact ⟨rfl, B1.out⟩
set_option maxRecDepth 100000 in
set_option maxHeartbeats 16000000 in
theorem approxMonotone_b (b0 : Bool) (a0 : Option Addr) (len0 cap0 : Nat) (z0 : Int) (e0 : Option Addr) (n0 c0 q0 : Nat) (b1 : Bool) (a1 : Option Addr) (len1 cap1 : Nat) (z1 : Int) (b2 : Bool) (a2 : Option Addr) (len2 cap2 : Nat) (z2 : Int) (w : World) (hx0 : Zin w b0 a0 len0 cap0 z0) (hl0 : len0 ≤ 1048576) (hp0 : Nin w e0 n0 c0 q0) (hn0 : n0 ≤ 1048576) (hx1 : Zin w b1 a1 len1 cap1 z1) (hl1 : len1 ≤ 1048576) (hx2 : Zin w b2 a2 len2 cap2 z2) (hl2 : len2 ≤ 1048576) (hM : 0 < z1) (hM2 : z2 < z1) :
    Calls Tryz.prog 7 #[.agg #[.bool b0, .slice a0 len0 cap0, .slice e0 n0 c0], .agg #[.bool b1, .slice a1 len1 cap1], .agg #[.bool b2, .slice a2 len2 cap2]] w fun e w' => e = .returned (.bool true) ∧ Below w.heap.size w w' := by
  obtain ⟨B1, V0, V1, V2⟩ := start_ApproxMonotone w b0 a0 len0 cap0 e0 n0 c0 b1 a1 len1 cap1 b2 a2 len2 cap2
  have X0 := Lib.hid (hx0.below B1.out)
  have L0 := Lib.hid hl0
  have Y0 := Lib.hid (hp0.below B1.out)
  have N0 := Lib.hid hn0
  have X1 := Lib.hid (hx1.below B1.out)
  have L1 := Lib.hid hl1
  have X2 := Lib.hid (hx2.below B1.out)
  have L2 := Lib.hid hl2
  obtain ⟨one, e1⟩ : ∃ z0 : Int, (1 : Int) = z0 := ⟨_, rfl⟩
  have E1 := Lib.hid e1
  have LO : Hid ((ofv one.natAbs).length ≤ 1048576) := by show _ ≤ _; rw [← e1]; exact Nat.le_trans (len_small (by decide)) (by decide)
  obtain ⟨r0, er0⟩ : ∃ r : Int, sg (z1 - one) = r := ⟨_, rfl⟩
  have nn : ∃ k : Nat, r0 = (k : Int) := by rw [← e1] at er0; rcases sg_cases (z1 - 1) with ⟨_, e⟩ | ⟨e, _⟩ | ⟨e, _⟩ <;> first | (exfalso; omega) | exact ⟨r0.natAbs, by omega⟩
  obtain ⟨k0, rfl⟩ := nn
  have S1 := Lib.hid er0
  have S2 : Hid (sg (z1 - z2) = 1) := by show _ = _; rcases sg_cases (z1 - z2) with ⟨_, e⟩ | ⟨_, e⟩ | ⟨e, _⟩ <;> first | exact e | omega
  clear hx0 hl0 hp0 hn0 hx1 hl1 hx2 hl2 hM hM2 e1 er0
  go_enter Tryz.func7, Tryz.ntmps7
  go_wp2_with fail
  generalize (((w.alloc (.cells #[.bool b0, .slice a0 len0 cap0, .slice e0 n0 c0] 26)).alloc (.cells #[.bool b1, .slice a1 len1 cap1] 24)).alloc (.cells #[.bool b2, .slice a2 len2 cap2] 24)) = w2 at *
  have hb := below_drewN w2.heap.size w2 1
  replace V0 := Lib.hid (V0.out.below hb V0.out.lt)
  replace X0 := Lib.hid (X0.out.below hb)
  replace Y0 := Lib.hid (Y0.out.below hb)
  replace V1 := Lib.hid (V1.out.below hb V1.out.lt)
  replace X1 := Lib.hid (X1.out.below hb)
  replace V2 := Lib.hid (V2.out.below hb V2.out.lt)
  replace X2 := Lib.hid (X2.out.below hb)
  replace B1 := Lib.hid (B1.out.trans (hb.mono B1.out.size))
  clear hb
  refine wp_region_held_drew (S := fun w' => Zb w' (w.heap.size + 1) b1 a1 len1 cap1 ∧ Zb w' (w.heap.size + 2) b2 a2 len2 cap2) (by kernel_rfl) ⟨V1.out, V2.out⟩ (fun hHeld => ?_)
  refine wpAnyH_takeL (i := 0) (oi := _) rfl (by kernel_rfl) (by kernel_rfl) (by kernel_rfl) (fun _ _ _ h => h) (yields_ldZ (by rfl) _ rfl (by rfl) (fun _ hS => hS.1)) hHeld ?_
  try simp only [Act.put, List.setIfInBounds_toArray, List.set_cons_zero, List.set_cons_succ]
  refine wpAnyH_ready (rs := [1]) (by kernel_rfl) (by simp) ?_
  refine AllReadyH.consL (o := _) rfl (fun K hK => ?_) AllReadyH.nil
  clear hHeld
  go_simp
  go_at_call 13
  refine Calls.mono (rfromInt_z (v := 1) (z := one) (by decide) E1.out _) ?_
  rintro e w3 ⟨PO, cO, rfl, ho, hb⟩
  replace V0 := Lib.hid (V0.out.below hb V0.out.lt)
  replace X0 := Lib.hid (X0.out.below hb)
  replace Y0 := Lib.hid (Y0.out.below hb)
  replace V1 := Lib.hid (V1.out.below hb V1.out.lt)
  replace X1 := Lib.hid (X1.out.below hb)
  replace V2 := Lib.hid (V2.out.below hb V2.out.lt)
  replace X2 := Lib.hid (X2.out.below hb)
  replace B1 := Lib.hid (B1.out.trans (hb.mono B1.out.size))
  have ZO := Lib.hid (Zo.of_own ho)
  clear ho
  clear hb
  refine hK.out _ _ ⟨V1.out, V2.out⟩ (fun hHeld => ?_)
  clear hK K
  try simp only [Act.put, List.setIfInBounds_toArray, List.set_cons_zero, List.set_cons_succ]
  refine wpAnyH_ready (rs := [2]) (by kernel_rfl) (by simp) ?_
  refine AllReadyH.consL (o := _) rfl (fun K hK => ?_) AllReadyH.nil
  clear hHeld
  go_simp
  go_at_call 12
  refine Calls.mono (rcompare_k (r := _) X1.out ZO.out.in_ (Nat.le_trans L1.out (by decide)) (Nat.le_trans LO.out (by decide)) S1.out) ?_
  rintro e w4 ⟨rfl, hb⟩
  replace V0 := Lib.hid (V0.out.below hb V0.out.lt)
  replace X0 := Lib.hid (X0.out.below hb)
  replace Y0 := Lib.hid (Y0.out.below hb)
  replace V1 := Lib.hid (V1.out.below hb V1.out.lt)
  replace X1 := Lib.hid (X1.out.below hb)
  replace V2 := Lib.hid (V2.out.below hb V2.out.lt)
  replace X2 := Lib.hid (X2.out.below hb)
  replace ZO := Lib.hid (ZO.out.below hb)
  replace B1 := Lib.hid (B1.out.trans (hb.mono B1.out.size))
  clear hb
  refine hK.out _ _ ⟨V1.out, V2.out⟩ (fun hHeld => ?_)
  clear hK K
  try simp only [Act.put, List.setIfInBounds_toArray, List.set_cons_zero, List.set_cons_succ]
  refine wpAnyH_takeL (i := 3) (oi := _) (v := ?_) rfl (by kernel_rfl) (by kernel_rfl) (by kernel_rfl) (fun _ _ _ h => h) (Or.inl ⟨by rfl, ?_⟩) hHeld ?_
  rotate_left
  · (intro w' hSw; (try dsimp only at hSw); go_simp; try (with_reducible rfl))
  try simp only [Act.put, List.setIfInBounds_toArray, List.set_cons_zero, List.set_cons_succ]
  refine wpAnyH_takeL (i := 4) (oi := _) (v := ?_) rfl (by kernel_rfl) (by kernel_rfl) (by kernel_rfl) (fun _ _ _ h => h) (Or.inl ⟨by rfl, ?_⟩) hHeld ?_
  rotate_left
  · (intro w' hSw; (try dsimp only at hSw); go_simp; try (with_reducible rfl))
  try simp only [Act.put, List.setIfInBounds_toArray, List.set_cons_zero, List.set_cons_succ]
  refine wpAnyH_takeL (i := 5) (oi := _) rfl (by kernel_rfl) (by kernel_rfl) (by kernel_rfl) (fun _ _ _ h => h) (yields_ldZ (by rfl) _ rfl (by rfl) (fun _ hS => hS.1)) hHeld ?_
  try simp only [Act.put, List.setIfInBounds_toArray, List.set_cons_zero, List.set_cons_succ]
  refine wpAnyH_takeL (i := 6) (oi := _) rfl (by kernel_rfl) (by kernel_rfl) (by kernel_rfl) (fun _ _ _ h => h) (yields_ldZ (by rfl) _ rfl (by rfl) (fun _ hS => hS.2)) hHeld ?_
  try simp only [Act.put, List.setIfInBounds_toArray, List.set_cons_zero, List.set_cons_succ]
  refine wpAnyH_ready (rs := [7]) (by kernel_rfl) (by simp) ?_
  refine AllReadyH.consL (o := _) rfl (fun K hK => ?_) AllReadyH.nil
  clear hHeld
  go_simp
  go_at_call 12
  refine Calls.mono (rcompare_k (r := 1) X1.out X2.out (Nat.le_trans L1.out (by decide)) (Nat.le_trans L2.out (by decide)) S2.out) ?_
  rintro e w5 ⟨rfl, hb⟩
  replace V0 := Lib.hid (V0.out.below hb V0.out.lt)
  replace X0 := Lib.hid (X0.out.below hb)
  replace Y0 := Lib.hid (Y0.out.below hb)
  replace V1 := Lib.hid (V1.out.below hb V1.out.lt)
  replace X1 := Lib.hid (X1.out.below hb)
  replace V2 := Lib.hid (V2.out.below hb V2.out.lt)
  replace X2 := Lib.hid (X2.out.below hb)
  replace ZO := Lib.hid (ZO.out.below hb)
  replace B1 := Lib.hid (B1.out.trans (hb.mono B1.out.size))
  clear hb
  refine hK.out _ _ ⟨V1.out, V2.out⟩ (fun hHeld => ?_)
  clear hK K
  try simp only [Act.put, List.setIfInBounds_toArray, List.set_cons_zero, List.set_cons_succ]
  refine wpAnyH_takeL (i := 8) (oi := _) (v := ?_) rfl (by kernel_rfl) (by kernel_rfl) (by kernel_rfl) (fun _ _ _ h => h) (Or.inl ⟨by rfl, ?_⟩) hHeld ?_
  rotate_left
  · (intro w' hSw; (try dsimp only at hSw); go_simp; try (with_reducible rfl))
  try simp only [Act.put, List.setIfInBounds_toArray, List.set_cons_zero, List.set_cons_succ]
  refine wpAnyH_takeL (i := 9) (oi := _) (v := ?_) rfl (by kernel_rfl) (by kernel_rfl) (by kernel_rfl) (fun _ _ _ h => h) (Or.inl ⟨by rfl, ?_⟩) hHeld ?_
  rotate_left
  · (intro w' hSw; (try dsimp only at hSw); go_simp; try (with_reducible rfl))
  try simp only [Act.put, List.setIfInBounds_toArray, List.set_cons_zero, List.set_cons_succ]
  clear hHeld
  refine wpAnyH_done (by kernel_rfl) ?_ _
  have pc0 := Lib.hid trivial
  go_wp2_with (first
    | (clear pc0; go_at_call 14; refine Calls.mono (awake5_any _) ?_; rintro e w6 ⟨rfl, hb⟩; replace V0 := Lib.hid (V0.out.below hb V0.out.lt); replace X0 := Lib.hid (X0.out.below hb); replace Y0 := Lib.hid (Y0.out.below hb); replace V1 := Lib.hid (V1.out.below hb V1.out.lt); replace X1 := Lib.hid (X1.out.below hb); replace V2 := Lib.hid (V2.out.below hb V2.out.lt); replace X2 := Lib.hid (X2.out.below hb); replace ZO := Lib.hid (ZO.out.below hb); replace B1 := Lib.hid (B1.out.trans (hb.mono B1.out.size)); clear hb; have pc1 := Lib.hid trivial))
  clear pc1
  go_ret
  exact ⟨rfl, B1.out⟩
set_option maxRecDepth 100000 in
set_option maxHeartbeats 16000000 in
theorem approxMonotone_c (b0 : Bool) (a0 : Option Addr) (len0 cap0 : Nat) (z0 : Int) (e0 : Option Addr) (n0 c0 q0 : Nat) (b1 : Bool) (a1 : Option Addr) (len1 cap1 : Nat) (z1 : Int) (b2 : Bool) (a2 : Option Addr) (len2 cap2 : Nat) (z2 : Int) (w : World) (hx0 : Zin w b0 a0 len0 cap0 z0) (hl0 : len0 ≤ 1048576) (hp0 : Nin w e0 n0 c0 q0) (hn0 : n0 ≤ 1048576) (hx1 : Zin w b1 a1 len1 cap1 z1) (hl1 : len1 ≤ 1048576) (hx2 : Zin w b2 a2 len2 cap2 z2) (hl2 : len2 ≤ 1048576) (hM : 0 < z1) (hM2 : z1 ≤ z2) :
    Calls Tryz.prog 7 #[.agg #[.bool b0, .slice a0 len0 cap0, .slice e0 n0 c0], .agg #[.bool b1, .slice a1 len1 cap1], .agg #[.bool b2, .slice a2 len2 cap2]] w fun e w' => e = .returned (.bool true) ∧ Below w.heap.size w w' := by
  obtain ⟨B1, V0, V1, V2⟩ := start_ApproxMonotone w b0 a0 len0 cap0 e0 n0 c0 b1 a1 len1 cap1 b2 a2 len2 cap2
  have X0 := Lib.hid (hx0.below B1.out)
  have L0 := Lib.hid hl0
  have Y0 := Lib.hid (hp0.below B1.out)
  have N0 := Lib.hid hn0
  have X1 := Lib.hid (hx1.below B1.out)
  have L1 := Lib.hid hl1
  have X2 := Lib.hid (hx2.below B1.out)
  have L2 := Lib.hid hl2
  obtain ⟨one, e1⟩ : ∃ z0 : Int, (1 : Int) = z0 := ⟨_, rfl⟩
  have E1 := Lib.hid e1
  have LO : Hid ((ofv one.natAbs).length ≤ 1048576) := by show _ ≤ _; rw [← e1]; exact Nat.le_trans (len_small (by decide)) (by decide)
  obtain ⟨r0, er0⟩ : ∃ r : Int, sg (z1 - one) = r := ⟨_, rfl⟩
  have nn : ∃ k : Nat, r0 = (k : Int) := by rw [← e1] at er0; rcases sg_cases (z1 - 1) with ⟨_, e⟩ | ⟨e, _⟩ | ⟨e, _⟩ <;> first | (exfalso; omega) | exact ⟨r0.natAbs, by omega⟩
  obtain ⟨k0, rfl⟩ := nn
  have S1 := Lib.hid er0
  obtain ⟨r1, er1⟩ : ∃ r : Int, sg (z1 - z2) = r := ⟨_, rfl⟩
  have nn : ∃ k : Nat, r1 = -(k : Int) := by rcases sg_cases (z1 - z2) with ⟨e, _⟩ | ⟨e, _⟩ | ⟨_, e⟩ <;> first | (exfalso; omega) | exact ⟨r1.natAbs, by omega⟩
  obtain ⟨k1, rfl⟩ := nn
  have S2 := Lib.hid er1
  have HM := Lib.hid hM
  have HM2 := Lib.hid hM2
  have HP2 : Hid (0 < z2) := by show _ < _; omega
  obtain ⟨z, ez⟩ : ∃ z : Int, (mkRat z0 q0).num = z := ⟨_, rfl⟩
  obtain ⟨d, ed⟩ : ∃ z : Nat, (mkRat z0 q0).den = z := ⟨_, rfl⟩
  have EZ := Lib.hid ez
  have ED := Lib.hid ed
  clear hx0 hl0 hp0 hn0 hx1 hl1 hx2 hl2 hM hM2 e1 er0 er1 ez ed
  go_enter Tryz.func7, Tryz.ntmps7
  go_wp2_with fail
  generalize (((w.alloc (.cells #[.bool b0, .slice a0 len0 cap0, .slice e0 n0 c0] 26)).alloc (.cells #[.bool b1, .slice a1 len1 cap1] 24)).alloc (.cells #[.bool b2, .slice a2 len2 cap2] 24)) = w2 at *
  have hb := below_drewN w2.heap.size w2 1
  replace V0 := Lib.hid (V0.out.below hb V0.out.lt)
  replace X0 := Lib.hid (X0.out.below hb)
  replace Y0 := Lib.hid (Y0.out.below hb)
  replace V1 := Lib.hid (V1.out.below hb V1.out.lt)
  replace X1 := Lib.hid (X1.out.below hb)
  replace V2 := Lib.hid (V2.out.below hb V2.out.lt)
  replace X2 := Lib.hid (X2.out.below hb)
  replace B1 := Lib.hid (B1.out.trans (hb.mono B1.out.size))
  clear hb
  refine wp_region_held_drew (S := fun w' => Zb w' (w.heap.size + 1) b1 a1 len1 cap1 ∧ Zb w' (w.heap.size + 2) b2 a2 len2 cap2) (by kernel_rfl) ⟨V1.out, V2.out⟩ (fun hHeld => ?_)
  refine wpAnyH_takeL (i := 0) (oi := _) rfl (by kernel_rfl) (by kernel_rfl) (by kernel_rfl) (fun _ _ _ h => h) (yields_ldZ (by rfl) _ rfl (by rfl) (fun _ hS => hS.1)) hHeld ?_
  try simp only [Act.put, List.setIfInBounds_toArray, List.set_cons_zero, List.set_cons_succ]
  refine wpAnyH_ready (rs := [1]) (by kernel_rfl) (by simp) ?_
  refine AllReadyH.consL (o := _) rfl (fun K hK => ?_) AllReadyH.nil
  clear hHeld
  go_simp
  go_at_call 13
  refine Calls.mono (rfromInt_z (v := 1) (z := one) (by decide) E1.out _) ?_
  rintro e w3 ⟨PO, cO, rfl, ho, hb⟩
  replace V0 := Lib.hid (V0.out.below hb V0.out.lt)
  replace X0 := Lib.hid (X0.out.below hb)
  replace Y0 := Lib.hid (Y0.out.below hb)
  replace V1 := Lib.hid (V1.out.below hb V1.out.lt)
  replace X1 := Lib.hid (X1.out.below hb)
  replace V2 := Lib.hid (V2.out.below hb V2.out.lt)
  replace X2 := Lib.hid (X2.out.below hb)
  replace B1 := Lib.hid (B1.out.trans (hb.mono B1.out.size))
  have ZO := Lib.hid (Zo.of_own ho)
  clear ho
  clear hb
  refine hK.out _ _ ⟨V1.out, V2.out⟩ (fun hHeld => ?_)
  clear hK K
  try simp only [Act.put, List.setIfInBounds_toArray, List.set_cons_zero, List.set_cons_succ]
  refine wpAnyH_ready (rs := [2]) (by kernel_rfl) (by simp) ?_
  refine AllReadyH.consL (o := _) rfl (fun K hK => ?_) AllReadyH.nil
  clear hHeld
  go_simp
  go_at_call 12
  refine Calls.mono (rcompare_k (r := _) X1.out ZO.out.in_ (Nat.le_trans L1.out (by decide)) (Nat.le_trans LO.out (by decide)) S1.out) ?_
  rintro e w4 ⟨rfl, hb⟩
  replace V0 := Lib.hid (V0.out.below hb V0.out.lt)
  replace X0 := Lib.hid (X0.out.below hb)
  replace Y0 := Lib.hid (Y0.out.below hb)
  replace V1 := Lib.hid (V1.out.below hb V1.out.lt)
  replace X1 := Lib.hid (X1.out.below hb)
  replace V2 := Lib.hid (V2.out.below hb V2.out.lt)
  replace X2 := Lib.hid (X2.out.below hb)
  replace ZO := Lib.hid (ZO.out.below hb)
  replace B1 := Lib.hid (B1.out.trans (hb.mono B1.out.size))
  clear hb
  refine hK.out _ _ ⟨V1.out, V2.out⟩ (fun hHeld => ?_)
  clear hK K
  try simp only [Act.put, List.setIfInBounds_toArray, List.set_cons_zero, List.set_cons_succ]
  refine wpAnyH_takeL (i := 3) (oi := _) (v := ?_) rfl (by kernel_rfl) (by kernel_rfl) (by kernel_rfl) (fun _ _ _ h => h) (Or.inl ⟨by rfl, ?_⟩) hHeld ?_
  rotate_left
  · (intro w' hSw; (try dsimp only at hSw); go_simp; try (with_reducible rfl))
  try simp only [Act.put, List.setIfInBounds_toArray, List.set_cons_zero, List.set_cons_succ]
  refine wpAnyH_takeL (i := 4) (oi := _) (v := ?_) rfl (by kernel_rfl) (by kernel_rfl) (by kernel_rfl) (fun _ _ _ h => h) (Or.inl ⟨by rfl, ?_⟩) hHeld ?_
  rotate_left
  · (intro w' hSw; (try dsimp only at hSw); go_simp; try (with_reducible rfl))
  try simp only [Act.put, List.setIfInBounds_toArray, List.set_cons_zero, List.set_cons_succ]
  refine wpAnyH_takeL (i := 5) (oi := _) rfl (by kernel_rfl) (by kernel_rfl) (by kernel_rfl) (fun _ _ _ h => h) (yields_ldZ (by rfl) _ rfl (by rfl) (fun _ hS => hS.1)) hHeld ?_
  try simp only [Act.put, List.setIfInBounds_toArray, List.set_cons_zero, List.set_cons_succ]
  refine wpAnyH_takeL (i := 6) (oi := _) rfl (by kernel_rfl) (by kernel_rfl) (by kernel_rfl) (fun _ _ _ h => h) (yields_ldZ (by rfl) _ rfl (by rfl) (fun _ hS => hS.2)) hHeld ?_
  try simp only [Act.put, List.setIfInBounds_toArray, List.set_cons_zero, List.set_cons_succ]
  refine wpAnyH_ready (rs := [7]) (by kernel_rfl) (by simp) ?_
  refine AllReadyH.consL (o := _) rfl (fun K hK => ?_) AllReadyH.nil
  clear hHeld
  go_simp
  go_at_call 12
  refine Calls.mono (rcompare_k (r := _) X1.out X2.out (Nat.le_trans L1.out (by decide)) (Nat.le_trans L2.out (by decide)) S2.out) ?_
  rintro e w5 ⟨rfl, hb⟩
  replace V0 := Lib.hid (V0.out.below hb V0.out.lt)
  replace X0 := Lib.hid (X0.out.below hb)
  replace Y0 := Lib.hid (Y0.out.below hb)
  replace V1 := Lib.hid (V1.out.below hb V1.out.lt)
  replace X1 := Lib.hid (X1.out.below hb)
  replace V2 := Lib.hid (V2.out.below hb V2.out.lt)
  replace X2 := Lib.hid (X2.out.below hb)
  replace ZO := Lib.hid (ZO.out.below hb)
  replace B1 := Lib.hid (B1.out.trans (hb.mono B1.out.size))
  clear hb
  refine hK.out _ _ ⟨V1.out, V2.out⟩ (fun hHeld => ?_)
  clear hK K
  try simp only [Act.put, List.setIfInBounds_toArray, List.set_cons_zero, List.set_cons_succ]
  refine wpAnyH_takeL (i := 8) (oi := _) (v := ?_) rfl (by kernel_rfl) (by kernel_rfl) (by kernel_rfl) (fun _ _ _ h => h) (Or.inl ⟨by rfl, ?_⟩) hHeld ?_
  rotate_left
  · (intro w' hSw; (try dsimp only at hSw); go_simp; try (with_reducible rfl))
  try simp only [Act.put, List.setIfInBounds_toArray, List.set_cons_zero, List.set_cons_succ]
  refine wpAnyH_takeL (i := 9) (oi := _) (v := ?_) rfl (by kernel_rfl) (by kernel_rfl) (by kernel_rfl) (fun _ _ _ h => h) (Or.inl ⟨by rfl, ?_⟩) hHeld ?_
  rotate_left
  · (intro w' hSw; (try dsimp only at hSw); go_simp; try (with_reducible rfl))
  try simp only [Act.put, List.setIfInBounds_toArray, List.set_cons_zero, List.set_cons_succ]
  clear hHeld
  refine wpAnyH_done (by kernel_rfl) ?_ _
  have pc0 := Lib.hid trivial
  go_wp2_with (first
    | (clear pc0; refine wpList_ldR (by rfl) _ rfl (by rfl) V0.out ?_; have pc1 := Lib.hid trivial)
    | (clear pc1; refine wpList_ldZ (by rfl) _ rfl (by rfl) V1.out ?_; have pc2 := Lib.hid trivial)
    | (clear pc2; go_at_call 24; refine Calls.mono (below_yes (z := z) (d := d) X0.out Y0.out X1.out L0.out N0.out L1.out EZ.out ED.out HM.out) ?_; rintro e w6 ⟨za, da, st, lens, Pa, ca, Qa, ka, rfl, q1, q2, hb⟩; replace V0 := Lib.hid (V0.out.below hb V0.out.lt); replace X0 := Lib.hid (X0.out.below hb); replace Y0 := Lib.hid (Y0.out.below hb); replace V1 := Lib.hid (V1.out.below hb V1.out.lt); replace X1 := Lib.hid (X1.out.below hb); replace V2 := Lib.hid (V2.out.below hb V2.out.lt); replace X2 := Lib.hid (X2.out.below hb); replace ZO := Lib.hid (ZO.out.below hb); replace B1 := Lib.hid (B1.out.trans (hb.mono B1.out.size)); have SA := Lib.hid st; have LZa := Lib.hid lens.1; have LDa := Lib.hid lens.2; have Za := Lib.hid q1; have Na := Lib.hid q2; clear st lens q1 q2; clear hb; have pc3 := Lib.hid trivial)
    | (clear pc3; have LWW7 : Hid (w.heap.size + 2 < w6.heap.size) := V2.out.lt; have hb : Below w6.heap.size w6 (w6.alloc (.cells #[.bool (decide (za < 0)), .slice Pa (ofv za.natAbs).length ca, .slice Qa (ofv da).length ka] 26)) := ((Below.refl _ _).alloc (by first | exact Nat.le_refl _ | (simp; done) | (simp; omega)) _); replace V0 := Lib.hid (V0.out.below hb V0.out.lt); replace X0 := Lib.hid (X0.out.below hb); replace Y0 := Lib.hid (Y0.out.below hb); replace V1 := Lib.hid (V1.out.below hb V1.out.lt); replace X1 := Lib.hid (X1.out.below hb); replace V2 := Lib.hid (V2.out.below hb V2.out.lt); replace X2 := Lib.hid (X2.out.below hb); replace ZO := Lib.hid (ZO.out.below hb); replace Za := Lib.hid (Za.out.below hb); replace Na := Lib.hid (Na.out.below hb); replace B1 := Lib.hid (B1.out.trans (hb.mono B1.out.size)); have W7 : Hid (Rb (w6.alloc (.cells #[.bool (decide (za < 0)), .slice Pa (ofv za.natAbs).length ca, .slice Qa (ofv da).length ka] 26)) (w6.heap.size) (decide (za < 0)) Pa (ofv za.natAbs).length ca Qa (ofv da).length ka) := (by have h := (Rb.new w6 (decide (za < 0)) Pa (ofv za.natAbs).length ca Qa (ofv da).length ka); (try simp only [World.size_alloc] at h); exact h); clear hb; generalize (w6.alloc (.cells #[.bool (decide (za < 0)), .slice Pa (ofv za.natAbs).length ca, .slice Qa (ofv da).length ka] 26)) = w7 at *; generalize w6.heap.size = h7 at *; refine wpList_ldR (by rfl) _ rfl (by rfl) V0.out ?_; have pc4 := Lib.hid trivial)
    | (clear pc4; refine wpList_ldZ (by rfl) _ rfl (by rfl) V2.out ?_; have pc5 := Lib.hid trivial)
    | (clear pc5; go_at_call 24; refine Calls.mono (below_yes (z := z) (d := d) X0.out Y0.out X2.out L0.out N0.out L2.out EZ.out ED.out HP2.out) ?_; rintro e w8 ⟨zb, db, st, lens, Pb, cb, Qb, kb, rfl, q1, q2, hb⟩; replace V0 := Lib.hid (V0.out.below hb V0.out.lt); replace X0 := Lib.hid (X0.out.below hb); replace Y0 := Lib.hid (Y0.out.below hb); replace V1 := Lib.hid (V1.out.below hb V1.out.lt); replace X1 := Lib.hid (X1.out.below hb); replace V2 := Lib.hid (V2.out.below hb V2.out.lt); replace X2 := Lib.hid (X2.out.below hb); replace ZO := Lib.hid (ZO.out.below hb); replace Za := Lib.hid (Za.out.below hb); replace Na := Lib.hid (Na.out.below hb); replace W7 := Lib.hid (W7.out.below hb W7.out.lt); replace B1 := Lib.hid (B1.out.trans (hb.mono B1.out.size)); have SB := Lib.hid st; have LZb := Lib.hid lens.1; have LDb := Lib.hid lens.2; have Zb := Lib.hid q1; have Nb := Lib.hid q2; clear st lens q1 q2; clear hb; have pc6 := Lib.hid trivial)
    | (clear pc6; have LWW9 : Hid (w.heap.size + 2 < w8.heap.size ∧ h7 < w8.heap.size) := ⟨V2.out.lt, W7.out.lt⟩; have hb : Below w8.heap.size w8 (w8.alloc (.cells #[.bool (decide (zb < 0)), .slice Pb (ofv zb.natAbs).length cb, .slice Qb (ofv db).length kb] 26)) := ((Below.refl _ _).alloc (by first | exact Nat.le_refl _ | (simp; done) | (simp; omega)) _); replace V0 := Lib.hid (V0.out.below hb V0.out.lt); replace X0 := Lib.hid (X0.out.below hb); replace Y0 := Lib.hid (Y0.out.below hb); replace V1 := Lib.hid (V1.out.below hb V1.out.lt); replace X1 := Lib.hid (X1.out.below hb); replace V2 := Lib.hid (V2.out.below hb V2.out.lt); replace X2 := Lib.hid (X2.out.below hb); replace ZO := Lib.hid (ZO.out.below hb); replace Za := Lib.hid (Za.out.below hb); replace Na := Lib.hid (Na.out.below hb); replace W7 := Lib.hid (W7.out.below hb W7.out.lt); replace Zb := Lib.hid (Zb.out.below hb); replace Nb := Lib.hid (Nb.out.below hb); replace B1 := Lib.hid (B1.out.trans (hb.mono B1.out.size)); have W9 : Hid (Rb (w8.alloc (.cells #[.bool (decide (zb < 0)), .slice Pb (ofv zb.natAbs).length cb, .slice Qb (ofv db).length kb] 26)) (w8.heap.size) (decide (zb < 0)) Pb (ofv zb.natAbs).length cb Qb (ofv db).length kb) := (by have h := (Rb.new w8 (decide (zb < 0)) Pb (ofv zb.natAbs).length cb Qb (ofv db).length kb); (try simp only [World.size_alloc] at h); exact h); clear hb; generalize (w8.alloc (.cells #[.bool (decide (zb < 0)), .slice Pb (ofv zb.natAbs).length cb, .slice Qb (ofv db).length kb] 26)) = w9 at *; generalize w8.heap.size = h9 at *; refine wpList_ldR (by rfl) _ rfl (by rfl) V0.out ?_; have pc7 := Lib.hid trivial)
    | (clear pc7; refine wpList_ldZ (by rfl) _ rfl (by rfl) V1.out ?_; have pc8 := Lib.hid trivial)
    | (clear pc8; go_at_call 25; refine Calls.mono (above_yes (z := z) (d := d) X0.out Y0.out X1.out L0.out N0.out L1.out EZ.out ED.out HM.out) ?_; rintro e w10 ⟨zc, dc, st, lens, Pc, cc, Qc, kc, rfl, q1, q2, hb⟩; replace V0 := Lib.hid (V0.out.below hb V0.out.lt); replace X0 := Lib.hid (X0.out.below hb); replace Y0 := Lib.hid (Y0.out.below hb); replace V1 := Lib.hid (V1.out.below hb V1.out.lt); replace X1 := Lib.hid (X1.out.below hb); replace V2 := Lib.hid (V2.out.below hb V2.out.lt); replace X2 := Lib.hid (X2.out.below hb); replace ZO := Lib.hid (ZO.out.below hb); replace Za := Lib.hid (Za.out.below hb); replace Na := Lib.hid (Na.out.below hb); replace W7 := Lib.hid (W7.out.below hb W7.out.lt); replace Zb := Lib.hid (Zb.out.below hb); replace Nb := Lib.hid (Nb.out.below hb); replace W9 := Lib.hid (W9.out.below hb W9.out.lt); replace B1 := Lib.hid (B1.out.trans (hb.mono B1.out.size)); have SC := Lib.hid st; have LZc := Lib.hid lens.1; have LDc := Lib.hid lens.2; have Zc := Lib.hid q1; have Nc := Lib.hid q2; clear st lens q1 q2; clear hb; have pc9 := Lib.hid trivial)
    | (clear pc9; have LWW11 : Hid (w.heap.size + 2 < w10.heap.size ∧ h7 < w10.heap.size ∧ h9 < w10.heap.size) := ⟨V2.out.lt, W7.out.lt, W9.out.lt⟩; have hb : Below w10.heap.size w10 (w10.alloc (.cells #[.bool (decide (zc < 0)), .slice Pc (ofv zc.natAbs).length cc, .slice Qc (ofv dc).length kc] 26)) := ((Below.refl _ _).alloc (by first | exact Nat.le_refl _ | (simp; done) | (simp; omega)) _); replace V0 := Lib.hid (V0.out.below hb V0.out.lt); replace X0 := Lib.hid (X0.out.below hb); replace Y0 := Lib.hid (Y0.out.below hb); replace V1 := Lib.hid (V1.out.below hb V1.out.lt); replace X1 := Lib.hid (X1.out.below hb); replace V2 := Lib.hid (V2.out.below hb V2.out.lt); replace X2 := Lib.hid (X2.out.below hb); replace ZO := Lib.hid (ZO.out.below hb); replace Za := Lib.hid (Za.out.below hb); replace Na := Lib.hid (Na.out.below hb); replace W7 := Lib.hid (W7.out.below hb W7.out.lt); replace Zb := Lib.hid (Zb.out.below hb); replace Nb := Lib.hid (Nb.out.below hb); replace W9 := Lib.hid (W9.out.below hb W9.out.lt); replace Zc := Lib.hid (Zc.out.below hb); replace Nc := Lib.hid (Nc.out.below hb); replace B1 := Lib.hid (B1.out.trans (hb.mono B1.out.size)); have W11 : Hid (Rb (w10.alloc (.cells #[.bool (decide (zc < 0)), .slice Pc (ofv zc.natAbs).length cc, .slice Qc (ofv dc).length kc] 26)) (w10.heap.size) (decide (zc < 0)) Pc (ofv zc.natAbs).length cc Qc (ofv dc).length kc) := (by have h := (Rb.new w10 (decide (zc < 0)) Pc (ofv zc.natAbs).length cc Qc (ofv dc).length kc); (try simp only [World.size_alloc] at h); exact h); clear hb; generalize (w10.alloc (.cells #[.bool (decide (zc < 0)), .slice Pc (ofv zc.natAbs).length cc, .slice Qc (ofv dc).length kc] 26)) = w11 at *; generalize w10.heap.size = h11 at *; refine wpList_ldR (by rfl) _ rfl (by rfl) V0.out ?_; have pc10 := Lib.hid trivial)
    | (clear pc10; refine wpList_ldZ (by rfl) _ rfl (by rfl) V2.out ?_; have pc11 := Lib.hid trivial)
    | (clear pc11; go_at_call 25; refine Calls.mono (above_yes (z := z) (d := d) X0.out Y0.out X2.out L0.out N0.out L2.out EZ.out ED.out HP2.out) ?_; rintro e w12 ⟨zd, dd, st, lens, Pd, cd, Qd, kd, rfl, q1, q2, hb⟩; replace V0 := Lib.hid (V0.out.below hb V0.out.lt); replace X0 := Lib.hid (X0.out.below hb); replace Y0 := Lib.hid (Y0.out.below hb); replace V1 := Lib.hid (V1.out.below hb V1.out.lt); replace X1 := Lib.hid (X1.out.below hb); replace V2 := Lib.hid (V2.out.below hb V2.out.lt); replace X2 := Lib.hid (X2.out.below hb); replace ZO := Lib.hid (ZO.out.below hb); replace Za := Lib.hid (Za.out.below hb); replace Na := Lib.hid (Na.out.below hb); replace W7 := Lib.hid (W7.out.below hb W7.out.lt); replace Zb := Lib.hid (Zb.out.below hb); replace Nb := Lib.hid (Nb.out.below hb); replace W9 := Lib.hid (W9.out.below hb W9.out.lt); replace Zc := Lib.hid (Zc.out.below hb); replace Nc := Lib.hid (Nc.out.below hb); replace W11 := Lib.hid (W11.out.below hb W11.out.lt); replace B1 := Lib.hid (B1.out.trans (hb.mono B1.out.size)); have SD := Lib.hid st; have LZd := Lib.hid lens.1; have LDd := Lib.hid lens.2; have Zd := Lib.hid q1; have Nd := Lib.hid q2; clear st lens q1 q2; clear hb; have pc12 := Lib.hid trivial))
  clear pc12
  have LWW13 : Hid (w.heap.size + 2 < w12.heap.size ∧ h7 < w12.heap.size ∧ h9 < w12.heap.size ∧ h11 < w12.heap.size) := ⟨V2.out.lt, W7.out.lt, W9.out.lt, W11.out.lt⟩
  have hb : Below w12.heap.size w12 (w12.alloc (.cells #[.bool (decide (zd < 0)), .slice Pd (ofv zd.natAbs).length cd, .slice Qd (ofv dd).length kd] 26)) := ((Below.refl _ _).alloc (by first | exact Nat.le_refl _ | (simp; done) | (simp; omega)) _)
  replace V0 := Lib.hid (V0.out.below hb V0.out.lt)
  replace X0 := Lib.hid (X0.out.below hb)
  replace Y0 := Lib.hid (Y0.out.below hb)
  replace V1 := Lib.hid (V1.out.below hb V1.out.lt)
  replace X1 := Lib.hid (X1.out.below hb)
  replace V2 := Lib.hid (V2.out.below hb V2.out.lt)
  replace X2 := Lib.hid (X2.out.below hb)
  replace ZO := Lib.hid (ZO.out.below hb)
  replace Za := Lib.hid (Za.out.below hb)
  replace Na := Lib.hid (Na.out.below hb)
  replace W7 := Lib.hid (W7.out.below hb W7.out.lt)
  replace Zb := Lib.hid (Zb.out.below hb)
  replace Nb := Lib.hid (Nb.out.below hb)
  replace W9 := Lib.hid (W9.out.below hb W9.out.lt)
  replace Zc := Lib.hid (Zc.out.below hb)
  replace Nc := Lib.hid (Nc.out.below hb)
  replace W11 := Lib.hid (W11.out.below hb W11.out.lt)
  replace Zd := Lib.hid (Zd.out.below hb)
  replace Nd := Lib.hid (Nd.out.below hb)
  replace B1 := Lib.hid (B1.out.trans (hb.mono B1.out.size))
  have W13 : Hid (Rb (w12.alloc (.cells #[.bool (decide (zd < 0)), .slice Pd (ofv zd.natAbs).length cd, .slice Qd (ofv dd).length kd] 26)) (w12.heap.size) (decide (zd < 0)) Pd (ofv zd.natAbs).length cd Qd (ofv dd).length kd) := (by have h := (Rb.new w12 (decide (zd < 0)) Pd (ofv zd.natAbs).length cd Qd (ofv dd).length kd); (try simp only [World.size_alloc] at h); exact h)
  clear hb
  generalize (w12.alloc (.cells #[.bool (decide (zd < 0)), .slice Pd (ofv zd.natAbs).length cd, .slice Qd (ofv dd).length kd] 26)) = w13 at *
  generalize w12.heap.size = h13 at *
  have sa := SA.out
  have sb := SB.out
  have sc := SC.out
  have sd := SD.out
  have p1 : 0 < da := by have := sa.p; omega
  have p2 : 0 < db := by have := sb.p; omega
  have p3 : 0 < dc := by have := sc.p; omega
  have p4 : 0 < dd := by have := sd.p; omega
  have np : ∀ r : Int, ¬ 0 < r → ∃ k : Nat, r = -(k : Int) := fun r h => ⟨r.natAbs, by omega⟩
  obtain ⟨r3, er3⟩ : ∃ r : Int, sgR (mkRat za da - mkRat zb db) = r := ⟨_, rfl⟩
  obtain ⟨r4, er4⟩ : ∃ r : Int, sgR (mkRat zd dd - mkRat zc dc) = r := ⟨_, rfl⟩
  have h3 : ¬ 0 < r3 := by
    rw [← er3, sgR_sub p1 p2]
    have := sb.best za da (by omega) (by have := sa.m; have := HM2.out; omega) sa.le
    rcases sg_cases (za * db - zb * da) with ⟨e, k⟩ | ⟨e, k⟩ | ⟨e, k⟩ <;> omega
  have h4 : ¬ 0 < r4 := by
    rw [← er4, sgR_sub p4 p3]
    have := sd.best zc dc (by omega) (by have := sc.m; have := HM2.out; omega) sc.le
    rcases sg_cases (zd * dc - zc * dd) with ⟨e, k⟩ | ⟨e, k⟩ | ⟨e, k⟩ <;> omega
  obtain ⟨k3, rfl⟩ := np r3 h3
  obtain ⟨k4, rfl⟩ := np r4 h4
  have ER3 := Lib.hid er3
  have ER4 := Lib.hid er4
  clear sa sb sc sd p1 p2 p3 p4 np er3 er4 h3 h4
  have pc0 := Lib.hid trivial
  go_wp2_with (first
    | (clear pc0; go_at_call 14; refine Calls.mono (awake5_any _) ?_; rintro e w14 ⟨rfl, hb⟩; replace V0 := Lib.hid (V0.out.below hb V0.out.lt); replace X0 := Lib.hid (X0.out.below hb); replace Y0 := Lib.hid (Y0.out.below hb); replace V1 := Lib.hid (V1.out.below hb V1.out.lt); replace X1 := Lib.hid (X1.out.below hb); replace V2 := Lib.hid (V2.out.below hb V2.out.lt); replace X2 := Lib.hid (X2.out.below hb); replace ZO := Lib.hid (ZO.out.below hb); replace Za := Lib.hid (Za.out.below hb); replace Na := Lib.hid (Na.out.below hb); replace W7 := Lib.hid (W7.out.below hb W7.out.lt); replace Zb := Lib.hid (Zb.out.below hb); replace Nb := Lib.hid (Nb.out.below hb); replace W9 := Lib.hid (W9.out.below hb W9.out.lt); replace Zc := Lib.hid (Zc.out.below hb); replace Nc := Lib.hid (Nc.out.below hb); replace W11 := Lib.hid (W11.out.below hb W11.out.lt); replace Zd := Lib.hid (Zd.out.below hb); replace Nd := Lib.hid (Nd.out.below hb); replace W13 := Lib.hid (W13.out.below hb W13.out.lt); replace B1 := Lib.hid (B1.out.trans (hb.mono B1.out.size)); clear hb; have pc1 := Lib.hid trivial)
    | (clear pc1; refine wpList_ldR (by rfl) _ rfl (by rfl) W7.out ?_; have pc2 := Lib.hid trivial)
    | (clear pc2; refine wpList_ldR (by rfl) _ rfl (by rfl) W9.out ?_; have pc3 := Lib.hid trivial)
    | (clear pc3; go_at_call 22; refine Calls.mono (r3compare_any (r := _) Za.out.in_ (Nin.of_rd Na.out) Zb.out.in_ (Nin.of_rd Nb.out) (Nat.le_trans LZa.out (by decide)) (Nat.le_trans LDa.out (by decide)) (Nat.le_trans LZb.out (by decide)) (Nat.le_trans LDb.out (by decide)) ER3.out) ?_; rintro e w15 ⟨rfl, hb⟩; replace V0 := Lib.hid (V0.out.below hb V0.out.lt); replace X0 := Lib.hid (X0.out.below hb); replace Y0 := Lib.hid (Y0.out.below hb); replace V1 := Lib.hid (V1.out.below hb V1.out.lt); replace X1 := Lib.hid (X1.out.below hb); replace V2 := Lib.hid (V2.out.below hb V2.out.lt); replace X2 := Lib.hid (X2.out.below hb); replace ZO := Lib.hid (ZO.out.below hb); replace Za := Lib.hid (Za.out.below hb); replace Na := Lib.hid (Na.out.below hb); replace W7 := Lib.hid (W7.out.below hb W7.out.lt); replace Zb := Lib.hid (Zb.out.below hb); replace Nb := Lib.hid (Nb.out.below hb); replace W9 := Lib.hid (W9.out.below hb W9.out.lt); replace Zc := Lib.hid (Zc.out.below hb); replace Nc := Lib.hid (Nc.out.below hb); replace W11 := Lib.hid (W11.out.below hb W11.out.lt); replace Zd := Lib.hid (Zd.out.below hb); replace Nd := Lib.hid (Nd.out.below hb); replace W13 := Lib.hid (W13.out.below hb W13.out.lt); replace B1 := Lib.hid (B1.out.trans (hb.mono B1.out.size)); clear hb; have pc4 := Lib.hid trivial)
    | (clear pc4; refine wpList_ldR (by rfl) _ rfl (by rfl) W13.out ?_; have pc5 := Lib.hid trivial)
    | (clear pc5; refine wpList_ldR (by rfl) _ rfl (by rfl) W11.out ?_; have pc6 := Lib.hid trivial)
    | (clear pc6; go_at_call 22; refine Calls.mono (r3compare_any (r := _) Zd.out.in_ (Nin.of_rd Nd.out) Zc.out.in_ (Nin.of_rd Nc.out) (Nat.le_trans LZd.out (by decide)) (Nat.le_trans LDd.out (by decide)) (Nat.le_trans LZc.out (by decide)) (Nat.le_trans LDc.out (by decide)) ER4.out) ?_; rintro e w16 ⟨rfl, hb⟩; replace V0 := Lib.hid (V0.out.below hb V0.out.lt); replace X0 := Lib.hid (X0.out.below hb); replace Y0 := Lib.hid (Y0.out.below hb); replace V1 := Lib.hid (V1.out.below hb V1.out.lt); replace X1 := Lib.hid (X1.out.below hb); replace V2 := Lib.hid (V2.out.below hb V2.out.lt); replace X2 := Lib.hid (X2.out.below hb); replace ZO := Lib.hid (ZO.out.below hb); replace Za := Lib.hid (Za.out.below hb); replace Na := Lib.hid (Na.out.below hb); replace W7 := Lib.hid (W7.out.below hb W7.out.lt); replace Zb := Lib.hid (Zb.out.below hb); replace Nb := Lib.hid (Nb.out.below hb); replace W9 := Lib.hid (W9.out.below hb W9.out.lt); replace Zc := Lib.hid (Zc.out.below hb); replace Nc := Lib.hid (Nc.out.below hb); replace W11 := Lib.hid (W11.out.below hb W11.out.lt); replace Zd := Lib.hid (Zd.out.below hb); replace Nd := Lib.hid (Nd.out.below hb); replace W13 := Lib.hid (W13.out.below hb W13.out.lt); replace B1 := Lib.hid (B1.out.trans (hb.mono B1.out.size)); clear hb; have pc7 := Lib.hid trivial))
  clear pc7
  go_ret
  exact ⟨rfl, B1.out⟩
theorem approxMonotone_walk (b0 : Bool) (a0 : Option Addr) (len0 cap0 : Nat) (z0 : Int) (e0 : Option Addr) (n0 c0 q0 : Nat) (b1 : Bool) (a1 : Option Addr) (len1 cap1 : Nat) (z1 : Int) (b2 : Bool) (a2 : Option Addr) (len2 cap2 : Nat) (z2 : Int) (w : World) (hx0 : Zin w b0 a0 len0 cap0 z0) (hl0 : len0 ≤ 1048576) (hp0 : Nin w e0 n0 c0 q0) (hn0 : n0 ≤ 1048576) (hx1 : Zin w b1 a1 len1 cap1 z1) (hl1 : len1 ≤ 1048576) (hx2 : Zin w b2 a2 len2 cap2 z2) (hl2 : len2 ≤ 1048576) :
    Calls Tryz.prog 7 #[.agg #[.bool b0, .slice a0 len0 cap0, .slice e0 n0 c0], .agg #[.bool b1, .slice a1 len1 cap1], .agg #[.bool b2, .slice a2 len2 cap2]] w fun e w' => e = .returned (.bool true) ∧ Below w.heap.size w w' := by
  rcases Int.lt_or_le 0 z1 with h | h
  · rcases Int.lt_or_le z2 z1 with k | k
    · exact approxMonotone_b b0 a0 len0 cap0 z0 e0 n0 c0 q0 b1 a1 len1 cap1 z1 b2 a2 len2 cap2 z2 w hx0 hl0 hp0 hn0 hx1 hl1 hx2 hl2 h k
    · exact approxMonotone_c b0 a0 len0 cap0 z0 e0 n0 c0 q0 b1 a1 len1 cap1 z1 b2 a2 len2 cap2 z2 w hx0 hl0 hp0 hn0 hx1 hl1 hx2 hl2 h k
  · exact approxMonotone_a b0 a0 len0 cap0 z0 e0 n0 c0 q0 b1 a1 len1 cap1 z1 b2 a2 len2 cap2 z2 w hx0 hl0 hp0 hn0 hx1 hl1 hx2 hl2 h
end Go.Proofs.YtfmgbfdnmconiaaGreat
