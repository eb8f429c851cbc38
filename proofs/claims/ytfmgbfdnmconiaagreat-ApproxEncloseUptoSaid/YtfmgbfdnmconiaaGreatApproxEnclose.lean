/-
  The statement ApproxEnclose: its walk.
-/
import Derived.Test.YtfmgbfdnmconiaaGreatApw
import Derived.Test.YtfmgbfdnmconiaaGreatZbez
namespace Go.Proofs.YtfmgbfdnmconiaaGreat
open Go.RowKit
set_option linter.unusedVariables false

theorem start_RZRb (w : World) (s0 : Bool) (A0 : Option Addr) (n0 c0 : Nat) (D0 : Option Addr) (m0 k0 : Nat) (s1 : Bool) (A1 : Option Addr) (n1 c1 : Nat) (s2 : Bool) (A2 : Option Addr) (n2 c2 : Nat) (D2 : Option Addr) (m2 k2 : Nat) :
    Hid (Below w.heap.size w (((w.alloc (.cells #[.bool s0, .slice A0 n0 c0, .slice D0 m0 k0] 26)).alloc (.cells #[.bool s1, .slice A1 n1 c1] 24)).alloc (.cells #[.bool s2, .slice A2 n2 c2, .slice D2 m2 k2] 26))) ∧ Hid (Rb (((w.alloc (.cells #[.bool s0, .slice A0 n0 c0, .slice D0 m0 k0] 26)).alloc (.cells #[.bool s1, .slice A1 n1 c1] 24)).alloc (.cells #[.bool s2, .slice A2 n2 c2, .slice D2 m2 k2] 26)) (w.heap.size) s0 A0 n0 c0 D0 m0 k0) ∧ Hid (Zb (((w.alloc (.cells #[.bool s0, .slice A0 n0 c0, .slice D0 m0 k0] 26)).alloc (.cells #[.bool s1, .slice A1 n1 c1] 24)).alloc (.cells #[.bool s2, .slice A2 n2 c2, .slice D2 m2 k2] 26)) (w.heap.size + 1) s1 A1 n1 c1) ∧ Hid (Rb (((w.alloc (.cells #[.bool s0, .slice A0 n0 c0, .slice D0 m0 k0] 26)).alloc (.cells #[.bool s1, .slice A1 n1 c1] 24)).alloc (.cells #[.bool s2, .slice A2 n2 c2, .slice D2 m2 k2] 26)) (w.heap.size + 2) s2 A2 n2 c2 D2 m2 k2) := by
  refine ⟨?_, ?_, ?_, ?_⟩
  · exact ((((Below.refl _ _).alloc (by first | exact Nat.le_refl _ | (simp; done) | (simp; omega)) _).alloc (by first | exact Nat.le_refl _ | (simp; done) | (simp; omega)) _).alloc (by first | exact Nat.le_refl _ | (simp; done) | (simp; omega)) _)
  · have := Rb.new w s0 A0 n0 c0 D0 m0 k0
    exact ((this.alloc _).alloc _)
  · have := Zb.new (w.alloc (.cells #[.bool s0, .slice A0 n0 c0, .slice D0 m0 k0] 26)) s1 A1 n1 c1
    simp only [World.size_alloc] at this
    exact (this.alloc _)
  · have := Rb.new ((w.alloc (.cells #[.bool s0, .slice A0 n0 c0, .slice D0 m0 k0] 26)).alloc (.cells #[.bool s1, .slice A1 n1 c1] 24)) s2 A2 n2 c2 D2 m2 k2
    simp only [World.size_alloc] at this
    exact this
set_option maxRecDepth 100000 in
set_option maxHeartbeats 16000000 in
theorem approxEnclose_no (b0 : Bool) (a0 : Option Addr) (len0 cap0 : Nat) (z0 : Int) (e0 : Option Addr) (n0 c0 q0 : Nat) (b1 : Bool) (a1 : Option Addr) (len1 cap1 : Nat) (z1 : Int) (b2 : Bool) (a2 : Option Addr) (len2 cap2 : Nat) (z2 : Int) (e2 : Option Addr) (n2 c2 q2 : Nat) (w : World) (hx0 : Zin w b0 a0 len0 cap0 z0) (hl0 : len0 ≤ 1048576) (hp0 : Nin w e0 n0 c0 q0) (hn0 : n0 ≤ 1048576) (hx1 : Zin w b1 a1 len1 cap1 z1) (hl1 : len1 ≤ 1048576) (hx2 : Zin w b2 a2 len2 cap2 z2) (hl2 : len2 ≤ 1048576) (hp2 : Nin w e2 n2 c2 q2) (hn2 : n2 ≤ 1048576) (hM : z1 ≤ 0) :
    Calls Tryz.prog 6 #[.agg #[.bool b0, .slice a0 len0 cap0, .slice e0 n0 c0], .agg #[.bool b1, .slice a1 len1 cap1], .agg #[.bool b2, .slice a2 len2 cap2, .slice e2 n2 c2]] w fun e w' => e = .returned (.bool true) ∧ Below w.heap.size w w' := by
  obtain ⟨B1, V0, V1, V2⟩ := start_RZRb w b0 a0 len0 cap0 e0 n0 c0 b1 a1 len1 cap1 b2 a2 len2 cap2 e2 n2 c2
  have X0 := Lib.hid (hx0.below B1.out)
  have L0 := Lib.hid hl0
  have Y0 := Lib.hid (hp0.below B1.out)
  have N0 := Lib.hid hn0
  have X1 := Lib.hid (hx1.below B1.out)
  have L1 := Lib.hid hl1
  have X2 := Lib.hid (hx2.below B1.out)
  have L2 := Lib.hid hl2
  have Y2 := Lib.hid (hp2.below B1.out)
  have N2 := Lib.hid hn2
  have HM := Lib.hid hM
  obtain ⟨one, e1⟩ : ∃ z0 : Int, (1 : Int) = z0 := ⟨_, rfl⟩
  have S1 : Hid (sg (z1 - one) = -1) := by show _ = _; rw [← e1]; rcases sg_cases (z1 - 1) with ⟨e, _⟩ | ⟨_, e⟩ | ⟨_, e⟩ <;> first | exact e | omega
  have E1 := Lib.hid e1
  have LO : Hid ((ofv one.natAbs).length ≤ 1048576) := by show _ ≤ _; rw [← e1]; exact Nat.le_trans (len_small (by decide)) (by decide)
  clear hx0 hl0 hp0 hn0 hx1 hl1 hx2 hl2 hp2 hn2 hM e1
  go_enter Tryz.func6, Tryz.ntmps6
  go_wp2_with fail
  generalize (((w.alloc (.cells #[.bool b0, .slice a0 len0 cap0, .slice e0 n0 c0] 26)).alloc (.cells #[.bool b1, .slice a1 len1 cap1] 24)).alloc (.cells #[.bool b2, .slice a2 len2 cap2, .slice e2 n2 c2] 26)) = w2 at *
  have pc0 := Lib.hid trivial
  go_wp2_with (first
    | (clear pc0; go_at_call 24; refine Calls.mono (below_no X0.out Y0.out X1.out L0.out N0.out L1.out HM.out) ?_; rintro e w3 ⟨rfl, hb⟩; replace V0 := Lib.hid (V0.out.below hb V0.out.lt); replace V1 := Lib.hid (V1.out.below hb V1.out.lt); replace V2 := Lib.hid (V2.out.below hb V2.out.lt); replace X0 := Lib.hid (X0.out.below hb); replace Y0 := Lib.hid (Y0.out.below hb); replace X1 := Lib.hid (X1.out.below hb); replace X2 := Lib.hid (X2.out.below hb); replace Y2 := Lib.hid (Y2.out.below hb); replace B1 := Lib.hid (B1.out.trans (hb.mono B1.out.size)); clear hb; have pc1 := Lib.hid trivial)
    | (clear pc1; have hb : Below w3.heap.size w3 (w3.alloc (.cells #[.bool false, .slice none 0 0, .slice none 0 0] 26)) := ((Below.refl _ _).alloc (by first | exact Nat.le_refl _ | (simp; done) | (simp; omega)) _); replace V0 := Lib.hid (V0.out.below hb V0.out.lt); replace V1 := Lib.hid (V1.out.below hb V1.out.lt); replace V2 := Lib.hid (V2.out.below hb V2.out.lt); replace X0 := Lib.hid (X0.out.below hb); replace Y0 := Lib.hid (Y0.out.below hb); replace X1 := Lib.hid (X1.out.below hb); replace X2 := Lib.hid (X2.out.below hb); replace Y2 := Lib.hid (Y2.out.below hb); replace B1 := Lib.hid (B1.out.trans (hb.mono B1.out.size)); clear hb; generalize (w3.alloc (.cells #[.bool false, .slice none 0 0, .slice none 0 0] 26)) = w4 at *; refine wpList_ldR (by rfl) _ rfl (by rfl) V0.out ?_; have pc2 := Lib.hid trivial)
    | (clear pc2; refine wpList_ldZ (by rfl) _ rfl (by rfl) V1.out ?_; have pc3 := Lib.hid trivial)
    | (clear pc3; go_at_call 25; refine Calls.mono (above_no X0.out Y0.out X1.out L0.out N0.out L1.out HM.out) ?_; rintro e w5 ⟨rfl, hb⟩; replace V0 := Lib.hid (V0.out.below hb V0.out.lt); replace V1 := Lib.hid (V1.out.below hb V1.out.lt); replace V2 := Lib.hid (V2.out.below hb V2.out.lt); replace X0 := Lib.hid (X0.out.below hb); replace Y0 := Lib.hid (Y0.out.below hb); replace X1 := Lib.hid (X1.out.below hb); replace X2 := Lib.hid (X2.out.below hb); replace Y2 := Lib.hid (Y2.out.below hb); replace B1 := Lib.hid (B1.out.trans (hb.mono B1.out.size)); clear hb; have pc4 := Lib.hid trivial))
  clear pc4
  have hb : Below w5.heap.size w5 (w5.alloc (.cells #[.bool false, .slice none 0 0, .slice none 0 0] 26)) := ((Below.refl _ _).alloc (by first | exact Nat.le_refl _ | (simp; done) | (simp; omega)) _)
  replace V0 := Lib.hid (V0.out.below hb V0.out.lt)
  replace V1 := Lib.hid (V1.out.below hb V1.out.lt)
  replace V2 := Lib.hid (V2.out.below hb V2.out.lt)
  replace X0 := Lib.hid (X0.out.below hb)
  replace Y0 := Lib.hid (Y0.out.below hb)
  replace X1 := Lib.hid (X1.out.below hb)
  replace X2 := Lib.hid (X2.out.below hb)
  replace Y2 := Lib.hid (Y2.out.below hb)
  replace B1 := Lib.hid (B1.out.trans (hb.mono B1.out.size))
  clear hb
  generalize (w5.alloc (.cells #[.bool false, .slice none 0 0, .slice none 0 0] 26)) = w6 at *
  go_wp2_with fail
  have hb := below_drewN w6.heap.size w6 1
  replace V0 := Lib.hid (V0.out.below hb V0.out.lt)
  replace V1 := Lib.hid (V1.out.below hb V1.out.lt)
  replace V2 := Lib.hid (V2.out.below hb V2.out.lt)
  replace X0 := Lib.hid (X0.out.below hb)
  replace Y0 := Lib.hid (Y0.out.below hb)
  replace X1 := Lib.hid (X1.out.below hb)
  replace X2 := Lib.hid (X2.out.below hb)
  replace Y2 := Lib.hid (Y2.out.below hb)
  replace B1 := Lib.hid (B1.out.trans (hb.mono B1.out.size))
  clear hb
  refine wp_region_held_drew (S := fun w' => Zb w' (w.heap.size + 1) b1 a1 len1 cap1) (by kernel_rfl) V1.out (fun hHeld => ?_)
  refine wpAnyH_takeL (i := 0) (oi := _) rfl (by kernel_rfl) (by kernel_rfl) (by kernel_rfl) (fun _ _ _ h => h) (yields_ldZ (by rfl) _ rfl (by rfl) (fun _ hS => hS)) hHeld ?_
  try simp only [Act.put, List.setIfInBounds_toArray, List.set_cons_zero, List.set_cons_succ]
  refine wpAnyH_ready (rs := [1]) (by kernel_rfl) (by simp) ?_
  refine AllReadyH.consL (o := _) rfl (fun K hK => ?_) AllReadyH.nil
  clear hHeld
  go_simp
  go_at_call 13
  refine Calls.mono (rfromInt_z (v := 1) (z := one) (by decide) E1.out _) ?_
  rintro e w7 ⟨PO, cO, rfl, ho, hb⟩
  replace V0 := Lib.hid (V0.out.below hb V0.out.lt)
  replace V1 := Lib.hid (V1.out.below hb V1.out.lt)
  replace V2 := Lib.hid (V2.out.below hb V2.out.lt)
  replace X0 := Lib.hid (X0.out.below hb)
  replace Y0 := Lib.hid (Y0.out.below hb)
  replace X1 := Lib.hid (X1.out.below hb)
  replace X2 := Lib.hid (X2.out.below hb)
  replace Y2 := Lib.hid (Y2.out.below hb)
  replace B1 := Lib.hid (B1.out.trans (hb.mono B1.out.size))
  have ZO := Lib.hid (Zo.of_own ho)
  clear ho
  clear hb
  refine hK.out _ _ V1.out (fun hHeld => ?_)
  clear hK K
  try simp only [Act.put, List.setIfInBounds_toArray, List.set_cons_zero, List.set_cons_succ]
  refine wpAnyH_ready (rs := [2]) (by kernel_rfl) (by simp) ?_
  refine AllReadyH.consL (o := _) rfl (fun K hK => ?_) AllReadyH.nil
  clear hHeld
  go_simp
  go_at_call 12
  refine Calls.mono (rcompare_k (r := (-1)) X1.out ZO.out.in_ (Nat.le_trans L1.out (by decide)) (Nat.le_trans LO.out (by decide)) S1.out) ?_
  rintro e w8 ⟨rfl, hb⟩
  replace V0 := Lib.hid (V0.out.below hb V0.out.lt)
  replace V1 := Lib.hid (V1.out.below hb V1.out.lt)
  replace V2 := Lib.hid (V2.out.below hb V2.out.lt)
  replace X0 := Lib.hid (X0.out.below hb)
  replace Y0 := Lib.hid (Y0.out.below hb)
  replace X1 := Lib.hid (X1.out.below hb)
  replace X2 := Lib.hid (X2.out.below hb)
  replace Y2 := Lib.hid (Y2.out.below hb)
  replace ZO := Lib.hid (ZO.out.below hb)
  replace B1 := Lib.hid (B1.out.trans (hb.mono B1.out.size))
  clear hb
  refine hK.out _ _ V1.out (fun hHeld => ?_)
  clear hK K
  try simp only [Act.put, List.setIfInBounds_toArray, List.set_cons_zero, List.set_cons_succ]
  refine wpAnyH_takeL (i := 3) (oi := _) (v := ?_) rfl (by kernel_rfl) (by kernel_rfl) (by kernel_rfl) (fun _ _ _ h => h) (Or.inl ⟨by rfl, ?_⟩) hHeld ?_
  rotate_left
  · (intro w' hSw; (try dsimp only at hSw); go_simp; try (with_reducible rfl))
  try simp only [Act.put, List.setIfInBounds_toArray, List.set_cons_zero, List.set_cons_succ]
  clear hHeld
  refine wpAnyH_done (by kernel_rfl) ?_ _
  have pc0 := Lib.hid trivial
  go_wp2_with (first
    | (clear pc0; go_at_call 14; refine Calls.mono (awake5_any _) ?_; rintro e w9 ⟨rfl, hb⟩; replace V0 := Lib.hid (V0.out.below hb V0.out.lt); replace V1 := Lib.hid (V1.out.below hb V1.out.lt); replace V2 := Lib.hid (V2.out.below hb V2.out.lt); replace X0 := Lib.hid (X0.out.below hb); replace Y0 := Lib.hid (Y0.out.below hb); replace X1 := Lib.hid (X1.out.below hb); replace X2 := Lib.hid (X2.out.below hb); replace Y2 := Lib.hid (Y2.out.below hb); replace ZO := Lib.hid (ZO.out.below hb); replace B1 := Lib.hid (B1.out.trans (hb.mono B1.out.size)); clear hb; have pc1 := Lib.hid trivial))
  clear pc1
  go_ret
  exact ⟨rfl, B1.out⟩
set_option maxRecDepth 100000 in
set_option maxHeartbeats 16000000 in
theorem approxEnclose_yes (b0 : Bool) (a0 : Option Addr) (len0 cap0 : Nat) (z0 : Int) (e0 : Option Addr) (n0 c0 q0 : Nat) (b1 : Bool) (a1 : Option Addr) (len1 cap1 : Nat) (z1 : Int) (b2 : Bool) (a2 : Option Addr) (len2 cap2 : Nat) (z2 : Int) (e2 : Option Addr) (n2 c2 q2 : Nat) (w : World) (hx0 : Zin w b0 a0 len0 cap0 z0) (hl0 : len0 ≤ 1048576) (hp0 : Nin w e0 n0 c0 q0) (hn0 : n0 ≤ 1048576) (hx1 : Zin w b1 a1 len1 cap1 z1) (hl1 : len1 ≤ 1048576) (hx2 : Zin w b2 a2 len2 cap2 z2) (hl2 : len2 ≤ 1048576) (hp2 : Nin w e2 n2 c2 q2) (hn2 : n2 ≤ 1048576) (hM : 0 < z1) :
    Calls Tryz.prog 6 #[.agg #[.bool b0, .slice a0 len0 cap0, .slice e0 n0 c0], .agg #[.bool b1, .slice a1 len1 cap1], .agg #[.bool b2, .slice a2 len2 cap2, .slice e2 n2 c2]] w fun e w' => e = .returned (.bool true) ∧ Below w.heap.size w w' := by
  obtain ⟨B1, V0, V1, V2⟩ := start_RZRb w b0 a0 len0 cap0 e0 n0 c0 b1 a1 len1 cap1 b2 a2 len2 cap2 e2 n2 c2
  have X0 := Lib.hid (hx0.below B1.out)
  have L0 := Lib.hid hl0
  have Y0 := Lib.hid (hp0.below B1.out)
  have N0 := Lib.hid hn0
  have X1 := Lib.hid (hx1.below B1.out)
  have L1 := Lib.hid hl1
  have X2 := Lib.hid (hx2.below B1.out)
  have L2 := Lib.hid hl2
  have Y2 := Lib.hid (hp2.below B1.out)
  have N2 := Lib.hid hn2
  have HM := Lib.hid hM
  obtain ⟨r0, er0⟩ : ∃ r : Int, sg (z1 - 1) = r := ⟨_, rfl⟩
  have HD0 : Hid (decide (r0 < 0) = false) := by show _ = _; rw [decide_eq_false_iff_not]; rcases sg_cases (z1 - 1) with ⟨_, e⟩ | ⟨e, _⟩ | ⟨e, _⟩ <;> omega
  obtain ⟨one, e1⟩ : ∃ z0 : Int, (1 : Int) = z0 := ⟨_, rfl⟩
  have E1 := Lib.hid e1
  have LO : Hid ((ofv one.natAbs).length ≤ 1048576) := by show _ ≤ _; rw [← e1]; exact Nat.le_trans (len_small (by decide)) (by decide)
  rw [e1] at er0
  have S1 := Lib.hid er0
  obtain ⟨z, ez⟩ : ∃ z : Int, (mkRat z0 q0).num = z := ⟨_, rfl⟩
  obtain ⟨d, ed⟩ : ∃ z : Nat, (mkRat z0 q0).den = z := ⟨_, rfl⟩
  obtain ⟨y, ey⟩ : ∃ z : Int, (mkRat z2 q2).num = z := ⟨_, rfl⟩
  obtain ⟨f, ef⟩ : ∃ z : Nat, (mkRat z2 q2).den = z := ⟨_, rfl⟩
  have D0 : Hid (0 < d) := by show _ < _; rw [← ed]; exact den_pos _
  have D2 : Hid (0 < f) := by show _ < _; rw [← ef]; exact den_pos _
  have rl := rl_mk (N := 1048576) (Nat.le_trans hx2.len hl2) (Nat.le_trans hp2.len hn2) (by decide)
  have LF : Hid ((ofv f).length ≤ 1048576) := by show _ ≤ _; have h := rl.2; rw [ef] at h; exact h
  have EZ := Lib.hid ez
  have ED := Lib.hid ed
  have EY := Lib.hid ey
  have EF := Lib.hid ef
  clear hx0 hl0 hp0 hn0 hx1 hl1 hx2 hl2 hp2 hn2 hM e1 er0 ez ed ey ef rl
  go_enter Tryz.func6, Tryz.ntmps6
  go_wp2_with fail
  generalize (((w.alloc (.cells #[.bool b0, .slice a0 len0 cap0, .slice e0 n0 c0] 26)).alloc (.cells #[.bool b1, .slice a1 len1 cap1] 24)).alloc (.cells #[.bool b2, .slice a2 len2 cap2, .slice e2 n2 c2] 26)) = w2 at *
  have pc0 := Lib.hid trivial
  go_wp2_with (first
    | (clear pc0; go_at_call 24; refine Calls.mono (below_yes (z := z) (d := d) X0.out Y0.out X1.out L0.out N0.out L1.out EZ.out ED.out HM.out) ?_; rintro e w3 ⟨zl, dl, st, lens, Pl, cl, Ql, kl, rfl, q1, q2, hb⟩; replace V0 := Lib.hid (V0.out.below hb V0.out.lt); replace V1 := Lib.hid (V1.out.below hb V1.out.lt); replace V2 := Lib.hid (V2.out.below hb V2.out.lt); replace X0 := Lib.hid (X0.out.below hb); replace Y0 := Lib.hid (Y0.out.below hb); replace X1 := Lib.hid (X1.out.below hb); replace X2 := Lib.hid (X2.out.below hb); replace Y2 := Lib.hid (Y2.out.below hb); replace B1 := Lib.hid (B1.out.trans (hb.mono B1.out.size)); have BE := Lib.hid st; have LZl := Lib.hid lens.1; have LDl := Lib.hid lens.2; have Zl := Lib.hid q1; have Nl := Lib.hid q2; clear st lens q1 q2; clear hb; have pc1 := Lib.hid trivial)
    | (clear pc1; have LW1 : Hid (w.heap.size + 2 < w3.heap.size) := V2.out.lt; have hb : Below w3.heap.size w3 (w3.alloc (.cells #[.bool (decide (zl < 0)), .slice Pl (ofv zl.natAbs).length cl, .slice Ql (ofv dl).length kl] 26)) := ((Below.refl _ _).alloc (by first | exact Nat.le_refl _ | (simp; done) | (simp; omega)) _); replace V0 := Lib.hid (V0.out.below hb V0.out.lt); replace V1 := Lib.hid (V1.out.below hb V1.out.lt); replace V2 := Lib.hid (V2.out.below hb V2.out.lt); replace X0 := Lib.hid (X0.out.below hb); replace Y0 := Lib.hid (Y0.out.below hb); replace X1 := Lib.hid (X1.out.below hb); replace X2 := Lib.hid (X2.out.below hb); replace Y2 := Lib.hid (Y2.out.below hb); replace Zl := Lib.hid (Zl.out.below hb); replace Nl := Lib.hid (Nl.out.below hb); replace B1 := Lib.hid (B1.out.trans (hb.mono B1.out.size)); have V7 : Hid (Rb (w3.alloc (.cells #[.bool (decide (zl < 0)), .slice Pl (ofv zl.natAbs).length cl, .slice Ql (ofv dl).length kl] 26)) (w3.heap.size) (decide (zl < 0)) Pl (ofv zl.natAbs).length cl Ql (ofv dl).length kl) := (by have h := (Rb.new w3 (decide (zl < 0)) Pl (ofv zl.natAbs).length cl Ql (ofv dl).length kl); (try simp only [World.size_alloc] at h); exact h); clear hb; generalize (w3.alloc (.cells #[.bool (decide (zl < 0)), .slice Pl (ofv zl.natAbs).length cl, .slice Ql (ofv dl).length kl] 26)) = w4 at *; generalize w3.heap.size = g7 at *; refine wpList_ldR (by rfl) _ rfl (by rfl) V0.out ?_; have pc2 := Lib.hid trivial)
    | (clear pc2; refine wpList_ldZ (by rfl) _ rfl (by rfl) V1.out ?_; have pc3 := Lib.hid trivial)
    | (clear pc3; go_at_call 25; refine Calls.mono (above_yes (z := z) (d := d) X0.out Y0.out X1.out L0.out N0.out L1.out EZ.out ED.out HM.out) ?_; rintro e w5 ⟨zh, dh, st, lens, Ph, ch, Qh, kh, rfl, q1, q2, hb⟩; replace V0 := Lib.hid (V0.out.below hb V0.out.lt); replace V1 := Lib.hid (V1.out.below hb V1.out.lt); replace V2 := Lib.hid (V2.out.below hb V2.out.lt); replace X0 := Lib.hid (X0.out.below hb); replace Y0 := Lib.hid (Y0.out.below hb); replace X1 := Lib.hid (X1.out.below hb); replace X2 := Lib.hid (X2.out.below hb); replace Y2 := Lib.hid (Y2.out.below hb); replace Zl := Lib.hid (Zl.out.below hb); replace Nl := Lib.hid (Nl.out.below hb); replace V7 := Lib.hid (V7.out.below hb V7.out.lt); replace B1 := Lib.hid (B1.out.trans (hb.mono B1.out.size)); have AB := Lib.hid st; have LZh := Lib.hid lens.1; have LDh := Lib.hid lens.2; have Zh := Lib.hid q1; have Nh := Lib.hid q2; clear st lens q1 q2; clear hb; have pc4 := Lib.hid trivial))
  clear pc4
  have LW2 : Hid (g7 < w5.heap.size) := V7.out.lt
  have hb : Below w5.heap.size w5 (w5.alloc (.cells #[.bool (decide (zh < 0)), .slice Ph (ofv zh.natAbs).length ch, .slice Qh (ofv dh).length kh] 26)) := ((Below.refl _ _).alloc (by first | exact Nat.le_refl _ | (simp; done) | (simp; omega)) _)
  replace V0 := Lib.hid (V0.out.below hb V0.out.lt)
  replace V1 := Lib.hid (V1.out.below hb V1.out.lt)
  replace V2 := Lib.hid (V2.out.below hb V2.out.lt)
  replace X0 := Lib.hid (X0.out.below hb)
  replace Y0 := Lib.hid (Y0.out.below hb)
  replace X1 := Lib.hid (X1.out.below hb)
  replace X2 := Lib.hid (X2.out.below hb)
  replace Y2 := Lib.hid (Y2.out.below hb)
  replace Zl := Lib.hid (Zl.out.below hb)
  replace Nl := Lib.hid (Nl.out.below hb)
  replace V7 := Lib.hid (V7.out.below hb V7.out.lt)
  replace Zh := Lib.hid (Zh.out.below hb)
  replace Nh := Lib.hid (Nh.out.below hb)
  replace B1 := Lib.hid (B1.out.trans (hb.mono B1.out.size))
  have V9 : Hid (Rb (w5.alloc (.cells #[.bool (decide (zh < 0)), .slice Ph (ofv zh.natAbs).length ch, .slice Qh (ofv dh).length kh] 26)) (w5.heap.size) (decide (zh < 0)) Ph (ofv zh.natAbs).length ch Qh (ofv dh).length kh) := (by have h := (Rb.new w5 (decide (zh < 0)) Ph (ofv zh.natAbs).length ch Qh (ofv dh).length kh); (try simp only [World.size_alloc] at h); exact h)
  clear hb
  generalize (w5.alloc (.cells #[.bool (decide (zh < 0)), .slice Ph (ofv zh.natAbs).length ch, .slice Qh (ofv dh).length kh] 26)) = w6 at *
  generalize w5.heap.size = g9 at *
  have bl := BE.out
  have ab := AB.out
  have d0 := D0.out
  have d2 := D2.out
  have p1 : 0 < dl := by have := bl.p; omega
  have p2 : 0 < dh := by have := ab.p; omega
  have ca := canon_mk EZ.out ED.out
  have co := canon_mk EY.out EF.out
  obtain ⟨r1, er1⟩ : ∃ r : Int, sgR (mkRat zl dl - mkRat z0 q0) = r := ⟨_, rfl⟩
  obtain ⟨r2, er2⟩ : ∃ r : Int, sgR (mkRat z0 q0 - mkRat zh dh) = r := ⟨_, rfl⟩
  obtain ⟨r5, er5⟩ : ∃ r : Int, sgR (mkRat z2 q2 - mkRat zl dl) = r := ⟨_, rfl⟩
  obtain ⟨r6, er6⟩ : ∃ r : Int, sgR (mkRat z2 q2 - mkRat zh dh) = r := ⟨_, rfl⟩
  obtain ⟨xl, exl⟩ : ∃ r : Int, (dl : Int) = r := ⟨_, rfl⟩
  obtain ⟨xh, exh⟩ : ∃ r : Int, (dh : Int) = r := ⟨_, rfl⟩
  obtain ⟨xo, exo⟩ : ∃ r : Int, (f : Int) = r := ⟨_, rfl⟩
  obtain ⟨r3, er3⟩ : ∃ r : Int, sg (xl - z1) = r := ⟨_, rfl⟩
  obtain ⟨r4, er4⟩ : ∃ r : Int, sg (xh - z1) = r := ⟨_, rfl⟩
  obtain ⟨r8, er8⟩ : ∃ r : Int, sg (xo - z1) = r := ⟨_, rfl⟩
  have v1 : sg (zl * d - z * dl) = r1 := by rw [← er1, ca, sgR_sub p1 d0]
  have v2 : sg (z * dh - zh * d) = r2 := by rw [← er2, ca, sgR_sub d0 p2]
  have v5 : sg (y * dl - zl * f) = r5 := by rw [← er5, co, sgR_sub d2 p1]
  have v6 : sg (y * dh - zh * f) = r6 := by rw [← er6, co, sgR_sub d2 p2]
  have hr1 : ¬ 0 < r1 := by have h := bl.le; rcases sg_cases (zl * d - z * dl) with ⟨e, k⟩ | ⟨e, k⟩ | ⟨e, k⟩ <;> omega
  have hr2 : ¬ 0 < r2 := by have h := ab.le; rcases sg_cases (z * dh - zh * d) with ⟨e, k⟩ | ⟨e, k⟩ | ⟨e, k⟩ <;> omega
  have hr3 : ¬ 0 < r3 := by have h := bl.m; rcases sg_cases (xl - z1) with ⟨e, k⟩ | ⟨e, k⟩ | ⟨e, k⟩ <;> omega
  have hr4 : ¬ 0 < r4 := by have h := ab.m; rcases sg_cases (xh - z1) with ⟨e, k⟩ | ⟨e, k⟩ | ⟨e, k⟩ <;> omega
  have hr8 : 0 < r5 → r6 < 0 → 0 < r8 := fun h5 h6 => by
    have k5 : zl * f < y * dl := by rcases sg_cases (y * dl - zl * f) with ⟨e, k⟩ | ⟨e, k⟩ | ⟨e, k⟩ <;> omega
    have k6 : y * dh < zh * f := by rcases sg_cases (y * dh - zh * f) with ⟨e, k⟩ | ⟨e, k⟩ | ⟨e, k⟩ <;> omega
    have key : z1 < (f : Int) := by
      rcases Int.lt_or_le z1 f with h | h
      · exact h
      · exfalso
        rcases Int.le_total (y * d) (z * f) with q | q
        · have := bl.best y f (by omega) h q; omega
        · have := ab.best y f (by omega) h q; omega
    rcases sg_cases (xo - z1) with ⟨e, k⟩ | ⟨e, k⟩ | ⟨e, k⟩ <;> omega
  have np : ∀ r : Int, ¬ 0 < r → ∃ k : Nat, r = -(k : Int) := fun r h => ⟨r.natAbs, by omega⟩
  obtain ⟨k1, rfl⟩ := np r1 hr1
  obtain ⟨k2, rfl⟩ := np r2 hr2
  obtain ⟨k3, rfl⟩ := np r3 hr3
  obtain ⟨k4, rfl⟩ := np r4 hr4
  have c5 : (∃ k : Nat, r5 = -(k : Int)) ∨ r5 = 1 := by rcases sg_cases (y * dl - zl * f) with ⟨e, k⟩ | ⟨e, k⟩ | ⟨e, k⟩ <;> first | exact .inl (np r5 (by omega)) | exact .inr (by omega)
  have c6 : r6 = -1 ∨ (∃ k : Nat, r6 = (k : Int)) := by rcases sg_cases (y * dh - zh * f) with ⟨e, k⟩ | ⟨e, k⟩ | ⟨e, k⟩ <;> first | exact .inl (by omega) | exact .inr ⟨r6.natAbs, by omega⟩
  have c8 : r8 = -1 ∨ r8 = 0 ∨ r8 = 1 := by rcases sg_cases (xo - z1) with ⟨e, k⟩ | ⟨e, k⟩ | ⟨e, k⟩ <;> omega
  have ER1 := Lib.hid er1
  have ER2 := Lib.hid er2
  have ER3 := Lib.hid er3
  have ER4 := Lib.hid er4
  have ER5 := Lib.hid er5
  have ER6 := Lib.hid er6
  have ER8 := Lib.hid er8
  have EXL := Lib.hid exl
  have EXH := Lib.hid exh
  have EXO := Lib.hid exo
  have HR8 := Lib.hid hr8
  clear bl ab d0 d2 p1 p2 ca co er1 er2 er3 er4 er5 er6 er8 exl exh exo v1 v2 v5 v6 hr8 hr1 hr2 hr3 hr4 np
  go_wp2_with fail
  have hb := below_drewN w6.heap.size w6 1
  replace V0 := Lib.hid (V0.out.below hb V0.out.lt)
  replace V1 := Lib.hid (V1.out.below hb V1.out.lt)
  replace V2 := Lib.hid (V2.out.below hb V2.out.lt)
  replace X0 := Lib.hid (X0.out.below hb)
  replace Y0 := Lib.hid (Y0.out.below hb)
  replace X1 := Lib.hid (X1.out.below hb)
  replace X2 := Lib.hid (X2.out.below hb)
  replace Y2 := Lib.hid (Y2.out.below hb)
  replace Zl := Lib.hid (Zl.out.below hb)
  replace Nl := Lib.hid (Nl.out.below hb)
  replace V7 := Lib.hid (V7.out.below hb V7.out.lt)
  replace Zh := Lib.hid (Zh.out.below hb)
  replace Nh := Lib.hid (Nh.out.below hb)
  replace V9 := Lib.hid (V9.out.below hb V9.out.lt)
  replace B1 := Lib.hid (B1.out.trans (hb.mono B1.out.size))
  clear hb
  refine wp_region_held_drew (S := fun w' => Zb w' (w.heap.size + 1) b1 a1 len1 cap1) (by kernel_rfl) V1.out (fun hHeld => ?_)
  refine wpAnyH_takeL (i := 0) (oi := _) rfl (by kernel_rfl) (by kernel_rfl) (by kernel_rfl) (fun _ _ _ h => h) (yields_ldZ (by rfl) _ rfl (by rfl) (fun _ hS => hS)) hHeld ?_
  try simp only [Act.put, List.setIfInBounds_toArray, List.set_cons_zero, List.set_cons_succ]
  refine wpAnyH_ready (rs := [1]) (by kernel_rfl) (by simp) ?_
  refine AllReadyH.consL (o := _) rfl (fun K hK => ?_) AllReadyH.nil
  clear hHeld
  go_simp
  go_at_call 13
  refine Calls.mono (rfromInt_z (v := 1) (z := one) (by decide) E1.out _) ?_
  rintro e w7 ⟨PO, cO, rfl, ho, hb⟩
  replace V0 := Lib.hid (V0.out.below hb V0.out.lt)
  replace V1 := Lib.hid (V1.out.below hb V1.out.lt)
  replace V2 := Lib.hid (V2.out.below hb V2.out.lt)
  replace X0 := Lib.hid (X0.out.below hb)
  replace Y0 := Lib.hid (Y0.out.below hb)
  replace X1 := Lib.hid (X1.out.below hb)
  replace X2 := Lib.hid (X2.out.below hb)
  replace Y2 := Lib.hid (Y2.out.below hb)
  replace Zl := Lib.hid (Zl.out.below hb)
  replace Nl := Lib.hid (Nl.out.below hb)
  replace V7 := Lib.hid (V7.out.below hb V7.out.lt)
  replace Zh := Lib.hid (Zh.out.below hb)
  replace Nh := Lib.hid (Nh.out.below hb)
  replace V9 := Lib.hid (V9.out.below hb V9.out.lt)
  replace B1 := Lib.hid (B1.out.trans (hb.mono B1.out.size))
  have ZO := Lib.hid (Zo.of_own ho)
  clear ho
  clear hb
  refine hK.out _ _ V1.out (fun hHeld => ?_)
  clear hK K
  try simp only [Act.put, List.setIfInBounds_toArray, List.set_cons_zero, List.set_cons_succ]
  refine wpAnyH_ready (rs := [2]) (by kernel_rfl) (by simp) ?_
  refine AllReadyH.consL (o := _) rfl (fun K hK => ?_) AllReadyH.nil
  clear hHeld
  go_simp
  go_at_call 12
  refine Calls.mono (rcompare_k (r := r0) X1.out ZO.out.in_ (Nat.le_trans L1.out (by decide)) (Nat.le_trans LO.out (by decide)) S1.out) ?_
  rintro e w8 ⟨rfl, hb⟩
  replace V0 := Lib.hid (V0.out.below hb V0.out.lt)
  replace V1 := Lib.hid (V1.out.below hb V1.out.lt)
  replace V2 := Lib.hid (V2.out.below hb V2.out.lt)
  replace X0 := Lib.hid (X0.out.below hb)
  replace Y0 := Lib.hid (Y0.out.below hb)
  replace X1 := Lib.hid (X1.out.below hb)
  replace X2 := Lib.hid (X2.out.below hb)
  replace Y2 := Lib.hid (Y2.out.below hb)
  replace Zl := Lib.hid (Zl.out.below hb)
  replace Nl := Lib.hid (Nl.out.below hb)
  replace V7 := Lib.hid (V7.out.below hb V7.out.lt)
  replace Zh := Lib.hid (Zh.out.below hb)
  replace Nh := Lib.hid (Nh.out.below hb)
  replace V9 := Lib.hid (V9.out.below hb V9.out.lt)
  replace ZO := Lib.hid (ZO.out.below hb)
  replace B1 := Lib.hid (B1.out.trans (hb.mono B1.out.size))
  clear hb
  refine hK.out _ _ V1.out (fun hHeld => ?_)
  clear hK K
  try simp only [Act.put, List.setIfInBounds_toArray, List.set_cons_zero, List.set_cons_succ]
  refine wpAnyH_takeL (i := 3) (oi := _) (v := ?_) rfl (by kernel_rfl) (by kernel_rfl) (by kernel_rfl) (fun _ _ _ h => h) (Or.inl ⟨by rfl, ?_⟩) hHeld ?_
  rotate_left
  · (intro w' hSw; (try dsimp only at hSw); go_simp; try (with_reducible rfl))
  try simp only [Act.put, List.setIfInBounds_toArray, List.set_cons_zero, List.set_cons_succ]
  rw [HD0.out]
  clear hHeld
  refine wpAnyH_done (by kernel_rfl) ?_ _
  rcases c5 with ⟨k5, c5⟩ | c5
  · subst c5
    clear HR8 c6 c8
    have pc0 := Lib.hid trivial
    go_wp2_with (first
      | (clear pc0; go_at_call 14; refine Calls.mono (awake5_any _) ?_; rintro e w9 ⟨rfl, hb⟩; replace V0 := Lib.hid (V0.out.below hb V0.out.lt); replace V1 := Lib.hid (V1.out.below hb V1.out.lt); replace V2 := Lib.hid (V2.out.below hb V2.out.lt); replace X0 := Lib.hid (X0.out.below hb); replace Y0 := Lib.hid (Y0.out.below hb); replace X1 := Lib.hid (X1.out.below hb); replace X2 := Lib.hid (X2.out.below hb); replace Y2 := Lib.hid (Y2.out.below hb); replace Zl := Lib.hid (Zl.out.below hb); replace Nl := Lib.hid (Nl.out.below hb); replace V7 := Lib.hid (V7.out.below hb V7.out.lt); replace Zh := Lib.hid (Zh.out.below hb); replace Nh := Lib.hid (Nh.out.below hb); replace V9 := Lib.hid (V9.out.below hb V9.out.lt); replace ZO := Lib.hid (ZO.out.below hb); replace B1 := Lib.hid (B1.out.trans (hb.mono B1.out.size)); clear hb; have pc1 := Lib.hid trivial)
      | (clear pc1; refine wpList_ldR (by rfl) _ rfl (by rfl) V7.out ?_; have pc2 := Lib.hid trivial)
      | (clear pc2; refine wpList_ldR (by rfl) _ rfl (by rfl) V0.out ?_; have pc3 := Lib.hid trivial)
      | (clear pc3; go_at_call 22; refine Calls.mono (r3compare_any (r := _) Zl.out.in_ (Nin.of_rd Nl.out) X0.out Y0.out (Nat.le_trans LZl.out (by decide)) (Nat.le_trans LDl.out (by decide)) (Nat.le_trans L0.out (by decide)) (Nat.le_trans N0.out (by decide)) ER1.out) ?_; rintro e w10 ⟨rfl, hb⟩; replace V0 := Lib.hid (V0.out.below hb V0.out.lt); replace V1 := Lib.hid (V1.out.below hb V1.out.lt); replace V2 := Lib.hid (V2.out.below hb V2.out.lt); replace X0 := Lib.hid (X0.out.below hb); replace Y0 := Lib.hid (Y0.out.below hb); replace X1 := Lib.hid (X1.out.below hb); replace X2 := Lib.hid (X2.out.below hb); replace Y2 := Lib.hid (Y2.out.below hb); replace Zl := Lib.hid (Zl.out.below hb); replace Nl := Lib.hid (Nl.out.below hb); replace V7 := Lib.hid (V7.out.below hb V7.out.lt); replace Zh := Lib.hid (Zh.out.below hb); replace Nh := Lib.hid (Nh.out.below hb); replace V9 := Lib.hid (V9.out.below hb V9.out.lt); replace ZO := Lib.hid (ZO.out.below hb); replace B1 := Lib.hid (B1.out.trans (hb.mono B1.out.size)); clear hb; have pc4 := Lib.hid trivial)
      | (clear pc4; refine wpList_ldR (by rfl) _ rfl (by rfl) V0.out ?_; have pc5 := Lib.hid trivial)
      | (clear pc5; refine wpList_ldR (by rfl) _ rfl (by rfl) V9.out ?_; have pc6 := Lib.hid trivial)
      | (clear pc6; go_at_call 22; refine Calls.mono (r3compare_any (r := _) X0.out Y0.out Zh.out.in_ (Nin.of_rd Nh.out) (Nat.le_trans L0.out (by decide)) (Nat.le_trans N0.out (by decide)) (Nat.le_trans LZh.out (by decide)) (Nat.le_trans LDh.out (by decide)) ER2.out) ?_; rintro e w11 ⟨rfl, hb⟩; replace V0 := Lib.hid (V0.out.below hb V0.out.lt); replace V1 := Lib.hid (V1.out.below hb V1.out.lt); replace V2 := Lib.hid (V2.out.below hb V2.out.lt); replace X0 := Lib.hid (X0.out.below hb); replace Y0 := Lib.hid (Y0.out.below hb); replace X1 := Lib.hid (X1.out.below hb); replace X2 := Lib.hid (X2.out.below hb); replace Y2 := Lib.hid (Y2.out.below hb); replace Zl := Lib.hid (Zl.out.below hb); replace Nl := Lib.hid (Nl.out.below hb); replace V7 := Lib.hid (V7.out.below hb V7.out.lt); replace Zh := Lib.hid (Zh.out.below hb); replace Nh := Lib.hid (Nh.out.below hb); replace V9 := Lib.hid (V9.out.below hb V9.out.lt); replace ZO := Lib.hid (ZO.out.below hb); replace B1 := Lib.hid (B1.out.trans (hb.mono B1.out.size)); clear hb; have pc7 := Lib.hid trivial)
      | (clear pc7; refine wpList_ldRd (by rfl) _ rfl (by rfl) V7.out ?_; have pc8 := Lib.hid trivial)
      | (clear pc8; refine wpList_ldZ (by rfl) _ rfl (by rfl) V1.out ?_; have pc9 := Lib.hid trivial)
      | (clear pc9; go_at_call 12; refine Calls.mono (rcompare_k ((Nin.of_rd Nl.out).int EXL.out) X1.out (Nat.le_trans LDl.out (by decide)) (Nat.le_trans L1.out (by decide)) ER3.out) ?_; rintro e w12 ⟨rfl, hb⟩; replace V0 := Lib.hid (V0.out.below hb V0.out.lt); replace V1 := Lib.hid (V1.out.below hb V1.out.lt); replace V2 := Lib.hid (V2.out.below hb V2.out.lt); replace X0 := Lib.hid (X0.out.below hb); replace Y0 := Lib.hid (Y0.out.below hb); replace X1 := Lib.hid (X1.out.below hb); replace X2 := Lib.hid (X2.out.below hb); replace Y2 := Lib.hid (Y2.out.below hb); replace Zl := Lib.hid (Zl.out.below hb); replace Nl := Lib.hid (Nl.out.below hb); replace V7 := Lib.hid (V7.out.below hb V7.out.lt); replace Zh := Lib.hid (Zh.out.below hb); replace Nh := Lib.hid (Nh.out.below hb); replace V9 := Lib.hid (V9.out.below hb V9.out.lt); replace ZO := Lib.hid (ZO.out.below hb); replace B1 := Lib.hid (B1.out.trans (hb.mono B1.out.size)); clear hb; have pc10 := Lib.hid trivial)
      | (clear pc10; refine wpList_ldRd (by rfl) _ rfl (by rfl) V9.out ?_; have pc11 := Lib.hid trivial)
      | (clear pc11; refine wpList_ldZ (by rfl) _ rfl (by rfl) V1.out ?_; have pc12 := Lib.hid trivial)
      | (clear pc12; go_at_call 12; refine Calls.mono (rcompare_k ((Nin.of_rd Nh.out).int EXH.out) X1.out (Nat.le_trans LDh.out (by decide)) (Nat.le_trans L1.out (by decide)) ER4.out) ?_; rintro e w13 ⟨rfl, hb⟩; replace V0 := Lib.hid (V0.out.below hb V0.out.lt); replace V1 := Lib.hid (V1.out.below hb V1.out.lt); replace V2 := Lib.hid (V2.out.below hb V2.out.lt); replace X0 := Lib.hid (X0.out.below hb); replace Y0 := Lib.hid (Y0.out.below hb); replace X1 := Lib.hid (X1.out.below hb); replace X2 := Lib.hid (X2.out.below hb); replace Y2 := Lib.hid (Y2.out.below hb); replace Zl := Lib.hid (Zl.out.below hb); replace Nl := Lib.hid (Nl.out.below hb); replace V7 := Lib.hid (V7.out.below hb V7.out.lt); replace Zh := Lib.hid (Zh.out.below hb); replace Nh := Lib.hid (Nh.out.below hb); replace V9 := Lib.hid (V9.out.below hb V9.out.lt); replace ZO := Lib.hid (ZO.out.below hb); replace B1 := Lib.hid (B1.out.trans (hb.mono B1.out.size)); clear hb; have pc13 := Lib.hid trivial)
      | (clear pc13; refine wpList_ldR (by rfl) _ rfl (by rfl) V2.out ?_; have pc14 := Lib.hid trivial)
      | (clear pc14; refine wpList_ldR (by rfl) _ rfl (by rfl) V7.out ?_; have pc15 := Lib.hid trivial)
      | (clear pc15; go_at_call 22; refine Calls.mono (r3compare_any (r := _) X2.out Y2.out Zl.out.in_ (Nin.of_rd Nl.out) (Nat.le_trans L2.out (by decide)) (Nat.le_trans N2.out (by decide)) (Nat.le_trans LZl.out (by decide)) (Nat.le_trans LDl.out (by decide)) ER5.out) ?_; rintro e w14 ⟨rfl, hb⟩; replace V0 := Lib.hid (V0.out.below hb V0.out.lt); replace V1 := Lib.hid (V1.out.below hb V1.out.lt); replace V2 := Lib.hid (V2.out.below hb V2.out.lt); replace X0 := Lib.hid (X0.out.below hb); replace Y0 := Lib.hid (Y0.out.below hb); replace X1 := Lib.hid (X1.out.below hb); replace X2 := Lib.hid (X2.out.below hb); replace Y2 := Lib.hid (Y2.out.below hb); replace Zl := Lib.hid (Zl.out.below hb); replace Nl := Lib.hid (Nl.out.below hb); replace V7 := Lib.hid (V7.out.below hb V7.out.lt); replace Zh := Lib.hid (Zh.out.below hb); replace Nh := Lib.hid (Nh.out.below hb); replace V9 := Lib.hid (V9.out.below hb V9.out.lt); replace ZO := Lib.hid (ZO.out.below hb); replace B1 := Lib.hid (B1.out.trans (hb.mono B1.out.size)); clear hb; have pc16 := Lib.hid trivial))
    clear pc16
    go_ret
    exact ⟨rfl, B1.out⟩
  · subst c5
    rcases c6 with c6 | ⟨k6, c6⟩
    · subst c6
      have hr8 : r8 = 1 := by have := HR8.out (by decide) (by decide); omega
      subst hr8
      clear HR8
      have pc0 := Lib.hid trivial
      go_wp2_with (first
        | (clear pc0; go_at_call 14; refine Calls.mono (awake5_any _) ?_; rintro e w16 ⟨rfl, hb⟩; replace V0 := Lib.hid (V0.out.below hb V0.out.lt); replace V1 := Lib.hid (V1.out.below hb V1.out.lt); replace V2 := Lib.hid (V2.out.below hb V2.out.lt); replace X0 := Lib.hid (X0.out.below hb); replace Y0 := Lib.hid (Y0.out.below hb); replace X1 := Lib.hid (X1.out.below hb); replace X2 := Lib.hid (X2.out.below hb); replace Y2 := Lib.hid (Y2.out.below hb); replace Zl := Lib.hid (Zl.out.below hb); replace Nl := Lib.hid (Nl.out.below hb); replace V7 := Lib.hid (V7.out.below hb V7.out.lt); replace Zh := Lib.hid (Zh.out.below hb); replace Nh := Lib.hid (Nh.out.below hb); replace V9 := Lib.hid (V9.out.below hb V9.out.lt); replace ZO := Lib.hid (ZO.out.below hb); replace B1 := Lib.hid (B1.out.trans (hb.mono B1.out.size)); clear hb; have pc1 := Lib.hid trivial)
        | (clear pc1; refine wpList_ldR (by rfl) _ rfl (by rfl) V7.out ?_; have pc2 := Lib.hid trivial)
        | (clear pc2; refine wpList_ldR (by rfl) _ rfl (by rfl) V0.out ?_; have pc3 := Lib.hid trivial)
        | (clear pc3; go_at_call 22; refine Calls.mono (r3compare_any (r := _) Zl.out.in_ (Nin.of_rd Nl.out) X0.out Y0.out (Nat.le_trans LZl.out (by decide)) (Nat.le_trans LDl.out (by decide)) (Nat.le_trans L0.out (by decide)) (Nat.le_trans N0.out (by decide)) ER1.out) ?_; rintro e w17 ⟨rfl, hb⟩; replace V0 := Lib.hid (V0.out.below hb V0.out.lt); replace V1 := Lib.hid (V1.out.below hb V1.out.lt); replace V2 := Lib.hid (V2.out.below hb V2.out.lt); replace X0 := Lib.hid (X0.out.below hb); replace Y0 := Lib.hid (Y0.out.below hb); replace X1 := Lib.hid (X1.out.below hb); replace X2 := Lib.hid (X2.out.below hb); replace Y2 := Lib.hid (Y2.out.below hb); replace Zl := Lib.hid (Zl.out.below hb); replace Nl := Lib.hid (Nl.out.below hb); replace V7 := Lib.hid (V7.out.below hb V7.out.lt); replace Zh := Lib.hid (Zh.out.below hb); replace Nh := Lib.hid (Nh.out.below hb); replace V9 := Lib.hid (V9.out.below hb V9.out.lt); replace ZO := Lib.hid (ZO.out.below hb); replace B1 := Lib.hid (B1.out.trans (hb.mono B1.out.size)); clear hb; have pc4 := Lib.hid trivial)
        | (clear pc4; refine wpList_ldR (by rfl) _ rfl (by rfl) V0.out ?_; have pc5 := Lib.hid trivial)
        | (clear pc5; refine wpList_ldR (by rfl) _ rfl (by rfl) V9.out ?_; have pc6 := Lib.hid trivial)
        | (clear pc6; go_at_call 22; refine Calls.mono (r3compare_any (r := _) X0.out Y0.out Zh.out.in_ (Nin.of_rd Nh.out) (Nat.le_trans L0.out (by decide)) (Nat.le_trans N0.out (by decide)) (Nat.le_trans LZh.out (by decide)) (Nat.le_trans LDh.out (by decide)) ER2.out) ?_; rintro e w18 ⟨rfl, hb⟩; replace V0 := Lib.hid (V0.out.below hb V0.out.lt); replace V1 := Lib.hid (V1.out.below hb V1.out.lt); replace V2 := Lib.hid (V2.out.below hb V2.out.lt); replace X0 := Lib.hid (X0.out.below hb); replace Y0 := Lib.hid (Y0.out.below hb); replace X1 := Lib.hid (X1.out.below hb); replace X2 := Lib.hid (X2.out.below hb); replace Y2 := Lib.hid (Y2.out.below hb); replace Zl := Lib.hid (Zl.out.below hb); replace Nl := Lib.hid (Nl.out.below hb); replace V7 := Lib.hid (V7.out.below hb V7.out.lt); replace Zh := Lib.hid (Zh.out.below hb); replace Nh := Lib.hid (Nh.out.below hb); replace V9 := Lib.hid (V9.out.below hb V9.out.lt); replace ZO := Lib.hid (ZO.out.below hb); replace B1 := Lib.hid (B1.out.trans (hb.mono B1.out.size)); clear hb; have pc7 := Lib.hid trivial)
        | (clear pc7; refine wpList_ldRd (by rfl) _ rfl (by rfl) V7.out ?_; have pc8 := Lib.hid trivial)
        | (clear pc8; refine wpList_ldZ (by rfl) _ rfl (by rfl) V1.out ?_; have pc9 := Lib.hid trivial)
        | (clear pc9; go_at_call 12; refine Calls.mono (rcompare_k ((Nin.of_rd Nl.out).int EXL.out) X1.out (Nat.le_trans LDl.out (by decide)) (Nat.le_trans L1.out (by decide)) ER3.out) ?_; rintro e w19 ⟨rfl, hb⟩; replace V0 := Lib.hid (V0.out.below hb V0.out.lt); replace V1 := Lib.hid (V1.out.below hb V1.out.lt); replace V2 := Lib.hid (V2.out.below hb V2.out.lt); replace X0 := Lib.hid (X0.out.below hb); replace Y0 := Lib.hid (Y0.out.below hb); replace X1 := Lib.hid (X1.out.below hb); replace X2 := Lib.hid (X2.out.below hb); replace Y2 := Lib.hid (Y2.out.below hb); replace Zl := Lib.hid (Zl.out.below hb); replace Nl := Lib.hid (Nl.out.below hb); replace V7 := Lib.hid (V7.out.below hb V7.out.lt); replace Zh := Lib.hid (Zh.out.below hb); replace Nh := Lib.hid (Nh.out.below hb); replace V9 := Lib.hid (V9.out.below hb V9.out.lt); replace ZO := Lib.hid (ZO.out.below hb); replace B1 := Lib.hid (B1.out.trans (hb.mono B1.out.size)); clear hb; have pc10 := Lib.hid trivial)
        | (clear pc10; refine wpList_ldRd (by rfl) _ rfl (by rfl) V9.out ?_; have pc11 := Lib.hid trivial)
        | (clear pc11; refine wpList_ldZ (by rfl) _ rfl (by rfl) V1.out ?_; have pc12 := Lib.hid trivial)
        | (clear pc12; go_at_call 12; refine Calls.mono (rcompare_k ((Nin.of_rd Nh.out).int EXH.out) X1.out (Nat.le_trans LDh.out (by decide)) (Nat.le_trans L1.out (by decide)) ER4.out) ?_; rintro e w20 ⟨rfl, hb⟩; replace V0 := Lib.hid (V0.out.below hb V0.out.lt); replace V1 := Lib.hid (V1.out.below hb V1.out.lt); replace V2 := Lib.hid (V2.out.below hb V2.out.lt); replace X0 := Lib.hid (X0.out.below hb); replace Y0 := Lib.hid (Y0.out.below hb); replace X1 := Lib.hid (X1.out.below hb); replace X2 := Lib.hid (X2.out.below hb); replace Y2 := Lib.hid (Y2.out.below hb); replace Zl := Lib.hid (Zl.out.below hb); replace Nl := Lib.hid (Nl.out.below hb); replace V7 := Lib.hid (V7.out.below hb V7.out.lt); replace Zh := Lib.hid (Zh.out.below hb); replace Nh := Lib.hid (Nh.out.below hb); replace V9 := Lib.hid (V9.out.below hb V9.out.lt); replace ZO := Lib.hid (ZO.out.below hb); replace B1 := Lib.hid (B1.out.trans (hb.mono B1.out.size)); clear hb; have pc13 := Lib.hid trivial)
        | (clear pc13; refine wpList_ldR (by rfl) _ rfl (by rfl) V2.out ?_; have pc14 := Lib.hid trivial)
        | (clear pc14; refine wpList_ldR (by rfl) _ rfl (by rfl) V7.out ?_; have pc15 := Lib.hid trivial)
        | (clear pc15; go_at_call 22; refine Calls.mono (r3compare_any (r := _) X2.out Y2.out Zl.out.in_ (Nin.of_rd Nl.out) (Nat.le_trans L2.out (by decide)) (Nat.le_trans N2.out (by decide)) (Nat.le_trans LZl.out (by decide)) (Nat.le_trans LDl.out (by decide)) ER5.out) ?_; rintro e w21 ⟨rfl, hb⟩; replace V0 := Lib.hid (V0.out.below hb V0.out.lt); replace V1 := Lib.hid (V1.out.below hb V1.out.lt); replace V2 := Lib.hid (V2.out.below hb V2.out.lt); replace X0 := Lib.hid (X0.out.below hb); replace Y0 := Lib.hid (Y0.out.below hb); replace X1 := Lib.hid (X1.out.below hb); replace X2 := Lib.hid (X2.out.below hb); replace Y2 := Lib.hid (Y2.out.below hb); replace Zl := Lib.hid (Zl.out.below hb); replace Nl := Lib.hid (Nl.out.below hb); replace V7 := Lib.hid (V7.out.below hb V7.out.lt); replace Zh := Lib.hid (Zh.out.below hb); replace Nh := Lib.hid (Nh.out.below hb); replace V9 := Lib.hid (V9.out.below hb V9.out.lt); replace ZO := Lib.hid (ZO.out.below hb); replace B1 := Lib.hid (B1.out.trans (hb.mono B1.out.size)); clear hb; have pc16 := Lib.hid trivial)
        | (clear pc16; refine wpList_ldR (by rfl) _ rfl (by rfl) V2.out ?_; have pc17 := Lib.hid trivial)
        | (clear pc17; refine wpList_ldR (by rfl) _ rfl (by rfl) V9.out ?_; have pc18 := Lib.hid trivial)
        | (clear pc18; go_at_call 22; refine Calls.mono (r3compare_any (r := (-1)) X2.out Y2.out Zh.out.in_ (Nin.of_rd Nh.out) (Nat.le_trans L2.out (by decide)) (Nat.le_trans N2.out (by decide)) (Nat.le_trans LZh.out (by decide)) (Nat.le_trans LDh.out (by decide)) ER6.out) ?_; rintro e w15 ⟨rfl, hb⟩; replace V0 := Lib.hid (V0.out.below hb V0.out.lt); replace V1 := Lib.hid (V1.out.below hb V1.out.lt); replace V2 := Lib.hid (V2.out.below hb V2.out.lt); replace X0 := Lib.hid (X0.out.below hb); replace Y0 := Lib.hid (Y0.out.below hb); replace X1 := Lib.hid (X1.out.below hb); replace X2 := Lib.hid (X2.out.below hb); replace Y2 := Lib.hid (Y2.out.below hb); replace Zl := Lib.hid (Zl.out.below hb); replace Nl := Lib.hid (Nl.out.below hb); replace V7 := Lib.hid (V7.out.below hb V7.out.lt); replace Zh := Lib.hid (Zh.out.below hb); replace Nh := Lib.hid (Nh.out.below hb); replace V9 := Lib.hid (V9.out.below hb V9.out.lt); replace ZO := Lib.hid (ZO.out.below hb); replace B1 := Lib.hid (B1.out.trans (hb.mono B1.out.size)); clear hb; have pc19 := Lib.hid trivial))
      clear pc19
      have hf1 := field1
      go_wp2_with fail
      have hb := below_drewN w15.heap.size w15 1
      replace V0 := Lib.hid (V0.out.below hb V0.out.lt)
      replace V1 := Lib.hid (V1.out.below hb V1.out.lt)
      replace V2 := Lib.hid (V2.out.below hb V2.out.lt)
      replace X0 := Lib.hid (X0.out.below hb)
      replace Y0 := Lib.hid (Y0.out.below hb)
      replace X1 := Lib.hid (X1.out.below hb)
      replace X2 := Lib.hid (X2.out.below hb)
      replace Y2 := Lib.hid (Y2.out.below hb)
      replace Zl := Lib.hid (Zl.out.below hb)
      replace Nl := Lib.hid (Nl.out.below hb)
      replace V7 := Lib.hid (V7.out.below hb V7.out.lt)
      replace Zh := Lib.hid (Zh.out.below hb)
      replace Nh := Lib.hid (Nh.out.below hb)
      replace V9 := Lib.hid (V9.out.below hb V9.out.lt)
      replace ZO := Lib.hid (ZO.out.below hb)
      replace B1 := Lib.hid (B1.out.trans (hb.mono B1.out.size))
      clear hb
      refine wp_region_held_drew (S := fun w' => Rb w' (w.heap.size + 2) b2 a2 len2 cap2 e2 n2 c2 ∧ Zb w' (w.heap.size + 1) b1 a1 len1 cap1) (by kernel_rfl) ⟨V2.out, V1.out⟩ (fun hHeld => ?_)
      refine wpAnyH_takeL (i := 0) (oi := _) rfl (by kernel_rfl) (by kernel_rfl) (by kernel_rfl) (fun _ _ _ h => h) (yields_ldR (by rfl) _ rfl (by rfl) (fun _ hS => hS.1)) hHeld ?_
      try simp only [Act.put, List.setIfInBounds_toArray, List.set_cons_zero, List.set_cons_succ]
      refine wpAnyH_takeL (i := 4) (oi := _) rfl (by kernel_rfl) (by kernel_rfl) (by kernel_rfl) (fun _ _ _ h => h) (yields_ldZ (by rfl) _ rfl (by rfl) (fun _ hS => hS.2)) hHeld ?_
      try simp only [Act.put, List.setIfInBounds_toArray, List.set_cons_zero, List.set_cons_succ]
      refine wpAnyH_ready (rs := [1]) (by kernel_rfl) (by simp) ?_
      refine AllReadyH.consL (o := _) rfl (fun K hK => ?_) AllReadyH.nil
      clear hHeld
      go_simp
      go_at_call 16
      refine Calls.mono (rnorm_any (z := y) (d := f) X2.out Y2.out (Nat.le_trans L2.out (by decide)) (Nat.le_trans N2.out (by decide)) EY.out EF.out) ?_
      rintro e w22 ⟨Pn, cn, Qn, kn, rfl, ho, ho2, hb⟩
      replace V0 := Lib.hid (V0.out.below hb V0.out.lt)
      replace V1 := Lib.hid (V1.out.below hb V1.out.lt)
      replace V2 := Lib.hid (V2.out.below hb V2.out.lt)
      replace X0 := Lib.hid (X0.out.below hb)
      replace Y0 := Lib.hid (Y0.out.below hb)
      replace X1 := Lib.hid (X1.out.below hb)
      replace X2 := Lib.hid (X2.out.below hb)
      replace Y2 := Lib.hid (Y2.out.below hb)
      replace Zl := Lib.hid (Zl.out.below hb)
      replace Nl := Lib.hid (Nl.out.below hb)
      replace V7 := Lib.hid (V7.out.below hb V7.out.lt)
      replace Zh := Lib.hid (Zh.out.below hb)
      replace Nh := Lib.hid (Nh.out.below hb)
      replace V9 := Lib.hid (V9.out.below hb V9.out.lt)
      replace ZO := Lib.hid (ZO.out.below hb)
      replace B1 := Lib.hid (B1.out.trans (hb.mono B1.out.size))
      have ZN := Lib.hid (Zo.of_own ho)
      have NN := Lib.hid ho2.rd
      clear ho ho2
      clear hb
      refine hK.out _ _ ⟨V2.out, V1.out⟩ (fun hHeld => ?_)
      clear hK K
      try simp only [Act.put, List.setIfInBounds_toArray, List.set_cons_zero, List.set_cons_succ]
      refine wpAnyH_takeL (i := 2) (oi := _) (v := ?_) rfl (by kernel_rfl) (by kernel_rfl) (by kernel_rfl) (fun _ _ _ h => h) (Or.inl ⟨by rfl, ?_⟩) hHeld ?_
      rotate_left
      · (intro w' hSw; (try dsimp only at hSw); go_simp; try (with_reducible rfl))
      try simp only [Act.put, List.setIfInBounds_toArray, List.set_cons_zero, List.set_cons_succ]
      refine wpAnyH_takeL (i := 3) (oi := _) (v := ?_) rfl (by kernel_rfl) (by kernel_rfl) (by kernel_rfl) (fun _ _ _ h => h) (Or.inl ⟨by rfl, ?_⟩) hHeld ?_
      rotate_left
      · (intro w' hSw; (try dsimp only at hSw); go_simp; try (with_reducible rfl))
      try simp only [Act.put, List.setIfInBounds_toArray, List.set_cons_zero, List.set_cons_succ]
      refine wpAnyH_ready (rs := [5]) (by kernel_rfl) (by simp) ?_
      refine AllReadyH.consL (o := _) rfl (fun K hK => ?_) AllReadyH.nil
      clear hHeld
      go_simp
      go_at_call 12
      refine Calls.mono (rcompare_k (r := 1) ((Nin.of_rd NN.out).int EXO.out) X1.out (Nat.le_trans LF.out (by decide)) (Nat.le_trans L1.out (by decide)) ER8.out) ?_
      rintro e w23 ⟨rfl, hb⟩
      replace V0 := Lib.hid (V0.out.below hb V0.out.lt)
      replace V1 := Lib.hid (V1.out.below hb V1.out.lt)
      replace V2 := Lib.hid (V2.out.below hb V2.out.lt)
      replace X0 := Lib.hid (X0.out.below hb)
      replace Y0 := Lib.hid (Y0.out.below hb)
      replace X1 := Lib.hid (X1.out.below hb)
      replace X2 := Lib.hid (X2.out.below hb)
      replace Y2 := Lib.hid (Y2.out.below hb)
      replace Zl := Lib.hid (Zl.out.below hb)
      replace Nl := Lib.hid (Nl.out.below hb)
      replace V7 := Lib.hid (V7.out.below hb V7.out.lt)
      replace Zh := Lib.hid (Zh.out.below hb)
      replace Nh := Lib.hid (Nh.out.below hb)
      replace V9 := Lib.hid (V9.out.below hb V9.out.lt)
      replace ZO := Lib.hid (ZO.out.below hb)
      replace ZN := Lib.hid (ZN.out.below hb)
      replace NN := Lib.hid (NN.out.below hb)
      replace B1 := Lib.hid (B1.out.trans (hb.mono B1.out.size))
      clear hb
      refine hK.out _ _ ⟨V2.out, V1.out⟩ (fun hHeld => ?_)
      clear hK K
      try simp only [Act.put, List.setIfInBounds_toArray, List.set_cons_zero, List.set_cons_succ]
      refine wpAnyH_takeL (i := 6) (oi := _) (v := ?_) rfl (by kernel_rfl) (by kernel_rfl) (by kernel_rfl) (fun _ _ _ h => h) (Or.inl ⟨by rfl, ?_⟩) hHeld ?_
      rotate_left
      · (intro w' hSw; (try dsimp only at hSw); go_simp; try (with_reducible rfl))
      try simp only [Act.put, List.setIfInBounds_toArray, List.set_cons_zero, List.set_cons_succ]
      refine wpAnyH_takeL (i := 7) (oi := _) (v := ?_) rfl (by kernel_rfl) (by kernel_rfl) (by kernel_rfl) (fun _ _ _ h => h) (Or.inl ⟨by rfl, ?_⟩) hHeld ?_
      rotate_left
      · (intro w' hSw; (try dsimp only at hSw); go_simp; try (with_reducible rfl))
      try simp only [Act.put, List.setIfInBounds_toArray, List.set_cons_zero, List.set_cons_succ]
      clear hHeld
      refine wpAnyH_done (by kernel_rfl) ?_ _
      go_wp2_with fail
      go_ret
      exact ⟨rfl, B1.out⟩
    · subst c6
      clear HR8 c8
      have pc0 := Lib.hid trivial
      go_wp2_with (first
        | (clear pc0; go_at_call 14; refine Calls.mono (awake5_any _) ?_; rintro e w25 ⟨rfl, hb⟩; replace V0 := Lib.hid (V0.out.below hb V0.out.lt); replace V1 := Lib.hid (V1.out.below hb V1.out.lt); replace V2 := Lib.hid (V2.out.below hb V2.out.lt); replace X0 := Lib.hid (X0.out.below hb); replace Y0 := Lib.hid (Y0.out.below hb); replace X1 := Lib.hid (X1.out.below hb); replace X2 := Lib.hid (X2.out.below hb); replace Y2 := Lib.hid (Y2.out.below hb); replace Zl := Lib.hid (Zl.out.below hb); replace Nl := Lib.hid (Nl.out.below hb); replace V7 := Lib.hid (V7.out.below hb V7.out.lt); replace Zh := Lib.hid (Zh.out.below hb); replace Nh := Lib.hid (Nh.out.below hb); replace V9 := Lib.hid (V9.out.below hb V9.out.lt); replace ZO := Lib.hid (ZO.out.below hb); replace B1 := Lib.hid (B1.out.trans (hb.mono B1.out.size)); clear hb; have pc1 := Lib.hid trivial)
        | (clear pc1; refine wpList_ldR (by rfl) _ rfl (by rfl) V7.out ?_; have pc2 := Lib.hid trivial)
        | (clear pc2; refine wpList_ldR (by rfl) _ rfl (by rfl) V0.out ?_; have pc3 := Lib.hid trivial)
        | (clear pc3; go_at_call 22; refine Calls.mono (r3compare_any (r := _) Zl.out.in_ (Nin.of_rd Nl.out) X0.out Y0.out (Nat.le_trans LZl.out (by decide)) (Nat.le_trans LDl.out (by decide)) (Nat.le_trans L0.out (by decide)) (Nat.le_trans N0.out (by decide)) ER1.out) ?_; rintro e w26 ⟨rfl, hb⟩; replace V0 := Lib.hid (V0.out.below hb V0.out.lt); replace V1 := Lib.hid (V1.out.below hb V1.out.lt); replace V2 := Lib.hid (V2.out.below hb V2.out.lt); replace X0 := Lib.hid (X0.out.below hb); replace Y0 := Lib.hid (Y0.out.below hb); replace X1 := Lib.hid (X1.out.below hb); replace X2 := Lib.hid (X2.out.below hb); replace Y2 := Lib.hid (Y2.out.below hb); replace Zl := Lib.hid (Zl.out.below hb); replace Nl := Lib.hid (Nl.out.below hb); replace V7 := Lib.hid (V7.out.below hb V7.out.lt); replace Zh := Lib.hid (Zh.out.below hb); replace Nh := Lib.hid (Nh.out.below hb); replace V9 := Lib.hid (V9.out.below hb V9.out.lt); replace ZO := Lib.hid (ZO.out.below hb); replace B1 := Lib.hid (B1.out.trans (hb.mono B1.out.size)); clear hb; have pc4 := Lib.hid trivial)
        | (clear pc4; refine wpList_ldR (by rfl) _ rfl (by rfl) V0.out ?_; have pc5 := Lib.hid trivial)
        | (clear pc5; refine wpList_ldR (by rfl) _ rfl (by rfl) V9.out ?_; have pc6 := Lib.hid trivial)
        | (clear pc6; go_at_call 22; refine Calls.mono (r3compare_any (r := _) X0.out Y0.out Zh.out.in_ (Nin.of_rd Nh.out) (Nat.le_trans L0.out (by decide)) (Nat.le_trans N0.out (by decide)) (Nat.le_trans LZh.out (by decide)) (Nat.le_trans LDh.out (by decide)) ER2.out) ?_; rintro e w27 ⟨rfl, hb⟩; replace V0 := Lib.hid (V0.out.below hb V0.out.lt); replace V1 := Lib.hid (V1.out.below hb V1.out.lt); replace V2 := Lib.hid (V2.out.below hb V2.out.lt); replace X0 := Lib.hid (X0.out.below hb); replace Y0 := Lib.hid (Y0.out.below hb); replace X1 := Lib.hid (X1.out.below hb); replace X2 := Lib.hid (X2.out.below hb); replace Y2 := Lib.hid (Y2.out.below hb); replace Zl := Lib.hid (Zl.out.below hb); replace Nl := Lib.hid (Nl.out.below hb); replace V7 := Lib.hid (V7.out.below hb V7.out.lt); replace Zh := Lib.hid (Zh.out.below hb); replace Nh := Lib.hid (Nh.out.below hb); replace V9 := Lib.hid (V9.out.below hb V9.out.lt); replace ZO := Lib.hid (ZO.out.below hb); replace B1 := Lib.hid (B1.out.trans (hb.mono B1.out.size)); clear hb; have pc7 := Lib.hid trivial)
        | (clear pc7; refine wpList_ldRd (by rfl) _ rfl (by rfl) V7.out ?_; have pc8 := Lib.hid trivial)
        | (clear pc8; refine wpList_ldZ (by rfl) _ rfl (by rfl) V1.out ?_; have pc9 := Lib.hid trivial)
        | (clear pc9; go_at_call 12; refine Calls.mono (rcompare_k ((Nin.of_rd Nl.out).int EXL.out) X1.out (Nat.le_trans LDl.out (by decide)) (Nat.le_trans L1.out (by decide)) ER3.out) ?_; rintro e w28 ⟨rfl, hb⟩; replace V0 := Lib.hid (V0.out.below hb V0.out.lt); replace V1 := Lib.hid (V1.out.below hb V1.out.lt); replace V2 := Lib.hid (V2.out.below hb V2.out.lt); replace X0 := Lib.hid (X0.out.below hb); replace Y0 := Lib.hid (Y0.out.below hb); replace X1 := Lib.hid (X1.out.below hb); replace X2 := Lib.hid (X2.out.below hb); replace Y2 := Lib.hid (Y2.out.below hb); replace Zl := Lib.hid (Zl.out.below hb); replace Nl := Lib.hid (Nl.out.below hb); replace V7 := Lib.hid (V7.out.below hb V7.out.lt); replace Zh := Lib.hid (Zh.out.below hb); replace Nh := Lib.hid (Nh.out.below hb); replace V9 := Lib.hid (V9.out.below hb V9.out.lt); replace ZO := Lib.hid (ZO.out.below hb); replace B1 := Lib.hid (B1.out.trans (hb.mono B1.out.size)); clear hb; have pc10 := Lib.hid trivial)
        | (clear pc10; refine wpList_ldRd (by rfl) _ rfl (by rfl) V9.out ?_; have pc11 := Lib.hid trivial)
        | (clear pc11; refine wpList_ldZ (by rfl) _ rfl (by rfl) V1.out ?_; have pc12 := Lib.hid trivial)
        | (clear pc12; go_at_call 12; refine Calls.mono (rcompare_k ((Nin.of_rd Nh.out).int EXH.out) X1.out (Nat.le_trans LDh.out (by decide)) (Nat.le_trans L1.out (by decide)) ER4.out) ?_; rintro e w29 ⟨rfl, hb⟩; replace V0 := Lib.hid (V0.out.below hb V0.out.lt); replace V1 := Lib.hid (V1.out.below hb V1.out.lt); replace V2 := Lib.hid (V2.out.below hb V2.out.lt); replace X0 := Lib.hid (X0.out.below hb); replace Y0 := Lib.hid (Y0.out.below hb); replace X1 := Lib.hid (X1.out.below hb); replace X2 := Lib.hid (X2.out.below hb); replace Y2 := Lib.hid (Y2.out.below hb); replace Zl := Lib.hid (Zl.out.below hb); replace Nl := Lib.hid (Nl.out.below hb); replace V7 := Lib.hid (V7.out.below hb V7.out.lt); replace Zh := Lib.hid (Zh.out.below hb); replace Nh := Lib.hid (Nh.out.below hb); replace V9 := Lib.hid (V9.out.below hb V9.out.lt); replace ZO := Lib.hid (ZO.out.below hb); replace B1 := Lib.hid (B1.out.trans (hb.mono B1.out.size)); clear hb; have pc13 := Lib.hid trivial)
        | (clear pc13; refine wpList_ldR (by rfl) _ rfl (by rfl) V2.out ?_; have pc14 := Lib.hid trivial)
        | (clear pc14; refine wpList_ldR (by rfl) _ rfl (by rfl) V7.out ?_; have pc15 := Lib.hid trivial)
        | (clear pc15; go_at_call 22; refine Calls.mono (r3compare_any (r := _) X2.out Y2.out Zl.out.in_ (Nin.of_rd Nl.out) (Nat.le_trans L2.out (by decide)) (Nat.le_trans N2.out (by decide)) (Nat.le_trans LZl.out (by decide)) (Nat.le_trans LDl.out (by decide)) ER5.out) ?_; rintro e w30 ⟨rfl, hb⟩; replace V0 := Lib.hid (V0.out.below hb V0.out.lt); replace V1 := Lib.hid (V1.out.below hb V1.out.lt); replace V2 := Lib.hid (V2.out.below hb V2.out.lt); replace X0 := Lib.hid (X0.out.below hb); replace Y0 := Lib.hid (Y0.out.below hb); replace X1 := Lib.hid (X1.out.below hb); replace X2 := Lib.hid (X2.out.below hb); replace Y2 := Lib.hid (Y2.out.below hb); replace Zl := Lib.hid (Zl.out.below hb); replace Nl := Lib.hid (Nl.out.below hb); replace V7 := Lib.hid (V7.out.below hb V7.out.lt); replace Zh := Lib.hid (Zh.out.below hb); replace Nh := Lib.hid (Nh.out.below hb); replace V9 := Lib.hid (V9.out.below hb V9.out.lt); replace ZO := Lib.hid (ZO.out.below hb); replace B1 := Lib.hid (B1.out.trans (hb.mono B1.out.size)); clear hb; have pc16 := Lib.hid trivial)
        | (clear pc16; refine wpList_ldR (by rfl) _ rfl (by rfl) V2.out ?_; have pc17 := Lib.hid trivial)
        | (clear pc17; refine wpList_ldR (by rfl) _ rfl (by rfl) V9.out ?_; have pc18 := Lib.hid trivial)
        | (clear pc18; go_at_call 22; refine Calls.mono (r3compare_any (r := _) X2.out Y2.out Zh.out.in_ (Nin.of_rd Nh.out) (Nat.le_trans L2.out (by decide)) (Nat.le_trans N2.out (by decide)) (Nat.le_trans LZh.out (by decide)) (Nat.le_trans LDh.out (by decide)) ER6.out) ?_; rintro e w24 ⟨rfl, hb⟩; replace V0 := Lib.hid (V0.out.below hb V0.out.lt); replace V1 := Lib.hid (V1.out.below hb V1.out.lt); replace V2 := Lib.hid (V2.out.below hb V2.out.lt); replace X0 := Lib.hid (X0.out.below hb); replace Y0 := Lib.hid (Y0.out.below hb); replace X1 := Lib.hid (X1.out.below hb); replace X2 := Lib.hid (X2.out.below hb); replace Y2 := Lib.hid (Y2.out.below hb); replace Zl := Lib.hid (Zl.out.below hb); replace Nl := Lib.hid (Nl.out.below hb); replace V7 := Lib.hid (V7.out.below hb V7.out.lt); replace Zh := Lib.hid (Zh.out.below hb); replace Nh := Lib.hid (Nh.out.below hb); replace V9 := Lib.hid (V9.out.below hb V9.out.lt); replace ZO := Lib.hid (ZO.out.below hb); replace B1 := Lib.hid (B1.out.trans (hb.mono B1.out.size)); clear hb; have pc19 := Lib.hid trivial))
      clear pc19
      go_ret
      exact ⟨rfl, B1.out⟩
theorem approxEnclose_walk (b0 : Bool) (a0 : Option Addr) (len0 cap0 : Nat) (z0 : Int) (e0 : Option Addr) (n0 c0 q0 : Nat) (b1 : Bool) (a1 : Option Addr) (len1 cap1 : Nat) (z1 : Int) (b2 : Bool) (a2 : Option Addr) (len2 cap2 : Nat) (z2 : Int) (e2 : Option Addr) (n2 c2 q2 : Nat) (w : World) (hx0 : Zin w b0 a0 len0 cap0 z0) (hl0 : len0 ≤ 1048576) (hp0 : Nin w e0 n0 c0 q0) (hn0 : n0 ≤ 1048576) (hx1 : Zin w b1 a1 len1 cap1 z1) (hl1 : len1 ≤ 1048576) (hx2 : Zin w b2 a2 len2 cap2 z2) (hl2 : len2 ≤ 1048576) (hp2 : Nin w e2 n2 c2 q2) (hn2 : n2 ≤ 1048576) :
    Calls Tryz.prog 6 #[.agg #[.bool b0, .slice a0 len0 cap0, .slice e0 n0 c0], .agg #[.bool b1, .slice a1 len1 cap1], .agg #[.bool b2, .slice a2 len2 cap2, .slice e2 n2 c2]] w fun e w' => e = .returned (.bool true) ∧ Below w.heap.size w w' := by
  rcases Int.lt_or_le 0 z1 with h | h
  · exact approxEnclose_yes b0 a0 len0 cap0 z0 e0 n0 c0 q0 b1 a1 len1 cap1 z1 b2 a2 len2 cap2 z2 e2 n2 c2 q2 w hx0 hl0 hp0 hn0 hx1 hl1 hx2 hl2 hp2 hn2 h
  · exact approxEnclose_no b0 a0 len0 cap0 z0 e0 n0 c0 q0 b1 a1 len1 cap1 z1 b2 a2 len2 cap2 z2 e2 n2 c2 q2 w hx0 hl0 hp0 hn0 hx1 hl1 hx2 hl2 hp2 hn2 h
end Go.Proofs.YtfmgbfdnmconiaaGreat
