/-
  The statement ApproxSimpler: its walk.
-/
import Derived.Test.YtfmgbfdnmconiaaGreatApw
import Derived.Test.YtfmgbfdnmconiaaGreatZbez
namespace Go.Proofs.YtfmgbfdnmconiaaGreat
open Go.RowKit
set_option linter.unusedVariables false

theorem start_ApproxSimpler (w : World) (s0 : Bool) (A0 : Option Addr) (n0 c0 : Nat) (D0 : Option Addr) (m0 k0 : Nat) (s1 : Bool) (A1 : Option Addr) (n1 c1 : Nat) (D1 : Option Addr) (m1 k1 : Nat) (s2 : Bool) (A2 : Option Addr) (n2 c2 : Nat) (D2 : Option Addr) (m2 k2 : Nat) :
    Hid (Below w.heap.size w (((w.alloc (.cells #[.bool s0, .slice A0 n0 c0, .slice D0 m0 k0] 26)).alloc (.cells #[.bool s1, .slice A1 n1 c1, .slice D1 m1 k1] 26)).alloc (.cells #[.bool s2, .slice A2 n2 c2, .slice D2 m2 k2] 26))) ∧ Hid (Rb (((w.alloc (.cells #[.bool s0, .slice A0 n0 c0, .slice D0 m0 k0] 26)).alloc (.cells #[.bool s1, .slice A1 n1 c1, .slice D1 m1 k1] 26)).alloc (.cells #[.bool s2, .slice A2 n2 c2, .slice D2 m2 k2] 26)) (w.heap.size) s0 A0 n0 c0 D0 m0 k0) ∧ Hid (Rb (((w.alloc (.cells #[.bool s0, .slice A0 n0 c0, .slice D0 m0 k0] 26)).alloc (.cells #[.bool s1, .slice A1 n1 c1, .slice D1 m1 k1] 26)).alloc (.cells #[.bool s2, .slice A2 n2 c2, .slice D2 m2 k2] 26)) (w.heap.size + 1) s1 A1 n1 c1 D1 m1 k1) ∧ Hid (Rb (((w.alloc (.cells #[.bool s0, .slice A0 n0 c0, .slice D0 m0 k0] 26)).alloc (.cells #[.bool s1, .slice A1 n1 c1, .slice D1 m1 k1] 26)).alloc (.cells #[.bool s2, .slice A2 n2 c2, .slice D2 m2 k2] 26)) (w.heap.size + 2) s2 A2 n2 c2 D2 m2 k2) := by
  refine ⟨?_, ?_, ?_, ?_⟩
  · exact ((((Below.refl _ _).alloc (by first | exact Nat.le_refl _ | (simp; done) | (simp; omega)) _).alloc (by first | exact Nat.le_refl _ | (simp; done) | (simp; omega)) _).alloc (by first | exact Nat.le_refl _ | (simp; done) | (simp; omega)) _)
  · have := Rb.new w s0 A0 n0 c0 D0 m0 k0
    exact ((this.alloc _).alloc _)
  · have := Rb.new (w.alloc (.cells #[.bool s0, .slice A0 n0 c0, .slice D0 m0 k0] 26)) s1 A1 n1 c1 D1 m1 k1
    simp only [World.size_alloc] at this
    exact (this.alloc _)
  · have := Rb.new ((w.alloc (.cells #[.bool s0, .slice A0 n0 c0, .slice D0 m0 k0] 26)).alloc (.cells #[.bool s1, .slice A1 n1 c1, .slice D1 m1 k1] 26)) s2 A2 n2 c2 D2 m2 k2
    simp only [World.size_alloc] at this
    exact this
theorem smp_one {zl dl z d : Int} (h : Smp zl dl zl dl z d) (hd : 0 < dl) (hg : Int.gcd zl dl = 1) : z = zl ∧ d = dl := by
  have h1 := h.lo
  have h2 := h.hi
  have hp := h.p
  obtain ⟨n, rfl⟩ : ∃ n : Nat, d = (n : Int) := ⟨d.natAbs, by omega⟩
  obtain ⟨m, rfl⟩ : ∃ n : Nat, dl = (n : Int) := ⟨dl.natAbs, by omega⟩
  have k1 := mk_cop (u := z) (v := n) (by omega) h.g
  have k2 := mk_cop (u := zl) (v := m) (by omega) hg
  have e : mkRat z n = mkRat zl m := (Rat.mkRat_eq_iff (by omega) (by omega)).2 (by omega)
  rw [e] at k1
  exact ⟨k1.1.symm.trans k2.1, by rw [← k1.2, k2.2]⟩
set_option maxRecDepth 100000 in
set_option maxHeartbeats 16000000 in
theorem approxSimpler_a (b0 : Bool) (a0 : Option Addr) (len0 cap0 : Nat) (z0 : Int) (e0 : Option Addr) (n0 c0 q0 : Nat) (b1 : Bool) (a1 : Option Addr) (len1 cap1 : Nat) (z1 : Int) (e1 : Option Addr) (n1 c1 q1 : Nat) (b2 : Bool) (a2 : Option Addr) (len2 cap2 : Nat) (z2 : Int) (e2 : Option Addr) (n2 c2 q2 : Nat) (w : World) (hx0 : Zin w b0 a0 len0 cap0 z0) (hl0 : len0 ≤ 1048576) (hp0 : Nin w e0 n0 c0 q0) (hn0 : n0 ≤ 1048576) (hx1 : Zin w b1 a1 len1 cap1 z1) (hl1 : len1 ≤ 1048576) (hp1 : Nin w e1 n1 c1 q1) (hn1 : n1 ≤ 1048576) (hx2 : Zin w b2 a2 len2 cap2 z2) (hl2 : len2 ≤ 1048576) (hp2 : Nin w e2 n2 c2 q2) (hn2 : n2 ≤ 1048576) (hc : sgR (mkRat z0 q0 - mkRat z1 q1) = 1) :
    Calls Tryz.prog 5 #[.agg #[.bool b0, .slice a0 len0 cap0, .slice e0 n0 c0], .agg #[.bool b1, .slice a1 len1 cap1, .slice e1 n1 c1], .agg #[.bool b2, .slice a2 len2 cap2, .slice e2 n2 c2]] w fun e w' => e = .returned (.bool true) ∧ Below w.heap.size w w' := by
  obtain ⟨B1, V0, V1, V2⟩ := start_ApproxSimpler w b0 a0 len0 cap0 e0 n0 c0 b1 a1 len1 cap1 e1 n1 c1 b2 a2 len2 cap2 e2 n2 c2
  have X0 := Lib.hid (hx0.below B1.out)
  have L0 := Lib.hid hl0
  have Y0 := Lib.hid (hp0.below B1.out)
  have N0 := Lib.hid hn0
  have X1 := Lib.hid (hx1.below B1.out)
  have L1 := Lib.hid hl1
  have Y1 := Lib.hid (hp1.below B1.out)
  have N1 := Lib.hid hn1
  have X2 := Lib.hid (hx2.below B1.out)
  have L2 := Lib.hid hl2
  have Y2 := Lib.hid (hp2.below B1.out)
  have N2 := Lib.hid hn2
  have HC := Lib.hid hc
  clear hx0 hl0 hp0 hn0 hx1 hl1 hp1 hn1 hx2 hl2 hp2 hn2 hc
  go_enter Tryz.func5, Tryz.ntmps5
  go_wp2_with fail
  generalize (((w.alloc (.cells #[.bool b0, .slice a0 len0 cap0, .slice e0 n0 c0] 26)).alloc (.cells #[.bool b1, .slice a1 len1 cap1, .slice e1 n1 c1] 26)).alloc (.cells #[.bool b2, .slice a2 len2 cap2, .slice e2 n2 c2] 26)) = w2 at *
  have pc0 := Lib.hid trivial
  go_wp2_with (first
    | (clear pc0; go_at_call 20; refine Calls.mono (simplest_no X0.out Y0.out X1.out Y1.out L0.out N0.out L1.out N1.out HC.out) ?_; rintro e w3 ⟨rfl, hb⟩; replace V0 := Lib.hid (V0.out.below hb V0.out.lt); replace X0 := Lib.hid (X0.out.below hb); replace Y0 := Lib.hid (Y0.out.below hb); replace V1 := Lib.hid (V1.out.below hb V1.out.lt); replace X1 := Lib.hid (X1.out.below hb); replace Y1 := Lib.hid (Y1.out.below hb); replace V2 := Lib.hid (V2.out.below hb V2.out.lt); replace X2 := Lib.hid (X2.out.below hb); replace Y2 := Lib.hid (Y2.out.below hb); replace B1 := Lib.hid (B1.out.trans (hb.mono B1.out.size)); clear hb; have pc1 := Lib.hid trivial)
    | (clear pc1; have hb : Below w3.heap.size w3 (w3.alloc (.cells #[.bool false, .slice none 0 0, .slice none 0 0] 26)) := ((Below.refl _ _).alloc (by first | exact Nat.le_refl _ | (simp; done) | (simp; omega)) _); replace V0 := Lib.hid (V0.out.below hb V0.out.lt); replace X0 := Lib.hid (X0.out.below hb); replace Y0 := Lib.hid (Y0.out.below hb); replace V1 := Lib.hid (V1.out.below hb V1.out.lt); replace X1 := Lib.hid (X1.out.below hb); replace Y1 := Lib.hid (Y1.out.below hb); replace V2 := Lib.hid (V2.out.below hb V2.out.lt); replace X2 := Lib.hid (X2.out.below hb); replace Y2 := Lib.hid (Y2.out.below hb); replace B1 := Lib.hid (B1.out.trans (hb.mono B1.out.size)); clear hb; generalize (w3.alloc (.cells #[.bool false, .slice none 0 0, .slice none 0 0] 26)) = w4 at *; refine wpList_ldR (by rfl) _ rfl (by rfl) V0.out ?_; have pc2 := Lib.hid trivial)
    | (clear pc2; refine wpList_ldR (by rfl) _ rfl (by rfl) V1.out ?_; have pc3 := Lib.hid trivial)
    | (clear pc3; go_at_call 22; refine Calls.mono (r3compare_any (r := 1) X0.out Y0.out X1.out Y1.out (Nat.le_trans L0.out (by decide)) (Nat.le_trans N0.out (by decide)) (Nat.le_trans L1.out (by decide)) (Nat.le_trans N1.out (by decide)) HC.out) ?_; rintro e w5 ⟨rfl, hb⟩; replace V0 := Lib.hid (V0.out.below hb V0.out.lt); replace X0 := Lib.hid (X0.out.below hb); replace Y0 := Lib.hid (Y0.out.below hb); replace V1 := Lib.hid (V1.out.below hb V1.out.lt); replace X1 := Lib.hid (X1.out.below hb); replace Y1 := Lib.hid (Y1.out.below hb); replace V2 := Lib.hid (V2.out.below hb V2.out.lt); replace X2 := Lib.hid (X2.out.below hb); replace Y2 := Lib.hid (Y2.out.below hb); replace B1 := Lib.hid (B1.out.trans (hb.mono B1.out.size)); clear hb; have pc4 := Lib.hid trivial)
    | (clear pc4; go_at_call 14; refine Calls.mono (awake5_any _) ?_; rintro e w6 ⟨rfl, hb⟩; replace V0 := Lib.hid (V0.out.below hb V0.out.lt); replace X0 := Lib.hid (X0.out.below hb); replace Y0 := Lib.hid (Y0.out.below hb); replace V1 := Lib.hid (V1.out.below hb V1.out.lt); replace X1 := Lib.hid (X1.out.below hb); replace Y1 := Lib.hid (Y1.out.below hb); replace V2 := Lib.hid (V2.out.below hb V2.out.lt); replace X2 := Lib.hid (X2.out.below hb); replace Y2 := Lib.hid (Y2.out.below hb); replace B1 := Lib.hid (B1.out.trans (hb.mono B1.out.size)); clear hb; have pc5 := Lib.hid trivial))
  clear pc5
  go_ret
  exact ⟨rfl, B1.out⟩
set_option maxRecDepth 100000 in
set_option maxHeartbeats 16000000 in
theorem approxSimpler_b (b0 : Bool) (a0 : Option Addr) (len0 cap0 : Nat) (z0 : Int) (e0 : Option Addr) (n0 c0 q0 : Nat) (b1 : Bool) (a1 : Option Addr) (len1 cap1 : Nat) (z1 : Int) (e1 : Option Addr) (n1 c1 q1 : Nat) (b2 : Bool) (a2 : Option Addr) (len2 cap2 : Nat) (z2 : Int) (e2 : Option Addr) (n2 c2 q2 : Nat) (w : World) (hx0 : Zin w b0 a0 len0 cap0 z0) (hl0 : len0 ≤ 1048576) (hp0 : Nin w e0 n0 c0 q0) (hn0 : n0 ≤ 1048576) (hx1 : Zin w b1 a1 len1 cap1 z1) (hl1 : len1 ≤ 1048576) (hp1 : Nin w e1 n1 c1 q1) (hn1 : n1 ≤ 1048576) (hx2 : Zin w b2 a2 len2 cap2 z2) (hl2 : len2 ≤ 1048576) (hp2 : Nin w e2 n2 c2 q2) (hn2 : n2 ≤ 1048576) (hc : sgR (mkRat z0 q0 - mkRat z1 q1) = (-1)) :
    Calls Tryz.prog 5 #[.agg #[.bool b0, .slice a0 len0 cap0, .slice e0 n0 c0], .agg #[.bool b1, .slice a1 len1 cap1, .slice e1 n1 c1], .agg #[.bool b2, .slice a2 len2 cap2, .slice e2 n2 c2]] w fun e w' => e = .returned (.bool true) ∧ Below w.heap.size w w' := by
  obtain ⟨B1, V0, V1, V2⟩ := start_ApproxSimpler w b0 a0 len0 cap0 e0 n0 c0 b1 a1 len1 cap1 e1 n1 c1 b2 a2 len2 cap2 e2 n2 c2
  have X0 := Lib.hid (hx0.below B1.out)
  have L0 := Lib.hid hl0
  have Y0 := Lib.hid (hp0.below B1.out)
  have N0 := Lib.hid hn0
  have X1 := Lib.hid (hx1.below B1.out)
  have L1 := Lib.hid hl1
  have Y1 := Lib.hid (hp1.below B1.out)
  have N1 := Lib.hid hn1
  have X2 := Lib.hid (hx2.below B1.out)
  have L2 := Lib.hid hl2
  have Y2 := Lib.hid (hp2.below B1.out)
  have N2 := Lib.hid hn2
  obtain ⟨zl, ezl⟩ : ∃ z : Int, (mkRat z0 q0).num = z := ⟨_, rfl⟩
  obtain ⟨dl, edl⟩ : ∃ z : Nat, (mkRat z0 q0).den = z := ⟨_, rfl⟩
  obtain ⟨zh, ezh⟩ : ∃ z : Int, (mkRat z1 q1).num = z := ⟨_, rfl⟩
  obtain ⟨dh, edh⟩ : ∃ z : Nat, (mkRat z1 q1).den = z := ⟨_, rfl⟩
  obtain ⟨zo, ezo⟩ : ∃ z : Int, (mkRat z2 q2).num = z := ⟨_, rfl⟩
  obtain ⟨do', edo⟩ : ∃ z : Nat, (mkRat z2 q2).den = z := ⟨_, rfl⟩
  obtain ⟨gl, pl⟩ := gcd_canon (mkRat z0 q0) ezl edl
  obtain ⟨gh, ph⟩ := gcd_canon (mkRat z1 q1) ezh edh
  obtain ⟨go, po⟩ := gcd_canon (mkRat z2 q2) ezo edo
  have rl := rl_mk (N := 1048576) (Nat.le_trans hx2.len hl2) (Nat.le_trans hp2.len hn2) (by decide)
  have LZo : Hid ((ofv zo.natAbs).length ≤ 1048576) := by show _ ≤ _; have h := rl.1; rw [ezo] at h; exact h
  have LDo : Hid ((ofv do').length ≤ 1048576) := by show _ ≤ _; have h := rl.2; rw [edo] at h; exact h
  have EZL := Lib.hid ezl
  have EDL := Lib.hid edl
  have EZH := Lib.hid ezh
  have EDH := Lib.hid edh
  have EZO := Lib.hid ezo
  have EDO := Lib.hid edo
  have PP : Hid ((0 < dl ∧ 0 < dh ∧ 0 < do') ∧ Int.gcd zl dl = 1) := ⟨⟨pl, ph, po⟩, gl⟩
  have HC := Lib.hid hc
  have HC0 : Hid (sgR (mkRat z0 q0 - mkRat z0 q0) = 0) := by show _ = _; rw [sgR_zero]; exact Rat.sub_self
  clear hx0 hl0 hp0 hn0 hx1 hl1 hp1 hn1 hx2 hl2 hp2 hn2 hc rl ezl edl ezh edh ezo edo gl pl gh ph go po
  go_enter Tryz.func5, Tryz.ntmps5
  go_wp2_with fail
  generalize (((w.alloc (.cells #[.bool b0, .slice a0 len0 cap0, .slice e0 n0 c0] 26)).alloc (.cells #[.bool b1, .slice a1 len1 cap1, .slice e1 n1 c1] 26)).alloc (.cells #[.bool b2, .slice a2 len2 cap2, .slice e2 n2 c2] 26)) = w2 at *
  have pc0 := Lib.hid trivial
  go_wp2_with (first
    | (clear pc0; go_at_call 20; refine Calls.mono (simplest_yesa (zl := zl) (zh := zh) (dl := dl) (dh := dh) X0.out Y0.out X1.out Y1.out L0.out N0.out L1.out N1.out EZL.out EDL.out EZH.out EDH.out HC.out) ?_; rintro e w3 ⟨zx, dx, st, lens, Px, cx, Qx, kx, rfl, r1, r2, hb⟩; replace V0 := Lib.hid (V0.out.below hb V0.out.lt); replace X0 := Lib.hid (X0.out.below hb); replace Y0 := Lib.hid (Y0.out.below hb); replace V1 := Lib.hid (V1.out.below hb V1.out.lt); replace X1 := Lib.hid (X1.out.below hb); replace Y1 := Lib.hid (Y1.out.below hb); replace V2 := Lib.hid (V2.out.below hb V2.out.lt); replace X2 := Lib.hid (X2.out.below hb); replace Y2 := Lib.hid (Y2.out.below hb); replace B1 := Lib.hid (B1.out.trans (hb.mono B1.out.size)); have SX := Lib.hid st; have LZx := Lib.hid lens.1; have LDx := Lib.hid lens.2; have Zx := Lib.hid r1; have Nx := Lib.hid r2; clear st lens r1 r2; clear hb; have pc1 := Lib.hid trivial)
    | (clear pc1; have LWW7 : Hid (w.heap.size + 2 < w3.heap.size) := V2.out.lt; have hb : Below w3.heap.size w3 (w3.alloc (.cells #[.bool (decide (zx < 0)), .slice Px (ofv zx.natAbs).length cx, .slice Qx (ofv dx).length kx] 26)) := ((Below.refl _ _).alloc (by first | exact Nat.le_refl _ | (simp; done) | (simp; omega)) _); replace V0 := Lib.hid (V0.out.below hb V0.out.lt); replace X0 := Lib.hid (X0.out.below hb); replace Y0 := Lib.hid (Y0.out.below hb); replace V1 := Lib.hid (V1.out.below hb V1.out.lt); replace X1 := Lib.hid (X1.out.below hb); replace Y1 := Lib.hid (Y1.out.below hb); replace V2 := Lib.hid (V2.out.below hb V2.out.lt); replace X2 := Lib.hid (X2.out.below hb); replace Y2 := Lib.hid (Y2.out.below hb); replace Zx := Lib.hid (Zx.out.below hb); replace Nx := Lib.hid (Nx.out.below hb); replace B1 := Lib.hid (B1.out.trans (hb.mono B1.out.size)); have W7 : Hid (Rb (w3.alloc (.cells #[.bool (decide (zx < 0)), .slice Px (ofv zx.natAbs).length cx, .slice Qx (ofv dx).length kx] 26)) (w3.heap.size) (decide (zx < 0)) Px (ofv zx.natAbs).length cx Qx (ofv dx).length kx) := (by have h := (Rb.new w3 (decide (zx < 0)) Px (ofv zx.natAbs).length cx Qx (ofv dx).length kx); (try simp only [World.size_alloc] at h); exact h); clear hb; generalize (w3.alloc (.cells #[.bool (decide (zx < 0)), .slice Px (ofv zx.natAbs).length cx, .slice Qx (ofv dx).length kx] 26)) = w4 at *; generalize w3.heap.size = h7 at *; refine wpList_ldR (by rfl) _ rfl (by rfl) V0.out ?_; have pc2 := Lib.hid trivial)
    | (clear pc2; refine wpList_ldR (by rfl) _ rfl (by rfl) V0.out ?_; have pc3 := Lib.hid trivial)
    | (clear pc3; go_at_call 20; refine Calls.mono (simplest_yesb (zl := zl) (zh := zl) (dl := dl) (dh := dl) X0.out Y0.out X0.out Y0.out L0.out N0.out L0.out N0.out EZL.out EDL.out EZL.out EDL.out HC0.out) ?_; rintro e w5 ⟨zn, dn, st, lens, Pn, cn, Qn, kn, rfl, r1, r2, hb⟩; replace V0 := Lib.hid (V0.out.below hb V0.out.lt); replace X0 := Lib.hid (X0.out.below hb); replace Y0 := Lib.hid (Y0.out.below hb); replace V1 := Lib.hid (V1.out.below hb V1.out.lt); replace X1 := Lib.hid (X1.out.below hb); replace Y1 := Lib.hid (Y1.out.below hb); replace V2 := Lib.hid (V2.out.below hb V2.out.lt); replace X2 := Lib.hid (X2.out.below hb); replace Y2 := Lib.hid (Y2.out.below hb); replace Zx := Lib.hid (Zx.out.below hb); replace Nx := Lib.hid (Nx.out.below hb); replace W7 := Lib.hid (W7.out.below hb W7.out.lt); replace B1 := Lib.hid (B1.out.trans (hb.mono B1.out.size)); have SN := Lib.hid st; have LZn := Lib.hid lens.1; have LDn := Lib.hid lens.2; have Zn := Lib.hid r1; have Nn := Lib.hid r2; clear st lens r1 r2; clear hb; have pc4 := Lib.hid trivial))
  clear pc4
  have LWW9 : Hid (w.heap.size + 2 < w5.heap.size ∧ h7 < w5.heap.size) := ⟨V2.out.lt, W7.out.lt⟩
  have hb : Below w5.heap.size w5 (w5.alloc (.cells #[.bool (decide (zn < 0)), .slice Pn (ofv zn.natAbs).length cn, .slice Qn (ofv dn).length kn] 26)) := ((Below.refl _ _).alloc (by first | exact Nat.le_refl _ | (simp; done) | (simp; omega)) _)
  replace V0 := Lib.hid (V0.out.below hb V0.out.lt)
  replace X0 := Lib.hid (X0.out.below hb)
  replace Y0 := Lib.hid (Y0.out.below hb)
  replace V1 := Lib.hid (V1.out.below hb V1.out.lt)
  replace X1 := Lib.hid (X1.out.below hb)
  replace Y1 := Lib.hid (Y1.out.below hb)
  replace V2 := Lib.hid (V2.out.below hb V2.out.lt)
  replace X2 := Lib.hid (X2.out.below hb)
  replace Y2 := Lib.hid (Y2.out.below hb)
  replace Zx := Lib.hid (Zx.out.below hb)
  replace Nx := Lib.hid (Nx.out.below hb)
  replace W7 := Lib.hid (W7.out.below hb W7.out.lt)
  replace Zn := Lib.hid (Zn.out.below hb)
  replace Nn := Lib.hid (Nn.out.below hb)
  replace B1 := Lib.hid (B1.out.trans (hb.mono B1.out.size))
  have W9 : Hid (Rb (w5.alloc (.cells #[.bool (decide (zn < 0)), .slice Pn (ofv zn.natAbs).length cn, .slice Qn (ofv dn).length kn] 26)) (w5.heap.size) (decide (zn < 0)) Pn (ofv zn.natAbs).length cn Qn (ofv dn).length kn) := (by have h := (Rb.new w5 (decide (zn < 0)) Pn (ofv zn.natAbs).length cn Qn (ofv dn).length kn); (try simp only [World.size_alloc] at h); exact h)
  clear hb
  generalize (w5.alloc (.cells #[.bool (decide (zn < 0)), .slice Pn (ofv zn.natAbs).length cn, .slice Qn (ofv dn).length kn] 26)) = w6 at *
  generalize w5.heap.size = h9 at *
  have sx := SX.out
  obtain ⟨⟨pl, ph, po⟩, gl⟩ := PP.out
  have one := smp_one SN.out (by omega) gl
  have EQN : Hid (zn = zl ∧ dn = dl) := by show _ ∧ _; omega
  have px : 0 < dx := by have := sx.p; omega
  have cl := canon_mk EZL.out EDL.out
  have ch := canon_mk EZH.out EDH.out
  have co := canon_mk EZO.out EDO.out
  obtain ⟨r1, er1⟩ : ∃ r : Int, sgR (mkRat z0 q0 - mkRat zx dx) = r := ⟨_, rfl⟩
  obtain ⟨r2, er2⟩ : ∃ r : Int, sgR (mkRat zx dx - mkRat z1 q1) = r := ⟨_, rfl⟩
  obtain ⟨r5, er5⟩ : ∃ r : Int, sgR (mkRat z2 q2 - mkRat z0 q0) = r := ⟨_, rfl⟩
  obtain ⟨r6, er6⟩ : ∃ r : Int, sgR (mkRat z2 q2 - mkRat z1 q1) = r := ⟨_, rfl⟩
  obtain ⟨xx, exx⟩ : ∃ r : Int, (dx : Int) = r := ⟨_, rfl⟩
  obtain ⟨xo, exo⟩ : ∃ r : Int, (do' : Int) = r := ⟨_, rfl⟩
  obtain ⟨ax, eax⟩ : ∃ r : Int, ((zx.natAbs : Nat) : Int) = r := ⟨_, rfl⟩
  obtain ⟨ao, eao⟩ : ∃ r : Int, ((zo.natAbs : Nat) : Int) = r := ⟨_, rfl⟩
  obtain ⟨r8, er8⟩ : ∃ r : Int, sg (xx - xo) = r := ⟨_, rfl⟩
  obtain ⟨r9, er9⟩ : ∃ r : Int, sg (ax - ao) = r := ⟨_, rfl⟩
  have v1 : sg (zl * dx - zx * dl) = r1 := by rw [← er1, cl, sgR_sub pl px]
  have v2 : sg (zx * dh - zh * dx) = r2 := by rw [← er2, ch, sgR_sub px ph]
  have v5 : sg (zo * dl - zl * do') = r5 := by rw [← er5, co, cl, sgR_sub po pl]
  have v6 : sg (zo * dh - zh * do') = r6 := by rw [← er6, co, ch, sgR_sub po ph]
  have np : ∀ r : Int, ¬ 0 < r → ∃ k : Nat, r = -(k : Int) := fun r h => ⟨r.natAbs, by omega⟩
  have nn : ∀ r : Int, ¬ r < 0 → ∃ k : Nat, r = (k : Int) := fun r h => ⟨r.natAbs, by omega⟩
  obtain ⟨k1, rfl⟩ := np r1 (by have := sx.lo; rcases sg_cases (zl * dx - zx * dl) with ⟨e, k⟩ | ⟨e, k⟩ | ⟨e, k⟩ <;> omega)
  obtain ⟨k2, rfl⟩ := np r2 (by have := sx.hi; rcases sg_cases (zx * dh - zh * dx) with ⟨e, k⟩ | ⟨e, k⟩ | ⟨e, k⟩ <;> omega)
  have c5 : r5 = -1 ∨ ∃ k : Nat, r5 = (k : Int) := by rcases sg_cases (zo * dl - zl * do') with ⟨e, k⟩ | ⟨e, k⟩ | ⟨e, k⟩ <;> first | exact .inl (by omega) | exact .inr (nn _ (by omega))
  have c6 : r6 = 1 ∨ ∃ k : Nat, r6 = -(k : Int) := by rcases sg_cases (zo * dh - zh * do') with ⟨e, k⟩ | ⟨e, k⟩ | ⟨e, k⟩ <;> first | exact .inl (by omega) | exact .inr (np _ (by omega))
  have fin : ¬ r5 < 0 → ¬ 0 < r6 → r8 = -1 ∨ (r8 = 0 ∧ ∃ k : Nat, r9 = -(k : Int)) := fun h5 h6 => by
    have k5 : zl * do' ≤ zo * dl := by rcases sg_cases (zo * dl - zl * do') with ⟨e, k⟩ | ⟨e, k⟩ | ⟨e, k⟩ <;> omega
    have k6 : zo * dh ≤ zh * do' := by rcases sg_cases (zo * dh - zh * do') with ⟨e, k⟩ | ⟨e, k⟩ | ⟨e, k⟩ <;> omega
    rcases sx.best zo do' (by omega) k5 k6 with b | ⟨b, b2⟩
    · left; rcases sg_cases (xx - xo) with ⟨e, k⟩ | ⟨e, k⟩ | ⟨e, k⟩ <;> omega
    · right
      refine ⟨by rcases sg_cases (xx - xo) with ⟨e, k⟩ | ⟨e, k⟩ | ⟨e, k⟩ <;> omega, np _ ?_⟩
      rcases sg_cases (ax - ao) with ⟨e, k⟩ | ⟨e, k⟩ | ⟨e, k⟩ <;> omega
  have ER1 := Lib.hid er1
  have ER2 := Lib.hid er2
  have ER5 := Lib.hid er5
  have ER6 := Lib.hid er6
  have ER8 := Lib.hid er8
  have ER9 := Lib.hid er9
  have EXX := Lib.hid exx
  have EXO := Lib.hid exo
  have EAX := Lib.hid eax
  have EAO := Lib.hid eao
  have LAX : Hid ((ofv ax.natAbs).length ≤ 100000000) := by show _ ≤ _; rw [← eax, Int.natAbs_natCast]; exact LZx.out
  have LAO : Hid ((ofv ao.natAbs).length ≤ 1048576) := by show _ ≤ _; rw [← eao, Int.natAbs_natCast]; exact LZo.out
  have FIN := Lib.hid fin
  clear sx pl ph po gl one px cl ch co er1 er2 er5 er6 er8 er9 exx exo eax eao v1 v2 v5 v6 np nn fin
  go_wp2_with fail
  have hb := below_drewN w6.heap.size w6 1
  replace V0 := Lib.hid (V0.out.below hb V0.out.lt)
  replace X0 := Lib.hid (X0.out.below hb)
  replace Y0 := Lib.hid (Y0.out.below hb)
  replace V1 := Lib.hid (V1.out.below hb V1.out.lt)
  replace X1 := Lib.hid (X1.out.below hb)
  replace Y1 := Lib.hid (Y1.out.below hb)
  replace V2 := Lib.hid (V2.out.below hb V2.out.lt)
  replace X2 := Lib.hid (X2.out.below hb)
  replace Y2 := Lib.hid (Y2.out.below hb)
  replace Zx := Lib.hid (Zx.out.below hb)
  replace Nx := Lib.hid (Nx.out.below hb)
  replace W7 := Lib.hid (W7.out.below hb W7.out.lt)
  replace Zn := Lib.hid (Zn.out.below hb)
  replace Nn := Lib.hid (Nn.out.below hb)
  replace W9 := Lib.hid (W9.out.below hb W9.out.lt)
  replace B1 := Lib.hid (B1.out.trans (hb.mono B1.out.size))
  clear hb
  refine wp_region_held_drew (S := fun w' => Rb w' w.heap.size b0 a0 len0 cap0 e0 n0 c0 ∧ Rb w' h7 (decide (zx < 0)) Px (ofv zx.natAbs).length cx Qx (ofv dx).length kx ∧ Rb w' (w.heap.size + 1) b1 a1 len1 cap1 e1 n1 c1 ∧ Rb w' h9 (decide (zn < 0)) Pn (ofv zn.natAbs).length cn Qn (ofv dn).length kn) (by kernel_rfl) ⟨V0.out, W7.out, V1.out, W9.out⟩ (fun hHeld => ?_)
  refine wpAnyH_ready (rs := [0]) (by kernel_rfl) (by simp) ?_
  refine AllReadyH.consL (o := _) rfl (fun K hK => ?_) AllReadyH.nil
  clear hHeld
  go_simp
  go_at_call 14
  refine Calls.mono (awake5_any _) ?_
  rintro e w7 ⟨rfl, hb⟩
  replace V0 := Lib.hid (V0.out.below hb V0.out.lt)
  replace X0 := Lib.hid (X0.out.below hb)
  replace Y0 := Lib.hid (Y0.out.below hb)
  replace V1 := Lib.hid (V1.out.below hb V1.out.lt)
  replace X1 := Lib.hid (X1.out.below hb)
  replace Y1 := Lib.hid (Y1.out.below hb)
  replace V2 := Lib.hid (V2.out.below hb V2.out.lt)
  replace X2 := Lib.hid (X2.out.below hb)
  replace Y2 := Lib.hid (Y2.out.below hb)
  replace Zx := Lib.hid (Zx.out.below hb)
  replace Nx := Lib.hid (Nx.out.below hb)
  replace W7 := Lib.hid (W7.out.below hb W7.out.lt)
  replace Zn := Lib.hid (Zn.out.below hb)
  replace Nn := Lib.hid (Nn.out.below hb)
  replace W9 := Lib.hid (W9.out.below hb W9.out.lt)
  replace B1 := Lib.hid (B1.out.trans (hb.mono B1.out.size))
  clear hb
  refine hK.out _ _ ⟨V0.out, W7.out, V1.out, W9.out⟩ (fun hHeld => ?_)
  clear hK K
  try simp only [Act.put, List.setIfInBounds_toArray, List.set_cons_zero, List.set_cons_succ]
  refine wpAnyH_takeL (i := 1) (oi := _) (v := ?_) rfl (by kernel_rfl) (by kernel_rfl) (by kernel_rfl) (fun _ _ _ h => h) (Or.inl ⟨by rfl, ?_⟩) hHeld ?_
  rotate_left
  · (intro w' hSw; (try dsimp only at hSw); go_simp; try (with_reducible rfl))
  try simp only [Act.put, List.setIfInBounds_toArray, List.set_cons_zero, List.set_cons_succ]
  refine wpAnyH_takeL (i := 2) (oi := _) (v := ?_) rfl (by kernel_rfl) (by kernel_rfl) (by kernel_rfl) (fun _ _ _ h => h) (Or.inl ⟨by rfl, ?_⟩) hHeld ?_
  rotate_left
  · (intro w' hSw; (try dsimp only at hSw); go_simp; try (with_reducible rfl))
  try simp only [Act.put, List.setIfInBounds_toArray, List.set_cons_zero, List.set_cons_succ]
  refine wpAnyH_takeL (i := 3) (oi := _) rfl (by kernel_rfl) (by kernel_rfl) (by kernel_rfl) (fun _ _ _ h => h) (yields_ldR (by rfl) _ rfl (by rfl) (fun _ hS => hS.1)) hHeld ?_
  try simp only [Act.put, List.setIfInBounds_toArray, List.set_cons_zero, List.set_cons_succ]
  refine wpAnyH_takeL (i := 4) (oi := _) rfl (by kernel_rfl) (by kernel_rfl) (by kernel_rfl) (fun _ _ _ h => h) (yields_ldR (by rfl) _ rfl (by rfl) (fun _ hS => hS.2.1)) hHeld ?_
  try simp only [Act.put, List.setIfInBounds_toArray, List.set_cons_zero, List.set_cons_succ]
  refine wpAnyH_ready (rs := [5]) (by kernel_rfl) (by simp) ?_
  refine AllReadyH.consL (o := _) rfl (fun K hK => ?_) AllReadyH.nil
  clear hHeld
  go_simp
  go_at_call 22
  refine Calls.mono (r3compare_any (r := _) X0.out Y0.out Zx.out.in_ (Nin.of_rd Nx.out) (Nat.le_trans L0.out (by decide)) (Nat.le_trans N0.out (by decide)) (Nat.le_trans LZx.out (by decide)) (Nat.le_trans LDx.out (by decide)) ER1.out) ?_
  rintro e w8 ⟨rfl, hb⟩
  replace V0 := Lib.hid (V0.out.below hb V0.out.lt)
  replace X0 := Lib.hid (X0.out.below hb)
  replace Y0 := Lib.hid (Y0.out.below hb)
  replace V1 := Lib.hid (V1.out.below hb V1.out.lt)
  replace X1 := Lib.hid (X1.out.below hb)
  replace Y1 := Lib.hid (Y1.out.below hb)
  replace V2 := Lib.hid (V2.out.below hb V2.out.lt)
  replace X2 := Lib.hid (X2.out.below hb)
  replace Y2 := Lib.hid (Y2.out.below hb)
  replace Zx := Lib.hid (Zx.out.below hb)
  replace Nx := Lib.hid (Nx.out.below hb)
  replace W7 := Lib.hid (W7.out.below hb W7.out.lt)
  replace Zn := Lib.hid (Zn.out.below hb)
  replace Nn := Lib.hid (Nn.out.below hb)
  replace W9 := Lib.hid (W9.out.below hb W9.out.lt)
  replace B1 := Lib.hid (B1.out.trans (hb.mono B1.out.size))
  clear hb
  refine hK.out _ _ ⟨V0.out, W7.out, V1.out, W9.out⟩ (fun hHeld => ?_)
  clear hK K
  try simp only [Act.put, List.setIfInBounds_toArray, List.set_cons_zero, List.set_cons_succ]
  refine wpAnyH_takeL (i := 6) (oi := _) (v := ?_) rfl (by kernel_rfl) (by kernel_rfl) (by kernel_rfl) (fun _ _ _ h => h) (Or.inl ⟨by rfl, ?_⟩) hHeld ?_
  rotate_left
  · (intro w' hSw; (try dsimp only at hSw); go_simp; try (with_reducible rfl))
  try simp only [Act.put, List.setIfInBounds_toArray, List.set_cons_zero, List.set_cons_succ]
  refine wpAnyH_takeL (i := 7) (oi := _) (v := ?_) rfl (by kernel_rfl) (by kernel_rfl) (by kernel_rfl) (fun _ _ _ h => h) (Or.inl ⟨by rfl, ?_⟩) hHeld ?_
  rotate_left
  · (intro w' hSw; (try dsimp only at hSw); go_simp; try (with_reducible rfl))
  try simp only [Act.put, List.setIfInBounds_toArray, List.set_cons_zero, List.set_cons_succ]
  refine wpAnyH_takeL (i := 8) (oi := _) (v := ?_) rfl (by kernel_rfl) (by kernel_rfl) (by kernel_rfl) (fun _ _ _ h => h) (Or.inl ⟨by rfl, ?_⟩) hHeld ?_
  rotate_left
  · (intro w' hSw; (try dsimp only at hSw); go_simp; try (with_reducible rfl))
  try simp only [Act.put, List.setIfInBounds_toArray, List.set_cons_zero, List.set_cons_succ]
  refine wpAnyH_takeL (i := 9) (oi := _) rfl (by kernel_rfl) (by kernel_rfl) (by kernel_rfl) (fun _ _ _ h => h) (yields_ldR (by rfl) _ rfl (by rfl) (fun _ hS => hS.2.1)) hHeld ?_
  try simp only [Act.put, List.setIfInBounds_toArray, List.set_cons_zero, List.set_cons_succ]
  refine wpAnyH_takeL (i := 10) (oi := _) rfl (by kernel_rfl) (by kernel_rfl) (by kernel_rfl) (fun _ _ _ h => h) (yields_ldR (by rfl) _ rfl (by rfl) (fun _ hS => hS.2.2.1)) hHeld ?_
  try simp only [Act.put, List.setIfInBounds_toArray, List.set_cons_zero, List.set_cons_succ]
  refine wpAnyH_ready (rs := [11]) (by kernel_rfl) (by simp) ?_
  refine AllReadyH.consL (o := _) rfl (fun K hK => ?_) AllReadyH.nil
  clear hHeld
  go_simp
  go_at_call 22
  refine Calls.mono (r3compare_any (r := _) Zx.out.in_ (Nin.of_rd Nx.out) X1.out Y1.out (Nat.le_trans LZx.out (by decide)) (Nat.le_trans LDx.out (by decide)) (Nat.le_trans L1.out (by decide)) (Nat.le_trans N1.out (by decide)) ER2.out) ?_
  rintro e w9 ⟨rfl, hb⟩
  replace V0 := Lib.hid (V0.out.below hb V0.out.lt)
  replace X0 := Lib.hid (X0.out.below hb)
  replace Y0 := Lib.hid (Y0.out.below hb)
  replace V1 := Lib.hid (V1.out.below hb V1.out.lt)
  replace X1 := Lib.hid (X1.out.below hb)
  replace Y1 := Lib.hid (Y1.out.below hb)
  replace V2 := Lib.hid (V2.out.below hb V2.out.lt)
  replace X2 := Lib.hid (X2.out.below hb)
  replace Y2 := Lib.hid (Y2.out.below hb)
  replace Zx := Lib.hid (Zx.out.below hb)
  replace Nx := Lib.hid (Nx.out.below hb)
  replace W7 := Lib.hid (W7.out.below hb W7.out.lt)
  replace Zn := Lib.hid (Zn.out.below hb)
  replace Nn := Lib.hid (Nn.out.below hb)
  replace W9 := Lib.hid (W9.out.below hb W9.out.lt)
  replace B1 := Lib.hid (B1.out.trans (hb.mono B1.out.size))
  clear hb
  refine hK.out _ _ ⟨V0.out, W7.out, V1.out, W9.out⟩ (fun hHeld => ?_)
  clear hK K
  try simp only [Act.put, List.setIfInBounds_toArray, List.set_cons_zero, List.set_cons_succ]
  refine wpAnyH_takeL (i := 12) (oi := _) (v := ?_) rfl (by kernel_rfl) (by kernel_rfl) (by kernel_rfl) (fun _ _ _ h => h) (Or.inl ⟨by rfl, ?_⟩) hHeld ?_
  rotate_left
  · (intro w' hSw; (try dsimp only at hSw); go_simp; try (with_reducible rfl))
  try simp only [Act.put, List.setIfInBounds_toArray, List.set_cons_zero, List.set_cons_succ]
  refine wpAnyH_takeL (i := 13) (oi := _) (v := ?_) rfl (by kernel_rfl) (by kernel_rfl) (by kernel_rfl) (fun _ _ _ h => h) (Or.inl ⟨by rfl, ?_⟩) hHeld ?_
  rotate_left
  · (intro w' hSw; (try dsimp only at hSw); go_simp; try (with_reducible rfl))
  try simp only [Act.put, List.setIfInBounds_toArray, List.set_cons_zero, List.set_cons_succ]
  refine wpAnyH_takeL (i := 14) (oi := _) (v := ?_) rfl (by kernel_rfl) (by kernel_rfl) (by kernel_rfl) (fun _ _ _ h => h) (Or.inl ⟨by rfl, ?_⟩) hHeld ?_
  rotate_left
  · (intro w' hSw; (try dsimp only at hSw); go_simp; try (with_reducible rfl))
  try simp only [Act.put, List.setIfInBounds_toArray, List.set_cons_zero, List.set_cons_succ]
  refine wpAnyH_takeL (i := 15) (oi := _) (v := ?_) rfl (by kernel_rfl) (by kernel_rfl) (by kernel_rfl) (fun _ _ _ h => h) (Or.inl ⟨by rfl, ?_⟩) hHeld ?_
  rotate_left
  · (intro w' hSw; (try dsimp only at hSw); go_simp; try (with_reducible rfl))
  try simp only [Act.put, List.setIfInBounds_toArray, List.set_cons_zero, List.set_cons_succ]
  refine wpAnyH_takeL (i := 16) (oi := _) (v := ?_) rfl (by kernel_rfl) (by kernel_rfl) (by kernel_rfl) (fun _ _ _ h => h) (Or.inl ⟨by rfl, ?_⟩) hHeld ?_
  rotate_left
  · (intro w' hSw; (try dsimp only at hSw); go_simp; try (with_reducible rfl))
  try simp only [Act.put, List.setIfInBounds_toArray, List.set_cons_zero, List.set_cons_succ]
  refine wpAnyH_takeL (i := 17) (oi := _) (v := ?_) rfl (by kernel_rfl) (by kernel_rfl) (by kernel_rfl) (fun _ _ _ h => h) (Or.inl ⟨by rfl, ?_⟩) hHeld ?_
  rotate_left
  · (intro w' hSw; (try dsimp only at hSw); go_simp; try (with_reducible rfl))
  try simp only [Act.put, List.setIfInBounds_toArray, List.set_cons_zero, List.set_cons_succ]
  refine wpAnyH_takeL (i := 18) (oi := _) (v := ?_) rfl (by kernel_rfl) (by kernel_rfl) (by kernel_rfl) (fun _ _ _ h => h) (Or.inl ⟨by rfl, ?_⟩) hHeld ?_
  rotate_left
  · (intro w' hSw; (try dsimp only at hSw); go_simp; try (with_reducible rfl))
  try simp only [Act.put, List.setIfInBounds_toArray, List.set_cons_zero, List.set_cons_succ]
  refine wpAnyH_takeL (i := 19) (oi := _) rfl (by kernel_rfl) (by kernel_rfl) (by kernel_rfl) (fun _ _ _ h => h) (yields_ldR (by rfl) _ rfl (by rfl) (fun _ hS => hS.2.2.2)) hHeld ?_
  try simp only [Act.put, List.setIfInBounds_toArray, List.set_cons_zero, List.set_cons_succ]
  refine wpAnyH_takeL (i := 20) (oi := _) rfl (by kernel_rfl) (by kernel_rfl) (by kernel_rfl) (fun _ _ _ h => h) (yields_ldR (by rfl) _ rfl (by rfl) (fun _ hS => hS.1)) hHeld ?_
  try simp only [Act.put, List.setIfInBounds_toArray, List.set_cons_zero, List.set_cons_succ]
  refine wpAnyH_ready (rs := [21]) (by kernel_rfl) (by simp) ?_
  refine AllReadyH.consL (o := _) rfl (fun K hK => ?_) AllReadyH.nil
  clear hHeld
  go_simp
  go_at_call 16
  refine Calls.mono (rnorm_any (z := zl) (d := dl) X0.out Y0.out (Nat.le_trans L0.out (by decide)) (Nat.le_trans N0.out (by decide)) EZL.out EDL.out) ?_
  rintro e w10 ⟨Pm, cm, Qm, km, rfl, ho, ho2, hb⟩
  replace V0 := Lib.hid (V0.out.below hb V0.out.lt)
  replace X0 := Lib.hid (X0.out.below hb)
  replace Y0 := Lib.hid (Y0.out.below hb)
  replace V1 := Lib.hid (V1.out.below hb V1.out.lt)
  replace X1 := Lib.hid (X1.out.below hb)
  replace Y1 := Lib.hid (Y1.out.below hb)
  replace V2 := Lib.hid (V2.out.below hb V2.out.lt)
  replace X2 := Lib.hid (X2.out.below hb)
  replace Y2 := Lib.hid (Y2.out.below hb)
  replace Zx := Lib.hid (Zx.out.below hb)
  replace Nx := Lib.hid (Nx.out.below hb)
  replace W7 := Lib.hid (W7.out.below hb W7.out.lt)
  replace Zn := Lib.hid (Zn.out.below hb)
  replace Nn := Lib.hid (Nn.out.below hb)
  replace W9 := Lib.hid (W9.out.below hb W9.out.lt)
  replace B1 := Lib.hid (B1.out.trans (hb.mono B1.out.size))
  have Zm := Lib.hid (Zo.of_own ho)
  have Nm := Lib.hid ho2.rd
  clear ho ho2
  clear hb
  refine hK.out _ _ ⟨V0.out, W7.out, V1.out, W9.out⟩ (fun hHeld => ?_)
  clear hK K
  try simp only [Act.put, List.setIfInBounds_toArray, List.set_cons_zero, List.set_cons_succ]
  refine wpAnyH_ready (rs := [22]) (by kernel_rfl) (by simp) ?_
  refine AllReadyH.consL (o := _) rfl (fun K hK => ?_) AllReadyH.nil
  clear hHeld
  go_simp
  go_at_call 15
  refine Calls.mono (r3equal_any (b := true) Zn.out Zm.out Nn.out Nm.out (by simpa using EQN.out)) ?_
  rintro e w11 ⟨rfl, hb⟩
  replace V0 := Lib.hid (V0.out.below hb V0.out.lt)
  replace X0 := Lib.hid (X0.out.below hb)
  replace Y0 := Lib.hid (Y0.out.below hb)
  replace V1 := Lib.hid (V1.out.below hb V1.out.lt)
  replace X1 := Lib.hid (X1.out.below hb)
  replace Y1 := Lib.hid (Y1.out.below hb)
  replace V2 := Lib.hid (V2.out.below hb V2.out.lt)
  replace X2 := Lib.hid (X2.out.below hb)
  replace Y2 := Lib.hid (Y2.out.below hb)
  replace Zx := Lib.hid (Zx.out.below hb)
  replace Nx := Lib.hid (Nx.out.below hb)
  replace W7 := Lib.hid (W7.out.below hb W7.out.lt)
  replace Zn := Lib.hid (Zn.out.below hb)
  replace Nn := Lib.hid (Nn.out.below hb)
  replace W9 := Lib.hid (W9.out.below hb W9.out.lt)
  replace Zm := Lib.hid (Zm.out.below hb)
  replace Nm := Lib.hid (Nm.out.below hb)
  replace B1 := Lib.hid (B1.out.trans (hb.mono B1.out.size))
  clear hb
  refine hK.out _ _ ⟨V0.out, W7.out, V1.out, W9.out⟩ (fun hHeld => ?_)
  clear hK K
  try simp only [Act.put, List.setIfInBounds_toArray, List.set_cons_zero, List.set_cons_succ]
  refine wpAnyH_takeL (i := 23) (oi := _) (v := ?_) rfl (by kernel_rfl) (by kernel_rfl) (by kernel_rfl) (fun _ _ _ h => h) (Or.inl ⟨by rfl, ?_⟩) hHeld ?_
  rotate_left
  · (intro w' hSw; (try dsimp only at hSw); go_simp; try (with_reducible rfl))
  try simp only [Act.put, List.setIfInBounds_toArray, List.set_cons_zero, List.set_cons_succ]
  refine wpAnyH_takeL (i := 24) (oi := _) (v := ?_) rfl (by kernel_rfl) (by kernel_rfl) (by kernel_rfl) (fun _ _ _ h => h) (Or.inl ⟨by rfl, ?_⟩) hHeld ?_
  rotate_left
  · (intro w' hSw; (try dsimp only at hSw); go_simp; try (with_reducible rfl))
  try simp only [Act.put, List.setIfInBounds_toArray, List.set_cons_zero, List.set_cons_succ]
  clear hHeld
  refine wpAnyH_done (by kernel_rfl) ?_ _
  rcases c5 with c5 | ⟨k5, c5⟩
  · subst c5
    clear FIN c6
    have pc0 := Lib.hid trivial
    go_wp2_with (first
      | (clear pc0; refine wpList_ldR (by rfl) _ rfl (by rfl) V2.out ?_; have pc1 := Lib.hid trivial)
      | (clear pc1; refine wpList_ldR (by rfl) _ rfl (by rfl) V0.out ?_; have pc2 := Lib.hid trivial)
      | (clear pc2; go_at_call 22; refine Calls.mono (r3compare_any (r := (-1)) X2.out Y2.out X0.out Y0.out (Nat.le_trans L2.out (by decide)) (Nat.le_trans N2.out (by decide)) (Nat.le_trans L0.out (by decide)) (Nat.le_trans N0.out (by decide)) ER5.out) ?_; rintro e w12 ⟨rfl, hb⟩; replace V0 := Lib.hid (V0.out.below hb V0.out.lt); replace X0 := Lib.hid (X0.out.below hb); replace Y0 := Lib.hid (Y0.out.below hb); replace V1 := Lib.hid (V1.out.below hb V1.out.lt); replace X1 := Lib.hid (X1.out.below hb); replace Y1 := Lib.hid (Y1.out.below hb); replace V2 := Lib.hid (V2.out.below hb V2.out.lt); replace X2 := Lib.hid (X2.out.below hb); replace Y2 := Lib.hid (Y2.out.below hb); replace Zx := Lib.hid (Zx.out.below hb); replace Nx := Lib.hid (Nx.out.below hb); replace W7 := Lib.hid (W7.out.below hb W7.out.lt); replace Zn := Lib.hid (Zn.out.below hb); replace Nn := Lib.hid (Nn.out.below hb); replace W9 := Lib.hid (W9.out.below hb W9.out.lt); replace Zm := Lib.hid (Zm.out.below hb); replace Nm := Lib.hid (Nm.out.below hb); replace B1 := Lib.hid (B1.out.trans (hb.mono B1.out.size)); clear hb; have pc3 := Lib.hid trivial))
    clear pc3
    go_ret
    exact ⟨rfl, B1.out⟩
  · subst c5
    rcases c6 with c6 | ⟨k6, c6⟩
    · subst c6
      clear FIN
      have pc0 := Lib.hid trivial
      go_wp2_with (first
        | (clear pc0; refine wpList_ldR (by rfl) _ rfl (by rfl) V2.out ?_; have pc1 := Lib.hid trivial)
        | (clear pc1; refine wpList_ldR (by rfl) _ rfl (by rfl) V0.out ?_; have pc2 := Lib.hid trivial)
        | (clear pc2; go_at_call 22; refine Calls.mono (r3compare_any (r := _) X2.out Y2.out X0.out Y0.out (Nat.le_trans L2.out (by decide)) (Nat.le_trans N2.out (by decide)) (Nat.le_trans L0.out (by decide)) (Nat.le_trans N0.out (by decide)) ER5.out) ?_; rintro e w13 ⟨rfl, hb⟩; replace V0 := Lib.hid (V0.out.below hb V0.out.lt); replace X0 := Lib.hid (X0.out.below hb); replace Y0 := Lib.hid (Y0.out.below hb); replace V1 := Lib.hid (V1.out.below hb V1.out.lt); replace X1 := Lib.hid (X1.out.below hb); replace Y1 := Lib.hid (Y1.out.below hb); replace V2 := Lib.hid (V2.out.below hb V2.out.lt); replace X2 := Lib.hid (X2.out.below hb); replace Y2 := Lib.hid (Y2.out.below hb); replace Zx := Lib.hid (Zx.out.below hb); replace Nx := Lib.hid (Nx.out.below hb); replace W7 := Lib.hid (W7.out.below hb W7.out.lt); replace Zn := Lib.hid (Zn.out.below hb); replace Nn := Lib.hid (Nn.out.below hb); replace W9 := Lib.hid (W9.out.below hb W9.out.lt); replace Zm := Lib.hid (Zm.out.below hb); replace Nm := Lib.hid (Nm.out.below hb); replace B1 := Lib.hid (B1.out.trans (hb.mono B1.out.size)); clear hb; have pc3 := Lib.hid trivial)
        | (clear pc3; refine wpList_ldR (by rfl) _ rfl (by rfl) V2.out ?_; have pc4 := Lib.hid trivial)
        | (clear pc4; refine wpList_ldR (by rfl) _ rfl (by rfl) V1.out ?_; have pc5 := Lib.hid trivial)
        | (clear pc5; go_at_call 22; refine Calls.mono (r3compare_any (r := 1) X2.out Y2.out X1.out Y1.out (Nat.le_trans L2.out (by decide)) (Nat.le_trans N2.out (by decide)) (Nat.le_trans L1.out (by decide)) (Nat.le_trans N1.out (by decide)) ER6.out) ?_; rintro e w14 ⟨rfl, hb⟩; replace V0 := Lib.hid (V0.out.below hb V0.out.lt); replace X0 := Lib.hid (X0.out.below hb); replace Y0 := Lib.hid (Y0.out.below hb); replace V1 := Lib.hid (V1.out.below hb V1.out.lt); replace X1 := Lib.hid (X1.out.below hb); replace Y1 := Lib.hid (Y1.out.below hb); replace V2 := Lib.hid (V2.out.below hb V2.out.lt); replace X2 := Lib.hid (X2.out.below hb); replace Y2 := Lib.hid (Y2.out.below hb); replace Zx := Lib.hid (Zx.out.below hb); replace Nx := Lib.hid (Nx.out.below hb); replace W7 := Lib.hid (W7.out.below hb W7.out.lt); replace Zn := Lib.hid (Zn.out.below hb); replace Nn := Lib.hid (Nn.out.below hb); replace W9 := Lib.hid (W9.out.below hb W9.out.lt); replace Zm := Lib.hid (Zm.out.below hb); replace Nm := Lib.hid (Nm.out.below hb); replace B1 := Lib.hid (B1.out.trans (hb.mono B1.out.size)); clear hb; have pc6 := Lib.hid trivial))
      clear pc6
      go_ret
      exact ⟨rfl, B1.out⟩
    · subst c6
      have fin := FIN.out (by omega) (by omega)
      clear FIN
      rcases fin with h8 | ⟨h8, k9, h9'⟩
      · subst h8
        have pc0 := Lib.hid trivial
        go_wp2_with (first
          | (clear pc0; refine wpList_ldR (by rfl) _ rfl (by rfl) V2.out ?_; have pc1 := Lib.hid trivial)
          | (clear pc1; refine wpList_ldR (by rfl) _ rfl (by rfl) V0.out ?_; have pc2 := Lib.hid trivial)
          | (clear pc2; go_at_call 22; refine Calls.mono (r3compare_any (r := _) X2.out Y2.out X0.out Y0.out (Nat.le_trans L2.out (by decide)) (Nat.le_trans N2.out (by decide)) (Nat.le_trans L0.out (by decide)) (Nat.le_trans N0.out (by decide)) ER5.out) ?_; rintro e w15 ⟨rfl, hb⟩; replace V0 := Lib.hid (V0.out.below hb V0.out.lt); replace X0 := Lib.hid (X0.out.below hb); replace Y0 := Lib.hid (Y0.out.below hb); replace V1 := Lib.hid (V1.out.below hb V1.out.lt); replace X1 := Lib.hid (X1.out.below hb); replace Y1 := Lib.hid (Y1.out.below hb); replace V2 := Lib.hid (V2.out.below hb V2.out.lt); replace X2 := Lib.hid (X2.out.below hb); replace Y2 := Lib.hid (Y2.out.below hb); replace Zx := Lib.hid (Zx.out.below hb); replace Nx := Lib.hid (Nx.out.below hb); replace W7 := Lib.hid (W7.out.below hb W7.out.lt); replace Zn := Lib.hid (Zn.out.below hb); replace Nn := Lib.hid (Nn.out.below hb); replace W9 := Lib.hid (W9.out.below hb W9.out.lt); replace Zm := Lib.hid (Zm.out.below hb); replace Nm := Lib.hid (Nm.out.below hb); replace B1 := Lib.hid (B1.out.trans (hb.mono B1.out.size)); clear hb; have pc3 := Lib.hid trivial)
          | (clear pc3; refine wpList_ldR (by rfl) _ rfl (by rfl) V2.out ?_; have pc4 := Lib.hid trivial)
          | (clear pc4; refine wpList_ldR (by rfl) _ rfl (by rfl) V1.out ?_; have pc5 := Lib.hid trivial)
          | (clear pc5; go_at_call 22; refine Calls.mono (r3compare_any (r := _) X2.out Y2.out X1.out Y1.out (Nat.le_trans L2.out (by decide)) (Nat.le_trans N2.out (by decide)) (Nat.le_trans L1.out (by decide)) (Nat.le_trans N1.out (by decide)) ER6.out) ?_; rintro e w16 ⟨rfl, hb⟩; replace V0 := Lib.hid (V0.out.below hb V0.out.lt); replace X0 := Lib.hid (X0.out.below hb); replace Y0 := Lib.hid (Y0.out.below hb); replace V1 := Lib.hid (V1.out.below hb V1.out.lt); replace X1 := Lib.hid (X1.out.below hb); replace Y1 := Lib.hid (Y1.out.below hb); replace V2 := Lib.hid (V2.out.below hb V2.out.lt); replace X2 := Lib.hid (X2.out.below hb); replace Y2 := Lib.hid (Y2.out.below hb); replace Zx := Lib.hid (Zx.out.below hb); replace Nx := Lib.hid (Nx.out.below hb); replace W7 := Lib.hid (W7.out.below hb W7.out.lt); replace Zn := Lib.hid (Zn.out.below hb); replace Nn := Lib.hid (Nn.out.below hb); replace W9 := Lib.hid (W9.out.below hb W9.out.lt); replace Zm := Lib.hid (Zm.out.below hb); replace Nm := Lib.hid (Nm.out.below hb); replace B1 := Lib.hid (B1.out.trans (hb.mono B1.out.size)); clear hb; have pc6 := Lib.hid trivial)
          | (clear pc6; refine wpList_ldR (by rfl) _ rfl (by rfl) V2.out ?_; have pc7 := Lib.hid trivial)
          | (clear pc7; go_at_call 16; refine Calls.mono (rnorm_any (z := zo) (d := do') X2.out Y2.out (Nat.le_trans L2.out (by decide)) (Nat.le_trans N2.out (by decide)) EZO.out EDO.out) ?_; rintro e w17 ⟨Po, co, Qo, ko, rfl, ho, ho2, hb⟩; replace V0 := Lib.hid (V0.out.below hb V0.out.lt); replace X0 := Lib.hid (X0.out.below hb); replace Y0 := Lib.hid (Y0.out.below hb); replace V1 := Lib.hid (V1.out.below hb V1.out.lt); replace X1 := Lib.hid (X1.out.below hb); replace Y1 := Lib.hid (Y1.out.below hb); replace V2 := Lib.hid (V2.out.below hb V2.out.lt); replace X2 := Lib.hid (X2.out.below hb); replace Y2 := Lib.hid (Y2.out.below hb); replace Zx := Lib.hid (Zx.out.below hb); replace Nx := Lib.hid (Nx.out.below hb); replace W7 := Lib.hid (W7.out.below hb W7.out.lt); replace Zn := Lib.hid (Zn.out.below hb); replace Nn := Lib.hid (Nn.out.below hb); replace W9 := Lib.hid (W9.out.below hb W9.out.lt); replace Zm := Lib.hid (Zm.out.below hb); replace Nm := Lib.hid (Nm.out.below hb); replace B1 := Lib.hid (B1.out.trans (hb.mono B1.out.size)); have Zo2 := Lib.hid (Zo.of_own ho); have No2 := Lib.hid ho2.rd; clear ho ho2; clear hb; have pc8 := Lib.hid trivial)
          | (clear pc8; have LW11 : Hid (h7 < w17.heap.size ∧ h9 < w17.heap.size) := ⟨W7.out.lt, W9.out.lt⟩; have hb : Below w17.heap.size w17 (w17.alloc (.cells #[.bool (decide (zo < 0)), .slice Po (ofv zo.natAbs).length co, .slice Qo (ofv do').length ko] 26)) := ((Below.refl _ _).alloc (by first | exact Nat.le_refl _ | (simp; done) | (simp; omega)) _); replace V0 := Lib.hid (V0.out.below hb V0.out.lt); replace X0 := Lib.hid (X0.out.below hb); replace Y0 := Lib.hid (Y0.out.below hb); replace V1 := Lib.hid (V1.out.below hb V1.out.lt); replace X1 := Lib.hid (X1.out.below hb); replace Y1 := Lib.hid (Y1.out.below hb); replace V2 := Lib.hid (V2.out.below hb V2.out.lt); replace X2 := Lib.hid (X2.out.below hb); replace Y2 := Lib.hid (Y2.out.below hb); replace Zx := Lib.hid (Zx.out.below hb); replace Nx := Lib.hid (Nx.out.below hb); replace W7 := Lib.hid (W7.out.below hb W7.out.lt); replace Zn := Lib.hid (Zn.out.below hb); replace Nn := Lib.hid (Nn.out.below hb); replace W9 := Lib.hid (W9.out.below hb W9.out.lt); replace Zm := Lib.hid (Zm.out.below hb); replace Nm := Lib.hid (Nm.out.below hb); replace Zo2 := Lib.hid (Zo2.out.below hb); replace No2 := Lib.hid (No2.out.below hb); replace B1 := Lib.hid (B1.out.trans (hb.mono B1.out.size)); have W11 : Hid (Rb (w17.alloc (.cells #[.bool (decide (zo < 0)), .slice Po (ofv zo.natAbs).length co, .slice Qo (ofv do').length ko] 26)) (w17.heap.size) (decide (zo < 0)) Po (ofv zo.natAbs).length co Qo (ofv do').length ko) := (by have h := (Rb.new w17 (decide (zo < 0)) Po (ofv zo.natAbs).length co Qo (ofv do').length ko); (try simp only [World.size_alloc] at h); exact h); clear hb; generalize (w17.alloc (.cells #[.bool (decide (zo < 0)), .slice Po (ofv zo.natAbs).length co, .slice Qo (ofv do').length ko] 26)) = w18 at *; generalize w17.heap.size = h11 at *; refine wpList_ldRd (by rfl) _ rfl (by rfl) W7.out ?_; have pc9 := Lib.hid trivial)
          | (clear pc9; refine wpList_ldRd (by rfl) _ rfl (by rfl) W11.out ?_; have pc10 := Lib.hid trivial)
          | (clear pc10; go_at_call 12; refine Calls.mono (rcompare_k (r := (-1)) ((Nin.of_rd Nx.out).int EXX.out) ((Nin.of_rd No2.out).int EXO.out) (Nat.le_trans LDx.out (by decide)) (Nat.le_trans LDo.out (by decide)) ER8.out) ?_; rintro e w19 ⟨rfl, hb⟩; replace V0 := Lib.hid (V0.out.below hb V0.out.lt); replace X0 := Lib.hid (X0.out.below hb); replace Y0 := Lib.hid (Y0.out.below hb); replace V1 := Lib.hid (V1.out.below hb V1.out.lt); replace X1 := Lib.hid (X1.out.below hb); replace Y1 := Lib.hid (Y1.out.below hb); replace V2 := Lib.hid (V2.out.below hb V2.out.lt); replace X2 := Lib.hid (X2.out.below hb); replace Y2 := Lib.hid (Y2.out.below hb); replace Zx := Lib.hid (Zx.out.below hb); replace Nx := Lib.hid (Nx.out.below hb); replace W7 := Lib.hid (W7.out.below hb W7.out.lt); replace Zn := Lib.hid (Zn.out.below hb); replace Nn := Lib.hid (Nn.out.below hb); replace W9 := Lib.hid (W9.out.below hb W9.out.lt); replace Zm := Lib.hid (Zm.out.below hb); replace Nm := Lib.hid (Nm.out.below hb); replace Zo2 := Lib.hid (Zo2.out.below hb); replace No2 := Lib.hid (No2.out.below hb); replace W11 := Lib.hid (W11.out.below hb W11.out.lt); replace B1 := Lib.hid (B1.out.trans (hb.mono B1.out.size)); clear hb; have pc11 := Lib.hid trivial))
        clear pc11
        go_wp2_with fail
        have hb := below_drewN w19.heap.size w19 1
        replace V0 := Lib.hid (V0.out.below hb V0.out.lt)
        replace X0 := Lib.hid (X0.out.below hb)
        replace Y0 := Lib.hid (Y0.out.below hb)
        replace V1 := Lib.hid (V1.out.below hb V1.out.lt)
        replace X1 := Lib.hid (X1.out.below hb)
        replace Y1 := Lib.hid (Y1.out.below hb)
        replace V2 := Lib.hid (V2.out.below hb V2.out.lt)
        replace X2 := Lib.hid (X2.out.below hb)
        replace Y2 := Lib.hid (Y2.out.below hb)
        replace Zx := Lib.hid (Zx.out.below hb)
        replace Nx := Lib.hid (Nx.out.below hb)
        replace W7 := Lib.hid (W7.out.below hb W7.out.lt)
        replace Zn := Lib.hid (Zn.out.below hb)
        replace Nn := Lib.hid (Nn.out.below hb)
        replace W9 := Lib.hid (W9.out.below hb W9.out.lt)
        replace Zm := Lib.hid (Zm.out.below hb)
        replace Nm := Lib.hid (Nm.out.below hb)
        replace Zo2 := Lib.hid (Zo2.out.below hb)
        replace No2 := Lib.hid (No2.out.below hb)
        replace W11 := Lib.hid (W11.out.below hb W11.out.lt)
        replace B1 := Lib.hid (B1.out.trans (hb.mono B1.out.size))
        clear hb
        refine wp_region_held_drew (S := fun w' => True) (by kernel_rfl) trivial (fun hHeld => ?_)
        refine wpAnyH_takeL (i := 0) (oi := _) (v := ?_) rfl (by kernel_rfl) (by kernel_rfl) (by kernel_rfl) (fun _ _ _ h => h) (Or.inl ⟨by rfl, ?_⟩) hHeld ?_
        rotate_left
        · (intro w' hSw; (try dsimp only at hSw); go_simp; try (with_reducible rfl))
        try simp only [Act.put, List.setIfInBounds_toArray, List.set_cons_zero, List.set_cons_succ]
        refine wpAnyH_takeL (i := 1) (oi := _) (v := ?_) rfl (by kernel_rfl) (by kernel_rfl) (by kernel_rfl) (fun _ _ _ h => h) (Or.inl ⟨by rfl, ?_⟩) hHeld ?_
        rotate_left
        · (intro w' hSw; (try dsimp only at hSw); go_simp; try (with_reducible rfl))
        try simp only [Act.put, List.setIfInBounds_toArray, List.set_cons_zero, List.set_cons_succ]
        refine wpAnyH_takeL (i := 2) (oi := _) (v := ?_) rfl (by kernel_rfl) (by kernel_rfl) (by kernel_rfl) (fun _ _ _ h => h) (Or.inl ⟨by rfl, ?_⟩) hHeld ?_
        rotate_left
        · (intro w' hSw; (try dsimp only at hSw); go_simp; try (with_reducible rfl))
        try simp only [Act.put, List.setIfInBounds_toArray, List.set_cons_zero, List.set_cons_succ]
        refine wpAnyH_takeL (i := 3) (oi := _) (v := undef) rfl (by kernel_rfl) (by kernel_rfl) (by kernel_rfl) (fun _ _ _ h => h) (Or.inr ⟨by rfl, rfl⟩) hHeld ?_
        try simp only [Act.put, List.setIfInBounds_toArray, List.set_cons_zero, List.set_cons_succ]
        refine wpAnyH_takeL (i := 4) (oi := _) (v := undef) rfl (by kernel_rfl) (by kernel_rfl) (by kernel_rfl) (fun _ _ _ h => h) (Or.inr ⟨by rfl, rfl⟩) hHeld ?_
        try simp only [Act.put, List.setIfInBounds_toArray, List.set_cons_zero, List.set_cons_succ]
        refine wpAnyH_takeL (i := 5) (oi := _) (v := undef) rfl (by kernel_rfl) (by kernel_rfl) (by kernel_rfl) (fun _ _ _ h => h) (Or.inr ⟨by rfl, rfl⟩) hHeld ?_
        try simp only [Act.put, List.setIfInBounds_toArray, List.set_cons_zero, List.set_cons_succ]
        refine wpAnyH_takeL (i := 6) (oi := _) (v := undef) rfl (by kernel_rfl) (by kernel_rfl) (by kernel_rfl) (fun _ _ _ h => h) (Or.inr ⟨by rfl, rfl⟩) hHeld ?_
        try simp only [Act.put, List.setIfInBounds_toArray, List.set_cons_zero, List.set_cons_succ]
        refine wpAnyH_takeL (i := 7) (oi := _) (v := undef) rfl (by kernel_rfl) (by kernel_rfl) (by kernel_rfl) (fun _ _ _ h => h) (Or.inr ⟨by rfl, rfl⟩) hHeld ?_
        try simp only [Act.put, List.setIfInBounds_toArray, List.set_cons_zero, List.set_cons_succ]
        refine wpAnyH_takeL (i := 8) (oi := _) (v := undef) rfl (by kernel_rfl) (by kernel_rfl) (by kernel_rfl) (fun _ _ _ h => h) (Or.inr ⟨by rfl, rfl⟩) hHeld ?_
        try simp only [Act.put, List.setIfInBounds_toArray, List.set_cons_zero, List.set_cons_succ]
        refine wpAnyH_takeL (i := 9) (oi := _) (v := undef) rfl (by kernel_rfl) (by kernel_rfl) (by kernel_rfl) (fun _ _ _ h => h) (Or.inr ⟨by rfl, rfl⟩) hHeld ?_
        try simp only [Act.put, List.setIfInBounds_toArray, List.set_cons_zero, List.set_cons_succ]
        refine wpAnyH_takeL (i := 10) (oi := _) (v := undef) rfl (by kernel_rfl) (by kernel_rfl) (by kernel_rfl) (fun _ _ _ h => h) (Or.inr ⟨by rfl, rfl⟩) hHeld ?_
        try simp only [Act.put, List.setIfInBounds_toArray, List.set_cons_zero, List.set_cons_succ]
        refine wpAnyH_takeL (i := 11) (oi := _) (v := undef) rfl (by kernel_rfl) (by kernel_rfl) (by kernel_rfl) (fun _ _ _ h => h) (Or.inr ⟨by rfl, rfl⟩) hHeld ?_
        try simp only [Act.put, List.setIfInBounds_toArray, List.set_cons_zero, List.set_cons_succ]
        refine wpAnyH_takeL (i := 12) (oi := _) (v := undef) rfl (by kernel_rfl) (by kernel_rfl) (by kernel_rfl) (fun _ _ _ h => h) (Or.inr ⟨by rfl, rfl⟩) hHeld ?_
        try simp only [Act.put, List.setIfInBounds_toArray, List.set_cons_zero, List.set_cons_succ]
        refine wpAnyH_takeL (i := 13) (oi := _) (v := undef) rfl (by kernel_rfl) (by kernel_rfl) (by kernel_rfl) (fun _ _ _ h => h) (Or.inr ⟨by rfl, rfl⟩) hHeld ?_
        try simp only [Act.put, List.setIfInBounds_toArray, List.set_cons_zero, List.set_cons_succ]
        refine wpAnyH_takeL (i := 14) (oi := _) (v := undef) rfl (by kernel_rfl) (by kernel_rfl) (by kernel_rfl) (fun _ _ _ h => h) (Or.inr ⟨by rfl, rfl⟩) hHeld ?_
        try simp only [Act.put, List.setIfInBounds_toArray, List.set_cons_zero, List.set_cons_succ]
        refine wpAnyH_takeL (i := 15) (oi := _) (v := ?_) rfl (by kernel_rfl) (by kernel_rfl) (by kernel_rfl) (fun _ _ _ h => h) (Or.inl ⟨by rfl, ?_⟩) hHeld ?_
        rotate_left
        · (intro w' hSw; (try dsimp only at hSw); go_simp; try (with_reducible rfl))
        try simp only [Act.put, List.setIfInBounds_toArray, List.set_cons_zero, List.set_cons_succ]
        refine wpAnyH_takeL (i := 16) (oi := _) (v := ?_) rfl (by kernel_rfl) (by kernel_rfl) (by kernel_rfl) (fun _ _ _ h => h) (Or.inl ⟨by rfl, ?_⟩) hHeld ?_
        rotate_left
        · (intro w' hSw; (try dsimp only at hSw); go_simp; try (with_reducible rfl))
        try simp only [Act.put, List.setIfInBounds_toArray, List.set_cons_zero, List.set_cons_succ]
        clear hHeld
        refine wpAnyH_done (by kernel_rfl) ?_ _
        go_wp2_with fail
        go_ret
        exact ⟨rfl, B1.out⟩
      · subst h8
        subst h9'
        have pc0 := Lib.hid trivial
        go_wp2_with (first
          | (clear pc0; refine wpList_ldR (by rfl) _ rfl (by rfl) V2.out ?_; have pc1 := Lib.hid trivial)
          | (clear pc1; refine wpList_ldR (by rfl) _ rfl (by rfl) V0.out ?_; have pc2 := Lib.hid trivial)
          | (clear pc2; go_at_call 22; refine Calls.mono (r3compare_any (r := _) X2.out Y2.out X0.out Y0.out (Nat.le_trans L2.out (by decide)) (Nat.le_trans N2.out (by decide)) (Nat.le_trans L0.out (by decide)) (Nat.le_trans N0.out (by decide)) ER5.out) ?_; rintro e w20 ⟨rfl, hb⟩; replace V0 := Lib.hid (V0.out.below hb V0.out.lt); replace X0 := Lib.hid (X0.out.below hb); replace Y0 := Lib.hid (Y0.out.below hb); replace V1 := Lib.hid (V1.out.below hb V1.out.lt); replace X1 := Lib.hid (X1.out.below hb); replace Y1 := Lib.hid (Y1.out.below hb); replace V2 := Lib.hid (V2.out.below hb V2.out.lt); replace X2 := Lib.hid (X2.out.below hb); replace Y2 := Lib.hid (Y2.out.below hb); replace Zx := Lib.hid (Zx.out.below hb); replace Nx := Lib.hid (Nx.out.below hb); replace W7 := Lib.hid (W7.out.below hb W7.out.lt); replace Zn := Lib.hid (Zn.out.below hb); replace Nn := Lib.hid (Nn.out.below hb); replace W9 := Lib.hid (W9.out.below hb W9.out.lt); replace Zm := Lib.hid (Zm.out.below hb); replace Nm := Lib.hid (Nm.out.below hb); replace B1 := Lib.hid (B1.out.trans (hb.mono B1.out.size)); clear hb; have pc3 := Lib.hid trivial)
          | (clear pc3; refine wpList_ldR (by rfl) _ rfl (by rfl) V2.out ?_; have pc4 := Lib.hid trivial)
          | (clear pc4; refine wpList_ldR (by rfl) _ rfl (by rfl) V1.out ?_; have pc5 := Lib.hid trivial)
          | (clear pc5; go_at_call 22; refine Calls.mono (r3compare_any (r := _) X2.out Y2.out X1.out Y1.out (Nat.le_trans L2.out (by decide)) (Nat.le_trans N2.out (by decide)) (Nat.le_trans L1.out (by decide)) (Nat.le_trans N1.out (by decide)) ER6.out) ?_; rintro e w21 ⟨rfl, hb⟩; replace V0 := Lib.hid (V0.out.below hb V0.out.lt); replace X0 := Lib.hid (X0.out.below hb); replace Y0 := Lib.hid (Y0.out.below hb); replace V1 := Lib.hid (V1.out.below hb V1.out.lt); replace X1 := Lib.hid (X1.out.below hb); replace Y1 := Lib.hid (Y1.out.below hb); replace V2 := Lib.hid (V2.out.below hb V2.out.lt); replace X2 := Lib.hid (X2.out.below hb); replace Y2 := Lib.hid (Y2.out.below hb); replace Zx := Lib.hid (Zx.out.below hb); replace Nx := Lib.hid (Nx.out.below hb); replace W7 := Lib.hid (W7.out.below hb W7.out.lt); replace Zn := Lib.hid (Zn.out.below hb); replace Nn := Lib.hid (Nn.out.below hb); replace W9 := Lib.hid (W9.out.below hb W9.out.lt); replace Zm := Lib.hid (Zm.out.below hb); replace Nm := Lib.hid (Nm.out.below hb); replace B1 := Lib.hid (B1.out.trans (hb.mono B1.out.size)); clear hb; have pc6 := Lib.hid trivial)
          | (clear pc6; refine wpList_ldR (by rfl) _ rfl (by rfl) V2.out ?_; have pc7 := Lib.hid trivial)
          | (clear pc7; go_at_call 16; refine Calls.mono (rnorm_any (z := zo) (d := do') X2.out Y2.out (Nat.le_trans L2.out (by decide)) (Nat.le_trans N2.out (by decide)) EZO.out EDO.out) ?_; rintro e w22 ⟨Po, co, Qo, ko, rfl, ho, ho2, hb⟩; replace V0 := Lib.hid (V0.out.below hb V0.out.lt); replace X0 := Lib.hid (X0.out.below hb); replace Y0 := Lib.hid (Y0.out.below hb); replace V1 := Lib.hid (V1.out.below hb V1.out.lt); replace X1 := Lib.hid (X1.out.below hb); replace Y1 := Lib.hid (Y1.out.below hb); replace V2 := Lib.hid (V2.out.below hb V2.out.lt); replace X2 := Lib.hid (X2.out.below hb); replace Y2 := Lib.hid (Y2.out.below hb); replace Zx := Lib.hid (Zx.out.below hb); replace Nx := Lib.hid (Nx.out.below hb); replace W7 := Lib.hid (W7.out.below hb W7.out.lt); replace Zn := Lib.hid (Zn.out.below hb); replace Nn := Lib.hid (Nn.out.below hb); replace W9 := Lib.hid (W9.out.below hb W9.out.lt); replace Zm := Lib.hid (Zm.out.below hb); replace Nm := Lib.hid (Nm.out.below hb); replace B1 := Lib.hid (B1.out.trans (hb.mono B1.out.size)); have Zo2 := Lib.hid (Zo.of_own ho); have No2 := Lib.hid ho2.rd; clear ho ho2; clear hb; have pc8 := Lib.hid trivial)
          | (clear pc8; have LW11 : Hid (h7 < w22.heap.size ∧ h9 < w22.heap.size) := ⟨W7.out.lt, W9.out.lt⟩; have hb : Below w22.heap.size w22 (w22.alloc (.cells #[.bool (decide (zo < 0)), .slice Po (ofv zo.natAbs).length co, .slice Qo (ofv do').length ko] 26)) := ((Below.refl _ _).alloc (by first | exact Nat.le_refl _ | (simp; done) | (simp; omega)) _); replace V0 := Lib.hid (V0.out.below hb V0.out.lt); replace X0 := Lib.hid (X0.out.below hb); replace Y0 := Lib.hid (Y0.out.below hb); replace V1 := Lib.hid (V1.out.below hb V1.out.lt); replace X1 := Lib.hid (X1.out.below hb); replace Y1 := Lib.hid (Y1.out.below hb); replace V2 := Lib.hid (V2.out.below hb V2.out.lt); replace X2 := Lib.hid (X2.out.below hb); replace Y2 := Lib.hid (Y2.out.below hb); replace Zx := Lib.hid (Zx.out.below hb); replace Nx := Lib.hid (Nx.out.below hb); replace W7 := Lib.hid (W7.out.below hb W7.out.lt); replace Zn := Lib.hid (Zn.out.below hb); replace Nn := Lib.hid (Nn.out.below hb); replace W9 := Lib.hid (W9.out.below hb W9.out.lt); replace Zm := Lib.hid (Zm.out.below hb); replace Nm := Lib.hid (Nm.out.below hb); replace Zo2 := Lib.hid (Zo2.out.below hb); replace No2 := Lib.hid (No2.out.below hb); replace B1 := Lib.hid (B1.out.trans (hb.mono B1.out.size)); have W11 : Hid (Rb (w22.alloc (.cells #[.bool (decide (zo < 0)), .slice Po (ofv zo.natAbs).length co, .slice Qo (ofv do').length ko] 26)) (w22.heap.size) (decide (zo < 0)) Po (ofv zo.natAbs).length co Qo (ofv do').length ko) := (by have h := (Rb.new w22 (decide (zo < 0)) Po (ofv zo.natAbs).length co Qo (ofv do').length ko); (try simp only [World.size_alloc] at h); exact h); clear hb; generalize (w22.alloc (.cells #[.bool (decide (zo < 0)), .slice Po (ofv zo.natAbs).length co, .slice Qo (ofv do').length ko] 26)) = w23 at *; generalize w22.heap.size = h11 at *; refine wpList_ldRd (by rfl) _ rfl (by rfl) W7.out ?_; have pc9 := Lib.hid trivial)
          | (clear pc9; refine wpList_ldRd (by rfl) _ rfl (by rfl) W11.out ?_; have pc10 := Lib.hid trivial)
          | (clear pc10; go_at_call 12; refine Calls.mono (rcompare_k (r := 0) ((Nin.of_rd Nx.out).int EXX.out) ((Nin.of_rd No2.out).int EXO.out) (Nat.le_trans LDx.out (by decide)) (Nat.le_trans LDo.out (by decide)) ER8.out) ?_; rintro e w24 ⟨rfl, hb⟩; replace V0 := Lib.hid (V0.out.below hb V0.out.lt); replace X0 := Lib.hid (X0.out.below hb); replace Y0 := Lib.hid (Y0.out.below hb); replace V1 := Lib.hid (V1.out.below hb V1.out.lt); replace X1 := Lib.hid (X1.out.below hb); replace Y1 := Lib.hid (Y1.out.below hb); replace V2 := Lib.hid (V2.out.below hb V2.out.lt); replace X2 := Lib.hid (X2.out.below hb); replace Y2 := Lib.hid (Y2.out.below hb); replace Zx := Lib.hid (Zx.out.below hb); replace Nx := Lib.hid (Nx.out.below hb); replace W7 := Lib.hid (W7.out.below hb W7.out.lt); replace Zn := Lib.hid (Zn.out.below hb); replace Nn := Lib.hid (Nn.out.below hb); replace W9 := Lib.hid (W9.out.below hb W9.out.lt); replace Zm := Lib.hid (Zm.out.below hb); replace Nm := Lib.hid (Nm.out.below hb); replace Zo2 := Lib.hid (Zo2.out.below hb); replace No2 := Lib.hid (No2.out.below hb); replace W11 := Lib.hid (W11.out.below hb W11.out.lt); replace B1 := Lib.hid (B1.out.trans (hb.mono B1.out.size)); clear hb; have pc11 := Lib.hid trivial))
        clear pc11
        go_wp2_with fail
        have hb := below_drewN w24.heap.size w24 1
        replace V0 := Lib.hid (V0.out.below hb V0.out.lt)
        replace X0 := Lib.hid (X0.out.below hb)
        replace Y0 := Lib.hid (Y0.out.below hb)
        replace V1 := Lib.hid (V1.out.below hb V1.out.lt)
        replace X1 := Lib.hid (X1.out.below hb)
        replace Y1 := Lib.hid (Y1.out.below hb)
        replace V2 := Lib.hid (V2.out.below hb V2.out.lt)
        replace X2 := Lib.hid (X2.out.below hb)
        replace Y2 := Lib.hid (Y2.out.below hb)
        replace Zx := Lib.hid (Zx.out.below hb)
        replace Nx := Lib.hid (Nx.out.below hb)
        replace W7 := Lib.hid (W7.out.below hb W7.out.lt)
        replace Zn := Lib.hid (Zn.out.below hb)
        replace Nn := Lib.hid (Nn.out.below hb)
        replace W9 := Lib.hid (W9.out.below hb W9.out.lt)
        replace Zm := Lib.hid (Zm.out.below hb)
        replace Nm := Lib.hid (Nm.out.below hb)
        replace Zo2 := Lib.hid (Zo2.out.below hb)
        replace No2 := Lib.hid (No2.out.below hb)
        replace W11 := Lib.hid (W11.out.below hb W11.out.lt)
        replace B1 := Lib.hid (B1.out.trans (hb.mono B1.out.size))
        clear hb
        refine wp_region_held_drew (S := fun w' => Rb w' h7 (decide (zx < 0)) Px (ofv zx.natAbs).length cx Qx (ofv dx).length kx ∧ Rb w' h11 (decide (zo < 0)) Po (ofv zo.natAbs).length co Qo (ofv do').length ko) (by kernel_rfl) ⟨W7.out, W11.out⟩ (fun hHeld => ?_)
        refine wpAnyH_takeL (i := 0) (oi := _) (v := ?_) rfl (by kernel_rfl) (by kernel_rfl) (by kernel_rfl) (fun _ _ _ h => h) (Or.inl ⟨by rfl, ?_⟩) hHeld ?_
        rotate_left
        · (intro w' hSw; (try dsimp only at hSw); go_simp; try (with_reducible rfl))
        try simp only [Act.put, List.setIfInBounds_toArray, List.set_cons_zero, List.set_cons_succ]
        refine wpAnyH_takeL (i := 1) (oi := _) (v := ?_) rfl (by kernel_rfl) (by kernel_rfl) (by kernel_rfl) (fun _ _ _ h => h) (Or.inl ⟨by rfl, ?_⟩) hHeld ?_
        rotate_left
        · (intro w' hSw; (try dsimp only at hSw); go_simp; try (with_reducible rfl))
        try simp only [Act.put, List.setIfInBounds_toArray, List.set_cons_zero, List.set_cons_succ]
        refine wpAnyH_takeL (i := 2) (oi := _) (v := ?_) rfl (by kernel_rfl) (by kernel_rfl) (by kernel_rfl) (fun _ _ _ h => h) (Or.inl ⟨by rfl, ?_⟩) hHeld ?_
        rotate_left
        · (intro w' hSw; (try dsimp only at hSw); go_simp; try (with_reducible rfl))
        try simp only [Act.put, List.setIfInBounds_toArray, List.set_cons_zero, List.set_cons_succ]
        refine wpAnyH_takeL (i := 3) (oi := _) (v := ?_) rfl (by kernel_rfl) (by kernel_rfl) (by kernel_rfl) (fun _ _ _ h => h) (Or.inl ⟨by rfl, ?_⟩) hHeld ?_
        rotate_left
        · (intro w' hSw; (try dsimp only at hSw); go_simp; try (with_reducible rfl))
        try simp only [Act.put, List.setIfInBounds_toArray, List.set_cons_zero, List.set_cons_succ]
        refine wpAnyH_takeL (i := 4) (oi := _) (v := ?_) rfl (by kernel_rfl) (by kernel_rfl) (by kernel_rfl) (fun _ _ _ h => h) (Or.inl ⟨by rfl, ?_⟩) hHeld ?_
        rotate_left
        · (intro w' hSw; (try dsimp only at hSw); go_simp; try (with_reducible rfl))
        try simp only [Act.put, List.setIfInBounds_toArray, List.set_cons_zero, List.set_cons_succ]
        refine wpAnyH_takeL (i := 5) (oi := _) (v := ?_) rfl (by kernel_rfl) (by kernel_rfl) (by kernel_rfl) (fun _ _ _ h => h) (Or.inl ⟨by rfl, ?_⟩) hHeld ?_
        rotate_left
        · (intro w' hSw; (try dsimp only at hSw); go_simp; try (with_reducible rfl))
        try simp only [Act.put, List.setIfInBounds_toArray, List.set_cons_zero, List.set_cons_succ]
        refine wpAnyH_takeL (i := 6) (oi := _) (v := ?_) rfl (by kernel_rfl) (by kernel_rfl) (by kernel_rfl) (fun _ _ _ h => h) (Or.inl ⟨by rfl, ?_⟩) hHeld ?_
        rotate_left
        · (intro w' hSw; (try dsimp only at hSw); go_simp; try (with_reducible rfl))
        try simp only [Act.put, List.setIfInBounds_toArray, List.set_cons_zero, List.set_cons_succ]
        refine wpAnyH_takeL (i := 7) (oi := _) rfl (by kernel_rfl) (by kernel_rfl) (by kernel_rfl) (fun _ _ _ h => h) (yields_ldRz (by rfl) _ rfl (by rfl) (fun _ hS => hS.1)) hHeld ?_
        try simp only [Act.put, List.setIfInBounds_toArray, List.set_cons_zero, List.set_cons_succ]
        refine wpAnyH_takeL (i := 9) (oi := _) (v := ?_) rfl (by kernel_rfl) (by kernel_rfl) (by kernel_rfl) (fun _ _ _ h => h) (Or.inl ⟨by rfl, ?_⟩) hHeld ?_
        rotate_left
        · (intro w' hSw; (try dsimp only at hSw); go_simp; try (with_reducible rfl))
        try simp only [Act.put, List.setIfInBounds_toArray, List.set_cons_zero, List.set_cons_succ]
        refine wpAnyH_takeL (i := 10) (oi := _) rfl (by kernel_rfl) (by kernel_rfl) (by kernel_rfl) (fun _ _ _ h => h) (yields_ldRz (by rfl) _ rfl (by rfl) (fun _ hS => hS.2)) hHeld ?_
        try simp only [Act.put, List.setIfInBounds_toArray, List.set_cons_zero, List.set_cons_succ]
        refine wpAnyH_ready (rs := [8]) (by kernel_rfl) (by simp) ?_
        refine AllReadyH.consL (o := _) rfl (fun K hK => ?_) AllReadyH.nil
        clear hHeld
        go_simp
        go_at_call 23
        refine Calls.mono (rabs_z (z := ax) Zx.out.in_ (Nat.le_trans LZx.out (by decide)) EAX.out) ?_
        rintro e w25 ⟨Pa, ca, rfl, ho, hb⟩
        replace V0 := Lib.hid (V0.out.below hb V0.out.lt)
        replace X0 := Lib.hid (X0.out.below hb)
        replace Y0 := Lib.hid (Y0.out.below hb)
        replace V1 := Lib.hid (V1.out.below hb V1.out.lt)
        replace X1 := Lib.hid (X1.out.below hb)
        replace Y1 := Lib.hid (Y1.out.below hb)
        replace V2 := Lib.hid (V2.out.below hb V2.out.lt)
        replace X2 := Lib.hid (X2.out.below hb)
        replace Y2 := Lib.hid (Y2.out.below hb)
        replace Zx := Lib.hid (Zx.out.below hb)
        replace Nx := Lib.hid (Nx.out.below hb)
        replace W7 := Lib.hid (W7.out.below hb W7.out.lt)
        replace Zn := Lib.hid (Zn.out.below hb)
        replace Nn := Lib.hid (Nn.out.below hb)
        replace W9 := Lib.hid (W9.out.below hb W9.out.lt)
        replace Zm := Lib.hid (Zm.out.below hb)
        replace Nm := Lib.hid (Nm.out.below hb)
        replace Zo2 := Lib.hid (Zo2.out.below hb)
        replace No2 := Lib.hid (No2.out.below hb)
        replace W11 := Lib.hid (W11.out.below hb W11.out.lt)
        replace B1 := Lib.hid (B1.out.trans (hb.mono B1.out.size))
        have Za := Lib.hid (Zo.of_own ho)
        clear ho
        clear hb
        refine hK.out _ _ ⟨W7.out, W11.out⟩ (fun hHeld => ?_)
        clear hK K
        try simp only [Act.put, List.setIfInBounds_toArray, List.set_cons_zero, List.set_cons_succ]
        refine wpAnyH_ready (rs := [11]) (by kernel_rfl) (by simp) ?_
        refine AllReadyH.consL (o := _) rfl (fun K hK => ?_) AllReadyH.nil
        clear hHeld
        go_simp
        go_at_call 23
        refine Calls.mono (rabs_z (z := ao) Zo2.out.in_ (Nat.le_trans LZo.out (by decide)) EAO.out) ?_
        rintro e w26 ⟨Pb, cb, rfl, ho, hb⟩
        replace V0 := Lib.hid (V0.out.below hb V0.out.lt)
        replace X0 := Lib.hid (X0.out.below hb)
        replace Y0 := Lib.hid (Y0.out.below hb)
        replace V1 := Lib.hid (V1.out.below hb V1.out.lt)
        replace X1 := Lib.hid (X1.out.below hb)
        replace Y1 := Lib.hid (Y1.out.below hb)
        replace V2 := Lib.hid (V2.out.below hb V2.out.lt)
        replace X2 := Lib.hid (X2.out.below hb)
        replace Y2 := Lib.hid (Y2.out.below hb)
        replace Zx := Lib.hid (Zx.out.below hb)
        replace Nx := Lib.hid (Nx.out.below hb)
        replace W7 := Lib.hid (W7.out.below hb W7.out.lt)
        replace Zn := Lib.hid (Zn.out.below hb)
        replace Nn := Lib.hid (Nn.out.below hb)
        replace W9 := Lib.hid (W9.out.below hb W9.out.lt)
        replace Zm := Lib.hid (Zm.out.below hb)
        replace Nm := Lib.hid (Nm.out.below hb)
        replace Zo2 := Lib.hid (Zo2.out.below hb)
        replace No2 := Lib.hid (No2.out.below hb)
        replace W11 := Lib.hid (W11.out.below hb W11.out.lt)
        replace Za := Lib.hid (Za.out.below hb)
        replace B1 := Lib.hid (B1.out.trans (hb.mono B1.out.size))
        have Zb2 := Lib.hid (Zo.of_own ho)
        clear ho
        clear hb
        refine hK.out _ _ ⟨W7.out, W11.out⟩ (fun hHeld => ?_)
        clear hK K
        try simp only [Act.put, List.setIfInBounds_toArray, List.set_cons_zero, List.set_cons_succ]
        refine wpAnyH_ready (rs := [12]) (by kernel_rfl) (by simp) ?_
        refine AllReadyH.consL (o := _) rfl (fun K hK => ?_) AllReadyH.nil
        clear hHeld
        go_simp
        go_at_call 12
        refine Calls.mono (rcompare_k Za.out.in_ Zb2.out.in_ (Nat.le_trans LAX.out (by decide)) (Nat.le_trans LAO.out (by decide)) ER9.out) ?_
        rintro e w27 ⟨rfl, hb⟩
        replace V0 := Lib.hid (V0.out.below hb V0.out.lt)
        replace X0 := Lib.hid (X0.out.below hb)
        replace Y0 := Lib.hid (Y0.out.below hb)
        replace V1 := Lib.hid (V1.out.below hb V1.out.lt)
        replace X1 := Lib.hid (X1.out.below hb)
        replace Y1 := Lib.hid (Y1.out.below hb)
        replace V2 := Lib.hid (V2.out.below hb V2.out.lt)
        replace X2 := Lib.hid (X2.out.below hb)
        replace Y2 := Lib.hid (Y2.out.below hb)
        replace Zx := Lib.hid (Zx.out.below hb)
        replace Nx := Lib.hid (Nx.out.below hb)
        replace W7 := Lib.hid (W7.out.below hb W7.out.lt)
        replace Zn := Lib.hid (Zn.out.below hb)
        replace Nn := Lib.hid (Nn.out.below hb)
        replace W9 := Lib.hid (W9.out.below hb W9.out.lt)
        replace Zm := Lib.hid (Zm.out.below hb)
        replace Nm := Lib.hid (Nm.out.below hb)
        replace Zo2 := Lib.hid (Zo2.out.below hb)
        replace No2 := Lib.hid (No2.out.below hb)
        replace W11 := Lib.hid (W11.out.below hb W11.out.lt)
        replace Za := Lib.hid (Za.out.below hb)
        replace Zb2 := Lib.hid (Zb2.out.below hb)
        replace B1 := Lib.hid (B1.out.trans (hb.mono B1.out.size))
        clear hb
        refine hK.out _ _ ⟨W7.out, W11.out⟩ (fun hHeld => ?_)
        clear hK K
        try simp only [Act.put, List.setIfInBounds_toArray, List.set_cons_zero, List.set_cons_succ]
        refine wpAnyH_takeL (i := 13) (oi := _) (v := ?_) rfl (by kernel_rfl) (by kernel_rfl) (by kernel_rfl) (fun _ _ _ h => h) (Or.inl ⟨by rfl, ?_⟩) hHeld ?_
        rotate_left
        · (intro w' hSw; (try dsimp only at hSw); go_simp; try (with_reducible rfl))
        try simp only [Act.put, List.setIfInBounds_toArray, List.set_cons_zero, List.set_cons_succ]
        refine wpAnyH_takeL (i := 14) (oi := _) (v := ?_) rfl (by kernel_rfl) (by kernel_rfl) (by kernel_rfl) (fun _ _ _ h => h) (Or.inl ⟨by rfl, ?_⟩) hHeld ?_
        rotate_left
        · (intro w' hSw; (try dsimp only at hSw); go_simp; try (with_reducible rfl))
        try simp only [Act.put, List.setIfInBounds_toArray, List.set_cons_zero, List.set_cons_succ]
        refine wpAnyH_takeL (i := 15) (oi := _) (v := ?_) rfl (by kernel_rfl) (by kernel_rfl) (by kernel_rfl) (fun _ _ _ h => h) (Or.inl ⟨by rfl, ?_⟩) hHeld ?_
        rotate_left
        · (intro w' hSw; (try dsimp only at hSw); go_simp; try (with_reducible rfl))
        try simp only [Act.put, List.setIfInBounds_toArray, List.set_cons_zero, List.set_cons_succ]
        refine wpAnyH_takeL (i := 16) (oi := _) (v := ?_) rfl (by kernel_rfl) (by kernel_rfl) (by kernel_rfl) (fun _ _ _ h => h) (Or.inl ⟨by rfl, ?_⟩) hHeld ?_
        rotate_left
        · (intro w' hSw; (try dsimp only at hSw); go_simp; try (with_reducible rfl))
        try simp only [Act.put, List.setIfInBounds_toArray, List.set_cons_zero, List.set_cons_succ]
        clear hHeld
        refine wpAnyH_done (by kernel_rfl) ?_ _
        go_wp2_with fail
        go_ret
        exact ⟨rfl, B1.out⟩
set_option maxRecDepth 100000 in
set_option maxHeartbeats 16000000 in
theorem approxSimpler_c (b0 : Bool) (a0 : Option Addr) (len0 cap0 : Nat) (z0 : Int) (e0 : Option Addr) (n0 c0 q0 : Nat) (b1 : Bool) (a1 : Option Addr) (len1 cap1 : Nat) (z1 : Int) (e1 : Option Addr) (n1 c1 q1 : Nat) (b2 : Bool) (a2 : Option Addr) (len2 cap2 : Nat) (z2 : Int) (e2 : Option Addr) (n2 c2 q2 : Nat) (w : World) (hx0 : Zin w b0 a0 len0 cap0 z0) (hl0 : len0 ≤ 1048576) (hp0 : Nin w e0 n0 c0 q0) (hn0 : n0 ≤ 1048576) (hx1 : Zin w b1 a1 len1 cap1 z1) (hl1 : len1 ≤ 1048576) (hp1 : Nin w e1 n1 c1 q1) (hn1 : n1 ≤ 1048576) (hx2 : Zin w b2 a2 len2 cap2 z2) (hl2 : len2 ≤ 1048576) (hp2 : Nin w e2 n2 c2 q2) (hn2 : n2 ≤ 1048576) (hc : sgR (mkRat z0 q0 - mkRat z1 q1) = 0) :
    Calls Tryz.prog 5 #[.agg #[.bool b0, .slice a0 len0 cap0, .slice e0 n0 c0], .agg #[.bool b1, .slice a1 len1 cap1, .slice e1 n1 c1], .agg #[.bool b2, .slice a2 len2 cap2, .slice e2 n2 c2]] w fun e w' => e = .returned (.bool true) ∧ Below w.heap.size w w' := by
  obtain ⟨B1, V0, V1, V2⟩ := start_ApproxSimpler w b0 a0 len0 cap0 e0 n0 c0 b1 a1 len1 cap1 e1 n1 c1 b2 a2 len2 cap2 e2 n2 c2
  have X0 := Lib.hid (hx0.below B1.out)
  have L0 := Lib.hid hl0
  have Y0 := Lib.hid (hp0.below B1.out)
  have N0 := Lib.hid hn0
  have X1 := Lib.hid (hx1.below B1.out)
  have L1 := Lib.hid hl1
  have Y1 := Lib.hid (hp1.below B1.out)
  have N1 := Lib.hid hn1
  have X2 := Lib.hid (hx2.below B1.out)
  have L2 := Lib.hid hl2
  have Y2 := Lib.hid (hp2.below B1.out)
  have N2 := Lib.hid hn2
  obtain ⟨zl, ezl⟩ : ∃ z : Int, (mkRat z0 q0).num = z := ⟨_, rfl⟩
  obtain ⟨dl, edl⟩ : ∃ z : Nat, (mkRat z0 q0).den = z := ⟨_, rfl⟩
  obtain ⟨zh, ezh⟩ : ∃ z : Int, (mkRat z1 q1).num = z := ⟨_, rfl⟩
  obtain ⟨dh, edh⟩ : ∃ z : Nat, (mkRat z1 q1).den = z := ⟨_, rfl⟩
  obtain ⟨zo, ezo⟩ : ∃ z : Int, (mkRat z2 q2).num = z := ⟨_, rfl⟩
  obtain ⟨do', edo⟩ : ∃ z : Nat, (mkRat z2 q2).den = z := ⟨_, rfl⟩
  obtain ⟨gl, pl⟩ := gcd_canon (mkRat z0 q0) ezl edl
  obtain ⟨gh, ph⟩ := gcd_canon (mkRat z1 q1) ezh edh
  obtain ⟨go, po⟩ := gcd_canon (mkRat z2 q2) ezo edo
  have rl := rl_mk (N := 1048576) (Nat.le_trans hx2.len hl2) (Nat.le_trans hp2.len hn2) (by decide)
  have LZo : Hid ((ofv zo.natAbs).length ≤ 1048576) := by show _ ≤ _; have h := rl.1; rw [ezo] at h; exact h
  have LDo : Hid ((ofv do').length ≤ 1048576) := by show _ ≤ _; have h := rl.2; rw [edo] at h; exact h
  have EZL := Lib.hid ezl
  have EDL := Lib.hid edl
  have EZH := Lib.hid ezh
  have EDH := Lib.hid edh
  have EZO := Lib.hid ezo
  have EDO := Lib.hid edo
  have PP : Hid ((0 < dl ∧ 0 < dh ∧ 0 < do') ∧ Int.gcd zl dl = 1) := ⟨⟨pl, ph, po⟩, gl⟩
  have HC := Lib.hid hc
  have HC0 : Hid (sgR (mkRat z0 q0 - mkRat z0 q0) = 0) := by show _ = _; rw [sgR_zero]; exact Rat.sub_self
  clear hx0 hl0 hp0 hn0 hx1 hl1 hp1 hn1 hx2 hl2 hp2 hn2 hc rl ezl edl ezh edh ezo edo gl pl gh ph go po
  go_enter Tryz.func5, Tryz.ntmps5
  go_wp2_with fail
  generalize (((w.alloc (.cells #[.bool b0, .slice a0 len0 cap0, .slice e0 n0 c0] 26)).alloc (.cells #[.bool b1, .slice a1 len1 cap1, .slice e1 n1 c1] 26)).alloc (.cells #[.bool b2, .slice a2 len2 cap2, .slice e2 n2 c2] 26)) = w2 at *
  have pc0 := Lib.hid trivial
  go_wp2_with (first
    | (clear pc0; go_at_call 20; refine Calls.mono (simplest_yesb (zl := zl) (zh := zh) (dl := dl) (dh := dh) X0.out Y0.out X1.out Y1.out L0.out N0.out L1.out N1.out EZL.out EDL.out EZH.out EDH.out HC.out) ?_; rintro e w3 ⟨zx, dx, st, lens, Px, cx, Qx, kx, rfl, r1, r2, hb⟩; replace V0 := Lib.hid (V0.out.below hb V0.out.lt); replace X0 := Lib.hid (X0.out.below hb); replace Y0 := Lib.hid (Y0.out.below hb); replace V1 := Lib.hid (V1.out.below hb V1.out.lt); replace X1 := Lib.hid (X1.out.below hb); replace Y1 := Lib.hid (Y1.out.below hb); replace V2 := Lib.hid (V2.out.below hb V2.out.lt); replace X2 := Lib.hid (X2.out.below hb); replace Y2 := Lib.hid (Y2.out.below hb); replace B1 := Lib.hid (B1.out.trans (hb.mono B1.out.size)); have SX := Lib.hid st; have LZx := Lib.hid lens.1; have LDx := Lib.hid lens.2; have Zx := Lib.hid r1; have Nx := Lib.hid r2; clear st lens r1 r2; clear hb; have pc1 := Lib.hid trivial)
    | (clear pc1; have LWW7 : Hid (w.heap.size + 2 < w3.heap.size) := V2.out.lt; have hb : Below w3.heap.size w3 (w3.alloc (.cells #[.bool (decide (zx < 0)), .slice Px (ofv zx.natAbs).length cx, .slice Qx (ofv dx).length kx] 26)) := ((Below.refl _ _).alloc (by first | exact Nat.le_refl _ | (simp; done) | (simp; omega)) _); replace V0 := Lib.hid (V0.out.below hb V0.out.lt); replace X0 := Lib.hid (X0.out.below hb); replace Y0 := Lib.hid (Y0.out.below hb); replace V1 := Lib.hid (V1.out.below hb V1.out.lt); replace X1 := Lib.hid (X1.out.below hb); replace Y1 := Lib.hid (Y1.out.below hb); replace V2 := Lib.hid (V2.out.below hb V2.out.lt); replace X2 := Lib.hid (X2.out.below hb); replace Y2 := Lib.hid (Y2.out.below hb); replace Zx := Lib.hid (Zx.out.below hb); replace Nx := Lib.hid (Nx.out.below hb); replace B1 := Lib.hid (B1.out.trans (hb.mono B1.out.size)); have W7 : Hid (Rb (w3.alloc (.cells #[.bool (decide (zx < 0)), .slice Px (ofv zx.natAbs).length cx, .slice Qx (ofv dx).length kx] 26)) (w3.heap.size) (decide (zx < 0)) Px (ofv zx.natAbs).length cx Qx (ofv dx).length kx) := (by have h := (Rb.new w3 (decide (zx < 0)) Px (ofv zx.natAbs).length cx Qx (ofv dx).length kx); (try simp only [World.size_alloc] at h); exact h); clear hb; generalize (w3.alloc (.cells #[.bool (decide (zx < 0)), .slice Px (ofv zx.natAbs).length cx, .slice Qx (ofv dx).length kx] 26)) = w4 at *; generalize w3.heap.size = h7 at *; refine wpList_ldR (by rfl) _ rfl (by rfl) V0.out ?_; have pc2 := Lib.hid trivial)
    | (clear pc2; refine wpList_ldR (by rfl) _ rfl (by rfl) V0.out ?_; have pc3 := Lib.hid trivial)
    | (clear pc3; go_at_call 20; refine Calls.mono (simplest_yesb (zl := zl) (zh := zl) (dl := dl) (dh := dl) X0.out Y0.out X0.out Y0.out L0.out N0.out L0.out N0.out EZL.out EDL.out EZL.out EDL.out HC0.out) ?_; rintro e w5 ⟨zn, dn, st, lens, Pn, cn, Qn, kn, rfl, r1, r2, hb⟩; replace V0 := Lib.hid (V0.out.below hb V0.out.lt); replace X0 := Lib.hid (X0.out.below hb); replace Y0 := Lib.hid (Y0.out.below hb); replace V1 := Lib.hid (V1.out.below hb V1.out.lt); replace X1 := Lib.hid (X1.out.below hb); replace Y1 := Lib.hid (Y1.out.below hb); replace V2 := Lib.hid (V2.out.below hb V2.out.lt); replace X2 := Lib.hid (X2.out.below hb); replace Y2 := Lib.hid (Y2.out.below hb); replace Zx := Lib.hid (Zx.out.below hb); replace Nx := Lib.hid (Nx.out.below hb); replace W7 := Lib.hid (W7.out.below hb W7.out.lt); replace B1 := Lib.hid (B1.out.trans (hb.mono B1.out.size)); have SN := Lib.hid st; have LZn := Lib.hid lens.1; have LDn := Lib.hid lens.2; have Zn := Lib.hid r1; have Nn := Lib.hid r2; clear st lens r1 r2; clear hb; have pc4 := Lib.hid trivial))
  clear pc4
  have LWW9 : Hid (w.heap.size + 2 < w5.heap.size ∧ h7 < w5.heap.size) := ⟨V2.out.lt, W7.out.lt⟩
  have hb : Below w5.heap.size w5 (w5.alloc (.cells #[.bool (decide (zn < 0)), .slice Pn (ofv zn.natAbs).length cn, .slice Qn (ofv dn).length kn] 26)) := ((Below.refl _ _).alloc (by first | exact Nat.le_refl _ | (simp; done) | (simp; omega)) _)
  replace V0 := Lib.hid (V0.out.below hb V0.out.lt)
  replace X0 := Lib.hid (X0.out.below hb)
  replace Y0 := Lib.hid (Y0.out.below hb)
  replace V1 := Lib.hid (V1.out.below hb V1.out.lt)
  replace X1 := Lib.hid (X1.out.below hb)
  replace Y1 := Lib.hid (Y1.out.below hb)
  replace V2 := Lib.hid (V2.out.below hb V2.out.lt)
  replace X2 := Lib.hid (X2.out.below hb)
  replace Y2 := Lib.hid (Y2.out.below hb)
  replace Zx := Lib.hid (Zx.out.below hb)
  replace Nx := Lib.hid (Nx.out.below hb)
  replace W7 := Lib.hid (W7.out.below hb W7.out.lt)
  replace Zn := Lib.hid (Zn.out.below hb)
  replace Nn := Lib.hid (Nn.out.below hb)
  replace B1 := Lib.hid (B1.out.trans (hb.mono B1.out.size))
  have W9 : Hid (Rb (w5.alloc (.cells #[.bool (decide (zn < 0)), .slice Pn (ofv zn.natAbs).length cn, .slice Qn (ofv dn).length kn] 26)) (w5.heap.size) (decide (zn < 0)) Pn (ofv zn.natAbs).length cn Qn (ofv dn).length kn) := (by have h := (Rb.new w5 (decide (zn < 0)) Pn (ofv zn.natAbs).length cn Qn (ofv dn).length kn); (try simp only [World.size_alloc] at h); exact h)
  clear hb
  generalize (w5.alloc (.cells #[.bool (decide (zn < 0)), .slice Pn (ofv zn.natAbs).length cn, .slice Qn (ofv dn).length kn] 26)) = w6 at *
  generalize w5.heap.size = h9 at *
  have sx := SX.out
  obtain ⟨⟨pl, ph, po⟩, gl⟩ := PP.out
  have one := smp_one SN.out (by omega) gl
  have EQN : Hid (zn = zl ∧ dn = dl) := by show _ ∧ _; omega
  have px : 0 < dx := by have := sx.p; omega
  have cl := canon_mk EZL.out EDL.out
  have ch := canon_mk EZH.out EDH.out
  have co := canon_mk EZO.out EDO.out
  obtain ⟨r1, er1⟩ : ∃ r : Int, sgR (mkRat z0 q0 - mkRat zx dx) = r := ⟨_, rfl⟩
  obtain ⟨r2, er2⟩ : ∃ r : Int, sgR (mkRat zx dx - mkRat z1 q1) = r := ⟨_, rfl⟩
  obtain ⟨r5, er5⟩ : ∃ r : Int, sgR (mkRat z2 q2 - mkRat z0 q0) = r := ⟨_, rfl⟩
  obtain ⟨r6, er6⟩ : ∃ r : Int, sgR (mkRat z2 q2 - mkRat z1 q1) = r := ⟨_, rfl⟩
  obtain ⟨xx, exx⟩ : ∃ r : Int, (dx : Int) = r := ⟨_, rfl⟩
  obtain ⟨xo, exo⟩ : ∃ r : Int, (do' : Int) = r := ⟨_, rfl⟩
  obtain ⟨ax, eax⟩ : ∃ r : Int, ((zx.natAbs : Nat) : Int) = r := ⟨_, rfl⟩
  obtain ⟨ao, eao⟩ : ∃ r : Int, ((zo.natAbs : Nat) : Int) = r := ⟨_, rfl⟩
  obtain ⟨r8, er8⟩ : ∃ r : Int, sg (xx - xo) = r := ⟨_, rfl⟩
  obtain ⟨r9, er9⟩ : ∃ r : Int, sg (ax - ao) = r := ⟨_, rfl⟩
  have v1 : sg (zl * dx - zx * dl) = r1 := by rw [← er1, cl, sgR_sub pl px]
  have v2 : sg (zx * dh - zh * dx) = r2 := by rw [← er2, ch, sgR_sub px ph]
  have v5 : sg (zo * dl - zl * do') = r5 := by rw [← er5, co, cl, sgR_sub po pl]
  have v6 : sg (zo * dh - zh * do') = r6 := by rw [← er6, co, ch, sgR_sub po ph]
  have np : ∀ r : Int, ¬ 0 < r → ∃ k : Nat, r = -(k : Int) := fun r h => ⟨r.natAbs, by omega⟩
  have nn : ∀ r : Int, ¬ r < 0 → ∃ k : Nat, r = (k : Int) := fun r h => ⟨r.natAbs, by omega⟩
  obtain ⟨k1, rfl⟩ := np r1 (by have := sx.lo; rcases sg_cases (zl * dx - zx * dl) with ⟨e, k⟩ | ⟨e, k⟩ | ⟨e, k⟩ <;> omega)
  obtain ⟨k2, rfl⟩ := np r2 (by have := sx.hi; rcases sg_cases (zx * dh - zh * dx) with ⟨e, k⟩ | ⟨e, k⟩ | ⟨e, k⟩ <;> omega)
  have c5 : r5 = -1 ∨ ∃ k : Nat, r5 = (k : Int) := by rcases sg_cases (zo * dl - zl * do') with ⟨e, k⟩ | ⟨e, k⟩ | ⟨e, k⟩ <;> first | exact .inl (by omega) | exact .inr (nn _ (by omega))
  have c6 : r6 = 1 ∨ ∃ k : Nat, r6 = -(k : Int) := by rcases sg_cases (zo * dh - zh * do') with ⟨e, k⟩ | ⟨e, k⟩ | ⟨e, k⟩ <;> first | exact .inl (by omega) | exact .inr (np _ (by omega))
  have fin : ¬ r5 < 0 → ¬ 0 < r6 → r8 = -1 ∨ (r8 = 0 ∧ ∃ k : Nat, r9 = -(k : Int)) := fun h5 h6 => by
    have k5 : zl * do' ≤ zo * dl := by rcases sg_cases (zo * dl - zl * do') with ⟨e, k⟩ | ⟨e, k⟩ | ⟨e, k⟩ <;> omega
    have k6 : zo * dh ≤ zh * do' := by rcases sg_cases (zo * dh - zh * do') with ⟨e, k⟩ | ⟨e, k⟩ | ⟨e, k⟩ <;> omega
    rcases sx.best zo do' (by omega) k5 k6 with b | ⟨b, b2⟩
    · left; rcases sg_cases (xx - xo) with ⟨e, k⟩ | ⟨e, k⟩ | ⟨e, k⟩ <;> omega
    · right
      refine ⟨by rcases sg_cases (xx - xo) with ⟨e, k⟩ | ⟨e, k⟩ | ⟨e, k⟩ <;> omega, np _ ?_⟩
      rcases sg_cases (ax - ao) with ⟨e, k⟩ | ⟨e, k⟩ | ⟨e, k⟩ <;> omega
  have ER1 := Lib.hid er1
  have ER2 := Lib.hid er2
  have ER5 := Lib.hid er5
  have ER6 := Lib.hid er6
  have ER8 := Lib.hid er8
  have ER9 := Lib.hid er9
  have EXX := Lib.hid exx
  have EXO := Lib.hid exo
  have EAX := Lib.hid eax
  have EAO := Lib.hid eao
  have LAX : Hid ((ofv ax.natAbs).length ≤ 100000000) := by show _ ≤ _; rw [← eax, Int.natAbs_natCast]; exact LZx.out
  have LAO : Hid ((ofv ao.natAbs).length ≤ 1048576) := by show _ ≤ _; rw [← eao, Int.natAbs_natCast]; exact LZo.out
  have FIN := Lib.hid fin
  clear sx pl ph po gl one px cl ch co er1 er2 er5 er6 er8 er9 exx exo eax eao v1 v2 v5 v6 np nn fin
  go_wp2_with fail
  have hb := below_drewN w6.heap.size w6 1
  replace V0 := Lib.hid (V0.out.below hb V0.out.lt)
  replace X0 := Lib.hid (X0.out.below hb)
  replace Y0 := Lib.hid (Y0.out.below hb)
  replace V1 := Lib.hid (V1.out.below hb V1.out.lt)
  replace X1 := Lib.hid (X1.out.below hb)
  replace Y1 := Lib.hid (Y1.out.below hb)
  replace V2 := Lib.hid (V2.out.below hb V2.out.lt)
  replace X2 := Lib.hid (X2.out.below hb)
  replace Y2 := Lib.hid (Y2.out.below hb)
  replace Zx := Lib.hid (Zx.out.below hb)
  replace Nx := Lib.hid (Nx.out.below hb)
  replace W7 := Lib.hid (W7.out.below hb W7.out.lt)
  replace Zn := Lib.hid (Zn.out.below hb)
  replace Nn := Lib.hid (Nn.out.below hb)
  replace W9 := Lib.hid (W9.out.below hb W9.out.lt)
  replace B1 := Lib.hid (B1.out.trans (hb.mono B1.out.size))
  clear hb
  refine wp_region_held_drew (S := fun w' => Rb w' w.heap.size b0 a0 len0 cap0 e0 n0 c0 ∧ Rb w' h7 (decide (zx < 0)) Px (ofv zx.natAbs).length cx Qx (ofv dx).length kx ∧ Rb w' (w.heap.size + 1) b1 a1 len1 cap1 e1 n1 c1 ∧ Rb w' h9 (decide (zn < 0)) Pn (ofv zn.natAbs).length cn Qn (ofv dn).length kn) (by kernel_rfl) ⟨V0.out, W7.out, V1.out, W9.out⟩ (fun hHeld => ?_)
  refine wpAnyH_ready (rs := [0]) (by kernel_rfl) (by simp) ?_
  refine AllReadyH.consL (o := _) rfl (fun K hK => ?_) AllReadyH.nil
  clear hHeld
  go_simp
  go_at_call 14
  refine Calls.mono (awake5_any _) ?_
  rintro e w7 ⟨rfl, hb⟩
  replace V0 := Lib.hid (V0.out.below hb V0.out.lt)
  replace X0 := Lib.hid (X0.out.below hb)
  replace Y0 := Lib.hid (Y0.out.below hb)
  replace V1 := Lib.hid (V1.out.below hb V1.out.lt)
  replace X1 := Lib.hid (X1.out.below hb)
  replace Y1 := Lib.hid (Y1.out.below hb)
  replace V2 := Lib.hid (V2.out.below hb V2.out.lt)
  replace X2 := Lib.hid (X2.out.below hb)
  replace Y2 := Lib.hid (Y2.out.below hb)
  replace Zx := Lib.hid (Zx.out.below hb)
  replace Nx := Lib.hid (Nx.out.below hb)
  replace W7 := Lib.hid (W7.out.below hb W7.out.lt)
  replace Zn := Lib.hid (Zn.out.below hb)
  replace Nn := Lib.hid (Nn.out.below hb)
  replace W9 := Lib.hid (W9.out.below hb W9.out.lt)
  replace B1 := Lib.hid (B1.out.trans (hb.mono B1.out.size))
  clear hb
  refine hK.out _ _ ⟨V0.out, W7.out, V1.out, W9.out⟩ (fun hHeld => ?_)
  clear hK K
  try simp only [Act.put, List.setIfInBounds_toArray, List.set_cons_zero, List.set_cons_succ]
  refine wpAnyH_takeL (i := 1) (oi := _) (v := ?_) rfl (by kernel_rfl) (by kernel_rfl) (by kernel_rfl) (fun _ _ _ h => h) (Or.inl ⟨by rfl, ?_⟩) hHeld ?_
  rotate_left
  · (intro w' hSw; (try dsimp only at hSw); go_simp; try (with_reducible rfl))
  try simp only [Act.put, List.setIfInBounds_toArray, List.set_cons_zero, List.set_cons_succ]
  refine wpAnyH_takeL (i := 2) (oi := _) (v := ?_) rfl (by kernel_rfl) (by kernel_rfl) (by kernel_rfl) (fun _ _ _ h => h) (Or.inl ⟨by rfl, ?_⟩) hHeld ?_
  rotate_left
  · (intro w' hSw; (try dsimp only at hSw); go_simp; try (with_reducible rfl))
  try simp only [Act.put, List.setIfInBounds_toArray, List.set_cons_zero, List.set_cons_succ]
  refine wpAnyH_takeL (i := 3) (oi := _) rfl (by kernel_rfl) (by kernel_rfl) (by kernel_rfl) (fun _ _ _ h => h) (yields_ldR (by rfl) _ rfl (by rfl) (fun _ hS => hS.1)) hHeld ?_
  try simp only [Act.put, List.setIfInBounds_toArray, List.set_cons_zero, List.set_cons_succ]
  refine wpAnyH_takeL (i := 4) (oi := _) rfl (by kernel_rfl) (by kernel_rfl) (by kernel_rfl) (fun _ _ _ h => h) (yields_ldR (by rfl) _ rfl (by rfl) (fun _ hS => hS.2.1)) hHeld ?_
  try simp only [Act.put, List.setIfInBounds_toArray, List.set_cons_zero, List.set_cons_succ]
  refine wpAnyH_ready (rs := [5]) (by kernel_rfl) (by simp) ?_
  refine AllReadyH.consL (o := _) rfl (fun K hK => ?_) AllReadyH.nil
  clear hHeld
  go_simp
  go_at_call 22
  refine Calls.mono (r3compare_any (r := _) X0.out Y0.out Zx.out.in_ (Nin.of_rd Nx.out) (Nat.le_trans L0.out (by decide)) (Nat.le_trans N0.out (by decide)) (Nat.le_trans LZx.out (by decide)) (Nat.le_trans LDx.out (by decide)) ER1.out) ?_
  rintro e w8 ⟨rfl, hb⟩
  replace V0 := Lib.hid (V0.out.below hb V0.out.lt)
  replace X0 := Lib.hid (X0.out.below hb)
  replace Y0 := Lib.hid (Y0.out.below hb)
  replace V1 := Lib.hid (V1.out.below hb V1.out.lt)
  replace X1 := Lib.hid (X1.out.below hb)
  replace Y1 := Lib.hid (Y1.out.below hb)
  replace V2 := Lib.hid (V2.out.below hb V2.out.lt)
  replace X2 := Lib.hid (X2.out.below hb)
  replace Y2 := Lib.hid (Y2.out.below hb)
  replace Zx := Lib.hid (Zx.out.below hb)
  replace Nx := Lib.hid (Nx.out.below hb)
  replace W7 := Lib.hid (W7.out.below hb W7.out.lt)
  replace Zn := Lib.hid (Zn.out.below hb)
  replace Nn := Lib.hid (Nn.out.below hb)
  replace W9 := Lib.hid (W9.out.below hb W9.out.lt)
  replace B1 := Lib.hid (B1.out.trans (hb.mono B1.out.size))
  clear hb
  refine hK.out _ _ ⟨V0.out, W7.out, V1.out, W9.out⟩ (fun hHeld => ?_)
  clear hK K
  try simp only [Act.put, List.setIfInBounds_toArray, List.set_cons_zero, List.set_cons_succ]
  refine wpAnyH_takeL (i := 6) (oi := _) (v := ?_) rfl (by kernel_rfl) (by kernel_rfl) (by kernel_rfl) (fun _ _ _ h => h) (Or.inl ⟨by rfl, ?_⟩) hHeld ?_
  rotate_left
  · (intro w' hSw; (try dsimp only at hSw); go_simp; try (with_reducible rfl))
  try simp only [Act.put, List.setIfInBounds_toArray, List.set_cons_zero, List.set_cons_succ]
  refine wpAnyH_takeL (i := 7) (oi := _) (v := ?_) rfl (by kernel_rfl) (by kernel_rfl) (by kernel_rfl) (fun _ _ _ h => h) (Or.inl ⟨by rfl, ?_⟩) hHeld ?_
  rotate_left
  · (intro w' hSw; (try dsimp only at hSw); go_simp; try (with_reducible rfl))
  try simp only [Act.put, List.setIfInBounds_toArray, List.set_cons_zero, List.set_cons_succ]
  refine wpAnyH_takeL (i := 8) (oi := _) (v := ?_) rfl (by kernel_rfl) (by kernel_rfl) (by kernel_rfl) (fun _ _ _ h => h) (Or.inl ⟨by rfl, ?_⟩) hHeld ?_
  rotate_left
  · (intro w' hSw; (try dsimp only at hSw); go_simp; try (with_reducible rfl))
  try simp only [Act.put, List.setIfInBounds_toArray, List.set_cons_zero, List.set_cons_succ]
  refine wpAnyH_takeL (i := 9) (oi := _) rfl (by kernel_rfl) (by kernel_rfl) (by kernel_rfl) (fun _ _ _ h => h) (yields_ldR (by rfl) _ rfl (by rfl) (fun _ hS => hS.2.1)) hHeld ?_
  try simp only [Act.put, List.setIfInBounds_toArray, List.set_cons_zero, List.set_cons_succ]
  refine wpAnyH_takeL (i := 10) (oi := _) rfl (by kernel_rfl) (by kernel_rfl) (by kernel_rfl) (fun _ _ _ h => h) (yields_ldR (by rfl) _ rfl (by rfl) (fun _ hS => hS.2.2.1)) hHeld ?_
  try simp only [Act.put, List.setIfInBounds_toArray, List.set_cons_zero, List.set_cons_succ]
  refine wpAnyH_ready (rs := [11]) (by kernel_rfl) (by simp) ?_
  refine AllReadyH.consL (o := _) rfl (fun K hK => ?_) AllReadyH.nil
  clear hHeld
  go_simp
  go_at_call 22
  refine Calls.mono (r3compare_any (r := _) Zx.out.in_ (Nin.of_rd Nx.out) X1.out Y1.out (Nat.le_trans LZx.out (by decide)) (Nat.le_trans LDx.out (by decide)) (Nat.le_trans L1.out (by decide)) (Nat.le_trans N1.out (by decide)) ER2.out) ?_
  rintro e w9 ⟨rfl, hb⟩
  replace V0 := Lib.hid (V0.out.below hb V0.out.lt)
  replace X0 := Lib.hid (X0.out.below hb)
  replace Y0 := Lib.hid (Y0.out.below hb)
  replace V1 := Lib.hid (V1.out.below hb V1.out.lt)
  replace X1 := Lib.hid (X1.out.below hb)
  replace Y1 := Lib.hid (Y1.out.below hb)
  replace V2 := Lib.hid (V2.out.below hb V2.out.lt)
  replace X2 := Lib.hid (X2.out.below hb)
  replace Y2 := Lib.hid (Y2.out.below hb)
  replace Zx := Lib.hid (Zx.out.below hb)
  replace Nx := Lib.hid (Nx.out.below hb)
  replace W7 := Lib.hid (W7.out.below hb W7.out.lt)
  replace Zn := Lib.hid (Zn.out.below hb)
  replace Nn := Lib.hid (Nn.out.below hb)
  replace W9 := Lib.hid (W9.out.below hb W9.out.lt)
  replace B1 := Lib.hid (B1.out.trans (hb.mono B1.out.size))
  clear hb
  refine hK.out _ _ ⟨V0.out, W7.out, V1.out, W9.out⟩ (fun hHeld => ?_)
  clear hK K
  try simp only [Act.put, List.setIfInBounds_toArray, List.set_cons_zero, List.set_cons_succ]
  refine wpAnyH_takeL (i := 12) (oi := _) (v := ?_) rfl (by kernel_rfl) (by kernel_rfl) (by kernel_rfl) (fun _ _ _ h => h) (Or.inl ⟨by rfl, ?_⟩) hHeld ?_
  rotate_left
  · (intro w' hSw; (try dsimp only at hSw); go_simp; try (with_reducible rfl))
  try simp only [Act.put, List.setIfInBounds_toArray, List.set_cons_zero, List.set_cons_succ]
  refine wpAnyH_takeL (i := 13) (oi := _) (v := ?_) rfl (by kernel_rfl) (by kernel_rfl) (by kernel_rfl) (fun _ _ _ h => h) (Or.inl ⟨by rfl, ?_⟩) hHeld ?_
  rotate_left
  · (intro w' hSw; (try dsimp only at hSw); go_simp; try (with_reducible rfl))
  try simp only [Act.put, List.setIfInBounds_toArray, List.set_cons_zero, List.set_cons_succ]
  refine wpAnyH_takeL (i := 14) (oi := _) (v := ?_) rfl (by kernel_rfl) (by kernel_rfl) (by kernel_rfl) (fun _ _ _ h => h) (Or.inl ⟨by rfl, ?_⟩) hHeld ?_
  rotate_left
  · (intro w' hSw; (try dsimp only at hSw); go_simp; try (with_reducible rfl))
  try simp only [Act.put, List.setIfInBounds_toArray, List.set_cons_zero, List.set_cons_succ]
  refine wpAnyH_takeL (i := 15) (oi := _) (v := ?_) rfl (by kernel_rfl) (by kernel_rfl) (by kernel_rfl) (fun _ _ _ h => h) (Or.inl ⟨by rfl, ?_⟩) hHeld ?_
  rotate_left
  · (intro w' hSw; (try dsimp only at hSw); go_simp; try (with_reducible rfl))
  try simp only [Act.put, List.setIfInBounds_toArray, List.set_cons_zero, List.set_cons_succ]
  refine wpAnyH_takeL (i := 16) (oi := _) (v := ?_) rfl (by kernel_rfl) (by kernel_rfl) (by kernel_rfl) (fun _ _ _ h => h) (Or.inl ⟨by rfl, ?_⟩) hHeld ?_
  rotate_left
  · (intro w' hSw; (try dsimp only at hSw); go_simp; try (with_reducible rfl))
  try simp only [Act.put, List.setIfInBounds_toArray, List.set_cons_zero, List.set_cons_succ]
  refine wpAnyH_takeL (i := 17) (oi := _) (v := ?_) rfl (by kernel_rfl) (by kernel_rfl) (by kernel_rfl) (fun _ _ _ h => h) (Or.inl ⟨by rfl, ?_⟩) hHeld ?_
  rotate_left
  · (intro w' hSw; (try dsimp only at hSw); go_simp; try (with_reducible rfl))
  try simp only [Act.put, List.setIfInBounds_toArray, List.set_cons_zero, List.set_cons_succ]
  refine wpAnyH_takeL (i := 18) (oi := _) (v := ?_) rfl (by kernel_rfl) (by kernel_rfl) (by kernel_rfl) (fun _ _ _ h => h) (Or.inl ⟨by rfl, ?_⟩) hHeld ?_
  rotate_left
  · (intro w' hSw; (try dsimp only at hSw); go_simp; try (with_reducible rfl))
  try simp only [Act.put, List.setIfInBounds_toArray, List.set_cons_zero, List.set_cons_succ]
  refine wpAnyH_takeL (i := 19) (oi := _) rfl (by kernel_rfl) (by kernel_rfl) (by kernel_rfl) (fun _ _ _ h => h) (yields_ldR (by rfl) _ rfl (by rfl) (fun _ hS => hS.2.2.2)) hHeld ?_
  try simp only [Act.put, List.setIfInBounds_toArray, List.set_cons_zero, List.set_cons_succ]
  refine wpAnyH_takeL (i := 20) (oi := _) rfl (by kernel_rfl) (by kernel_rfl) (by kernel_rfl) (fun _ _ _ h => h) (yields_ldR (by rfl) _ rfl (by rfl) (fun _ hS => hS.1)) hHeld ?_
  try simp only [Act.put, List.setIfInBounds_toArray, List.set_cons_zero, List.set_cons_succ]
  refine wpAnyH_ready (rs := [21]) (by kernel_rfl) (by simp) ?_
  refine AllReadyH.consL (o := _) rfl (fun K hK => ?_) AllReadyH.nil
  clear hHeld
  go_simp
  go_at_call 16
  refine Calls.mono (rnorm_any (z := zl) (d := dl) X0.out Y0.out (Nat.le_trans L0.out (by decide)) (Nat.le_trans N0.out (by decide)) EZL.out EDL.out) ?_
  rintro e w10 ⟨Pm, cm, Qm, km, rfl, ho, ho2, hb⟩
  replace V0 := Lib.hid (V0.out.below hb V0.out.lt)
  replace X0 := Lib.hid (X0.out.below hb)
  replace Y0 := Lib.hid (Y0.out.below hb)
  replace V1 := Lib.hid (V1.out.below hb V1.out.lt)
  replace X1 := Lib.hid (X1.out.below hb)
  replace Y1 := Lib.hid (Y1.out.below hb)
  replace V2 := Lib.hid (V2.out.below hb V2.out.lt)
  replace X2 := Lib.hid (X2.out.below hb)
  replace Y2 := Lib.hid (Y2.out.below hb)
  replace Zx := Lib.hid (Zx.out.below hb)
  replace Nx := Lib.hid (Nx.out.below hb)
  replace W7 := Lib.hid (W7.out.below hb W7.out.lt)
  replace Zn := Lib.hid (Zn.out.below hb)
  replace Nn := Lib.hid (Nn.out.below hb)
  replace W9 := Lib.hid (W9.out.below hb W9.out.lt)
  replace B1 := Lib.hid (B1.out.trans (hb.mono B1.out.size))
  have Zm := Lib.hid (Zo.of_own ho)
  have Nm := Lib.hid ho2.rd
  clear ho ho2
  clear hb
  refine hK.out _ _ ⟨V0.out, W7.out, V1.out, W9.out⟩ (fun hHeld => ?_)
  clear hK K
  try simp only [Act.put, List.setIfInBounds_toArray, List.set_cons_zero, List.set_cons_succ]
  refine wpAnyH_ready (rs := [22]) (by kernel_rfl) (by simp) ?_
  refine AllReadyH.consL (o := _) rfl (fun K hK => ?_) AllReadyH.nil
  clear hHeld
  go_simp
  go_at_call 15
  refine Calls.mono (r3equal_any (b := true) Zn.out Zm.out Nn.out Nm.out (by simpa using EQN.out)) ?_
  rintro e w11 ⟨rfl, hb⟩
  replace V0 := Lib.hid (V0.out.below hb V0.out.lt)
  replace X0 := Lib.hid (X0.out.below hb)
  replace Y0 := Lib.hid (Y0.out.below hb)
  replace V1 := Lib.hid (V1.out.below hb V1.out.lt)
  replace X1 := Lib.hid (X1.out.below hb)
  replace Y1 := Lib.hid (Y1.out.below hb)
  replace V2 := Lib.hid (V2.out.below hb V2.out.lt)
  replace X2 := Lib.hid (X2.out.below hb)
  replace Y2 := Lib.hid (Y2.out.below hb)
  replace Zx := Lib.hid (Zx.out.below hb)
  replace Nx := Lib.hid (Nx.out.below hb)
  replace W7 := Lib.hid (W7.out.below hb W7.out.lt)
  replace Zn := Lib.hid (Zn.out.below hb)
  replace Nn := Lib.hid (Nn.out.below hb)
  replace W9 := Lib.hid (W9.out.below hb W9.out.lt)
  replace Zm := Lib.hid (Zm.out.below hb)
  replace Nm := Lib.hid (Nm.out.below hb)
  replace B1 := Lib.hid (B1.out.trans (hb.mono B1.out.size))
  clear hb
  refine hK.out _ _ ⟨V0.out, W7.out, V1.out, W9.out⟩ (fun hHeld => ?_)
  clear hK K
  try simp only [Act.put, List.setIfInBounds_toArray, List.set_cons_zero, List.set_cons_succ]
  refine wpAnyH_takeL (i := 23) (oi := _) (v := ?_) rfl (by kernel_rfl) (by kernel_rfl) (by kernel_rfl) (fun _ _ _ h => h) (Or.inl ⟨by rfl, ?_⟩) hHeld ?_
  rotate_left
  · (intro w' hSw; (try dsimp only at hSw); go_simp; try (with_reducible rfl))
  try simp only [Act.put, List.setIfInBounds_toArray, List.set_cons_zero, List.set_cons_succ]
  refine wpAnyH_takeL (i := 24) (oi := _) (v := ?_) rfl (by kernel_rfl) (by kernel_rfl) (by kernel_rfl) (fun _ _ _ h => h) (Or.inl ⟨by rfl, ?_⟩) hHeld ?_
  rotate_left
  · (intro w' hSw; (try dsimp only at hSw); go_simp; try (with_reducible rfl))
  try simp only [Act.put, List.setIfInBounds_toArray, List.set_cons_zero, List.set_cons_succ]
  clear hHeld
  refine wpAnyH_done (by kernel_rfl) ?_ _
  rcases c5 with c5 | ⟨k5, c5⟩
  · subst c5
    clear FIN c6
    have pc0 := Lib.hid trivial
    go_wp2_with (first
      | (clear pc0; refine wpList_ldR (by rfl) _ rfl (by rfl) V2.out ?_; have pc1 := Lib.hid trivial)
      | (clear pc1; refine wpList_ldR (by rfl) _ rfl (by rfl) V0.out ?_; have pc2 := Lib.hid trivial)
      | (clear pc2; go_at_call 22; refine Calls.mono (r3compare_any (r := (-1)) X2.out Y2.out X0.out Y0.out (Nat.le_trans L2.out (by decide)) (Nat.le_trans N2.out (by decide)) (Nat.le_trans L0.out (by decide)) (Nat.le_trans N0.out (by decide)) ER5.out) ?_; rintro e w12 ⟨rfl, hb⟩; replace V0 := Lib.hid (V0.out.below hb V0.out.lt); replace X0 := Lib.hid (X0.out.below hb); replace Y0 := Lib.hid (Y0.out.below hb); replace V1 := Lib.hid (V1.out.below hb V1.out.lt); replace X1 := Lib.hid (X1.out.below hb); replace Y1 := Lib.hid (Y1.out.below hb); replace V2 := Lib.hid (V2.out.below hb V2.out.lt); replace X2 := Lib.hid (X2.out.below hb); replace Y2 := Lib.hid (Y2.out.below hb); replace Zx := Lib.hid (Zx.out.below hb); replace Nx := Lib.hid (Nx.out.below hb); replace W7 := Lib.hid (W7.out.below hb W7.out.lt); replace Zn := Lib.hid (Zn.out.below hb); replace Nn := Lib.hid (Nn.out.below hb); replace W9 := Lib.hid (W9.out.below hb W9.out.lt); replace Zm := Lib.hid (Zm.out.below hb); replace Nm := Lib.hid (Nm.out.below hb); replace B1 := Lib.hid (B1.out.trans (hb.mono B1.out.size)); clear hb; have pc3 := Lib.hid trivial))
    clear pc3
    go_ret
    exact ⟨rfl, B1.out⟩
  · subst c5
    rcases c6 with c6 | ⟨k6, c6⟩
    · subst c6
      clear FIN
      have pc0 := Lib.hid trivial
      go_wp2_with (first
        | (clear pc0; refine wpList_ldR (by rfl) _ rfl (by rfl) V2.out ?_; have pc1 := Lib.hid trivial)
        | (clear pc1; refine wpList_ldR (by rfl) _ rfl (by rfl) V0.out ?_; have pc2 := Lib.hid trivial)
        | (clear pc2; go_at_call 22; refine Calls.mono (r3compare_any (r := _) X2.out Y2.out X0.out Y0.out (Nat.le_trans L2.out (by decide)) (Nat.le_trans N2.out (by decide)) (Nat.le_trans L0.out (by decide)) (Nat.le_trans N0.out (by decide)) ER5.out) ?_; rintro e w13 ⟨rfl, hb⟩; replace V0 := Lib.hid (V0.out.below hb V0.out.lt); replace X0 := Lib.hid (X0.out.below hb); replace Y0 := Lib.hid (Y0.out.below hb); replace V1 := Lib.hid (V1.out.below hb V1.out.lt); replace X1 := Lib.hid (X1.out.below hb); replace Y1 := Lib.hid (Y1.out.below hb); replace V2 := Lib.hid (V2.out.below hb V2.out.lt); replace X2 := Lib.hid (X2.out.below hb); replace Y2 := Lib.hid (Y2.out.below hb); replace Zx := Lib.hid (Zx.out.below hb); replace Nx := Lib.hid (Nx.out.below hb); replace W7 := Lib.hid (W7.out.below hb W7.out.lt); replace Zn := Lib.hid (Zn.out.below hb); replace Nn := Lib.hid (Nn.out.below hb); replace W9 := Lib.hid (W9.out.below hb W9.out.lt); replace Zm := Lib.hid (Zm.out.below hb); replace Nm := Lib.hid (Nm.out.below hb); replace B1 := Lib.hid (B1.out.trans (hb.mono B1.out.size)); clear hb; have pc3 := Lib.hid trivial)
        | (clear pc3; refine wpList_ldR (by rfl) _ rfl (by rfl) V2.out ?_; have pc4 := Lib.hid trivial)
        | (clear pc4; refine wpList_ldR (by rfl) _ rfl (by rfl) V1.out ?_; have pc5 := Lib.hid trivial)
        | (clear pc5; go_at_call 22; refine Calls.mono (r3compare_any (r := 1) X2.out Y2.out X1.out Y1.out (Nat.le_trans L2.out (by decide)) (Nat.le_trans N2.out (by decide)) (Nat.le_trans L1.out (by decide)) (Nat.le_trans N1.out (by decide)) ER6.out) ?_; rintro e w14 ⟨rfl, hb⟩; replace V0 := Lib.hid (V0.out.below hb V0.out.lt); replace X0 := Lib.hid (X0.out.below hb); replace Y0 := Lib.hid (Y0.out.below hb); replace V1 := Lib.hid (V1.out.below hb V1.out.lt); replace X1 := Lib.hid (X1.out.below hb); replace Y1 := Lib.hid (Y1.out.below hb); replace V2 := Lib.hid (V2.out.below hb V2.out.lt); replace X2 := Lib.hid (X2.out.below hb); replace Y2 := Lib.hid (Y2.out.below hb); replace Zx := Lib.hid (Zx.out.below hb); replace Nx := Lib.hid (Nx.out.below hb); replace W7 := Lib.hid (W7.out.below hb W7.out.lt); replace Zn := Lib.hid (Zn.out.below hb); replace Nn := Lib.hid (Nn.out.below hb); replace W9 := Lib.hid (W9.out.below hb W9.out.lt); replace Zm := Lib.hid (Zm.out.below hb); replace Nm := Lib.hid (Nm.out.below hb); replace B1 := Lib.hid (B1.out.trans (hb.mono B1.out.size)); clear hb; have pc6 := Lib.hid trivial))
      clear pc6
      go_ret
      exact ⟨rfl, B1.out⟩
    · subst c6
      have fin := FIN.out (by omega) (by omega)
      clear FIN
      rcases fin with h8 | ⟨h8, k9, h9'⟩
      · subst h8
        have pc0 := Lib.hid trivial
        go_wp2_with (first
          | (clear pc0; refine wpList_ldR (by rfl) _ rfl (by rfl) V2.out ?_; have pc1 := Lib.hid trivial)
          | (clear pc1; refine wpList_ldR (by rfl) _ rfl (by rfl) V0.out ?_; have pc2 := Lib.hid trivial)
          | (clear pc2; go_at_call 22; refine Calls.mono (r3compare_any (r := _) X2.out Y2.out X0.out Y0.out (Nat.le_trans L2.out (by decide)) (Nat.le_trans N2.out (by decide)) (Nat.le_trans L0.out (by decide)) (Nat.le_trans N0.out (by decide)) ER5.out) ?_; rintro e w15 ⟨rfl, hb⟩; replace V0 := Lib.hid (V0.out.below hb V0.out.lt); replace X0 := Lib.hid (X0.out.below hb); replace Y0 := Lib.hid (Y0.out.below hb); replace V1 := Lib.hid (V1.out.below hb V1.out.lt); replace X1 := Lib.hid (X1.out.below hb); replace Y1 := Lib.hid (Y1.out.below hb); replace V2 := Lib.hid (V2.out.below hb V2.out.lt); replace X2 := Lib.hid (X2.out.below hb); replace Y2 := Lib.hid (Y2.out.below hb); replace Zx := Lib.hid (Zx.out.below hb); replace Nx := Lib.hid (Nx.out.below hb); replace W7 := Lib.hid (W7.out.below hb W7.out.lt); replace Zn := Lib.hid (Zn.out.below hb); replace Nn := Lib.hid (Nn.out.below hb); replace W9 := Lib.hid (W9.out.below hb W9.out.lt); replace Zm := Lib.hid (Zm.out.below hb); replace Nm := Lib.hid (Nm.out.below hb); replace B1 := Lib.hid (B1.out.trans (hb.mono B1.out.size)); clear hb; have pc3 := Lib.hid trivial)
          | (clear pc3; refine wpList_ldR (by rfl) _ rfl (by rfl) V2.out ?_; have pc4 := Lib.hid trivial)
          | (clear pc4; refine wpList_ldR (by rfl) _ rfl (by rfl) V1.out ?_; have pc5 := Lib.hid trivial)
          | (clear pc5; go_at_call 22; refine Calls.mono (r3compare_any (r := _) X2.out Y2.out X1.out Y1.out (Nat.le_trans L2.out (by decide)) (Nat.le_trans N2.out (by decide)) (Nat.le_trans L1.out (by decide)) (Nat.le_trans N1.out (by decide)) ER6.out) ?_; rintro e w16 ⟨rfl, hb⟩; replace V0 := Lib.hid (V0.out.below hb V0.out.lt); replace X0 := Lib.hid (X0.out.below hb); replace Y0 := Lib.hid (Y0.out.below hb); replace V1 := Lib.hid (V1.out.below hb V1.out.lt); replace X1 := Lib.hid (X1.out.below hb); replace Y1 := Lib.hid (Y1.out.below hb); replace V2 := Lib.hid (V2.out.below hb V2.out.lt); replace X2 := Lib.hid (X2.out.below hb); replace Y2 := Lib.hid (Y2.out.below hb); replace Zx := Lib.hid (Zx.out.below hb); replace Nx := Lib.hid (Nx.out.below hb); replace W7 := Lib.hid (W7.out.below hb W7.out.lt); replace Zn := Lib.hid (Zn.out.below hb); replace Nn := Lib.hid (Nn.out.below hb); replace W9 := Lib.hid (W9.out.below hb W9.out.lt); replace Zm := Lib.hid (Zm.out.below hb); replace Nm := Lib.hid (Nm.out.below hb); replace B1 := Lib.hid (B1.out.trans (hb.mono B1.out.size)); clear hb; have pc6 := Lib.hid trivial)
          | (clear pc6; refine wpList_ldR (by rfl) _ rfl (by rfl) V2.out ?_; have pc7 := Lib.hid trivial)
          | (clear pc7; go_at_call 16; refine Calls.mono (rnorm_any (z := zo) (d := do') X2.out Y2.out (Nat.le_trans L2.out (by decide)) (Nat.le_trans N2.out (by decide)) EZO.out EDO.out) ?_; rintro e w17 ⟨Po, co, Qo, ko, rfl, ho, ho2, hb⟩; replace V0 := Lib.hid (V0.out.below hb V0.out.lt); replace X0 := Lib.hid (X0.out.below hb); replace Y0 := Lib.hid (Y0.out.below hb); replace V1 := Lib.hid (V1.out.below hb V1.out.lt); replace X1 := Lib.hid (X1.out.below hb); replace Y1 := Lib.hid (Y1.out.below hb); replace V2 := Lib.hid (V2.out.below hb V2.out.lt); replace X2 := Lib.hid (X2.out.below hb); replace Y2 := Lib.hid (Y2.out.below hb); replace Zx := Lib.hid (Zx.out.below hb); replace Nx := Lib.hid (Nx.out.below hb); replace W7 := Lib.hid (W7.out.below hb W7.out.lt); replace Zn := Lib.hid (Zn.out.below hb); replace Nn := Lib.hid (Nn.out.below hb); replace W9 := Lib.hid (W9.out.below hb W9.out.lt); replace Zm := Lib.hid (Zm.out.below hb); replace Nm := Lib.hid (Nm.out.below hb); replace B1 := Lib.hid (B1.out.trans (hb.mono B1.out.size)); have Zo2 := Lib.hid (Zo.of_own ho); have No2 := Lib.hid ho2.rd; clear ho ho2; clear hb; have pc8 := Lib.hid trivial)
          | (clear pc8; have LW11 : Hid (h7 < w17.heap.size ∧ h9 < w17.heap.size) := ⟨W7.out.lt, W9.out.lt⟩; have hb : Below w17.heap.size w17 (w17.alloc (.cells #[.bool (decide (zo < 0)), .slice Po (ofv zo.natAbs).length co, .slice Qo (ofv do').length ko] 26)) := ((Below.refl _ _).alloc (by first | exact Nat.le_refl _ | (simp; done) | (simp; omega)) _); replace V0 := Lib.hid (V0.out.below hb V0.out.lt); replace X0 := Lib.hid (X0.out.below hb); replace Y0 := Lib.hid (Y0.out.below hb); replace V1 := Lib.hid (V1.out.below hb V1.out.lt); replace X1 := Lib.hid (X1.out.below hb); replace Y1 := Lib.hid (Y1.out.below hb); replace V2 := Lib.hid (V2.out.below hb V2.out.lt); replace X2 := Lib.hid (X2.out.below hb); replace Y2 := Lib.hid (Y2.out.below hb); replace Zx := Lib.hid (Zx.out.below hb); replace Nx := Lib.hid (Nx.out.below hb); replace W7 := Lib.hid (W7.out.below hb W7.out.lt); replace Zn := Lib.hid (Zn.out.below hb); replace Nn := Lib.hid (Nn.out.below hb); replace W9 := Lib.hid (W9.out.below hb W9.out.lt); replace Zm := Lib.hid (Zm.out.below hb); replace Nm := Lib.hid (Nm.out.below hb); replace Zo2 := Lib.hid (Zo2.out.below hb); replace No2 := Lib.hid (No2.out.below hb); replace B1 := Lib.hid (B1.out.trans (hb.mono B1.out.size)); have W11 : Hid (Rb (w17.alloc (.cells #[.bool (decide (zo < 0)), .slice Po (ofv zo.natAbs).length co, .slice Qo (ofv do').length ko] 26)) (w17.heap.size) (decide (zo < 0)) Po (ofv zo.natAbs).length co Qo (ofv do').length ko) := (by have h := (Rb.new w17 (decide (zo < 0)) Po (ofv zo.natAbs).length co Qo (ofv do').length ko); (try simp only [World.size_alloc] at h); exact h); clear hb; generalize (w17.alloc (.cells #[.bool (decide (zo < 0)), .slice Po (ofv zo.natAbs).length co, .slice Qo (ofv do').length ko] 26)) = w18 at *; generalize w17.heap.size = h11 at *; refine wpList_ldRd (by rfl) _ rfl (by rfl) W7.out ?_; have pc9 := Lib.hid trivial)
          | (clear pc9; refine wpList_ldRd (by rfl) _ rfl (by rfl) W11.out ?_; have pc10 := Lib.hid trivial)
          | (clear pc10; go_at_call 12; refine Calls.mono (rcompare_k (r := (-1)) ((Nin.of_rd Nx.out).int EXX.out) ((Nin.of_rd No2.out).int EXO.out) (Nat.le_trans LDx.out (by decide)) (Nat.le_trans LDo.out (by decide)) ER8.out) ?_; rintro e w19 ⟨rfl, hb⟩; replace V0 := Lib.hid (V0.out.below hb V0.out.lt); replace X0 := Lib.hid (X0.out.below hb); replace Y0 := Lib.hid (Y0.out.below hb); replace V1 := Lib.hid (V1.out.below hb V1.out.lt); replace X1 := Lib.hid (X1.out.below hb); replace Y1 := Lib.hid (Y1.out.below hb); replace V2 := Lib.hid (V2.out.below hb V2.out.lt); replace X2 := Lib.hid (X2.out.below hb); replace Y2 := Lib.hid (Y2.out.below hb); replace Zx := Lib.hid (Zx.out.below hb); replace Nx := Lib.hid (Nx.out.below hb); replace W7 := Lib.hid (W7.out.below hb W7.out.lt); replace Zn := Lib.hid (Zn.out.below hb); replace Nn := Lib.hid (Nn.out.below hb); replace W9 := Lib.hid (W9.out.below hb W9.out.lt); replace Zm := Lib.hid (Zm.out.below hb); replace Nm := Lib.hid (Nm.out.below hb); replace Zo2 := Lib.hid (Zo2.out.below hb); replace No2 := Lib.hid (No2.out.below hb); replace W11 := Lib.hid (W11.out.below hb W11.out.lt); replace B1 := Lib.hid (B1.out.trans (hb.mono B1.out.size)); clear hb; have pc11 := Lib.hid trivial))
        clear pc11
        go_wp2_with fail
        have hb := below_drewN w19.heap.size w19 1
        replace V0 := Lib.hid (V0.out.below hb V0.out.lt)
        replace X0 := Lib.hid (X0.out.below hb)
        replace Y0 := Lib.hid (Y0.out.below hb)
        replace V1 := Lib.hid (V1.out.below hb V1.out.lt)
        replace X1 := Lib.hid (X1.out.below hb)
        replace Y1 := Lib.hid (Y1.out.below hb)
        replace V2 := Lib.hid (V2.out.below hb V2.out.lt)
        replace X2 := Lib.hid (X2.out.below hb)
        replace Y2 := Lib.hid (Y2.out.below hb)
        replace Zx := Lib.hid (Zx.out.below hb)
        replace Nx := Lib.hid (Nx.out.below hb)
        replace W7 := Lib.hid (W7.out.below hb W7.out.lt)
        replace Zn := Lib.hid (Zn.out.below hb)
        replace Nn := Lib.hid (Nn.out.below hb)
        replace W9 := Lib.hid (W9.out.below hb W9.out.lt)
        replace Zm := Lib.hid (Zm.out.below hb)
        replace Nm := Lib.hid (Nm.out.below hb)
        replace Zo2 := Lib.hid (Zo2.out.below hb)
        replace No2 := Lib.hid (No2.out.below hb)
        replace W11 := Lib.hid (W11.out.below hb W11.out.lt)
        replace B1 := Lib.hid (B1.out.trans (hb.mono B1.out.size))
        clear hb
        refine wp_region_held_drew (S := fun w' => True) (by kernel_rfl) trivial (fun hHeld => ?_)
        refine wpAnyH_takeL (i := 0) (oi := _) (v := ?_) rfl (by kernel_rfl) (by kernel_rfl) (by kernel_rfl) (fun _ _ _ h => h) (Or.inl ⟨by rfl, ?_⟩) hHeld ?_
        rotate_left
        · (intro w' hSw; (try dsimp only at hSw); go_simp; try (with_reducible rfl))
        try simp only [Act.put, List.setIfInBounds_toArray, List.set_cons_zero, List.set_cons_succ]
        refine wpAnyH_takeL (i := 1) (oi := _) (v := ?_) rfl (by kernel_rfl) (by kernel_rfl) (by kernel_rfl) (fun _ _ _ h => h) (Or.inl ⟨by rfl, ?_⟩) hHeld ?_
        rotate_left
        · (intro w' hSw; (try dsimp only at hSw); go_simp; try (with_reducible rfl))
        try simp only [Act.put, List.setIfInBounds_toArray, List.set_cons_zero, List.set_cons_succ]
        refine wpAnyH_takeL (i := 2) (oi := _) (v := ?_) rfl (by kernel_rfl) (by kernel_rfl) (by kernel_rfl) (fun _ _ _ h => h) (Or.inl ⟨by rfl, ?_⟩) hHeld ?_
        rotate_left
        · (intro w' hSw; (try dsimp only at hSw); go_simp; try (with_reducible rfl))
        try simp only [Act.put, List.setIfInBounds_toArray, List.set_cons_zero, List.set_cons_succ]
        refine wpAnyH_takeL (i := 3) (oi := _) (v := undef) rfl (by kernel_rfl) (by kernel_rfl) (by kernel_rfl) (fun _ _ _ h => h) (Or.inr ⟨by rfl, rfl⟩) hHeld ?_
        try simp only [Act.put, List.setIfInBounds_toArray, List.set_cons_zero, List.set_cons_succ]
        refine wpAnyH_takeL (i := 4) (oi := _) (v := undef) rfl (by kernel_rfl) (by kernel_rfl) (by kernel_rfl) (fun _ _ _ h => h) (Or.inr ⟨by rfl, rfl⟩) hHeld ?_
        try simp only [Act.put, List.setIfInBounds_toArray, List.set_cons_zero, List.set_cons_succ]
        refine wpAnyH_takeL (i := 5) (oi := _) (v := undef) rfl (by kernel_rfl) (by kernel_rfl) (by kernel_rfl) (fun _ _ _ h => h) (Or.inr ⟨by rfl, rfl⟩) hHeld ?_
        try simp only [Act.put, List.setIfInBounds_toArray, List.set_cons_zero, List.set_cons_succ]
        refine wpAnyH_takeL (i := 6) (oi := _) (v := undef) rfl (by kernel_rfl) (by kernel_rfl) (by kernel_rfl) (fun _ _ _ h => h) (Or.inr ⟨by rfl, rfl⟩) hHeld ?_
        try simp only [Act.put, List.setIfInBounds_toArray, List.set_cons_zero, List.set_cons_succ]
        refine wpAnyH_takeL (i := 7) (oi := _) (v := undef) rfl (by kernel_rfl) (by kernel_rfl) (by kernel_rfl) (fun _ _ _ h => h) (Or.inr ⟨by rfl, rfl⟩) hHeld ?_
        try simp only [Act.put, List.setIfInBounds_toArray, List.set_cons_zero, List.set_cons_succ]
        refine wpAnyH_takeL (i := 8) (oi := _) (v := undef) rfl (by kernel_rfl) (by kernel_rfl) (by kernel_rfl) (fun _ _ _ h => h) (Or.inr ⟨by rfl, rfl⟩) hHeld ?_
        try simp only [Act.put, List.setIfInBounds_toArray, List.set_cons_zero, List.set_cons_succ]
        refine wpAnyH_takeL (i := 9) (oi := _) (v := undef) rfl (by kernel_rfl) (by kernel_rfl) (by kernel_rfl) (fun _ _ _ h => h) (Or.inr ⟨by rfl, rfl⟩) hHeld ?_
        try simp only [Act.put, List.setIfInBounds_toArray, List.set_cons_zero, List.set_cons_succ]
        refine wpAnyH_takeL (i := 10) (oi := _) (v := undef) rfl (by kernel_rfl) (by kernel_rfl) (by kernel_rfl) (fun _ _ _ h => h) (Or.inr ⟨by rfl, rfl⟩) hHeld ?_
        try simp only [Act.put, List.setIfInBounds_toArray, List.set_cons_zero, List.set_cons_succ]
        refine wpAnyH_takeL (i := 11) (oi := _) (v := undef) rfl (by kernel_rfl) (by kernel_rfl) (by kernel_rfl) (fun _ _ _ h => h) (Or.inr ⟨by rfl, rfl⟩) hHeld ?_
        try simp only [Act.put, List.setIfInBounds_toArray, List.set_cons_zero, List.set_cons_succ]
        refine wpAnyH_takeL (i := 12) (oi := _) (v := undef) rfl (by kernel_rfl) (by kernel_rfl) (by kernel_rfl) (fun _ _ _ h => h) (Or.inr ⟨by rfl, rfl⟩) hHeld ?_
        try simp only [Act.put, List.setIfInBounds_toArray, List.set_cons_zero, List.set_cons_succ]
        refine wpAnyH_takeL (i := 13) (oi := _) (v := undef) rfl (by kernel_rfl) (by kernel_rfl) (by kernel_rfl) (fun _ _ _ h => h) (Or.inr ⟨by rfl, rfl⟩) hHeld ?_
        try simp only [Act.put, List.setIfInBounds_toArray, List.set_cons_zero, List.set_cons_succ]
        refine wpAnyH_takeL (i := 14) (oi := _) (v := undef) rfl (by kernel_rfl) (by kernel_rfl) (by kernel_rfl) (fun _ _ _ h => h) (Or.inr ⟨by rfl, rfl⟩) hHeld ?_
        try simp only [Act.put, List.setIfInBounds_toArray, List.set_cons_zero, List.set_cons_succ]
        refine wpAnyH_takeL (i := 15) (oi := _) (v := ?_) rfl (by kernel_rfl) (by kernel_rfl) (by kernel_rfl) (fun _ _ _ h => h) (Or.inl ⟨by rfl, ?_⟩) hHeld ?_
        rotate_left
        · (intro w' hSw; (try dsimp only at hSw); go_simp; try (with_reducible rfl))
        try simp only [Act.put, List.setIfInBounds_toArray, List.set_cons_zero, List.set_cons_succ]
        refine wpAnyH_takeL (i := 16) (oi := _) (v := ?_) rfl (by kernel_rfl) (by kernel_rfl) (by kernel_rfl) (fun _ _ _ h => h) (Or.inl ⟨by rfl, ?_⟩) hHeld ?_
        rotate_left
        · (intro w' hSw; (try dsimp only at hSw); go_simp; try (with_reducible rfl))
        try simp only [Act.put, List.setIfInBounds_toArray, List.set_cons_zero, List.set_cons_succ]
        clear hHeld
        refine wpAnyH_done (by kernel_rfl) ?_ _
        go_wp2_with fail
        go_ret
        exact ⟨rfl, B1.out⟩
      · subst h8
        subst h9'
        have pc0 := Lib.hid trivial
        go_wp2_with (first
          | (clear pc0; refine wpList_ldR (by rfl) _ rfl (by rfl) V2.out ?_; have pc1 := Lib.hid trivial)
          | (clear pc1; refine wpList_ldR (by rfl) _ rfl (by rfl) V0.out ?_; have pc2 := Lib.hid trivial)
          | (clear pc2; go_at_call 22; refine Calls.mono (r3compare_any (r := _) X2.out Y2.out X0.out Y0.out (Nat.le_trans L2.out (by decide)) (Nat.le_trans N2.out (by decide)) (Nat.le_trans L0.out (by decide)) (Nat.le_trans N0.out (by decide)) ER5.out) ?_; rintro e w20 ⟨rfl, hb⟩; replace V0 := Lib.hid (V0.out.below hb V0.out.lt); replace X0 := Lib.hid (X0.out.below hb); replace Y0 := Lib.hid (Y0.out.below hb); replace V1 := Lib.hid (V1.out.below hb V1.out.lt); replace X1 := Lib.hid (X1.out.below hb); replace Y1 := Lib.hid (Y1.out.below hb); replace V2 := Lib.hid (V2.out.below hb V2.out.lt); replace X2 := Lib.hid (X2.out.below hb); replace Y2 := Lib.hid (Y2.out.below hb); replace Zx := Lib.hid (Zx.out.below hb); replace Nx := Lib.hid (Nx.out.below hb); replace W7 := Lib.hid (W7.out.below hb W7.out.lt); replace Zn := Lib.hid (Zn.out.below hb); replace Nn := Lib.hid (Nn.out.below hb); replace W9 := Lib.hid (W9.out.below hb W9.out.lt); replace Zm := Lib.hid (Zm.out.below hb); replace Nm := Lib.hid (Nm.out.below hb); replace B1 := Lib.hid (B1.out.trans (hb.mono B1.out.size)); clear hb; have pc3 := Lib.hid trivial)
          | (clear pc3; refine wpList_ldR (by rfl) _ rfl (by rfl) V2.out ?_; have pc4 := Lib.hid trivial)
          | (clear pc4; refine wpList_ldR (by rfl) _ rfl (by rfl) V1.out ?_; have pc5 := Lib.hid trivial)
          | (clear pc5; go_at_call 22; refine Calls.mono (r3compare_any (r := _) X2.out Y2.out X1.out Y1.out (Nat.le_trans L2.out (by decide)) (Nat.le_trans N2.out (by decide)) (Nat.le_trans L1.out (by decide)) (Nat.le_trans N1.out (by decide)) ER6.out) ?_; rintro e w21 ⟨rfl, hb⟩; replace V0 := Lib.hid (V0.out.below hb V0.out.lt); replace X0 := Lib.hid (X0.out.below hb); replace Y0 := Lib.hid (Y0.out.below hb); replace V1 := Lib.hid (V1.out.below hb V1.out.lt); replace X1 := Lib.hid (X1.out.below hb); replace Y1 := Lib.hid (Y1.out.below hb); replace V2 := Lib.hid (V2.out.below hb V2.out.lt); replace X2 := Lib.hid (X2.out.below hb); replace Y2 := Lib.hid (Y2.out.below hb); replace Zx := Lib.hid (Zx.out.below hb); replace Nx := Lib.hid (Nx.out.below hb); replace W7 := Lib.hid (W7.out.below hb W7.out.lt); replace Zn := Lib.hid (Zn.out.below hb); replace Nn := Lib.hid (Nn.out.below hb); replace W9 := Lib.hid (W9.out.below hb W9.out.lt); replace Zm := Lib.hid (Zm.out.below hb); replace Nm := Lib.hid (Nm.out.below hb); replace B1 := Lib.hid (B1.out.trans (hb.mono B1.out.size)); clear hb; have pc6 := Lib.hid trivial)
          | (clear pc6; refine wpList_ldR (by rfl) _ rfl (by rfl) V2.out ?_; have pc7 := Lib.hid trivial)
          | (clear pc7; go_at_call 16; refine Calls.mono (rnorm_any (z := zo) (d := do') X2.out Y2.out (Nat.le_trans L2.out (by decide)) (Nat.le_trans N2.out (by decide)) EZO.out EDO.out) ?_; rintro e w22 ⟨Po, co, Qo, ko, rfl, ho, ho2, hb⟩; replace V0 := Lib.hid (V0.out.below hb V0.out.lt); replace X0 := Lib.hid (X0.out.below hb); replace Y0 := Lib.hid (Y0.out.below hb); replace V1 := Lib.hid (V1.out.below hb V1.out.lt); replace X1 := Lib.hid (X1.out.below hb); replace Y1 := Lib.hid (Y1.out.below hb); replace V2 := Lib.hid (V2.out.below hb V2.out.lt); replace X2 := Lib.hid (X2.out.below hb); replace Y2 := Lib.hid (Y2.out.below hb); replace Zx := Lib.hid (Zx.out.below hb); replace Nx := Lib.hid (Nx.out.below hb); replace W7 := Lib.hid (W7.out.below hb W7.out.lt); replace Zn := Lib.hid (Zn.out.below hb); replace Nn := Lib.hid (Nn.out.below hb); replace W9 := Lib.hid (W9.out.below hb W9.out.lt); replace Zm := Lib.hid (Zm.out.below hb); replace Nm := Lib.hid (Nm.out.below hb); replace B1 := Lib.hid (B1.out.trans (hb.mono B1.out.size)); have Zo2 := Lib.hid (Zo.of_own ho); have No2 := Lib.hid ho2.rd; clear ho ho2; clear hb; have pc8 := Lib.hid trivial)
          | (clear pc8; have LW11 : Hid (h7 < w22.heap.size ∧ h9 < w22.heap.size) := ⟨W7.out.lt, W9.out.lt⟩; have hb : Below w22.heap.size w22 (w22.alloc (.cells #[.bool (decide (zo < 0)), .slice Po (ofv zo.natAbs).length co, .slice Qo (ofv do').length ko] 26)) := ((Below.refl _ _).alloc (by first | exact Nat.le_refl _ | (simp; done) | (simp; omega)) _); replace V0 := Lib.hid (V0.out.below hb V0.out.lt); replace X0 := Lib.hid (X0.out.below hb); replace Y0 := Lib.hid (Y0.out.below hb); replace V1 := Lib.hid (V1.out.below hb V1.out.lt); replace X1 := Lib.hid (X1.out.below hb); replace Y1 := Lib.hid (Y1.out.below hb); replace V2 := Lib.hid (V2.out.below hb V2.out.lt); replace X2 := Lib.hid (X2.out.below hb); replace Y2 := Lib.hid (Y2.out.below hb); replace Zx := Lib.hid (Zx.out.below hb); replace Nx := Lib.hid (Nx.out.below hb); replace W7 := Lib.hid (W7.out.below hb W7.out.lt); replace Zn := Lib.hid (Zn.out.below hb); replace Nn := Lib.hid (Nn.out.below hb); replace W9 := Lib.hid (W9.out.below hb W9.out.lt); replace Zm := Lib.hid (Zm.out.below hb); replace Nm := Lib.hid (Nm.out.below hb); replace Zo2 := Lib.hid (Zo2.out.below hb); replace No2 := Lib.hid (No2.out.below hb); replace B1 := Lib.hid (B1.out.trans (hb.mono B1.out.size)); have W11 : Hid (Rb (w22.alloc (.cells #[.bool (decide (zo < 0)), .slice Po (ofv zo.natAbs).length co, .slice Qo (ofv do').length ko] 26)) (w22.heap.size) (decide (zo < 0)) Po (ofv zo.natAbs).length co Qo (ofv do').length ko) := (by have h := (Rb.new w22 (decide (zo < 0)) Po (ofv zo.natAbs).length co Qo (ofv do').length ko); (try simp only [World.size_alloc] at h); exact h); clear hb; generalize (w22.alloc (.cells #[.bool (decide (zo < 0)), .slice Po (ofv zo.natAbs).length co, .slice Qo (ofv do').length ko] 26)) = w23 at *; generalize w22.heap.size = h11 at *; refine wpList_ldRd (by rfl) _ rfl (by rfl) W7.out ?_; have pc9 := Lib.hid trivial)
          | (clear pc9; refine wpList_ldRd (by rfl) _ rfl (by rfl) W11.out ?_; have pc10 := Lib.hid trivial)
          | (clear pc10; go_at_call 12; refine Calls.mono (rcompare_k (r := 0) ((Nin.of_rd Nx.out).int EXX.out) ((Nin.of_rd No2.out).int EXO.out) (Nat.le_trans LDx.out (by decide)) (Nat.le_trans LDo.out (by decide)) ER8.out) ?_; rintro e w24 ⟨rfl, hb⟩; replace V0 := Lib.hid (V0.out.below hb V0.out.lt); replace X0 := Lib.hid (X0.out.below hb); replace Y0 := Lib.hid (Y0.out.below hb); replace V1 := Lib.hid (V1.out.below hb V1.out.lt); replace X1 := Lib.hid (X1.out.below hb); replace Y1 := Lib.hid (Y1.out.below hb); replace V2 := Lib.hid (V2.out.below hb V2.out.lt); replace X2 := Lib.hid (X2.out.below hb); replace Y2 := Lib.hid (Y2.out.below hb); replace Zx := Lib.hid (Zx.out.below hb); replace Nx := Lib.hid (Nx.out.below hb); replace W7 := Lib.hid (W7.out.below hb W7.out.lt); replace Zn := Lib.hid (Zn.out.below hb); replace Nn := Lib.hid (Nn.out.below hb); replace W9 := Lib.hid (W9.out.below hb W9.out.lt); replace Zm := Lib.hid (Zm.out.below hb); replace Nm := Lib.hid (Nm.out.below hb); replace Zo2 := Lib.hid (Zo2.out.below hb); replace No2 := Lib.hid (No2.out.below hb); replace W11 := Lib.hid (W11.out.below hb W11.out.lt); replace B1 := Lib.hid (B1.out.trans (hb.mono B1.out.size)); clear hb; have pc11 := Lib.hid trivial))
        clear pc11
        go_wp2_with fail
        have hb := below_drewN w24.heap.size w24 1
        replace V0 := Lib.hid (V0.out.below hb V0.out.lt)
        replace X0 := Lib.hid (X0.out.below hb)
        replace Y0 := Lib.hid (Y0.out.below hb)
        replace V1 := Lib.hid (V1.out.below hb V1.out.lt)
        replace X1 := Lib.hid (X1.out.below hb)
        replace Y1 := Lib.hid (Y1.out.below hb)
        replace V2 := Lib.hid (V2.out.below hb V2.out.lt)
        replace X2 := Lib.hid (X2.out.below hb)
        replace Y2 := Lib.hid (Y2.out.below hb)
        replace Zx := Lib.hid (Zx.out.below hb)
        replace Nx := Lib.hid (Nx.out.below hb)
        replace W7 := Lib.hid (W7.out.below hb W7.out.lt)
        replace Zn := Lib.hid (Zn.out.below hb)
        replace Nn := Lib.hid (Nn.out.below hb)
        replace W9 := Lib.hid (W9.out.below hb W9.out.lt)
        replace Zm := Lib.hid (Zm.out.below hb)
        replace Nm := Lib.hid (Nm.out.below hb)
        replace Zo2 := Lib.hid (Zo2.out.below hb)
        replace No2 := Lib.hid (No2.out.below hb)
        replace W11 := Lib.hid (W11.out.below hb W11.out.lt)
        replace B1 := Lib.hid (B1.out.trans (hb.mono B1.out.size))
        clear hb
        refine wp_region_held_drew (S := fun w' => Rb w' h7 (decide (zx < 0)) Px (ofv zx.natAbs).length cx Qx (ofv dx).length kx ∧ Rb w' h11 (decide (zo < 0)) Po (ofv zo.natAbs).length co Qo (ofv do').length ko) (by kernel_rfl) ⟨W7.out, W11.out⟩ (fun hHeld => ?_)
        refine wpAnyH_takeL (i := 0) (oi := _) (v := ?_) rfl (by kernel_rfl) (by kernel_rfl) (by kernel_rfl) (fun _ _ _ h => h) (Or.inl ⟨by rfl, ?_⟩) hHeld ?_
        rotate_left
        · (intro w' hSw; (try dsimp only at hSw); go_simp; try (with_reducible rfl))
        try simp only [Act.put, List.setIfInBounds_toArray, List.set_cons_zero, List.set_cons_succ]
        refine wpAnyH_takeL (i := 1) (oi := _) (v := ?_) rfl (by kernel_rfl) (by kernel_rfl) (by kernel_rfl) (fun _ _ _ h => h) (Or.inl ⟨by rfl, ?_⟩) hHeld ?_
        rotate_left
        · (intro w' hSw; (try dsimp only at hSw); go_simp; try (with_reducible rfl))
        try simp only [Act.put, List.setIfInBounds_toArray, List.set_cons_zero, List.set_cons_succ]
        refine wpAnyH_takeL (i := 2) (oi := _) (v := ?_) rfl (by kernel_rfl) (by kernel_rfl) (by kernel_rfl) (fun _ _ _ h => h) (Or.inl ⟨by rfl, ?_⟩) hHeld ?_
        rotate_left
        · (intro w' hSw; (try dsimp only at hSw); go_simp; try (with_reducible rfl))
        try simp only [Act.put, List.setIfInBounds_toArray, List.set_cons_zero, List.set_cons_succ]
        refine wpAnyH_takeL (i := 3) (oi := _) (v := ?_) rfl (by kernel_rfl) (by kernel_rfl) (by kernel_rfl) (fun _ _ _ h => h) (Or.inl ⟨by rfl, ?_⟩) hHeld ?_
        rotate_left
        · (intro w' hSw; (try dsimp only at hSw); go_simp; try (with_reducible rfl))
        try simp only [Act.put, List.setIfInBounds_toArray, List.set_cons_zero, List.set_cons_succ]
        refine wpAnyH_takeL (i := 4) (oi := _) (v := ?_) rfl (by kernel_rfl) (by kernel_rfl) (by kernel_rfl) (fun _ _ _ h => h) (Or.inl ⟨by rfl, ?_⟩) hHeld ?_
        rotate_left
        · (intro w' hSw; (try dsimp only at hSw); go_simp; try (with_reducible rfl))
        try simp only [Act.put, List.setIfInBounds_toArray, List.set_cons_zero, List.set_cons_succ]
        refine wpAnyH_takeL (i := 5) (oi := _) (v := ?_) rfl (by kernel_rfl) (by kernel_rfl) (by kernel_rfl) (fun _ _ _ h => h) (Or.inl ⟨by rfl, ?_⟩) hHeld ?_
        rotate_left
        · (intro w' hSw; (try dsimp only at hSw); go_simp; try (with_reducible rfl))
        try simp only [Act.put, List.setIfInBounds_toArray, List.set_cons_zero, List.set_cons_succ]
        refine wpAnyH_takeL (i := 6) (oi := _) (v := ?_) rfl (by kernel_rfl) (by kernel_rfl) (by kernel_rfl) (fun _ _ _ h => h) (Or.inl ⟨by rfl, ?_⟩) hHeld ?_
        rotate_left
        · (intro w' hSw; (try dsimp only at hSw); go_simp; try (with_reducible rfl))
        try simp only [Act.put, List.setIfInBounds_toArray, List.set_cons_zero, List.set_cons_succ]
        refine wpAnyH_takeL (i := 7) (oi := _) rfl (by kernel_rfl) (by kernel_rfl) (by kernel_rfl) (fun _ _ _ h => h) (yields_ldRz (by rfl) _ rfl (by rfl) (fun _ hS => hS.1)) hHeld ?_
        try simp only [Act.put, List.setIfInBounds_toArray, List.set_cons_zero, List.set_cons_succ]
        refine wpAnyH_takeL (i := 9) (oi := _) (v := ?_) rfl (by kernel_rfl) (by kernel_rfl) (by kernel_rfl) (fun _ _ _ h => h) (Or.inl ⟨by rfl, ?_⟩) hHeld ?_
        rotate_left
        · (intro w' hSw; (try dsimp only at hSw); go_simp; try (with_reducible rfl))
        try simp only [Act.put, List.setIfInBounds_toArray, List.set_cons_zero, List.set_cons_succ]
        refine wpAnyH_takeL (i := 10) (oi := _) rfl (by kernel_rfl) (by kernel_rfl) (by kernel_rfl) (fun _ _ _ h => h) (yields_ldRz (by rfl) _ rfl (by rfl) (fun _ hS => hS.2)) hHeld ?_
        try simp only [Act.put, List.setIfInBounds_toArray, List.set_cons_zero, List.set_cons_succ]
        refine wpAnyH_ready (rs := [8]) (by kernel_rfl) (by simp) ?_
        refine AllReadyH.consL (o := _) rfl (fun K hK => ?_) AllReadyH.nil
        clear hHeld
        go_simp
        go_at_call 23
        refine Calls.mono (rabs_z (z := ax) Zx.out.in_ (Nat.le_trans LZx.out (by decide)) EAX.out) ?_
        rintro e w25 ⟨Pa, ca, rfl, ho, hb⟩
        replace V0 := Lib.hid (V0.out.below hb V0.out.lt)
        replace X0 := Lib.hid (X0.out.below hb)
        replace Y0 := Lib.hid (Y0.out.below hb)
        replace V1 := Lib.hid (V1.out.below hb V1.out.lt)
        replace X1 := Lib.hid (X1.out.below hb)
        replace Y1 := Lib.hid (Y1.out.below hb)
        replace V2 := Lib.hid (V2.out.below hb V2.out.lt)
        replace X2 := Lib.hid (X2.out.below hb)
        replace Y2 := Lib.hid (Y2.out.below hb)
        replace Zx := Lib.hid (Zx.out.below hb)
        replace Nx := Lib.hid (Nx.out.below hb)
        replace W7 := Lib.hid (W7.out.below hb W7.out.lt)
        replace Zn := Lib.hid (Zn.out.below hb)
        replace Nn := Lib.hid (Nn.out.below hb)
        replace W9 := Lib.hid (W9.out.below hb W9.out.lt)
        replace Zm := Lib.hid (Zm.out.below hb)
        replace Nm := Lib.hid (Nm.out.below hb)
        replace Zo2 := Lib.hid (Zo2.out.below hb)
        replace No2 := Lib.hid (No2.out.below hb)
        replace W11 := Lib.hid (W11.out.below hb W11.out.lt)
        replace B1 := Lib.hid (B1.out.trans (hb.mono B1.out.size))
        have Za := Lib.hid (Zo.of_own ho)
        clear ho
        clear hb
        refine hK.out _ _ ⟨W7.out, W11.out⟩ (fun hHeld => ?_)
        clear hK K
        try simp only [Act.put, List.setIfInBounds_toArray, List.set_cons_zero, List.set_cons_succ]
        refine wpAnyH_ready (rs := [11]) (by kernel_rfl) (by simp) ?_
        refine AllReadyH.consL (o := _) rfl (fun K hK => ?_) AllReadyH.nil
        clear hHeld
        go_simp
        go_at_call 23
        refine Calls.mono (rabs_z (z := ao) Zo2.out.in_ (Nat.le_trans LZo.out (by decide)) EAO.out) ?_
        rintro e w26 ⟨Pb, cb, rfl, ho, hb⟩
        replace V0 := Lib.hid (V0.out.below hb V0.out.lt)
        replace X0 := Lib.hid (X0.out.below hb)
        replace Y0 := Lib.hid (Y0.out.below hb)
        replace V1 := Lib.hid (V1.out.below hb V1.out.lt)
        replace X1 := Lib.hid (X1.out.below hb)
        replace Y1 := Lib.hid (Y1.out.below hb)
        replace V2 := Lib.hid (V2.out.below hb V2.out.lt)
        replace X2 := Lib.hid (X2.out.below hb)
        replace Y2 := Lib.hid (Y2.out.below hb)
        replace Zx := Lib.hid (Zx.out.below hb)
        replace Nx := Lib.hid (Nx.out.below hb)
        replace W7 := Lib.hid (W7.out.below hb W7.out.lt)
        replace Zn := Lib.hid (Zn.out.below hb)
        replace Nn := Lib.hid (Nn.out.below hb)
        replace W9 := Lib.hid (W9.out.below hb W9.out.lt)
        replace Zm := Lib.hid (Zm.out.below hb)
        replace Nm := Lib.hid (Nm.out.below hb)
        replace Zo2 := Lib.hid (Zo2.out.below hb)
        replace No2 := Lib.hid (No2.out.below hb)
        replace W11 := Lib.hid (W11.out.below hb W11.out.lt)
        replace Za := Lib.hid (Za.out.below hb)
        replace B1 := Lib.hid (B1.out.trans (hb.mono B1.out.size))
        have Zb2 := Lib.hid (Zo.of_own ho)
        clear ho
        clear hb
        refine hK.out _ _ ⟨W7.out, W11.out⟩ (fun hHeld => ?_)
        clear hK K
        try simp only [Act.put, List.setIfInBounds_toArray, List.set_cons_zero, List.set_cons_succ]
        refine wpAnyH_ready (rs := [12]) (by kernel_rfl) (by simp) ?_
        refine AllReadyH.consL (o := _) rfl (fun K hK => ?_) AllReadyH.nil
        clear hHeld
        go_simp
        go_at_call 12
        refine Calls.mono (rcompare_k Za.out.in_ Zb2.out.in_ (Nat.le_trans LAX.out (by decide)) (Nat.le_trans LAO.out (by decide)) ER9.out) ?_
        rintro e w27 ⟨rfl, hb⟩
        replace V0 := Lib.hid (V0.out.below hb V0.out.lt)
        replace X0 := Lib.hid (X0.out.below hb)
        replace Y0 := Lib.hid (Y0.out.below hb)
        replace V1 := Lib.hid (V1.out.below hb V1.out.lt)
        replace X1 := Lib.hid (X1.out.below hb)
        replace Y1 := Lib.hid (Y1.out.below hb)
        replace V2 := Lib.hid (V2.out.below hb V2.out.lt)
        replace X2 := Lib.hid (X2.out.below hb)
        replace Y2 := Lib.hid (Y2.out.below hb)
        replace Zx := Lib.hid (Zx.out.below hb)
        replace Nx := Lib.hid (Nx.out.below hb)
        replace W7 := Lib.hid (W7.out.below hb W7.out.lt)
        replace Zn := Lib.hid (Zn.out.below hb)
        replace Nn := Lib.hid (Nn.out.below hb)
        replace W9 := Lib.hid (W9.out.below hb W9.out.lt)
        replace Zm := Lib.hid (Zm.out.below hb)
        replace Nm := Lib.hid (Nm.out.below hb)
        replace Zo2 := Lib.hid (Zo2.out.below hb)
        replace No2 := Lib.hid (No2.out.below hb)
        replace W11 := Lib.hid (W11.out.below hb W11.out.lt)
        replace Za := Lib.hid (Za.out.below hb)
        replace Zb2 := Lib.hid (Zb2.out.below hb)
        replace B1 := Lib.hid (B1.out.trans (hb.mono B1.out.size))
        clear hb
        refine hK.out _ _ ⟨W7.out, W11.out⟩ (fun hHeld => ?_)
        clear hK K
        try simp only [Act.put, List.setIfInBounds_toArray, List.set_cons_zero, List.set_cons_succ]
        refine wpAnyH_takeL (i := 13) (oi := _) (v := ?_) rfl (by kernel_rfl) (by kernel_rfl) (by kernel_rfl) (fun _ _ _ h => h) (Or.inl ⟨by rfl, ?_⟩) hHeld ?_
        rotate_left
        · (intro w' hSw; (try dsimp only at hSw); go_simp; try (with_reducible rfl))
        try simp only [Act.put, List.setIfInBounds_toArray, List.set_cons_zero, List.set_cons_succ]
        refine wpAnyH_takeL (i := 14) (oi := _) (v := ?_) rfl (by kernel_rfl) (by kernel_rfl) (by kernel_rfl) (fun _ _ _ h => h) (Or.inl ⟨by rfl, ?_⟩) hHeld ?_
        rotate_left
        · (intro w' hSw; (try dsimp only at hSw); go_simp; try (with_reducible rfl))
        try simp only [Act.put, List.setIfInBounds_toArray, List.set_cons_zero, List.set_cons_succ]
        refine wpAnyH_takeL (i := 15) (oi := _) (v := ?_) rfl (by kernel_rfl) (by kernel_rfl) (by kernel_rfl) (fun _ _ _ h => h) (Or.inl ⟨by rfl, ?_⟩) hHeld ?_
        rotate_left
        · (intro w' hSw; (try dsimp only at hSw); go_simp; try (with_reducible rfl))
        try simp only [Act.put, List.setIfInBounds_toArray, List.set_cons_zero, List.set_cons_succ]
        refine wpAnyH_takeL (i := 16) (oi := _) (v := ?_) rfl (by kernel_rfl) (by kernel_rfl) (by kernel_rfl) (fun _ _ _ h => h) (Or.inl ⟨by rfl, ?_⟩) hHeld ?_
        rotate_left
        · (intro w' hSw; (try dsimp only at hSw); go_simp; try (with_reducible rfl))
        try simp only [Act.put, List.setIfInBounds_toArray, List.set_cons_zero, List.set_cons_succ]
        clear hHeld
        refine wpAnyH_done (by kernel_rfl) ?_ _
        go_wp2_with fail
        go_ret
        exact ⟨rfl, B1.out⟩
theorem approxSimpler_walk (b0 : Bool) (a0 : Option Addr) (len0 cap0 : Nat) (z0 : Int) (e0 : Option Addr) (n0 c0 q0 : Nat) (b1 : Bool) (a1 : Option Addr) (len1 cap1 : Nat) (z1 : Int) (e1 : Option Addr) (n1 c1 q1 : Nat) (b2 : Bool) (a2 : Option Addr) (len2 cap2 : Nat) (z2 : Int) (e2 : Option Addr) (n2 c2 q2 : Nat) (w : World) (hx0 : Zin w b0 a0 len0 cap0 z0) (hl0 : len0 ≤ 1048576) (hp0 : Nin w e0 n0 c0 q0) (hn0 : n0 ≤ 1048576) (hx1 : Zin w b1 a1 len1 cap1 z1) (hl1 : len1 ≤ 1048576) (hp1 : Nin w e1 n1 c1 q1) (hn1 : n1 ≤ 1048576) (hx2 : Zin w b2 a2 len2 cap2 z2) (hl2 : len2 ≤ 1048576) (hp2 : Nin w e2 n2 c2 q2) (hn2 : n2 ≤ 1048576) :
    Calls Tryz.prog 5 #[.agg #[.bool b0, .slice a0 len0 cap0, .slice e0 n0 c0], .agg #[.bool b1, .slice a1 len1 cap1, .slice e1 n1 c1], .agg #[.bool b2, .slice a2 len2 cap2, .slice e2 n2 c2]] w fun e w' => e = .returned (.bool true) ∧ Below w.heap.size w w' := by
  rcases sgR_cases (mkRat z0 q0 - mkRat z1 q1) with h | h | h
  · exact approxSimpler_b b0 a0 len0 cap0 z0 e0 n0 c0 q0 b1 a1 len1 cap1 z1 e1 n1 c1 q1 b2 a2 len2 cap2 z2 e2 n2 c2 q2 w hx0 hl0 hp0 hn0 hx1 hl1 hp1 hn1 hx2 hl2 hp2 hn2 h
  · exact approxSimpler_c b0 a0 len0 cap0 z0 e0 n0 c0 q0 b1 a1 len1 cap1 z1 e1 n1 c1 q1 b2 a2 len2 cap2 z2 e2 n2 c2 q2 w hx0 hl0 hp0 hn0 hx1 hl1 hp1 hn1 hx2 hl2 hp2 hn2 h
  · exact approxSimpler_a b0 a0 len0 cap0 z0 e0 n0 c0 q0 b1 a1 len1 cap1 z1 e1 n1 c1 q1 b2 a2 len2 cap2 z2 e2 n2 c2 q2 w hx0 hl0 hp0 hn0 hx1 hl1 hp1 hn1 hx2 hl2 hp2 hn2 h
end Go.Proofs.YtfmgbfdnmconiaaGreat
