/-
  The statement RationalScaled: its walk.
-/
import Derived.Test.YtgleknejogbomaaRscl
namespace Go.Proofs.Ytgleknejogbomaa
open Go.RowKit
set_option linter.unusedVariables false

set_option maxRecDepth 100000 in
set_option maxHeartbeats 16000000 in
theorem scaled_zero (b0 : Bool) (a0 : Option Addr) (len0 cap0 : Nat) (z0 : Int) (e0 : Option Addr) (n0 c0 q0 : Nat) (b1 : Bool) (a1 : Option Addr) (len1 cap1 : Nat) (z1 : Int) (e1 : Option Addr) (n1 c1 q1 : Nat) (a2 : Int) (w : World) (hx0 : Zin w b0 a0 len0 cap0 z0) (hl0 : len0 ≤ 1048576) (hp0 : Nin w e0 n0 c0 q0) (hn0 : n0 ≤ 1048576) (hx1 : Zin w b1 a1 len1 cap1 z1) (hl1 : len1 ≤ 1048576) (hp1 : Nin w e1 n1 c1 q1) (hn1 : n1 ≤ 1048576) (hk : 0 ≤ a2 ∧ a2 < 4294967296) (h0 : a2 = 0) :
    Calls Try.prog 10 #[.agg #[.bool b0, .slice a0 len0 cap0, .slice e0 n0 c0], .agg #[.bool b1, .slice a1 len1 cap1, .slice e1 n1 c1], .int .u32 a2] w fun e w' => e = .returned (.bool true) ∧ Below w.heap.size w w' := by
  subst h0
  obtain ⟨B1, V0, V1⟩ := start_R2 w b0 a0 len0 cap0 e0 n0 c0 b1 a1 len1 cap1 e1 n1 c1
  have X0 := Lib.hid (hx0.below B1.out)
  have Y0 := Lib.hid (hp0.below B1.out)
  have LZ0 : Hid (len0 ≤ 100000000) := Nat.le_trans hl0 (by decide)
  have LD0 : Hid (n0 ≤ 100000000) := Nat.le_trans hn0 (by decide)
  have r0 : RL (mkRat z0 q0) 1048576 := rl_mk (Nat.le_trans hx0.len hl0) (Nat.le_trans hp0.len hn0) (by decide)
  have X1 := Lib.hid (hx1.below B1.out)
  have Y1 := Lib.hid (hp1.below B1.out)
  have LZ1 : Hid (len1 ≤ 100000000) := Nat.le_trans hl1 (by decide)
  have LD1 : Hid (n1 ≤ 100000000) := Nat.le_trans hn1 (by decide)
  have r1 : RL (mkRat z1 q1) 1048576 := rl_mk (Nat.le_trans hx1.len hl1) (Nat.le_trans hp1.len hn1) (by decide)
  have LL : Hid (1 ≤ 100000000 ∧ 100000000 ≤ 35184372088829) := by show _ ∧ _; omega
  have LL2 : Hid (1 ≤ 100000000 ∧ 100000000 ≤ 70368744177660) := by show _ ∧ _; omega
  clear hx0 hl0 hp0 hn0 r0 hx1 hl1 hp1 hn1 r1 hk
  go_enter Try.func10, Try.ntmps10
  go_wp2_with fail
  generalize ((w.alloc (.cells #[.bool b0, .slice a0 len0 cap0, .slice e0 n0 c0] 42)).alloc (.cells #[.bool b1, .slice a1 len1 cap1, .slice e1 n1 c1] 42)) = w2 at *
  have pc0 := Lib.hid trivial
  go_wp2_with (first
    | (clear pc0; go_at_call 34; refine Calls.mono (rawake_any _) ?_; rintro e v1 ⟨rfl, hb⟩; replace V0 := Lib.hid (V0.out.below hb V0.out.lt); replace X0 := Lib.hid (X0.out.below hb); replace Y0 := Lib.hid (Y0.out.below hb); replace V1 := Lib.hid (V1.out.below hb V1.out.lt); replace X1 := Lib.hid (X1.out.below hb); replace Y1 := Lib.hid (Y1.out.below hb); replace B1 := Lib.hid (B1.out.trans (hb.mono B1.out.size)); clear hb; have pc1 := Lib.hid trivial))
  clear pc1
  go_ret
  exact ⟨rfl, B1.out⟩
set_option maxRecDepth 100000 in
set_option maxHeartbeats 16000000 in
theorem scaled_num (b0 : Bool) (a0 : Option Addr) (len0 cap0 : Nat) (z0 : Int) (e0 : Option Addr) (n0 c0 q0 : Nat) (b1 : Bool) (a1 : Option Addr) (len1 cap1 : Nat) (z1 : Int) (e1 : Option Addr) (n1 c1 q1 : Nat) (a2 : Int) (w : World) (hx0 : Zin w b0 a0 len0 cap0 z0) (hl0 : len0 ≤ 1048576) (hp0 : Nin w e0 n0 c0 q0) (hn0 : n0 ≤ 1048576) (hx1 : Zin w b1 a1 len1 cap1 z1) (hl1 : len1 ≤ 1048576) (hp1 : Nin w e1 n1 c1 q1) (hn1 : n1 ≤ 1048576) (hk : 0 ≤ a2 ∧ a2 < 4294967296) (h0 : a2 ≠ 0) (hs : sgR (mkRat z0 q0) = 0) :
    Calls Try.prog 10 #[.agg #[.bool b0, .slice a0 len0 cap0, .slice e0 n0 c0], .agg #[.bool b1, .slice a1 len1 cap1, .slice e1 n1 c1], .int .u32 a2] w fun e w' => e = .returned (.bool true) ∧ Below w.heap.size w w' := by
  obtain ⟨B1, V0, V1⟩ := start_R2 w b0 a0 len0 cap0 e0 n0 c0 b1 a1 len1 cap1 e1 n1 c1
  have X0 := Lib.hid (hx0.below B1.out)
  have Y0 := Lib.hid (hp0.below B1.out)
  have LZ0 : Hid (len0 ≤ 100000000) := Nat.le_trans hl0 (by decide)
  have LD0 : Hid (n0 ≤ 100000000) := Nat.le_trans hn0 (by decide)
  have r0 : RL (mkRat z0 q0) 1048576 := rl_mk (Nat.le_trans hx0.len hl0) (Nat.le_trans hp0.len hn0) (by decide)
  have X1 := Lib.hid (hx1.below B1.out)
  have Y1 := Lib.hid (hp1.below B1.out)
  have LZ1 : Hid (len1 ≤ 100000000) := Nat.le_trans hl1 (by decide)
  have LD1 : Hid (n1 ≤ 100000000) := Nat.le_trans hn1 (by decide)
  have r1 : RL (mkRat z1 q1) 1048576 := rl_mk (Nat.le_trans hx1.len hl1) (Nat.le_trans hp1.len hn1) (by decide)
  have LL : Hid (1 ≤ 100000000 ∧ 100000000 ≤ 35184372088829) := by show _ ∧ _; omega
  have LL2 : Hid (1 ≤ 100000000 ∧ 100000000 ≤ 70368744177660) := by show _ ∧ _; omega
  have SR := Lib.hid hs
  clear hx0 hl0 hp0 hn0 r0 hx1 hl1 hp1 hn1 r1 hk hs
  go_enter Try.func10, Try.ntmps10
  go_wp2_with fail
  generalize ((w.alloc (.cells #[.bool b0, .slice a0 len0 cap0, .slice e0 n0 c0] 42)).alloc (.cells #[.bool b1, .slice a1 len1 cap1, .slice e1 n1 c1] 42)) = w2 at *
  have pc0 := Lib.hid trivial
  go_wp2_with (first
    | (clear pc0; go_at_call 49; refine Calls.mono (r3sign_any (r := 0) X0.out Y0.out (Nat.le_trans LZ0.out (by decide)) (Nat.le_trans LD0.out (by decide)) SR.out) ?_; rintro e v1 ⟨rfl, hb⟩; replace V0 := Lib.hid (V0.out.below hb V0.out.lt); replace X0 := Lib.hid (X0.out.below hb); replace Y0 := Lib.hid (Y0.out.below hb); replace V1 := Lib.hid (V1.out.below hb V1.out.lt); replace X1 := Lib.hid (X1.out.below hb); replace Y1 := Lib.hid (Y1.out.below hb); replace B1 := Lib.hid (B1.out.trans (hb.mono B1.out.size)); clear hb; have pc1 := Lib.hid trivial)
    | (clear pc1; go_at_call 34; refine Calls.mono (rawake_any _) ?_; rintro e v2 ⟨rfl, hb⟩; replace V0 := Lib.hid (V0.out.below hb V0.out.lt); replace X0 := Lib.hid (X0.out.below hb); replace Y0 := Lib.hid (Y0.out.below hb); replace V1 := Lib.hid (V1.out.below hb V1.out.lt); replace X1 := Lib.hid (X1.out.below hb); replace Y1 := Lib.hid (Y1.out.below hb); replace B1 := Lib.hid (B1.out.trans (hb.mono B1.out.size)); clear hb; have pc2 := Lib.hid trivial))
  clear pc2
  go_ret
  exact ⟨rfl, B1.out⟩
set_option maxRecDepth 100000 in
set_option maxHeartbeats 16000000 in
theorem scaled_pos (b0 : Bool) (a0 : Option Addr) (len0 cap0 : Nat) (z0 : Int) (e0 : Option Addr) (n0 c0 q0 : Nat) (b1 : Bool) (a1 : Option Addr) (len1 cap1 : Nat) (z1 : Int) (e1 : Option Addr) (n1 c1 q1 : Nat) (a2 : Int) (w : World) (hx0 : Zin w b0 a0 len0 cap0 z0) (hl0 : len0 ≤ 1048576) (hp0 : Nin w e0 n0 c0 q0) (hn0 : n0 ≤ 1048576) (hx1 : Zin w b1 a1 len1 cap1 z1) (hl1 : len1 ≤ 1048576) (hp1 : Nin w e1 n1 c1 q1) (hn1 : n1 ≤ 1048576) (hk : 0 ≤ a2 ∧ a2 < 4294967296) (h0 : a2 ≠ 0) (hs : sgR (mkRat z0 q0) = 1) :
    Calls Try.prog 10 #[.agg #[.bool b0, .slice a0 len0 cap0, .slice e0 n0 c0], .agg #[.bool b1, .slice a1 len1 cap1, .slice e1 n1 c1], .int .u32 a2] w fun e w' => e = .returned (.bool true) ∧ Below w.heap.size w w' := by
  obtain ⟨B1, V0, V1⟩ := start_R2 w b0 a0 len0 cap0 e0 n0 c0 b1 a1 len1 cap1 e1 n1 c1
  have X0 := Lib.hid (hx0.below B1.out)
  have Y0 := Lib.hid (hp0.below B1.out)
  have LZ0 : Hid (len0 ≤ 100000000) := Nat.le_trans hl0 (by decide)
  have LD0 : Hid (n0 ≤ 100000000) := Nat.le_trans hn0 (by decide)
  have r0 : RL (mkRat z0 q0) 1048576 := rl_mk (Nat.le_trans hx0.len hl0) (Nat.le_trans hp0.len hn0) (by decide)
  have X1 := Lib.hid (hx1.below B1.out)
  have Y1 := Lib.hid (hp1.below B1.out)
  have LZ1 : Hid (len1 ≤ 100000000) := Nat.le_trans hl1 (by decide)
  have LD1 : Hid (n1 ≤ 100000000) := Nat.le_trans hn1 (by decide)
  have r1 : RL (mkRat z1 q1) 1048576 := rl_mk (Nat.le_trans hx1.len hl1) (Nat.le_trans hp1.len hn1) (by decide)
  have LL : Hid (1 ≤ 100000000 ∧ 100000000 ≤ 35184372088829) := by show _ ∧ _; omega
  have LL2 : Hid (1 ≤ 100000000 ∧ 100000000 ≤ 70368744177660) := by show _ ∧ _; omega
  have SR := Lib.hid hs
  have LN0 := Lib.hid hl0
  have LM0 := Lib.hid hn0
  obtain ⟨kn, ek⟩ := Int.eq_ofNat_of_zero_le hk.1
  have EK : Hid ((kn : Int) = a2) := ek.symm
  have HK := Lib.hid hk.2
  obtain ⟨qz, eqz⟩ : ∃ z : Int, (q0 : Int) = z := ⟨_, rfl⟩
  obtain ⟨xx, exx⟩ : ∃ z : Int, z0 * a2 = z := ⟨_, rfl⟩
  obtain ⟨m2, em2⟩ : ∃ z : Int, qz * a2 = z := ⟨_, rfl⟩
  have EQZ := Lib.hid eqz
  have EXX := Lib.hid exx
  have EM2 := Lib.hid em2
  have Mx : mkRat xx m2.natAbs = mkRat z0 q0 := by
    rw [← exx, ← em2, ← eqz, ek, ← Int.natCast_mul, Int.natAbs_natCast]
    exact Rat.mkRat_mul_right (by omega)
  have rx : RL (mkRat xx m2.natAbs) 1048576 := by rw [Mx]; exact r0
  have lk : (ofv a2.natAbs).length ≤ 1 := len_small (by omega)
  have lx := zlen_mul (Nat.le_trans hx0.len hl0) lk
  rw [exx] at lx
  have lq := zlen_mul (x := qz) (n := 1048576) (by rw [← eqz]; simpa using Nat.le_trans hp0.len hn0) lk
  rw [em2] at lq
  have LZx : Hid ((ofv xx.natAbs).length ≤ 100000000) := Nat.le_trans lx (by decide)
  have LDx : Hid ((ofv m2.natAbs).length ≤ 100000000) := Nat.le_trans lq (by decide)
  have K1 : Hid (len0 + 1 ≤ 70368744177664) := by show _ ≤ _; omega
  have K2 : Hid (n0 + 1 ≤ 70368744177664) := by show _ ≤ _; omega
  have hz1 := zfield1
  obtain ⟨xs, exs⟩ : ∃ z : Int, (mkRat z0 q0 + mkRat z1 q1).num = z := ⟨_, rfl⟩
  obtain ⟨ds, eds⟩ : ∃ z : Nat, (mkRat z0 q0 + mkRat z1 q1).den = z := ⟨_, rfl⟩
  have Ms : mkRat xs ds = mkRat z0 q0 + mkRat z1 q1 := by rw [← exs, ← eds, mk_self]
  have rs : RL (mkRat xs ds) 2097153 := by rw [Ms]; exact (rl_add r0 r1).le (by decide)
  have LZs : Hid ((ofv xs.natAbs).length ≤ 100000000) := by show _ ≤ _; have h := rs.1; rw [Ms, exs] at h; exact Nat.le_trans h (by decide)
  have LDs : Hid ((ofv ds).length ≤ 100000000) := by show _ ≤ _; have h := rs.2; rw [Ms, eds] at h; exact Nat.le_trans h (by decide)
  have HZs := Lib.hid exs
  have HDs := Lib.hid eds
  obtain ⟨xs2, exs2⟩ : ∃ z : Int, (mkRat xx m2.natAbs + mkRat z1 q1).num = z := ⟨_, rfl⟩
  obtain ⟨ds2, eds2⟩ : ∃ z : Nat, (mkRat xx m2.natAbs + mkRat z1 q1).den = z := ⟨_, rfl⟩
  have Ms2 : mkRat xs2 ds2 = mkRat xx m2.natAbs + mkRat z1 q1 := by rw [← exs2, ← eds2, mk_self]
  have rs2 : RL (mkRat xs2 ds2) 2097153 := by rw [Ms2]; exact (rl_add rx r1).le (by decide)
  have LZs2 : Hid ((ofv xs2.natAbs).length ≤ 100000000) := by show _ ≤ _; have h := rs2.1; rw [Ms2, exs2] at h; exact Nat.le_trans h (by decide)
  have LDs2 : Hid ((ofv ds2).length ≤ 100000000) := by show _ ≤ _; have h := rs2.2; rw [Ms2, eds2] at h; exact Nat.le_trans h (by decide)
  have HZs2 := Lib.hid exs2
  have HDs2 := Lib.hid eds2
  have EE : mkRat z0 q0 + mkRat z1 q1 = mkRat xx m2.natAbs + mkRat z1 q1 := by rw [Mx]
  have EQs_s2 : Hid (xs = xs2 ∧ ds = ds2) := by show _ ∧ _; rw [← exs, ← exs2, ← eds, ← eds2]; exact ⟨congrArg Rat.num EE, congrArg Rat.den EE⟩
  clear EE
  obtain ⟨xv, exv⟩ : ∃ z : Int, (mkRat z0 q0 * mkRat z1 q1).num = z := ⟨_, rfl⟩
  obtain ⟨dv, edv⟩ : ∃ z : Nat, (mkRat z0 q0 * mkRat z1 q1).den = z := ⟨_, rfl⟩
  have Mv : mkRat xv dv = mkRat z0 q0 * mkRat z1 q1 := by rw [← exv, ← edv, mk_self]
  have rv : RL (mkRat xv dv) 2097152 := by rw [Mv]; exact (rl_mul r0 r1).le (by decide)
  have LZv : Hid ((ofv xv.natAbs).length ≤ 100000000) := by show _ ≤ _; have h := rv.1; rw [Mv, exv] at h; exact Nat.le_trans h (by decide)
  have LDv : Hid ((ofv dv).length ≤ 100000000) := by show _ ≤ _; have h := rv.2; rw [Mv, edv] at h; exact Nat.le_trans h (by decide)
  have HZv := Lib.hid exv
  have HDv := Lib.hid edv
  obtain ⟨xv2, exv2⟩ : ∃ z : Int, (mkRat xx m2.natAbs * mkRat z1 q1).num = z := ⟨_, rfl⟩
  obtain ⟨dv2, edv2⟩ : ∃ z : Nat, (mkRat xx m2.natAbs * mkRat z1 q1).den = z := ⟨_, rfl⟩
  have Mv2 : mkRat xv2 dv2 = mkRat xx m2.natAbs * mkRat z1 q1 := by rw [← exv2, ← edv2, mk_self]
  have rv2 : RL (mkRat xv2 dv2) 2097152 := by rw [Mv2]; exact (rl_mul rx r1).le (by decide)
  have LZv2 : Hid ((ofv xv2.natAbs).length ≤ 100000000) := by show _ ≤ _; have h := rv2.1; rw [Mv2, exv2] at h; exact Nat.le_trans h (by decide)
  have LDv2 : Hid ((ofv dv2).length ≤ 100000000) := by show _ ≤ _; have h := rv2.2; rw [Mv2, edv2] at h; exact Nat.le_trans h (by decide)
  have HZv2 := Lib.hid exv2
  have HDv2 := Lib.hid edv2
  have EE : mkRat z0 q0 * mkRat z1 q1 = mkRat xx m2.natAbs * mkRat z1 q1 := by rw [Mx]
  have EQv_v2 : Hid (xv = xv2 ∧ dv = dv2) := by show _ ∧ _; rw [← exv, ← exv2, ← edv, ← edv2]; exact ⟨congrArg Rat.num EE, congrArg Rat.den EE⟩
  clear EE
  obtain ⟨r, er⟩ : ∃ r : Int, sgR (mkRat z0 q0 - mkRat z1 q1) = r := ⟨_, rfl⟩
  have C1 := Lib.hid er
  have C2 : Hid (sgR (mkRat xx m2.natAbs - mkRat z1 q1) = r) := by show _ = _; rw [Mx]; exact er
  obtain ⟨f, ef⟩ : ∃ r : Int, (mkRat z0 q0).floor = r := ⟨_, rfl⟩
  have F1 := Lib.hid ef
  have F2 : Hid ((mkRat xx m2.natAbs).floor = f) := by show _ = _; rw [Mx]; exact ef
  obtain ⟨sz, esz⟩ : ∃ r : Int, szR (mkRat z0 q0) = r := ⟨_, rfl⟩
  have S1 := Lib.hid esz
  have S2 : Hid (szR (mkRat xx m2.natAbs) = sz) := by show _ = _; rw [Mx]; exact esz
  clear hx0 hl0 hp0 hn0 r0 hx1 hl1 hp1 hn1 r1 exs eds Ms rs exs2 eds2 Ms2 rs2 exv edv Mv rv exv2 edv2 Mv2 rv2 hk hs ek eqz exx em2 Mx rx lk lx lq er ef esz
  go_enter Try.func10, Try.ntmps10
  go_wp2_with fail
  generalize ((w.alloc (.cells #[.bool b0, .slice a0 len0 cap0, .slice e0 n0 c0] 42)).alloc (.cells #[.bool b1, .slice a1 len1 cap1, .slice e1 n1 c1] 42)) = w2 at *
  have pc0 := Lib.hid trivial
  go_wp2_with (first
    | (clear pc0; go_at_call 49; refine Calls.mono (r3sign_any (r := 1) X0.out Y0.out (Nat.le_trans LZ0.out (by decide)) (Nat.le_trans LD0.out (by decide)) SR.out) ?_; rintro e v1 ⟨rfl, hb⟩; replace V0 := Lib.hid (V0.out.below hb V0.out.lt); replace X0 := Lib.hid (X0.out.below hb); replace Y0 := Lib.hid (Y0.out.below hb); replace V1 := Lib.hid (V1.out.below hb V1.out.lt); replace X1 := Lib.hid (X1.out.below hb); replace Y1 := Lib.hid (Y1.out.below hb); replace B1 := Lib.hid (B1.out.trans (hb.mono B1.out.size)); clear hb; have pc1 := Lib.hid trivial))
  clear pc1
  have hb : Below v1.heap.size v1 (v1.alloc (.cells #[.int .u32 a2] 36)) := (Below.refl _ _).alloc (Nat.le_refl _) _
  replace V0 := Lib.hid (V0.out.below hb V0.out.lt)
  replace X0 := Lib.hid (X0.out.below hb)
  replace Y0 := Lib.hid (Y0.out.below hb)
  replace V1 := Lib.hid (V1.out.below hb V1.out.lt)
  replace X1 := Lib.hid (X1.out.below hb)
  replace Y1 := Lib.hid (Y1.out.below hb)
  replace B1 := Lib.hid (B1.out.trans (hb.mono B1.out.size))
  clear hb
  have NK := Lib.hid (nin_k v1 EK.out HK.out)
  generalize (v1.alloc (.cells #[.int .u32 a2] 36)) = w5 at *
  simp only [show (a2 == 0) = false from by simp [h0]]
  clear h0
  have LT : Hid (w.heap.size + 1 < w5.heap.size) := V1.out.lt
  have HB : Hid (Below w5.heap.size w5 w5.drew) := below_drewN _ w5 1
  refine wp_region_held_drew (S := fun w' => Below w5.heap.size w5 w') (by kernel_rfl) (HB.out) (fun hHeld => ?_)
  refine wpAnyH_takeL (i := 0) (oi := _) (v := ?_) rfl (by kernel_rfl) (by kernel_rfl) (by kernel_rfl) (fun _ _ _ h => h) (Or.inl ⟨by rfl, ?_⟩) hHeld ?_
  rotate_left
  · (intro w' hSw; (try dsimp only at hSw); go_simp; try (with_reducible rfl))
  try simp only [Act.put, List.setIfInBounds_toArray, List.set_cons_zero, List.set_cons_succ]
  refine wpAnyH_takeL (i := 1) (oi := _) rfl (by kernel_rfl) (by kernel_rfl) (by kernel_rfl) (fun _ _ _ h => h) (yields_ldRz (by rfl) _ rfl (by rfl) (fun _ hb => V0.out.below hb V0.out.lt)) hHeld ?_
  try simp only [Act.put, List.setIfInBounds_toArray, List.set_cons_zero, List.set_cons_succ]
  refine wpAnyH_takeL (i := 2) (oi := _) (v := ?_) rfl (by kernel_rfl) (by kernel_rfl) (by kernel_rfl) (fun _ _ _ h => h) (Or.inl ⟨by rfl, ?_⟩) hHeld ?_
  rotate_left
  · (intro w' hSw; (try dsimp only at hSw); go_simp; try (with_reducible rfl))
  try simp only [Act.put, List.setIfInBounds_toArray, List.set_cons_zero, List.set_cons_succ]
  refine wpAnyH_takeL (i := 3) (oi := _) (v := ?_) rfl (by kernel_rfl) (by kernel_rfl) (by kernel_rfl) (fun _ _ _ h => h) (Or.inl ⟨by rfl, ?_⟩) hHeld ?_
  rotate_left
  · (intro w' hSw; (try dsimp only at hSw); go_simp; try (with_reducible rfl))
  try simp only [Act.put, List.setIfInBounds_toArray, List.set_cons_zero, List.set_cons_succ]
  refine wpAnyH_takeL (i := 5) (oi := _) (v := ?_) rfl (by kernel_rfl) (by kernel_rfl) (by kernel_rfl) (fun _ _ _ h => h) (Or.inl ⟨by rfl, ?_⟩) hHeld ?_
  rotate_left
  · (intro w' hSw; (try dsimp only at hSw); go_simp; try (with_reducible rfl))
  try simp only [Act.put, List.setIfInBounds_toArray, List.set_cons_zero, List.set_cons_succ]
  refine wpAnyH_takeL (i := 6) (oi := _) rfl (by kernel_rfl) (by kernel_rfl) (by kernel_rfl) (fun _ _ _ h => h) (yields_ldRd (by rfl) _ rfl (by rfl) (fun _ hb => V0.out.below hb V0.out.lt)) hHeld ?_
  try simp only [Act.put, List.setIfInBounds_toArray, List.set_cons_zero, List.set_cons_succ]
  refine wpAnyH_takeL (i := 7) (oi := _) (v := ?_) rfl (by kernel_rfl) (by kernel_rfl) (by kernel_rfl) (fun _ _ _ h => h) (Or.inl ⟨by rfl, ?_⟩) hHeld ?_
  rotate_left
  · (intro w' hSw; (try dsimp only at hSw); go_simp; try (with_reducible rfl))
  try simp only [Act.put, List.setIfInBounds_toArray, List.set_cons_zero, List.set_cons_succ]
  refine wpAnyH_takeL (i := 8) (oi := _) (v := ?_) rfl (by kernel_rfl) (by kernel_rfl) (by kernel_rfl) (fun _ _ _ h => h) (Or.inl ⟨by rfl, ?_⟩) hHeld ?_
  rotate_left
  · (intro w' hSw; (try dsimp only at hSw); go_simp; try (with_reducible rfl))
  try simp only [Act.put, List.setIfInBounds_toArray, List.set_cons_zero, List.set_cons_succ]
  refine wpAnyH_takeL (i := 9) (oi := _) (v := ?_) rfl (by kernel_rfl) (by kernel_rfl) (by kernel_rfl) (fun _ _ _ h => h) (Or.inl ⟨by rfl, ?_⟩) hHeld ?_
  rotate_left
  · (intro w' hSw; (try dsimp only at hSw); go_simp; try (with_reducible rfl))
  try simp only [Act.put, List.setIfInBounds_toArray, List.set_cons_zero, List.set_cons_succ]
  refine wpAnyH_rgt [(4, some 23), (10, some 29), (11, some 30), (12, some 31), (13, some 8)] [11, 12] (isNewR w5.heap.size) [(4, isZ xx w5.heap.size), (10, isZ m2 w5.heap.size), (11, isS m2.natAbs w5.heap.size), (12, isR xx m2.natAbs w5.heap.size)] w5 (f0 := 1) (by kernel_rfl) (by kernel_rfl) (by rfl) HB.out (fun _ h => h) (fun _ _ _ _ _ h => h) (isNewR_good _) ⟨isZ_good _ _, isZ_good _ _, isS_good _ _, isR_good _ _ _, trivial⟩ ?_ ?_ ?_
  · clear hHeld HB
    show RgOps _ _ _ _ _ _ _ _ _ [4, 10, 13]
    refine RgOps.consL (o := _) (ds := []) rfl rfl (by kernel_rfl) (fun vals wr hbr hC hdep K hK => ?_) ?_
    · have BB := Lib.hid hbr
      clear hdep
      clear hbr hC
      simp only [Upd2, Act.put, List.setIfInBounds_toArray, List.set_cons_zero, List.set_cons_succ] at hK ⊢
      go_simp
      go_at_call 50
      refine Calls.mono (rmul_z (x := z0) (y := a2) (z := xx) (X0.out.below BB.out) (Nin.int (NK.out.below BB.out) EK.out) K1.out EXX.out) ?_
      rintro e wq ⟨R, cR, rfl, ho, hb⟩
      exact hK.out _ _ (LeavesB.giveZ BB.out.size ho hb)
    refine RgOps.consL (o := _) (ds := [4]) rfl rfl (by kernel_rfl) (fun vals wr hbr hC hdep K hK => ?_) ?_
    · have BB := Lib.hid hbr
      obtain ⟨⟨P4, c4, e4, o4⟩, -⟩ := hdep
      clear hbr hC
      simp only [e4, Upd2, Act.put, List.setIfInBounds_toArray, List.set_cons_zero, List.set_cons_succ] at hK ⊢
      clear e4
      go_simp
      go_at_call 50
      refine Calls.mono (rmul_z (x := qz) (y := a2) (z := m2) (Nin.int (Y0.out.below BB.out) EQZ.out) (Nin.int (NK.out.below BB.out) EK.out) K2.out EM2.out) ?_
      rintro e wq ⟨R, cR, rfl, ho, hb⟩
      exact hK.out _ _ (LeavesB.giveZ BB.out.size ho hb)
    refine RgOps.consL (o := _) (ds := []) rfl rfl (by kernel_rfl) (fun vals wr hbr hC hdep K hK => ?_) RgOps.nil
    · have BB := Lib.hid hbr
      clear hdep
      clear hbr hC
      simp only [Upd2, Act.put, List.setIfInBounds_toArray, List.set_cons_zero, List.set_cons_succ] at hK ⊢
      go_simp
      exact hK.out _ _ (LeavesB.newR BB.out.size)
  · clear hHeld HB
    show TaAll _ _ _ _ _ [11, 12]
    refine TaAll.cons (o := _) (ds := [10]) rfl rfl (by kernel_rfl) (fun vals wr hdep => ?_) ?_
    · obtain ⟨⟨P10, c10, e10, o10⟩, -⟩ := hdep
      refine ⟨_, fun S => Or.inl ⟨by rfl, ?_⟩, ⟨_, _, rfl, o10⟩, rfl⟩
      intro w' _
      simp only [e10, Upd2, Act.put, List.setIfInBounds_toArray, List.set_cons_zero, List.set_cons_succ]
      go_simp
    refine TaAll.cons (o := _) (ds := [4, 11]) rfl rfl (by kernel_rfl) (fun vals wr hdep => ?_) TaAll.nil
    · obtain ⟨⟨P4, c4, e4, o4⟩, ⟨P11, c11, e11, o11⟩, -⟩ := hdep
      refine ⟨_, fun S => Or.inl ⟨by rfl, ?_⟩, ⟨_, _, _, _, rfl, o4, o11⟩, rfl⟩
      intro w' _
      simp only [e4, e11, Upd2, Act.put, List.setIfInBounds_toArray, List.set_cons_zero, List.set_cons_succ]
      go_simp
  clear hHeld HB
  intro vals wr hb hdep hD
  obtain ⟨⟨P4, c4, e4, o4⟩, ⟨P10, c10, e10, o10⟩, ⟨P11, c11, e11, o11⟩, ⟨P12, c12, Q12, k12, e12, o12, u12⟩, ⟨g13, e13, l13, z13⟩, -⟩ := hdep
  simp only [Upd2, e4, e10, e11, e12, e13, Act.put, List.setIfInBounds_toArray, List.set_cons_zero, List.set_cons_succ]
  clear e4 e10 e11 e12 e13
  clear hD vals
  replace V0 := Lib.hid (V0.out.below hb V0.out.lt)
  replace X0 := Lib.hid (X0.out.below hb)
  replace Y0 := Lib.hid (Y0.out.below hb)
  replace V1 := Lib.hid (V1.out.below hb V1.out.lt)
  replace X1 := Lib.hid (X1.out.below hb)
  replace Y1 := Lib.hid (Y1.out.below hb)
  replace NK := Lib.hid (NK.out.below hb)
  replace B1 := Lib.hid (B1.out.trans (hb.mono B1.out.size))
  have HB := Lib.hid hb
  clear hb
  have Zx := Lib.hid (Zo.of_own o12); have Nx := Lib.hid u12.rd; have G1 := Lib.hid z13; have L13 := Lib.hid l13; have LG1 : Hid (w.heap.size + 1 < g13) := Nat.lt_of_lt_of_le LT.out l13
  clear o4 o10 o11 o12 u12 z13 l13
  refine wpAnyH_ready (rs := [14]) (by kernel_rfl) (by simp) ?_
  refine AllReadyH.consL (o := _) rfl (fun K hK => ?_) AllReadyH.nil
  rw [if_pos (by rfl)]
  refine wp_stR _ _ rfl (by rfl) (by rfl) G1.out ?_
  intro ws0 hz hg
  replace HB := Lib.hid (Below.gr HB.out (by have := L13.out; omega) hg HB.out.size)
  replace V0 := Lib.hid (V0.out.gro hg (by have := LG1.out; omega))
  replace X0 := Lib.hid (X0.out.grR G1.out hg)
  replace Y0 := Lib.hid (Y0.out.grR G1.out hg)
  replace V1 := Lib.hid (V1.out.gro hg (by have := LG1.out; omega))
  replace X1 := Lib.hid (X1.out.grR G1.out hg)
  replace Y1 := Lib.hid (Y1.out.grR G1.out hg)
  replace NK := Lib.hid (NK.out.grR G1.out hg)
  replace Zx := Lib.hid (Zx.out.grR G1.out hg)
  replace Nx := Lib.hid (Nx.out.grR G1.out hg)
  replace B1 := Lib.hid (Below.gr B1.out (by have := LG1.out; omega) hg B1.out.size)
  replace G1 := Lib.hid hz
  refine hK.out _ _ ⟨HB.out, HB.out⟩ (fun _ => ?_)
  clear hK K hg hz
  try simp only [Act.put]
  refine wpAnyH_done (by kernel_rfl) ?_ _
  clear HB
  go_wp2_with fail
  have HB : Hid (Below ws0.heap.size ws0 ws0.drew) := below_drewN _ ws0 1
  refine wp_region_held_drew (S := fun w' => Below ws0.heap.size ws0 w') (by kernel_rfl) (HB.out) (fun hHeld => ?_)
  refine wpAnyH_ready (rs := [0]) (by kernel_rfl) (by simp) ?_
  refine AllReadyH.consL (o := _) rfl (fun K hK => ?_) AllReadyH.nil
  clear hHeld
  go_simp
  go_at_call 34
  refine Calls.mono (rawake_any _) ?_
  rintro e v2 ⟨rfl, hb⟩
  replace HB := Lib.hid (HB.out.trans (hb.mono HB.out.size))
  clear hb
  refine hK.out _ _ HB.out (fun hHeld => ?_)
  clear hK K
  try simp only [Act.put, List.setIfInBounds_toArray, List.set_cons_zero, List.set_cons_succ]
  refine wpAnyH_takeL (i := 1) (oi := _) (v := ?_) rfl (by kernel_rfl) (by kernel_rfl) (by kernel_rfl) (fun _ _ _ h => h) (Or.inl ⟨by rfl, ?_⟩) hHeld ?_
  rotate_left
  · (intro w' hSw; (try dsimp only at hSw); go_simp; try (with_reducible rfl))
  try simp only [Act.put, List.setIfInBounds_toArray, List.set_cons_zero, List.set_cons_succ]
  refine wpAnyH_takeL (i := 2) (oi := _) rfl (by kernel_rfl) (by kernel_rfl) (by kernel_rfl) (fun _ _ _ h => h) (yields_ldR (by rfl) _ rfl (by rfl) (fun _ hb => V0.out.below hb V0.out.lt)) hHeld ?_
  try simp only [Act.put, List.setIfInBounds_toArray, List.set_cons_zero, List.set_cons_succ]
  refine wpAnyH_takeL (i := 3) (oi := _) rfl (by kernel_rfl) (by kernel_rfl) (by kernel_rfl) (fun _ _ _ h => h) (yields_ldR (by rfl) _ rfl (by rfl) (fun _ hb => V1.out.below hb V1.out.lt)) hHeld ?_
  try simp only [Act.put, List.setIfInBounds_toArray, List.set_cons_zero, List.set_cons_succ]
  refine wpAnyH_takeL (i := 5) (oi := _) rfl (by kernel_rfl) (by kernel_rfl) (by kernel_rfl) (fun _ _ _ h => h) (yields_ldR (by rfl) _ rfl (by rfl) (fun _ hb => G1.out.below hb G1.out.lt)) hHeld ?_
  try simp only [Act.put, List.setIfInBounds_toArray, List.set_cons_zero, List.set_cons_succ]
  refine wpAnyH_takeL (i := 6) (oi := _) rfl (by kernel_rfl) (by kernel_rfl) (by kernel_rfl) (fun _ _ _ h => h) (yields_ldR (by rfl) _ rfl (by rfl) (fun _ hb => V1.out.below hb V1.out.lt)) hHeld ?_
  try simp only [Act.put, List.setIfInBounds_toArray, List.set_cons_zero, List.set_cons_succ]
  refine wpAnyH_ready (rs := [4]) (by kernel_rfl) (by simp) ?_
  refine AllReadyH.consL (o := _) rfl (fun K hK => ?_) AllReadyH.nil
  clear hHeld
  go_simp
  go_at_call 37
  refine Calls.mono (qadd_any (L := 100000000) (z := xs) (d := ds) (X0.out.below HB.out) (Y0.out.below HB.out) (X1.out.below HB.out) (Y1.out.below HB.out) LZ0.out LD0.out LZ1.out LD1.out LL.out HZs.out HDs.out) ?_
  rintro e v3 ⟨Ps, cs, Qs, ks, rfl, ho, ho2, hb⟩
  replace HB := Lib.hid (HB.out.trans (hb.mono HB.out.size))
  have Zs := Lib.hid (Zo.of_own ho)
  have Ns := Lib.hid ho2.rd
  clear ho ho2
  clear hb
  refine hK.out _ _ HB.out (fun hHeld => ?_)
  clear hK K
  try simp only [Act.put, List.setIfInBounds_toArray, List.set_cons_zero, List.set_cons_succ]
  refine wpAnyH_ready (rs := [7]) (by kernel_rfl) (by simp) ?_
  refine AllReadyH.consL (o := _) rfl (fun K hK => ?_) AllReadyH.nil
  clear hHeld
  go_simp
  go_at_call 37
  refine Calls.mono (qadd_any (L := 100000000) (z := xs2) (d := ds2) (Zx.out.below HB.out).in_ (Nin.of_rd (Nx.out.below HB.out)) (X1.out.below HB.out) (Y1.out.below HB.out) LZx.out LDx.out LZ1.out LD1.out LL.out HZs2.out HDs2.out) ?_
  rintro e v4 ⟨Ps2, cs2, Qs2, ks2, rfl, ho, ho2, hb⟩
  replace HB := Lib.hid (HB.out.trans (hb.mono HB.out.size))
  replace Zs := Lib.hid (Zs.out.below hb)
  replace Ns := Lib.hid (Ns.out.below hb)
  have Zs2 := Lib.hid (Zo.of_own ho)
  have Ns2 := Lib.hid ho2.rd
  clear ho ho2
  clear hb
  refine hK.out _ _ HB.out (fun hHeld => ?_)
  clear hK K
  try simp only [Act.put, List.setIfInBounds_toArray, List.set_cons_zero, List.set_cons_succ]
  refine wpAnyH_ready (rs := [8]) (by kernel_rfl) (by simp) ?_
  refine AllReadyH.consL (o := _) rfl (fun K hK => ?_) AllReadyH.nil
  clear hHeld
  go_simp
  go_at_call 33
  refine Calls.mono (r3equal_any (b := true) Zs.out Zs2.out Ns.out Ns2.out (by simpa using EQs_s2.out)) ?_
  rintro e v5 ⟨rfl, hb⟩
  replace HB := Lib.hid (HB.out.trans (hb.mono HB.out.size))
  replace Zs := Lib.hid (Zs.out.below hb)
  replace Ns := Lib.hid (Ns.out.below hb)
  replace Zs2 := Lib.hid (Zs2.out.below hb)
  replace Ns2 := Lib.hid (Ns2.out.below hb)
  clear hb
  refine hK.out _ _ HB.out (fun hHeld => ?_)
  clear hK K
  try simp only [Act.put, List.setIfInBounds_toArray, List.set_cons_zero, List.set_cons_succ]
  refine wpAnyH_takeL (i := 9) (oi := _) (v := ?_) rfl (by kernel_rfl) (by kernel_rfl) (by kernel_rfl) (fun _ _ _ h => h) (Or.inl ⟨by rfl, ?_⟩) hHeld ?_
  rotate_left
  · (intro w' hSw; (try dsimp only at hSw); go_simp; try (with_reducible rfl))
  try simp only [Act.put, List.setIfInBounds_toArray, List.set_cons_zero, List.set_cons_succ]
  refine wpAnyH_takeL (i := 10) (oi := _) (v := ?_) rfl (by kernel_rfl) (by kernel_rfl) (by kernel_rfl) (fun _ _ _ h => h) (Or.inl ⟨by rfl, ?_⟩) hHeld ?_
  rotate_left
  · (intro w' hSw; (try dsimp only at hSw); go_simp; try (with_reducible rfl))
  try simp only [Act.put, List.setIfInBounds_toArray, List.set_cons_zero, List.set_cons_succ]
  refine wpAnyH_takeL (i := 11) (oi := _) rfl (by kernel_rfl) (by kernel_rfl) (by kernel_rfl) (fun _ _ _ h => h) (yields_ldR (by rfl) _ rfl (by rfl) (fun _ hb => V0.out.below hb V0.out.lt)) hHeld ?_
  try simp only [Act.put, List.setIfInBounds_toArray, List.set_cons_zero, List.set_cons_succ]
  refine wpAnyH_takeL (i := 12) (oi := _) rfl (by kernel_rfl) (by kernel_rfl) (by kernel_rfl) (fun _ _ _ h => h) (yields_ldR (by rfl) _ rfl (by rfl) (fun _ hb => V1.out.below hb V1.out.lt)) hHeld ?_
  try simp only [Act.put, List.setIfInBounds_toArray, List.set_cons_zero, List.set_cons_succ]
  refine wpAnyH_takeL (i := 14) (oi := _) rfl (by kernel_rfl) (by kernel_rfl) (by kernel_rfl) (fun _ _ _ h => h) (yields_ldR (by rfl) _ rfl (by rfl) (fun _ hb => G1.out.below hb G1.out.lt)) hHeld ?_
  try simp only [Act.put, List.setIfInBounds_toArray, List.set_cons_zero, List.set_cons_succ]
  refine wpAnyH_takeL (i := 15) (oi := _) rfl (by kernel_rfl) (by kernel_rfl) (by kernel_rfl) (fun _ _ _ h => h) (yields_ldR (by rfl) _ rfl (by rfl) (fun _ hb => V1.out.below hb V1.out.lt)) hHeld ?_
  try simp only [Act.put, List.setIfInBounds_toArray, List.set_cons_zero, List.set_cons_succ]
  refine wpAnyH_ready (rs := [13]) (by kernel_rfl) (by simp) ?_
  refine AllReadyH.consL (o := _) rfl (fun K hK => ?_) AllReadyH.nil
  clear hHeld
  go_simp
  go_at_call 41
  refine Calls.mono (qmul_any (L := 100000000) (z := xv) (d := dv) (X0.out.below HB.out) (Y0.out.below HB.out) (X1.out.below HB.out) (Y1.out.below HB.out) LZ0.out LD0.out LZ1.out LD1.out LL.out HZv.out HDv.out) ?_
  rintro e v6 ⟨Pv, cv, Qv, kv, rfl, ho, ho2, hb⟩
  replace HB := Lib.hid (HB.out.trans (hb.mono HB.out.size))
  replace Zs := Lib.hid (Zs.out.below hb)
  replace Ns := Lib.hid (Ns.out.below hb)
  replace Zs2 := Lib.hid (Zs2.out.below hb)
  replace Ns2 := Lib.hid (Ns2.out.below hb)
  have Zv := Lib.hid (Zo.of_own ho)
  have Nv := Lib.hid ho2.rd
  clear ho ho2
  clear hb
  refine hK.out _ _ HB.out (fun hHeld => ?_)
  clear hK K
  try simp only [Act.put, List.setIfInBounds_toArray, List.set_cons_zero, List.set_cons_succ]
  refine wpAnyH_ready (rs := [16]) (by kernel_rfl) (by simp) ?_
  refine AllReadyH.consL (o := _) rfl (fun K hK => ?_) AllReadyH.nil
  clear hHeld
  go_simp
  go_at_call 41
  refine Calls.mono (qmul_any (L := 100000000) (z := xv2) (d := dv2) (Zx.out.below HB.out).in_ (Nin.of_rd (Nx.out.below HB.out)) (X1.out.below HB.out) (Y1.out.below HB.out) LZx.out LDx.out LZ1.out LD1.out LL.out HZv2.out HDv2.out) ?_
  rintro e v7 ⟨Pv2, cv2, Qv2, kv2, rfl, ho, ho2, hb⟩
  replace HB := Lib.hid (HB.out.trans (hb.mono HB.out.size))
  replace Zs := Lib.hid (Zs.out.below hb)
  replace Ns := Lib.hid (Ns.out.below hb)
  replace Zs2 := Lib.hid (Zs2.out.below hb)
  replace Ns2 := Lib.hid (Ns2.out.below hb)
  replace Zv := Lib.hid (Zv.out.below hb)
  replace Nv := Lib.hid (Nv.out.below hb)
  have Zv2 := Lib.hid (Zo.of_own ho)
  have Nv2 := Lib.hid ho2.rd
  clear ho ho2
  clear hb
  refine hK.out _ _ HB.out (fun hHeld => ?_)
  clear hK K
  try simp only [Act.put, List.setIfInBounds_toArray, List.set_cons_zero, List.set_cons_succ]
  refine wpAnyH_ready (rs := [17]) (by kernel_rfl) (by simp) ?_
  refine AllReadyH.consL (o := _) rfl (fun K hK => ?_) AllReadyH.nil
  clear hHeld
  go_simp
  go_at_call 33
  refine Calls.mono (r3equal_any (b := true) Zv.out Zv2.out Nv.out Nv2.out (by simpa using EQv_v2.out)) ?_
  rintro e v8 ⟨rfl, hb⟩
  replace HB := Lib.hid (HB.out.trans (hb.mono HB.out.size))
  replace Zs := Lib.hid (Zs.out.below hb)
  replace Ns := Lib.hid (Ns.out.below hb)
  replace Zs2 := Lib.hid (Zs2.out.below hb)
  replace Ns2 := Lib.hid (Ns2.out.below hb)
  replace Zv := Lib.hid (Zv.out.below hb)
  replace Nv := Lib.hid (Nv.out.below hb)
  replace Zv2 := Lib.hid (Zv2.out.below hb)
  replace Nv2 := Lib.hid (Nv2.out.below hb)
  clear hb
  refine hK.out _ _ HB.out (fun hHeld => ?_)
  clear hK K
  try simp only [Act.put, List.setIfInBounds_toArray, List.set_cons_zero, List.set_cons_succ]
  refine wpAnyH_takeL (i := 18) (oi := _) (v := ?_) rfl (by kernel_rfl) (by kernel_rfl) (by kernel_rfl) (fun _ _ _ h => h) (Or.inl ⟨by rfl, ?_⟩) hHeld ?_
  rotate_left
  · (intro w' hSw; (try dsimp only at hSw); go_simp; try (with_reducible rfl))
  try simp only [Act.put, List.setIfInBounds_toArray, List.set_cons_zero, List.set_cons_succ]
  refine wpAnyH_takeL (i := 19) (oi := _) (v := ?_) rfl (by kernel_rfl) (by kernel_rfl) (by kernel_rfl) (fun _ _ _ h => h) (Or.inl ⟨by rfl, ?_⟩) hHeld ?_
  rotate_left
  · (intro w' hSw; (try dsimp only at hSw); go_simp; try (with_reducible rfl))
  try simp only [Act.put, List.setIfInBounds_toArray, List.set_cons_zero, List.set_cons_succ]
  refine wpAnyH_takeL (i := 20) (oi := _) rfl (by kernel_rfl) (by kernel_rfl) (by kernel_rfl) (fun _ _ _ h => h) (yields_ldR (by rfl) _ rfl (by rfl) (fun _ hb => V0.out.below hb V0.out.lt)) hHeld ?_
  try simp only [Act.put, List.setIfInBounds_toArray, List.set_cons_zero, List.set_cons_succ]
  refine wpAnyH_takeL (i := 21) (oi := _) rfl (by kernel_rfl) (by kernel_rfl) (by kernel_rfl) (fun _ _ _ h => h) (yields_ldR (by rfl) _ rfl (by rfl) (fun _ hb => V1.out.below hb V1.out.lt)) hHeld ?_
  try simp only [Act.put, List.setIfInBounds_toArray, List.set_cons_zero, List.set_cons_succ]
  refine wpAnyH_takeL (i := 23) (oi := _) rfl (by kernel_rfl) (by kernel_rfl) (by kernel_rfl) (fun _ _ _ h => h) (yields_ldR (by rfl) _ rfl (by rfl) (fun _ hb => G1.out.below hb G1.out.lt)) hHeld ?_
  try simp only [Act.put, List.setIfInBounds_toArray, List.set_cons_zero, List.set_cons_succ]
  refine wpAnyH_takeL (i := 24) (oi := _) rfl (by kernel_rfl) (by kernel_rfl) (by kernel_rfl) (fun _ _ _ h => h) (yields_ldR (by rfl) _ rfl (by rfl) (fun _ hb => V1.out.below hb V1.out.lt)) hHeld ?_
  try simp only [Act.put, List.setIfInBounds_toArray, List.set_cons_zero, List.set_cons_succ]
  refine wpAnyH_ready (rs := [22]) (by kernel_rfl) (by simp) ?_
  refine AllReadyH.consL (o := _) rfl (fun K hK => ?_) AllReadyH.nil
  clear hHeld
  go_simp
  go_at_call 45
  refine Calls.mono (qcompare_any (L := 100000000) (r := r) (X0.out.below HB.out) (Y0.out.below HB.out) (X1.out.below HB.out) (Y1.out.below HB.out) LZ0.out LD0.out LZ1.out LD1.out LL.out C1.out) ?_
  rintro e v9 ⟨rfl, hb⟩
  replace HB := Lib.hid (HB.out.trans (hb.mono HB.out.size))
  replace Zs := Lib.hid (Zs.out.below hb)
  replace Ns := Lib.hid (Ns.out.below hb)
  replace Zs2 := Lib.hid (Zs2.out.below hb)
  replace Ns2 := Lib.hid (Ns2.out.below hb)
  replace Zv := Lib.hid (Zv.out.below hb)
  replace Nv := Lib.hid (Nv.out.below hb)
  replace Zv2 := Lib.hid (Zv2.out.below hb)
  replace Nv2 := Lib.hid (Nv2.out.below hb)
  clear hb
  refine hK.out _ _ HB.out (fun hHeld => ?_)
  clear hK K
  try simp only [Act.put, List.setIfInBounds_toArray, List.set_cons_zero, List.set_cons_succ]
  refine wpAnyH_ready (rs := [25]) (by kernel_rfl) (by simp) ?_
  refine AllReadyH.consL (o := _) rfl (fun K hK => ?_) AllReadyH.nil
  clear hHeld
  go_simp
  go_at_call 45
  refine Calls.mono (qcompare_any (L := 100000000) (r := r) (Zx.out.below HB.out).in_ (Nin.of_rd (Nx.out.below HB.out)) (X1.out.below HB.out) (Y1.out.below HB.out) LZx.out LDx.out LZ1.out LD1.out LL.out C2.out) ?_
  rintro e v10 ⟨rfl, hb⟩
  replace HB := Lib.hid (HB.out.trans (hb.mono HB.out.size))
  replace Zs := Lib.hid (Zs.out.below hb)
  replace Ns := Lib.hid (Ns.out.below hb)
  replace Zs2 := Lib.hid (Zs2.out.below hb)
  replace Ns2 := Lib.hid (Ns2.out.below hb)
  replace Zv := Lib.hid (Zv.out.below hb)
  replace Nv := Lib.hid (Nv.out.below hb)
  replace Zv2 := Lib.hid (Zv2.out.below hb)
  replace Nv2 := Lib.hid (Nv2.out.below hb)
  clear hb
  refine hK.out _ _ HB.out (fun hHeld => ?_)
  clear hK K
  try simp only [Act.put, List.setIfInBounds_toArray, List.set_cons_zero, List.set_cons_succ]
  refine wpAnyH_takeL (i := 26) (oi := _) (v := ?_) rfl (by kernel_rfl) (by kernel_rfl) (by kernel_rfl) (fun _ _ _ h => h) (Or.inl ⟨by rfl, ?_⟩) hHeld ?_
  rotate_left
  · (intro w' hSw; (try dsimp only at hSw); go_simp; try (with_reducible rfl))
  try simp only [Act.put, List.setIfInBounds_toArray, List.set_cons_zero, List.set_cons_succ]
  refine wpAnyH_takeL (i := 27) (oi := _) (v := ?_) rfl (by kernel_rfl) (by kernel_rfl) (by kernel_rfl) (fun _ _ _ h => h) (Or.inl ⟨by rfl, ?_⟩) hHeld ?_
  rotate_left
  · (intro w' hSw; (try dsimp only at hSw); go_simp; try (with_reducible rfl))
  try simp only [Act.put, List.setIfInBounds_toArray, List.set_cons_zero, List.set_cons_succ]
  refine wpAnyH_takeL (i := 28) (oi := _) (v := ?_) rfl (by kernel_rfl) (by kernel_rfl) (by kernel_rfl) (fun _ _ _ h => h) (Or.inl ⟨by rfl, ?_⟩) hHeld ?_
  rotate_left
  · (intro w' hSw; (try dsimp only at hSw); go_simp; try (with_reducible rfl))
  try simp only [Act.put, List.setIfInBounds_toArray, List.set_cons_zero, List.set_cons_succ]
  refine wpAnyH_takeL (i := 29) (oi := _) rfl (by kernel_rfl) (by kernel_rfl) (by kernel_rfl) (fun _ _ _ h => h) (yields_ldR (by rfl) _ rfl (by rfl) (fun _ hb => V0.out.below hb V0.out.lt)) hHeld ?_
  try simp only [Act.put, List.setIfInBounds_toArray, List.set_cons_zero, List.set_cons_succ]
  refine wpAnyH_takeL (i := 31) (oi := _) rfl (by kernel_rfl) (by kernel_rfl) (by kernel_rfl) (fun _ _ _ h => h) (yields_ldR (by rfl) _ rfl (by rfl) (fun _ hb => G1.out.below hb G1.out.lt)) hHeld ?_
  try simp only [Act.put, List.setIfInBounds_toArray, List.set_cons_zero, List.set_cons_succ]
  refine wpAnyH_ready (rs := [30]) (by kernel_rfl) (by simp) ?_
  refine AllReadyH.consL (o := _) rfl (fun K hK => ?_) AllReadyH.nil
  clear hHeld
  go_simp
  go_at_call 51
  refine Calls.mono (qfloor_any (L := 100000000) (v := f) (X0.out.below HB.out) (Y0.out.below HB.out) LZ0.out LD0.out LL2.out F1.out) ?_
  rintro e v11 ⟨Pi_a, ci_a, rfl, ho, hb⟩
  replace HB := Lib.hid (HB.out.trans (hb.mono HB.out.size))
  replace Zs := Lib.hid (Zs.out.below hb)
  replace Ns := Lib.hid (Ns.out.below hb)
  replace Zs2 := Lib.hid (Zs2.out.below hb)
  replace Ns2 := Lib.hid (Ns2.out.below hb)
  replace Zv := Lib.hid (Zv.out.below hb)
  replace Nv := Lib.hid (Nv.out.below hb)
  replace Zv2 := Lib.hid (Zv2.out.below hb)
  replace Nv2 := Lib.hid (Nv2.out.below hb)
  have Zi_a := Lib.hid (Zo.of_own ho)
  clear ho
  clear hb
  refine hK.out _ _ HB.out (fun hHeld => ?_)
  clear hK K
  try simp only [Act.put, List.setIfInBounds_toArray, List.set_cons_zero, List.set_cons_succ]
  refine wpAnyH_ready (rs := [32]) (by kernel_rfl) (by simp) ?_
  refine AllReadyH.consL (o := _) rfl (fun K hK => ?_) AllReadyH.nil
  clear hHeld
  go_simp
  go_at_call 51
  refine Calls.mono (qfloor_any (L := 100000000) (v := f) (Zx.out.below HB.out).in_ (Nin.of_rd (Nx.out.below HB.out)) LZx.out LDx.out LL2.out F2.out) ?_
  rintro e v12 ⟨Pi_b, ci_b, rfl, ho, hb⟩
  replace HB := Lib.hid (HB.out.trans (hb.mono HB.out.size))
  replace Zs := Lib.hid (Zs.out.below hb)
  replace Ns := Lib.hid (Ns.out.below hb)
  replace Zs2 := Lib.hid (Zs2.out.below hb)
  replace Ns2 := Lib.hid (Ns2.out.below hb)
  replace Zv := Lib.hid (Zv.out.below hb)
  replace Nv := Lib.hid (Nv.out.below hb)
  replace Zv2 := Lib.hid (Zv2.out.below hb)
  replace Nv2 := Lib.hid (Nv2.out.below hb)
  replace Zi_a := Lib.hid (Zi_a.out.below hb)
  have Zi_b := Lib.hid (Zo.of_own ho)
  clear ho
  clear hb
  refine hK.out _ _ HB.out (fun hHeld => ?_)
  clear hK K
  try simp only [Act.put, List.setIfInBounds_toArray, List.set_cons_zero, List.set_cons_succ]
  refine wpAnyH_ready (rs := [33]) (by kernel_rfl) (by simp) ?_
  refine AllReadyH.consL (o := _) rfl (fun K hK => ?_) AllReadyH.nil
  clear hHeld
  go_simp
  go_at_call 14
  refine Calls.mono (requal_z (z := f) Zi_a.out Zi_b.out) ?_
  rintro e v13 ⟨rfl, hb⟩
  replace HB := Lib.hid (HB.out.trans (hb.mono HB.out.size))
  replace Zs := Lib.hid (Zs.out.below hb)
  replace Ns := Lib.hid (Ns.out.below hb)
  replace Zs2 := Lib.hid (Zs2.out.below hb)
  replace Ns2 := Lib.hid (Ns2.out.below hb)
  replace Zv := Lib.hid (Zv.out.below hb)
  replace Nv := Lib.hid (Nv.out.below hb)
  replace Zv2 := Lib.hid (Zv2.out.below hb)
  replace Nv2 := Lib.hid (Nv2.out.below hb)
  replace Zi_a := Lib.hid (Zi_a.out.below hb)
  replace Zi_b := Lib.hid (Zi_b.out.below hb)
  clear hb
  refine hK.out _ _ HB.out (fun hHeld => ?_)
  clear hK K
  try simp only [Act.put, List.setIfInBounds_toArray, List.set_cons_zero, List.set_cons_succ]
  refine wpAnyH_takeL (i := 34) (oi := _) (v := ?_) rfl (by kernel_rfl) (by kernel_rfl) (by kernel_rfl) (fun _ _ _ h => h) (Or.inl ⟨by rfl, ?_⟩) hHeld ?_
  rotate_left
  · (intro w' hSw; (try dsimp only at hSw); go_simp; try (with_reducible rfl))
  try simp only [Act.put, List.setIfInBounds_toArray, List.set_cons_zero, List.set_cons_succ]
  refine wpAnyH_takeL (i := 35) (oi := _) (v := ?_) rfl (by kernel_rfl) (by kernel_rfl) (by kernel_rfl) (fun _ _ _ h => h) (Or.inl ⟨by rfl, ?_⟩) hHeld ?_
  rotate_left
  · (intro w' hSw; (try dsimp only at hSw); go_simp; try (with_reducible rfl))
  try simp only [Act.put, List.setIfInBounds_toArray, List.set_cons_zero, List.set_cons_succ]
  refine wpAnyH_takeL (i := 36) (oi := _) rfl (by kernel_rfl) (by kernel_rfl) (by kernel_rfl) (fun _ _ _ h => h) (yields_ldR (by rfl) _ rfl (by rfl) (fun _ hb => V0.out.below hb V0.out.lt)) hHeld ?_
  try simp only [Act.put, List.setIfInBounds_toArray, List.set_cons_zero, List.set_cons_succ]
  refine wpAnyH_takeL (i := 38) (oi := _) rfl (by kernel_rfl) (by kernel_rfl) (by kernel_rfl) (fun _ _ _ h => h) (yields_ldR (by rfl) _ rfl (by rfl) (fun _ hb => G1.out.below hb G1.out.lt)) hHeld ?_
  try simp only [Act.put, List.setIfInBounds_toArray, List.set_cons_zero, List.set_cons_succ]
  refine wpAnyH_ready (rs := [37]) (by kernel_rfl) (by simp) ?_
  refine AllReadyH.consL (o := _) rfl (fun K hK => ?_) AllReadyH.nil
  clear hHeld
  go_simp
  go_at_call 52
  refine Calls.mono (qsize_any (L := 100000000) (v := sz) (X0.out.below HB.out) (Y0.out.below HB.out) LZ0.out LD0.out LL2.out S1.out) ?_
  rintro e v14 ⟨rfl, hb⟩
  replace HB := Lib.hid (HB.out.trans (hb.mono HB.out.size))
  replace Zs := Lib.hid (Zs.out.below hb)
  replace Ns := Lib.hid (Ns.out.below hb)
  replace Zs2 := Lib.hid (Zs2.out.below hb)
  replace Ns2 := Lib.hid (Ns2.out.below hb)
  replace Zv := Lib.hid (Zv.out.below hb)
  replace Nv := Lib.hid (Nv.out.below hb)
  replace Zv2 := Lib.hid (Zv2.out.below hb)
  replace Nv2 := Lib.hid (Nv2.out.below hb)
  replace Zi_a := Lib.hid (Zi_a.out.below hb)
  replace Zi_b := Lib.hid (Zi_b.out.below hb)
  clear hb
  refine hK.out _ _ HB.out (fun hHeld => ?_)
  clear hK K
  try simp only [Act.put, List.setIfInBounds_toArray, List.set_cons_zero, List.set_cons_succ]
  refine wpAnyH_ready (rs := [39]) (by kernel_rfl) (by simp) ?_
  refine AllReadyH.consL (o := _) rfl (fun K hK => ?_) AllReadyH.nil
  clear hHeld
  go_simp
  go_at_call 52
  refine Calls.mono (qsize_any (L := 100000000) (v := sz) (Zx.out.below HB.out).in_ (Nin.of_rd (Nx.out.below HB.out)) LZx.out LDx.out LL2.out S2.out) ?_
  rintro e v15 ⟨rfl, hb⟩
  replace HB := Lib.hid (HB.out.trans (hb.mono HB.out.size))
  replace Zs := Lib.hid (Zs.out.below hb)
  replace Ns := Lib.hid (Ns.out.below hb)
  replace Zs2 := Lib.hid (Zs2.out.below hb)
  replace Ns2 := Lib.hid (Ns2.out.below hb)
  replace Zv := Lib.hid (Zv.out.below hb)
  replace Nv := Lib.hid (Nv.out.below hb)
  replace Zv2 := Lib.hid (Zv2.out.below hb)
  replace Nv2 := Lib.hid (Nv2.out.below hb)
  replace Zi_a := Lib.hid (Zi_a.out.below hb)
  replace Zi_b := Lib.hid (Zi_b.out.below hb)
  clear hb
  refine hK.out _ _ HB.out (fun hHeld => ?_)
  clear hK K
  try simp only [Act.put, List.setIfInBounds_toArray, List.set_cons_zero, List.set_cons_succ]
  refine wpAnyH_takeL (i := 40) (oi := _) (v := ?_) rfl (by kernel_rfl) (by kernel_rfl) (by kernel_rfl) (fun _ _ _ h => h) (Or.inl ⟨by rfl, ?_⟩) hHeld ?_
  rotate_left
  · (intro w' hSw; (try dsimp only at hSw); go_simp; try (with_reducible rfl))
  try simp only [Act.put, List.setIfInBounds_toArray, List.set_cons_zero, List.set_cons_succ]
  refine wpAnyH_takeL (i := 41) (oi := _) (v := ?_) rfl (by kernel_rfl) (by kernel_rfl) (by kernel_rfl) (fun _ _ _ h => h) (Or.inl ⟨by rfl, ?_⟩) hHeld ?_
  rotate_left
  · (intro w' hSw; (try dsimp only at hSw); go_simp; try (with_reducible rfl))
  try simp only [Act.put, List.setIfInBounds_toArray, List.set_cons_zero, List.set_cons_succ]
  refine wpAnyH_takeL (i := 42) (oi := _) (v := ?_) rfl (by kernel_rfl) (by kernel_rfl) (by kernel_rfl) (fun _ _ _ h => h) (Or.inl ⟨by rfl, ?_⟩) hHeld ?_
  rotate_left
  · (intro w' hSw; (try dsimp only at hSw); go_simp; try (with_reducible rfl))
  try simp only [Act.put, List.setIfInBounds_toArray, List.set_cons_zero, List.set_cons_succ]
  skip
  refine wpAnyH_done (by kernel_rfl) ?_ _
  have hb := HB.out
  replace V0 := Lib.hid (V0.out.below hb V0.out.lt)
  replace X0 := Lib.hid (X0.out.below hb)
  replace Y0 := Lib.hid (Y0.out.below hb)
  replace V1 := Lib.hid (V1.out.below hb V1.out.lt)
  replace X1 := Lib.hid (X1.out.below hb)
  replace Y1 := Lib.hid (Y1.out.below hb)
  replace NK := Lib.hid (NK.out.below hb)
  replace Zx := Lib.hid (Zx.out.below hb)
  replace Nx := Lib.hid (Nx.out.below hb)
  replace G1 := Lib.hid (G1.out.below hb G1.out.lt)
  replace B1 := Lib.hid (B1.out.trans (hb.mono B1.out.size))
  clear hHeld hb HB Zs Ns Zs2 Ns2 Zv Nv Zv2 Nv2 Zi_a Zi_b
  go_wp2
  go_ret
  exact ⟨rfl, B1.out⟩
set_option maxRecDepth 100000 in
set_option maxHeartbeats 16000000 in
theorem scaled_neg (b0 : Bool) (a0 : Option Addr) (len0 cap0 : Nat) (z0 : Int) (e0 : Option Addr) (n0 c0 q0 : Nat) (b1 : Bool) (a1 : Option Addr) (len1 cap1 : Nat) (z1 : Int) (e1 : Option Addr) (n1 c1 q1 : Nat) (a2 : Int) (w : World) (hx0 : Zin w b0 a0 len0 cap0 z0) (hl0 : len0 ≤ 1048576) (hp0 : Nin w e0 n0 c0 q0) (hn0 : n0 ≤ 1048576) (hx1 : Zin w b1 a1 len1 cap1 z1) (hl1 : len1 ≤ 1048576) (hp1 : Nin w e1 n1 c1 q1) (hn1 : n1 ≤ 1048576) (hk : 0 ≤ a2 ∧ a2 < 4294967296) (h0 : a2 ≠ 0) (hs : sgR (mkRat z0 q0) = (-1)) :
    Calls Try.prog 10 #[.agg #[.bool b0, .slice a0 len0 cap0, .slice e0 n0 c0], .agg #[.bool b1, .slice a1 len1 cap1, .slice e1 n1 c1], .int .u32 a2] w fun e w' => e = .returned (.bool true) ∧ Below w.heap.size w w' := by
  obtain ⟨B1, V0, V1⟩ := start_R2 w b0 a0 len0 cap0 e0 n0 c0 b1 a1 len1 cap1 e1 n1 c1
  have X0 := Lib.hid (hx0.below B1.out)
  have Y0 := Lib.hid (hp0.below B1.out)
  have LZ0 : Hid (len0 ≤ 100000000) := Nat.le_trans hl0 (by decide)
  have LD0 : Hid (n0 ≤ 100000000) := Nat.le_trans hn0 (by decide)
  have r0 : RL (mkRat z0 q0) 1048576 := rl_mk (Nat.le_trans hx0.len hl0) (Nat.le_trans hp0.len hn0) (by decide)
  have X1 := Lib.hid (hx1.below B1.out)
  have Y1 := Lib.hid (hp1.below B1.out)
  have LZ1 : Hid (len1 ≤ 100000000) := Nat.le_trans hl1 (by decide)
  have LD1 : Hid (n1 ≤ 100000000) := Nat.le_trans hn1 (by decide)
  have r1 : RL (mkRat z1 q1) 1048576 := rl_mk (Nat.le_trans hx1.len hl1) (Nat.le_trans hp1.len hn1) (by decide)
  have LL : Hid (1 ≤ 100000000 ∧ 100000000 ≤ 35184372088829) := by show _ ∧ _; omega
  have LL2 : Hid (1 ≤ 100000000 ∧ 100000000 ≤ 70368744177660) := by show _ ∧ _; omega
  have SR := Lib.hid hs
  have LN0 := Lib.hid hl0
  have LM0 := Lib.hid hn0
  obtain ⟨kn, ek⟩ := Int.eq_ofNat_of_zero_le hk.1
  have EK : Hid ((kn : Int) = a2) := ek.symm
  have HK := Lib.hid hk.2
  obtain ⟨qz, eqz⟩ : ∃ z : Int, (q0 : Int) = z := ⟨_, rfl⟩
  obtain ⟨xx, exx⟩ : ∃ z : Int, z0 * a2 = z := ⟨_, rfl⟩
  obtain ⟨m2, em2⟩ : ∃ z : Int, qz * a2 = z := ⟨_, rfl⟩
  have EQZ := Lib.hid eqz
  have EXX := Lib.hid exx
  have EM2 := Lib.hid em2
  have Mx : mkRat xx m2.natAbs = mkRat z0 q0 := by
    rw [← exx, ← em2, ← eqz, ek, ← Int.natCast_mul, Int.natAbs_natCast]
    exact Rat.mkRat_mul_right (by omega)
  have rx : RL (mkRat xx m2.natAbs) 1048576 := by rw [Mx]; exact r0
  have lk : (ofv a2.natAbs).length ≤ 1 := len_small (by omega)
  have lx := zlen_mul (Nat.le_trans hx0.len hl0) lk
  rw [exx] at lx
  have lq := zlen_mul (x := qz) (n := 1048576) (by rw [← eqz]; simpa using Nat.le_trans hp0.len hn0) lk
  rw [em2] at lq
  have LZx : Hid ((ofv xx.natAbs).length ≤ 100000000) := Nat.le_trans lx (by decide)
  have LDx : Hid ((ofv m2.natAbs).length ≤ 100000000) := Nat.le_trans lq (by decide)
  have K1 : Hid (len0 + 1 ≤ 70368744177664) := by show _ ≤ _; omega
  have K2 : Hid (n0 + 1 ≤ 70368744177664) := by show _ ≤ _; omega
  have hz1 := zfield1
  obtain ⟨xs, exs⟩ : ∃ z : Int, (mkRat z0 q0 + mkRat z1 q1).num = z := ⟨_, rfl⟩
  obtain ⟨ds, eds⟩ : ∃ z : Nat, (mkRat z0 q0 + mkRat z1 q1).den = z := ⟨_, rfl⟩
  have Ms : mkRat xs ds = mkRat z0 q0 + mkRat z1 q1 := by rw [← exs, ← eds, mk_self]
  have rs : RL (mkRat xs ds) 2097153 := by rw [Ms]; exact (rl_add r0 r1).le (by decide)
  have LZs : Hid ((ofv xs.natAbs).length ≤ 100000000) := by show _ ≤ _; have h := rs.1; rw [Ms, exs] at h; exact Nat.le_trans h (by decide)
  have LDs : Hid ((ofv ds).length ≤ 100000000) := by show _ ≤ _; have h := rs.2; rw [Ms, eds] at h; exact Nat.le_trans h (by decide)
  have HZs := Lib.hid exs
  have HDs := Lib.hid eds
  obtain ⟨xs2, exs2⟩ : ∃ z : Int, (mkRat xx m2.natAbs + mkRat z1 q1).num = z := ⟨_, rfl⟩
  obtain ⟨ds2, eds2⟩ : ∃ z : Nat, (mkRat xx m2.natAbs + mkRat z1 q1).den = z := ⟨_, rfl⟩
  have Ms2 : mkRat xs2 ds2 = mkRat xx m2.natAbs + mkRat z1 q1 := by rw [← exs2, ← eds2, mk_self]
  have rs2 : RL (mkRat xs2 ds2) 2097153 := by rw [Ms2]; exact (rl_add rx r1).le (by decide)
  have LZs2 : Hid ((ofv xs2.natAbs).length ≤ 100000000) := by show _ ≤ _; have h := rs2.1; rw [Ms2, exs2] at h; exact Nat.le_trans h (by decide)
  have LDs2 : Hid ((ofv ds2).length ≤ 100000000) := by show _ ≤ _; have h := rs2.2; rw [Ms2, eds2] at h; exact Nat.le_trans h (by decide)
  have HZs2 := Lib.hid exs2
  have HDs2 := Lib.hid eds2
  have EE : mkRat z0 q0 + mkRat z1 q1 = mkRat xx m2.natAbs + mkRat z1 q1 := by rw [Mx]
  have EQs_s2 : Hid (xs = xs2 ∧ ds = ds2) := by show _ ∧ _; rw [← exs, ← exs2, ← eds, ← eds2]; exact ⟨congrArg Rat.num EE, congrArg Rat.den EE⟩
  clear EE
  obtain ⟨xv, exv⟩ : ∃ z : Int, (mkRat z0 q0 * mkRat z1 q1).num = z := ⟨_, rfl⟩
  obtain ⟨dv, edv⟩ : ∃ z : Nat, (mkRat z0 q0 * mkRat z1 q1).den = z := ⟨_, rfl⟩
  have Mv : mkRat xv dv = mkRat z0 q0 * mkRat z1 q1 := by rw [← exv, ← edv, mk_self]
  have rv : RL (mkRat xv dv) 2097152 := by rw [Mv]; exact (rl_mul r0 r1).le (by decide)
  have LZv : Hid ((ofv xv.natAbs).length ≤ 100000000) := by show _ ≤ _; have h := rv.1; rw [Mv, exv] at h; exact Nat.le_trans h (by decide)
  have LDv : Hid ((ofv dv).length ≤ 100000000) := by show _ ≤ _; have h := rv.2; rw [Mv, edv] at h; exact Nat.le_trans h (by decide)
  have HZv := Lib.hid exv
  have HDv := Lib.hid edv
  obtain ⟨xv2, exv2⟩ : ∃ z : Int, (mkRat xx m2.natAbs * mkRat z1 q1).num = z := ⟨_, rfl⟩
  obtain ⟨dv2, edv2⟩ : ∃ z : Nat, (mkRat xx m2.natAbs * mkRat z1 q1).den = z := ⟨_, rfl⟩
  have Mv2 : mkRat xv2 dv2 = mkRat xx m2.natAbs * mkRat z1 q1 := by rw [← exv2, ← edv2, mk_self]
  have rv2 : RL (mkRat xv2 dv2) 2097152 := by rw [Mv2]; exact (rl_mul rx r1).le (by decide)
  have LZv2 : Hid ((ofv xv2.natAbs).length ≤ 100000000) := by show _ ≤ _; have h := rv2.1; rw [Mv2, exv2] at h; exact Nat.le_trans h (by decide)
  have LDv2 : Hid ((ofv dv2).length ≤ 100000000) := by show _ ≤ _; have h := rv2.2; rw [Mv2, edv2] at h; exact Nat.le_trans h (by decide)
  have HZv2 := Lib.hid exv2
  have HDv2 := Lib.hid edv2
  have EE : mkRat z0 q0 * mkRat z1 q1 = mkRat xx m2.natAbs * mkRat z1 q1 := by rw [Mx]
  have EQv_v2 : Hid (xv = xv2 ∧ dv = dv2) := by show _ ∧ _; rw [← exv, ← exv2, ← edv, ← edv2]; exact ⟨congrArg Rat.num EE, congrArg Rat.den EE⟩
  clear EE
  obtain ⟨r, er⟩ : ∃ r : Int, sgR (mkRat z0 q0 - mkRat z1 q1) = r := ⟨_, rfl⟩
  have C1 := Lib.hid er
  have C2 : Hid (sgR (mkRat xx m2.natAbs - mkRat z1 q1) = r) := by show _ = _; rw [Mx]; exact er
  obtain ⟨f, ef⟩ : ∃ r : Int, (mkRat z0 q0).floor = r := ⟨_, rfl⟩
  have F1 := Lib.hid ef
  have F2 : Hid ((mkRat xx m2.natAbs).floor = f) := by show _ = _; rw [Mx]; exact ef
  obtain ⟨sz, esz⟩ : ∃ r : Int, szR (mkRat z0 q0) = r := ⟨_, rfl⟩
  have S1 := Lib.hid esz
  have S2 : Hid (szR (mkRat xx m2.natAbs) = sz) := by show _ = _; rw [Mx]; exact esz
  clear hx0 hl0 hp0 hn0 r0 hx1 hl1 hp1 hn1 r1 exs eds Ms rs exs2 eds2 Ms2 rs2 exv edv Mv rv exv2 edv2 Mv2 rv2 hk hs ek eqz exx em2 Mx rx lk lx lq er ef esz
  go_enter Try.func10, Try.ntmps10
  go_wp2_with fail
  generalize ((w.alloc (.cells #[.bool b0, .slice a0 len0 cap0, .slice e0 n0 c0] 42)).alloc (.cells #[.bool b1, .slice a1 len1 cap1, .slice e1 n1 c1] 42)) = w2 at *
  have pc0 := Lib.hid trivial
  go_wp2_with (first
    | (clear pc0; go_at_call 49; refine Calls.mono (r3sign_any (r := (-1)) X0.out Y0.out (Nat.le_trans LZ0.out (by decide)) (Nat.le_trans LD0.out (by decide)) SR.out) ?_; rintro e v1 ⟨rfl, hb⟩; replace V0 := Lib.hid (V0.out.below hb V0.out.lt); replace X0 := Lib.hid (X0.out.below hb); replace Y0 := Lib.hid (Y0.out.below hb); replace V1 := Lib.hid (V1.out.below hb V1.out.lt); replace X1 := Lib.hid (X1.out.below hb); replace Y1 := Lib.hid (Y1.out.below hb); replace B1 := Lib.hid (B1.out.trans (hb.mono B1.out.size)); clear hb; have pc1 := Lib.hid trivial))
  clear pc1
  have hb : Below v1.heap.size v1 (v1.alloc (.cells #[.int .u32 a2] 36)) := (Below.refl _ _).alloc (Nat.le_refl _) _
  replace V0 := Lib.hid (V0.out.below hb V0.out.lt)
  replace X0 := Lib.hid (X0.out.below hb)
  replace Y0 := Lib.hid (Y0.out.below hb)
  replace V1 := Lib.hid (V1.out.below hb V1.out.lt)
  replace X1 := Lib.hid (X1.out.below hb)
  replace Y1 := Lib.hid (Y1.out.below hb)
  replace B1 := Lib.hid (B1.out.trans (hb.mono B1.out.size))
  clear hb
  have NK := Lib.hid (nin_k v1 EK.out HK.out)
  generalize (v1.alloc (.cells #[.int .u32 a2] 36)) = w5 at *
  simp only [show (a2 == 0) = false from by simp [h0]]
  clear h0
  have LT : Hid (w.heap.size + 1 < w5.heap.size) := V1.out.lt
  have HB : Hid (Below w5.heap.size w5 w5.drew) := below_drewN _ w5 1
  refine wp_region_held_drew (S := fun w' => Below w5.heap.size w5 w') (by kernel_rfl) (HB.out) (fun hHeld => ?_)
  refine wpAnyH_takeL (i := 0) (oi := _) (v := ?_) rfl (by kernel_rfl) (by kernel_rfl) (by kernel_rfl) (fun _ _ _ h => h) (Or.inl ⟨by rfl, ?_⟩) hHeld ?_
  rotate_left
  · (intro w' hSw; (try dsimp only at hSw); go_simp; try (with_reducible rfl))
  try simp only [Act.put, List.setIfInBounds_toArray, List.set_cons_zero, List.set_cons_succ]
  refine wpAnyH_takeL (i := 1) (oi := _) rfl (by kernel_rfl) (by kernel_rfl) (by kernel_rfl) (fun _ _ _ h => h) (yields_ldRz (by rfl) _ rfl (by rfl) (fun _ hb => V0.out.below hb V0.out.lt)) hHeld ?_
  try simp only [Act.put, List.setIfInBounds_toArray, List.set_cons_zero, List.set_cons_succ]
  refine wpAnyH_takeL (i := 2) (oi := _) (v := ?_) rfl (by kernel_rfl) (by kernel_rfl) (by kernel_rfl) (fun _ _ _ h => h) (Or.inl ⟨by rfl, ?_⟩) hHeld ?_
  rotate_left
  · (intro w' hSw; (try dsimp only at hSw); go_simp; try (with_reducible rfl))
  try simp only [Act.put, List.setIfInBounds_toArray, List.set_cons_zero, List.set_cons_succ]
  refine wpAnyH_takeL (i := 3) (oi := _) (v := ?_) rfl (by kernel_rfl) (by kernel_rfl) (by kernel_rfl) (fun _ _ _ h => h) (Or.inl ⟨by rfl, ?_⟩) hHeld ?_
  rotate_left
  · (intro w' hSw; (try dsimp only at hSw); go_simp; try (with_reducible rfl))
  try simp only [Act.put, List.setIfInBounds_toArray, List.set_cons_zero, List.set_cons_succ]
  refine wpAnyH_takeL (i := 5) (oi := _) (v := ?_) rfl (by kernel_rfl) (by kernel_rfl) (by kernel_rfl) (fun _ _ _ h => h) (Or.inl ⟨by rfl, ?_⟩) hHeld ?_
  rotate_left
  · (intro w' hSw; (try dsimp only at hSw); go_simp; try (with_reducible rfl))
  try simp only [Act.put, List.setIfInBounds_toArray, List.set_cons_zero, List.set_cons_succ]
  refine wpAnyH_takeL (i := 6) (oi := _) rfl (by kernel_rfl) (by kernel_rfl) (by kernel_rfl) (fun _ _ _ h => h) (yields_ldRd (by rfl) _ rfl (by rfl) (fun _ hb => V0.out.below hb V0.out.lt)) hHeld ?_
  try simp only [Act.put, List.setIfInBounds_toArray, List.set_cons_zero, List.set_cons_succ]
  refine wpAnyH_takeL (i := 7) (oi := _) (v := ?_) rfl (by kernel_rfl) (by kernel_rfl) (by kernel_rfl) (fun _ _ _ h => h) (Or.inl ⟨by rfl, ?_⟩) hHeld ?_
  rotate_left
  · (intro w' hSw; (try dsimp only at hSw); go_simp; try (with_reducible rfl))
  try simp only [Act.put, List.setIfInBounds_toArray, List.set_cons_zero, List.set_cons_succ]
  refine wpAnyH_takeL (i := 8) (oi := _) (v := ?_) rfl (by kernel_rfl) (by kernel_rfl) (by kernel_rfl) (fun _ _ _ h => h) (Or.inl ⟨by rfl, ?_⟩) hHeld ?_
  rotate_left
  · (intro w' hSw; (try dsimp only at hSw); go_simp; try (with_reducible rfl))
  try simp only [Act.put, List.setIfInBounds_toArray, List.set_cons_zero, List.set_cons_succ]
  refine wpAnyH_takeL (i := 9) (oi := _) (v := ?_) rfl (by kernel_rfl) (by kernel_rfl) (by kernel_rfl) (fun _ _ _ h => h) (Or.inl ⟨by rfl, ?_⟩) hHeld ?_
  rotate_left
  · (intro w' hSw; (try dsimp only at hSw); go_simp; try (with_reducible rfl))
  try simp only [Act.put, List.setIfInBounds_toArray, List.set_cons_zero, List.set_cons_succ]
  refine wpAnyH_rgt [(4, some 23), (10, some 29), (11, some 30), (12, some 31), (13, some 8)] [11, 12] (isNewR w5.heap.size) [(4, isZ xx w5.heap.size), (10, isZ m2 w5.heap.size), (11, isS m2.natAbs w5.heap.size), (12, isR xx m2.natAbs w5.heap.size)] w5 (f0 := 1) (by kernel_rfl) (by kernel_rfl) (by rfl) HB.out (fun _ h => h) (fun _ _ _ _ _ h => h) (isNewR_good _) ⟨isZ_good _ _, isZ_good _ _, isS_good _ _, isR_good _ _ _, trivial⟩ ?_ ?_ ?_
  · clear hHeld HB
    show RgOps _ _ _ _ _ _ _ _ _ [4, 10, 13]
    refine RgOps.consL (o := _) (ds := []) rfl rfl (by kernel_rfl) (fun vals wr hbr hC hdep K hK => ?_) ?_
    · have BB := Lib.hid hbr
      clear hdep
      clear hbr hC
      simp only [Upd2, Act.put, List.setIfInBounds_toArray, List.set_cons_zero, List.set_cons_succ] at hK ⊢
      go_simp
      go_at_call 50
      refine Calls.mono (rmul_z (x := z0) (y := a2) (z := xx) (X0.out.below BB.out) (Nin.int (NK.out.below BB.out) EK.out) K1.out EXX.out) ?_
      rintro e wq ⟨R, cR, rfl, ho, hb⟩
      exact hK.out _ _ (LeavesB.giveZ BB.out.size ho hb)
    refine RgOps.consL (o := _) (ds := [4]) rfl rfl (by kernel_rfl) (fun vals wr hbr hC hdep K hK => ?_) ?_
    · have BB := Lib.hid hbr
      obtain ⟨⟨P4, c4, e4, o4⟩, -⟩ := hdep
      clear hbr hC
      simp only [e4, Upd2, Act.put, List.setIfInBounds_toArray, List.set_cons_zero, List.set_cons_succ] at hK ⊢
      clear e4
      go_simp
      go_at_call 50
      refine Calls.mono (rmul_z (x := qz) (y := a2) (z := m2) (Nin.int (Y0.out.below BB.out) EQZ.out) (Nin.int (NK.out.below BB.out) EK.out) K2.out EM2.out) ?_
      rintro e wq ⟨R, cR, rfl, ho, hb⟩
      exact hK.out _ _ (LeavesB.giveZ BB.out.size ho hb)
    refine RgOps.consL (o := _) (ds := []) rfl rfl (by kernel_rfl) (fun vals wr hbr hC hdep K hK => ?_) RgOps.nil
    · have BB := Lib.hid hbr
      clear hdep
      clear hbr hC
      simp only [Upd2, Act.put, List.setIfInBounds_toArray, List.set_cons_zero, List.set_cons_succ] at hK ⊢
      go_simp
      exact hK.out _ _ (LeavesB.newR BB.out.size)
  · clear hHeld HB
    show TaAll _ _ _ _ _ [11, 12]
    refine TaAll.cons (o := _) (ds := [10]) rfl rfl (by kernel_rfl) (fun vals wr hdep => ?_) ?_
    · obtain ⟨⟨P10, c10, e10, o10⟩, -⟩ := hdep
      refine ⟨_, fun S => Or.inl ⟨by rfl, ?_⟩, ⟨_, _, rfl, o10⟩, rfl⟩
      intro w' _
      simp only [e10, Upd2, Act.put, List.setIfInBounds_toArray, List.set_cons_zero, List.set_cons_succ]
      go_simp
    refine TaAll.cons (o := _) (ds := [4, 11]) rfl rfl (by kernel_rfl) (fun vals wr hdep => ?_) TaAll.nil
    · obtain ⟨⟨P4, c4, e4, o4⟩, ⟨P11, c11, e11, o11⟩, -⟩ := hdep
      refine ⟨_, fun S => Or.inl ⟨by rfl, ?_⟩, ⟨_, _, _, _, rfl, o4, o11⟩, rfl⟩
      intro w' _
      simp only [e4, e11, Upd2, Act.put, List.setIfInBounds_toArray, List.set_cons_zero, List.set_cons_succ]
      go_simp
  clear hHeld HB
  intro vals wr hb hdep hD
  obtain ⟨⟨P4, c4, e4, o4⟩, ⟨P10, c10, e10, o10⟩, ⟨P11, c11, e11, o11⟩, ⟨P12, c12, Q12, k12, e12, o12, u12⟩, ⟨g13, e13, l13, z13⟩, -⟩ := hdep
  simp only [Upd2, e4, e10, e11, e12, e13, Act.put, List.setIfInBounds_toArray, List.set_cons_zero, List.set_cons_succ]
  clear e4 e10 e11 e12 e13
  clear hD vals
  replace V0 := Lib.hid (V0.out.below hb V0.out.lt)
  replace X0 := Lib.hid (X0.out.below hb)
  replace Y0 := Lib.hid (Y0.out.below hb)
  replace V1 := Lib.hid (V1.out.below hb V1.out.lt)
  replace X1 := Lib.hid (X1.out.below hb)
  replace Y1 := Lib.hid (Y1.out.below hb)
  replace NK := Lib.hid (NK.out.below hb)
  replace B1 := Lib.hid (B1.out.trans (hb.mono B1.out.size))
  have HB := Lib.hid hb
  clear hb
  have Zx := Lib.hid (Zo.of_own o12); have Nx := Lib.hid u12.rd; have G1 := Lib.hid z13; have L13 := Lib.hid l13; have LG1 : Hid (w.heap.size + 1 < g13) := Nat.lt_of_lt_of_le LT.out l13
  clear o4 o10 o11 o12 u12 z13 l13
  refine wpAnyH_ready (rs := [14]) (by kernel_rfl) (by simp) ?_
  refine AllReadyH.consL (o := _) rfl (fun K hK => ?_) AllReadyH.nil
  rw [if_pos (by rfl)]
  refine wp_stR _ _ rfl (by rfl) (by rfl) G1.out ?_
  intro ws0 hz hg
  replace HB := Lib.hid (Below.gr HB.out (by have := L13.out; omega) hg HB.out.size)
  replace V0 := Lib.hid (V0.out.gro hg (by have := LG1.out; omega))
  replace X0 := Lib.hid (X0.out.grR G1.out hg)
  replace Y0 := Lib.hid (Y0.out.grR G1.out hg)
  replace V1 := Lib.hid (V1.out.gro hg (by have := LG1.out; omega))
  replace X1 := Lib.hid (X1.out.grR G1.out hg)
  replace Y1 := Lib.hid (Y1.out.grR G1.out hg)
  replace NK := Lib.hid (NK.out.grR G1.out hg)
  replace Zx := Lib.hid (Zx.out.grR G1.out hg)
  replace Nx := Lib.hid (Nx.out.grR G1.out hg)
  replace B1 := Lib.hid (Below.gr B1.out (by have := LG1.out; omega) hg B1.out.size)
  replace G1 := Lib.hid hz
  refine hK.out _ _ ⟨HB.out, HB.out⟩ (fun _ => ?_)
  clear hK K hg hz
  try simp only [Act.put]
  refine wpAnyH_done (by kernel_rfl) ?_ _
  clear HB
  go_wp2_with fail
  have HB : Hid (Below ws0.heap.size ws0 ws0.drew) := below_drewN _ ws0 1
  refine wp_region_held_drew (S := fun w' => Below ws0.heap.size ws0 w') (by kernel_rfl) (HB.out) (fun hHeld => ?_)
  refine wpAnyH_ready (rs := [0]) (by kernel_rfl) (by simp) ?_
  refine AllReadyH.consL (o := _) rfl (fun K hK => ?_) AllReadyH.nil
  clear hHeld
  go_simp
  go_at_call 34
  refine Calls.mono (rawake_any _) ?_
  rintro e v2 ⟨rfl, hb⟩
  replace HB := Lib.hid (HB.out.trans (hb.mono HB.out.size))
  clear hb
  refine hK.out _ _ HB.out (fun hHeld => ?_)
  clear hK K
  try simp only [Act.put, List.setIfInBounds_toArray, List.set_cons_zero, List.set_cons_succ]
  refine wpAnyH_takeL (i := 1) (oi := _) (v := ?_) rfl (by kernel_rfl) (by kernel_rfl) (by kernel_rfl) (fun _ _ _ h => h) (Or.inl ⟨by rfl, ?_⟩) hHeld ?_
  rotate_left
  · (intro w' hSw; (try dsimp only at hSw); go_simp; try (with_reducible rfl))
  try simp only [Act.put, List.setIfInBounds_toArray, List.set_cons_zero, List.set_cons_succ]
  refine wpAnyH_takeL (i := 2) (oi := _) rfl (by kernel_rfl) (by kernel_rfl) (by kernel_rfl) (fun _ _ _ h => h) (yields_ldR (by rfl) _ rfl (by rfl) (fun _ hb => V0.out.below hb V0.out.lt)) hHeld ?_
  try simp only [Act.put, List.setIfInBounds_toArray, List.set_cons_zero, List.set_cons_succ]
  refine wpAnyH_takeL (i := 3) (oi := _) rfl (by kernel_rfl) (by kernel_rfl) (by kernel_rfl) (fun _ _ _ h => h) (yields_ldR (by rfl) _ rfl (by rfl) (fun _ hb => V1.out.below hb V1.out.lt)) hHeld ?_
  try simp only [Act.put, List.setIfInBounds_toArray, List.set_cons_zero, List.set_cons_succ]
  refine wpAnyH_takeL (i := 5) (oi := _) rfl (by kernel_rfl) (by kernel_rfl) (by kernel_rfl) (fun _ _ _ h => h) (yields_ldR (by rfl) _ rfl (by rfl) (fun _ hb => G1.out.below hb G1.out.lt)) hHeld ?_
  try simp only [Act.put, List.setIfInBounds_toArray, List.set_cons_zero, List.set_cons_succ]
  refine wpAnyH_takeL (i := 6) (oi := _) rfl (by kernel_rfl) (by kernel_rfl) (by kernel_rfl) (fun _ _ _ h => h) (yields_ldR (by rfl) _ rfl (by rfl) (fun _ hb => V1.out.below hb V1.out.lt)) hHeld ?_
  try simp only [Act.put, List.setIfInBounds_toArray, List.set_cons_zero, List.set_cons_succ]
  refine wpAnyH_ready (rs := [4]) (by kernel_rfl) (by simp) ?_
  refine AllReadyH.consL (o := _) rfl (fun K hK => ?_) AllReadyH.nil
  clear hHeld
  go_simp
  go_at_call 37
  refine Calls.mono (qadd_any (L := 100000000) (z := xs) (d := ds) (X0.out.below HB.out) (Y0.out.below HB.out) (X1.out.below HB.out) (Y1.out.below HB.out) LZ0.out LD0.out LZ1.out LD1.out LL.out HZs.out HDs.out) ?_
  rintro e v3 ⟨Ps, cs, Qs, ks, rfl, ho, ho2, hb⟩
  replace HB := Lib.hid (HB.out.trans (hb.mono HB.out.size))
  have Zs := Lib.hid (Zo.of_own ho)
  have Ns := Lib.hid ho2.rd
  clear ho ho2
  clear hb
  refine hK.out _ _ HB.out (fun hHeld => ?_)
  clear hK K
  try simp only [Act.put, List.setIfInBounds_toArray, List.set_cons_zero, List.set_cons_succ]
  refine wpAnyH_ready (rs := [7]) (by kernel_rfl) (by simp) ?_
  refine AllReadyH.consL (o := _) rfl (fun K hK => ?_) AllReadyH.nil
  clear hHeld
  go_simp
  go_at_call 37
  refine Calls.mono (qadd_any (L := 100000000) (z := xs2) (d := ds2) (Zx.out.below HB.out).in_ (Nin.of_rd (Nx.out.below HB.out)) (X1.out.below HB.out) (Y1.out.below HB.out) LZx.out LDx.out LZ1.out LD1.out LL.out HZs2.out HDs2.out) ?_
  rintro e v4 ⟨Ps2, cs2, Qs2, ks2, rfl, ho, ho2, hb⟩
  replace HB := Lib.hid (HB.out.trans (hb.mono HB.out.size))
  replace Zs := Lib.hid (Zs.out.below hb)
  replace Ns := Lib.hid (Ns.out.below hb)
  have Zs2 := Lib.hid (Zo.of_own ho)
  have Ns2 := Lib.hid ho2.rd
  clear ho ho2
  clear hb
  refine hK.out _ _ HB.out (fun hHeld => ?_)
  clear hK K
  try simp only [Act.put, List.setIfInBounds_toArray, List.set_cons_zero, List.set_cons_succ]
  refine wpAnyH_ready (rs := [8]) (by kernel_rfl) (by simp) ?_
  refine AllReadyH.consL (o := _) rfl (fun K hK => ?_) AllReadyH.nil
  clear hHeld
  go_simp
  go_at_call 33
  refine Calls.mono (r3equal_any (b := true) Zs.out Zs2.out Ns.out Ns2.out (by simpa using EQs_s2.out)) ?_
  rintro e v5 ⟨rfl, hb⟩
  replace HB := Lib.hid (HB.out.trans (hb.mono HB.out.size))
  replace Zs := Lib.hid (Zs.out.below hb)
  replace Ns := Lib.hid (Ns.out.below hb)
  replace Zs2 := Lib.hid (Zs2.out.below hb)
  replace Ns2 := Lib.hid (Ns2.out.below hb)
  clear hb
  refine hK.out _ _ HB.out (fun hHeld => ?_)
  clear hK K
  try simp only [Act.put, List.setIfInBounds_toArray, List.set_cons_zero, List.set_cons_succ]
  refine wpAnyH_takeL (i := 9) (oi := _) (v := ?_) rfl (by kernel_rfl) (by kernel_rfl) (by kernel_rfl) (fun _ _ _ h => h) (Or.inl ⟨by rfl, ?_⟩) hHeld ?_
  rotate_left
  · (intro w' hSw; (try dsimp only at hSw); go_simp; try (with_reducible rfl))
  try simp only [Act.put, List.setIfInBounds_toArray, List.set_cons_zero, List.set_cons_succ]
  refine wpAnyH_takeL (i := 10) (oi := _) (v := ?_) rfl (by kernel_rfl) (by kernel_rfl) (by kernel_rfl) (fun _ _ _ h => h) (Or.inl ⟨by rfl, ?_⟩) hHeld ?_
  rotate_left
  · (intro w' hSw; (try dsimp only at hSw); go_simp; try (with_reducible rfl))
  try simp only [Act.put, List.setIfInBounds_toArray, List.set_cons_zero, List.set_cons_succ]
  refine wpAnyH_takeL (i := 11) (oi := _) rfl (by kernel_rfl) (by kernel_rfl) (by kernel_rfl) (fun _ _ _ h => h) (yields_ldR (by rfl) _ rfl (by rfl) (fun _ hb => V0.out.below hb V0.out.lt)) hHeld ?_
  try simp only [Act.put, List.setIfInBounds_toArray, List.set_cons_zero, List.set_cons_succ]
  refine wpAnyH_takeL (i := 12) (oi := _) rfl (by kernel_rfl) (by kernel_rfl) (by kernel_rfl) (fun _ _ _ h => h) (yields_ldR (by rfl) _ rfl (by rfl) (fun _ hb => V1.out.below hb V1.out.lt)) hHeld ?_
  try simp only [Act.put, List.setIfInBounds_toArray, List.set_cons_zero, List.set_cons_succ]
  refine wpAnyH_takeL (i := 14) (oi := _) rfl (by kernel_rfl) (by kernel_rfl) (by kernel_rfl) (fun _ _ _ h => h) (yields_ldR (by rfl) _ rfl (by rfl) (fun _ hb => G1.out.below hb G1.out.lt)) hHeld ?_
  try simp only [Act.put, List.setIfInBounds_toArray, List.set_cons_zero, List.set_cons_succ]
  refine wpAnyH_takeL (i := 15) (oi := _) rfl (by kernel_rfl) (by kernel_rfl) (by kernel_rfl) (fun _ _ _ h => h) (yields_ldR (by rfl) _ rfl (by rfl) (fun _ hb => V1.out.below hb V1.out.lt)) hHeld ?_
  try simp only [Act.put, List.setIfInBounds_toArray, List.set_cons_zero, List.set_cons_succ]
  refine wpAnyH_ready (rs := [13]) (by kernel_rfl) (by simp) ?_
  refine AllReadyH.consL (o := _) rfl (fun K hK => ?_) AllReadyH.nil
  clear hHeld
  go_simp
  go_at_call 41
  refine Calls.mono (qmul_any (L := 100000000) (z := xv) (d := dv) (X0.out.below HB.out) (Y0.out.below HB.out) (X1.out.below HB.out) (Y1.out.below HB.out) LZ0.out LD0.out LZ1.out LD1.out LL.out HZv.out HDv.out) ?_
  rintro e v6 ⟨Pv, cv, Qv, kv, rfl, ho, ho2, hb⟩
  replace HB := Lib.hid (HB.out.trans (hb.mono HB.out.size))
  replace Zs := Lib.hid (Zs.out.below hb)
  replace Ns := Lib.hid (Ns.out.below hb)
  replace Zs2 := Lib.hid (Zs2.out.below hb)
  replace Ns2 := Lib.hid (Ns2.out.below hb)
  have Zv := Lib.hid (Zo.of_own ho)
  have Nv := Lib.hid ho2.rd
  clear ho ho2
  clear hb
  refine hK.out _ _ HB.out (fun hHeld => ?_)
  clear hK K
  try simp only [Act.put, List.setIfInBounds_toArray, List.set_cons_zero, List.set_cons_succ]
  refine wpAnyH_ready (rs := [16]) (by kernel_rfl) (by simp) ?_
  refine AllReadyH.consL (o := _) rfl (fun K hK => ?_) AllReadyH.nil
  clear hHeld
  go_simp
  go_at_call 41
  refine Calls.mono (qmul_any (L := 100000000) (z := xv2) (d := dv2) (Zx.out.below HB.out).in_ (Nin.of_rd (Nx.out.below HB.out)) (X1.out.below HB.out) (Y1.out.below HB.out) LZx.out LDx.out LZ1.out LD1.out LL.out HZv2.out HDv2.out) ?_
  rintro e v7 ⟨Pv2, cv2, Qv2, kv2, rfl, ho, ho2, hb⟩
  replace HB := Lib.hid (HB.out.trans (hb.mono HB.out.size))
  replace Zs := Lib.hid (Zs.out.below hb)
  replace Ns := Lib.hid (Ns.out.below hb)
  replace Zs2 := Lib.hid (Zs2.out.below hb)
  replace Ns2 := Lib.hid (Ns2.out.below hb)
  replace Zv := Lib.hid (Zv.out.below hb)
  replace Nv := Lib.hid (Nv.out.below hb)
  have Zv2 := Lib.hid (Zo.of_own ho)
  have Nv2 := Lib.hid ho2.rd
  clear ho ho2
  clear hb
  refine hK.out _ _ HB.out (fun hHeld => ?_)
  clear hK K
  try simp only [Act.put, List.setIfInBounds_toArray, List.set_cons_zero, List.set_cons_succ]
  refine wpAnyH_ready (rs := [17]) (by kernel_rfl) (by simp) ?_
  refine AllReadyH.consL (o := _) rfl (fun K hK => ?_) AllReadyH.nil
  clear hHeld
  go_simp
  go_at_call 33
  refine Calls.mono (r3equal_any (b := true) Zv.out Zv2.out Nv.out Nv2.out (by simpa using EQv_v2.out)) ?_
  rintro e v8 ⟨rfl, hb⟩
  replace HB := Lib.hid (HB.out.trans (hb.mono HB.out.size))
  replace Zs := Lib.hid (Zs.out.below hb)
  replace Ns := Lib.hid (Ns.out.below hb)
  replace Zs2 := Lib.hid (Zs2.out.below hb)
  replace Ns2 := Lib.hid (Ns2.out.below hb)
  replace Zv := Lib.hid (Zv.out.below hb)
  replace Nv := Lib.hid (Nv.out.below hb)
  replace Zv2 := Lib.hid (Zv2.out.below hb)
  replace Nv2 := Lib.hid (Nv2.out.below hb)
  clear hb
  refine hK.out _ _ HB.out (fun hHeld => ?_)
  clear hK K
  try simp only [Act.put, List.setIfInBounds_toArray, List.set_cons_zero, List.set_cons_succ]
  refine wpAnyH_takeL (i := 18) (oi := _) (v := ?_) rfl (by kernel_rfl) (by kernel_rfl) (by kernel_rfl) (fun _ _ _ h => h) (Or.inl ⟨by rfl, ?_⟩) hHeld ?_
  rotate_left
  · (intro w' hSw; (try dsimp only at hSw); go_simp; try (with_reducible rfl))
  try simp only [Act.put, List.setIfInBounds_toArray, List.set_cons_zero, List.set_cons_succ]
  refine wpAnyH_takeL (i := 19) (oi := _) (v := ?_) rfl (by kernel_rfl) (by kernel_rfl) (by kernel_rfl) (fun _ _ _ h => h) (Or.inl ⟨by rfl, ?_⟩) hHeld ?_
  rotate_left
  · (intro w' hSw; (try dsimp only at hSw); go_simp; try (with_reducible rfl))
  try simp only [Act.put, List.setIfInBounds_toArray, List.set_cons_zero, List.set_cons_succ]
  refine wpAnyH_takeL (i := 20) (oi := _) rfl (by kernel_rfl) (by kernel_rfl) (by kernel_rfl) (fun _ _ _ h => h) (yields_ldR (by rfl) _ rfl (by rfl) (fun _ hb => V0.out.below hb V0.out.lt)) hHeld ?_
  try simp only [Act.put, List.setIfInBounds_toArray, List.set_cons_zero, List.set_cons_succ]
  refine wpAnyH_takeL (i := 21) (oi := _) rfl (by kernel_rfl) (by kernel_rfl) (by kernel_rfl) (fun _ _ _ h => h) (yields_ldR (by rfl) _ rfl (by rfl) (fun _ hb => V1.out.below hb V1.out.lt)) hHeld ?_
  try simp only [Act.put, List.setIfInBounds_toArray, List.set_cons_zero, List.set_cons_succ]
  refine wpAnyH_takeL (i := 23) (oi := _) rfl (by kernel_rfl) (by kernel_rfl) (by kernel_rfl) (fun _ _ _ h => h) (yields_ldR (by rfl) _ rfl (by rfl) (fun _ hb => G1.out.below hb G1.out.lt)) hHeld ?_
  try simp only [Act.put, List.setIfInBounds_toArray, List.set_cons_zero, List.set_cons_succ]
  refine wpAnyH_takeL (i := 24) (oi := _) rfl (by kernel_rfl) (by kernel_rfl) (by kernel_rfl) (fun _ _ _ h => h) (yields_ldR (by rfl) _ rfl (by rfl) (fun _ hb => V1.out.below hb V1.out.lt)) hHeld ?_
  try simp only [Act.put, List.setIfInBounds_toArray, List.set_cons_zero, List.set_cons_succ]
  refine wpAnyH_ready (rs := [22]) (by kernel_rfl) (by simp) ?_
  refine AllReadyH.consL (o := _) rfl (fun K hK => ?_) AllReadyH.nil
  clear hHeld
  go_simp
  go_at_call 45
  refine Calls.mono (qcompare_any (L := 100000000) (r := r) (X0.out.below HB.out) (Y0.out.below HB.out) (X1.out.below HB.out) (Y1.out.below HB.out) LZ0.out LD0.out LZ1.out LD1.out LL.out C1.out) ?_
  rintro e v9 ⟨rfl, hb⟩
  replace HB := Lib.hid (HB.out.trans (hb.mono HB.out.size))
  replace Zs := Lib.hid (Zs.out.below hb)
  replace Ns := Lib.hid (Ns.out.below hb)
  replace Zs2 := Lib.hid (Zs2.out.below hb)
  replace Ns2 := Lib.hid (Ns2.out.below hb)
  replace Zv := Lib.hid (Zv.out.below hb)
  replace Nv := Lib.hid (Nv.out.below hb)
  replace Zv2 := Lib.hid (Zv2.out.below hb)
  replace Nv2 := Lib.hid (Nv2.out.below hb)
  clear hb
  refine hK.out _ _ HB.out (fun hHeld => ?_)
  clear hK K
  try simp only [Act.put, List.setIfInBounds_toArray, List.set_cons_zero, List.set_cons_succ]
  refine wpAnyH_ready (rs := [25]) (by kernel_rfl) (by simp) ?_
  refine AllReadyH.consL (o := _) rfl (fun K hK => ?_) AllReadyH.nil
  clear hHeld
  go_simp
  go_at_call 45
  refine Calls.mono (qcompare_any (L := 100000000) (r := r) (Zx.out.below HB.out).in_ (Nin.of_rd (Nx.out.below HB.out)) (X1.out.below HB.out) (Y1.out.below HB.out) LZx.out LDx.out LZ1.out LD1.out LL.out C2.out) ?_
  rintro e v10 ⟨rfl, hb⟩
  replace HB := Lib.hid (HB.out.trans (hb.mono HB.out.size))
  replace Zs := Lib.hid (Zs.out.below hb)
  replace Ns := Lib.hid (Ns.out.below hb)
  replace Zs2 := Lib.hid (Zs2.out.below hb)
  replace Ns2 := Lib.hid (Ns2.out.below hb)
  replace Zv := Lib.hid (Zv.out.below hb)
  replace Nv := Lib.hid (Nv.out.below hb)
  replace Zv2 := Lib.hid (Zv2.out.below hb)
  replace Nv2 := Lib.hid (Nv2.out.below hb)
  clear hb
  refine hK.out _ _ HB.out (fun hHeld => ?_)
  clear hK K
  try simp only [Act.put, List.setIfInBounds_toArray, List.set_cons_zero, List.set_cons_succ]
  refine wpAnyH_takeL (i := 26) (oi := _) (v := ?_) rfl (by kernel_rfl) (by kernel_rfl) (by kernel_rfl) (fun _ _ _ h => h) (Or.inl ⟨by rfl, ?_⟩) hHeld ?_
  rotate_left
  · (intro w' hSw; (try dsimp only at hSw); go_simp; try (with_reducible rfl))
  try simp only [Act.put, List.setIfInBounds_toArray, List.set_cons_zero, List.set_cons_succ]
  refine wpAnyH_takeL (i := 27) (oi := _) (v := ?_) rfl (by kernel_rfl) (by kernel_rfl) (by kernel_rfl) (fun _ _ _ h => h) (Or.inl ⟨by rfl, ?_⟩) hHeld ?_
  rotate_left
  · (intro w' hSw; (try dsimp only at hSw); go_simp; try (with_reducible rfl))
  try simp only [Act.put, List.setIfInBounds_toArray, List.set_cons_zero, List.set_cons_succ]
  refine wpAnyH_takeL (i := 28) (oi := _) (v := ?_) rfl (by kernel_rfl) (by kernel_rfl) (by kernel_rfl) (fun _ _ _ h => h) (Or.inl ⟨by rfl, ?_⟩) hHeld ?_
  rotate_left
  · (intro w' hSw; (try dsimp only at hSw); go_simp; try (with_reducible rfl))
  try simp only [Act.put, List.setIfInBounds_toArray, List.set_cons_zero, List.set_cons_succ]
  refine wpAnyH_takeL (i := 29) (oi := _) rfl (by kernel_rfl) (by kernel_rfl) (by kernel_rfl) (fun _ _ _ h => h) (yields_ldR (by rfl) _ rfl (by rfl) (fun _ hb => V0.out.below hb V0.out.lt)) hHeld ?_
  try simp only [Act.put, List.setIfInBounds_toArray, List.set_cons_zero, List.set_cons_succ]
  refine wpAnyH_takeL (i := 31) (oi := _) rfl (by kernel_rfl) (by kernel_rfl) (by kernel_rfl) (fun _ _ _ h => h) (yields_ldR (by rfl) _ rfl (by rfl) (fun _ hb => G1.out.below hb G1.out.lt)) hHeld ?_
  try simp only [Act.put, List.setIfInBounds_toArray, List.set_cons_zero, List.set_cons_succ]
  refine wpAnyH_ready (rs := [30]) (by kernel_rfl) (by simp) ?_
  refine AllReadyH.consL (o := _) rfl (fun K hK => ?_) AllReadyH.nil
  clear hHeld
  go_simp
  go_at_call 51
  refine Calls.mono (qfloor_any (L := 100000000) (v := f) (X0.out.below HB.out) (Y0.out.below HB.out) LZ0.out LD0.out LL2.out F1.out) ?_
  rintro e v11 ⟨Pi_a, ci_a, rfl, ho, hb⟩
  replace HB := Lib.hid (HB.out.trans (hb.mono HB.out.size))
  replace Zs := Lib.hid (Zs.out.below hb)
  replace Ns := Lib.hid (Ns.out.below hb)
  replace Zs2 := Lib.hid (Zs2.out.below hb)
  replace Ns2 := Lib.hid (Ns2.out.below hb)
  replace Zv := Lib.hid (Zv.out.below hb)
  replace Nv := Lib.hid (Nv.out.below hb)
  replace Zv2 := Lib.hid (Zv2.out.below hb)
  replace Nv2 := Lib.hid (Nv2.out.below hb)
  have Zi_a := Lib.hid (Zo.of_own ho)
  clear ho
  clear hb
  refine hK.out _ _ HB.out (fun hHeld => ?_)
  clear hK K
  try simp only [Act.put, List.setIfInBounds_toArray, List.set_cons_zero, List.set_cons_succ]
  refine wpAnyH_ready (rs := [32]) (by kernel_rfl) (by simp) ?_
  refine AllReadyH.consL (o := _) rfl (fun K hK => ?_) AllReadyH.nil
  clear hHeld
  go_simp
  go_at_call 51
  refine Calls.mono (qfloor_any (L := 100000000) (v := f) (Zx.out.below HB.out).in_ (Nin.of_rd (Nx.out.below HB.out)) LZx.out LDx.out LL2.out F2.out) ?_
  rintro e v12 ⟨Pi_b, ci_b, rfl, ho, hb⟩
  replace HB := Lib.hid (HB.out.trans (hb.mono HB.out.size))
  replace Zs := Lib.hid (Zs.out.below hb)
  replace Ns := Lib.hid (Ns.out.below hb)
  replace Zs2 := Lib.hid (Zs2.out.below hb)
  replace Ns2 := Lib.hid (Ns2.out.below hb)
  replace Zv := Lib.hid (Zv.out.below hb)
  replace Nv := Lib.hid (Nv.out.below hb)
  replace Zv2 := Lib.hid (Zv2.out.below hb)
  replace Nv2 := Lib.hid (Nv2.out.below hb)
  replace Zi_a := Lib.hid (Zi_a.out.below hb)
  have Zi_b := Lib.hid (Zo.of_own ho)
  clear ho
  clear hb
  refine hK.out _ _ HB.out (fun hHeld => ?_)
  clear hK K
  try simp only [Act.put, List.setIfInBounds_toArray, List.set_cons_zero, List.set_cons_succ]
  refine wpAnyH_ready (rs := [33]) (by kernel_rfl) (by simp) ?_
  refine AllReadyH.consL (o := _) rfl (fun K hK => ?_) AllReadyH.nil
  clear hHeld
  go_simp
  go_at_call 14
  refine Calls.mono (requal_z (z := f) Zi_a.out Zi_b.out) ?_
  rintro e v13 ⟨rfl, hb⟩
  replace HB := Lib.hid (HB.out.trans (hb.mono HB.out.size))
  replace Zs := Lib.hid (Zs.out.below hb)
  replace Ns := Lib.hid (Ns.out.below hb)
  replace Zs2 := Lib.hid (Zs2.out.below hb)
  replace Ns2 := Lib.hid (Ns2.out.below hb)
  replace Zv := Lib.hid (Zv.out.below hb)
  replace Nv := Lib.hid (Nv.out.below hb)
  replace Zv2 := Lib.hid (Zv2.out.below hb)
  replace Nv2 := Lib.hid (Nv2.out.below hb)
  replace Zi_a := Lib.hid (Zi_a.out.below hb)
  replace Zi_b := Lib.hid (Zi_b.out.below hb)
  clear hb
  refine hK.out _ _ HB.out (fun hHeld => ?_)
  clear hK K
  try simp only [Act.put, List.setIfInBounds_toArray, List.set_cons_zero, List.set_cons_succ]
  refine wpAnyH_takeL (i := 34) (oi := _) (v := ?_) rfl (by kernel_rfl) (by kernel_rfl) (by kernel_rfl) (fun _ _ _ h => h) (Or.inl ⟨by rfl, ?_⟩) hHeld ?_
  rotate_left
  · (intro w' hSw; (try dsimp only at hSw); go_simp; try (with_reducible rfl))
  try simp only [Act.put, List.setIfInBounds_toArray, List.set_cons_zero, List.set_cons_succ]
  refine wpAnyH_takeL (i := 35) (oi := _) (v := ?_) rfl (by kernel_rfl) (by kernel_rfl) (by kernel_rfl) (fun _ _ _ h => h) (Or.inl ⟨by rfl, ?_⟩) hHeld ?_
  rotate_left
  · (intro w' hSw; (try dsimp only at hSw); go_simp; try (with_reducible rfl))
  try simp only [Act.put, List.setIfInBounds_toArray, List.set_cons_zero, List.set_cons_succ]
  refine wpAnyH_takeL (i := 36) (oi := _) rfl (by kernel_rfl) (by kernel_rfl) (by kernel_rfl) (fun _ _ _ h => h) (yields_ldR (by rfl) _ rfl (by rfl) (fun _ hb => V0.out.below hb V0.out.lt)) hHeld ?_
  try simp only [Act.put, List.setIfInBounds_toArray, List.set_cons_zero, List.set_cons_succ]
  refine wpAnyH_takeL (i := 38) (oi := _) rfl (by kernel_rfl) (by kernel_rfl) (by kernel_rfl) (fun _ _ _ h => h) (yields_ldR (by rfl) _ rfl (by rfl) (fun _ hb => G1.out.below hb G1.out.lt)) hHeld ?_
  try simp only [Act.put, List.setIfInBounds_toArray, List.set_cons_zero, List.set_cons_succ]
  refine wpAnyH_ready (rs := [37]) (by kernel_rfl) (by simp) ?_
  refine AllReadyH.consL (o := _) rfl (fun K hK => ?_) AllReadyH.nil
  clear hHeld
  go_simp
  go_at_call 52
  refine Calls.mono (qsize_any (L := 100000000) (v := sz) (X0.out.below HB.out) (Y0.out.below HB.out) LZ0.out LD0.out LL2.out S1.out) ?_
  rintro e v14 ⟨rfl, hb⟩
  replace HB := Lib.hid (HB.out.trans (hb.mono HB.out.size))
  replace Zs := Lib.hid (Zs.out.below hb)
  replace Ns := Lib.hid (Ns.out.below hb)
  replace Zs2 := Lib.hid (Zs2.out.below hb)
  replace Ns2 := Lib.hid (Ns2.out.below hb)
  replace Zv := Lib.hid (Zv.out.below hb)
  replace Nv := Lib.hid (Nv.out.below hb)
  replace Zv2 := Lib.hid (Zv2.out.below hb)
  replace Nv2 := Lib.hid (Nv2.out.below hb)
  replace Zi_a := Lib.hid (Zi_a.out.below hb)
  replace Zi_b := Lib.hid (Zi_b.out.below hb)
  clear hb
  refine hK.out _ _ HB.out (fun hHeld => ?_)
  clear hK K
  try simp only [Act.put, List.setIfInBounds_toArray, List.set_cons_zero, List.set_cons_succ]
  refine wpAnyH_ready (rs := [39]) (by kernel_rfl) (by simp) ?_
  refine AllReadyH.consL (o := _) rfl (fun K hK => ?_) AllReadyH.nil
  clear hHeld
  go_simp
  go_at_call 52
  refine Calls.mono (qsize_any (L := 100000000) (v := sz) (Zx.out.below HB.out).in_ (Nin.of_rd (Nx.out.below HB.out)) LZx.out LDx.out LL2.out S2.out) ?_
  rintro e v15 ⟨rfl, hb⟩
  replace HB := Lib.hid (HB.out.trans (hb.mono HB.out.size))
  replace Zs := Lib.hid (Zs.out.below hb)
  replace Ns := Lib.hid (Ns.out.below hb)
  replace Zs2 := Lib.hid (Zs2.out.below hb)
  replace Ns2 := Lib.hid (Ns2.out.below hb)
  replace Zv := Lib.hid (Zv.out.below hb)
  replace Nv := Lib.hid (Nv.out.below hb)
  replace Zv2 := Lib.hid (Zv2.out.below hb)
  replace Nv2 := Lib.hid (Nv2.out.below hb)
  replace Zi_a := Lib.hid (Zi_a.out.below hb)
  replace Zi_b := Lib.hid (Zi_b.out.below hb)
  clear hb
  refine hK.out _ _ HB.out (fun hHeld => ?_)
  clear hK K
  try simp only [Act.put, List.setIfInBounds_toArray, List.set_cons_zero, List.set_cons_succ]
  refine wpAnyH_takeL (i := 40) (oi := _) (v := ?_) rfl (by kernel_rfl) (by kernel_rfl) (by kernel_rfl) (fun _ _ _ h => h) (Or.inl ⟨by rfl, ?_⟩) hHeld ?_
  rotate_left
  · (intro w' hSw; (try dsimp only at hSw); go_simp; try (with_reducible rfl))
  try simp only [Act.put, List.setIfInBounds_toArray, List.set_cons_zero, List.set_cons_succ]
  refine wpAnyH_takeL (i := 41) (oi := _) (v := ?_) rfl (by kernel_rfl) (by kernel_rfl) (by kernel_rfl) (fun _ _ _ h => h) (Or.inl ⟨by rfl, ?_⟩) hHeld ?_
  rotate_left
  · (intro w' hSw; (try dsimp only at hSw); go_simp; try (with_reducible rfl))
  try simp only [Act.put, List.setIfInBounds_toArray, List.set_cons_zero, List.set_cons_succ]
  refine wpAnyH_takeL (i := 42) (oi := _) (v := ?_) rfl (by kernel_rfl) (by kernel_rfl) (by kernel_rfl) (fun _ _ _ h => h) (Or.inl ⟨by rfl, ?_⟩) hHeld ?_
  rotate_left
  · (intro w' hSw; (try dsimp only at hSw); go_simp; try (with_reducible rfl))
  try simp only [Act.put, List.setIfInBounds_toArray, List.set_cons_zero, List.set_cons_succ]
  skip
  refine wpAnyH_done (by kernel_rfl) ?_ _
  have hb := HB.out
  replace V0 := Lib.hid (V0.out.below hb V0.out.lt)
  replace X0 := Lib.hid (X0.out.below hb)
  replace Y0 := Lib.hid (Y0.out.below hb)
  replace V1 := Lib.hid (V1.out.below hb V1.out.lt)
  replace X1 := Lib.hid (X1.out.below hb)
  replace Y1 := Lib.hid (Y1.out.below hb)
  replace NK := Lib.hid (NK.out.below hb)
  replace Zx := Lib.hid (Zx.out.below hb)
  replace Nx := Lib.hid (Nx.out.below hb)
  replace G1 := Lib.hid (G1.out.below hb G1.out.lt)
  replace B1 := Lib.hid (B1.out.trans (hb.mono B1.out.size))
  clear hHeld hb HB Zs Ns Zs2 Ns2 Zv Nv Zv2 Nv2 Zi_a Zi_b
  go_wp2
  go_ret
  exact ⟨rfl, B1.out⟩
set_option maxRecDepth 100000 in
set_option maxHeartbeats 16000000 in
theorem rationalScaled_walk (b0 : Bool) (a0 : Option Addr) (len0 cap0 : Nat) (z0 : Int) (e0 : Option Addr) (n0 c0 q0 : Nat) (b1 : Bool) (a1 : Option Addr) (len1 cap1 : Nat) (z1 : Int) (e1 : Option Addr) (n1 c1 q1 : Nat) (a2 : Int) (w : World) (hx0 : Zin w b0 a0 len0 cap0 z0) (hl0 : len0 ≤ 1048576) (hp0 : Nin w e0 n0 c0 q0) (hn0 : n0 ≤ 1048576) (hx1 : Zin w b1 a1 len1 cap1 z1) (hl1 : len1 ≤ 1048576) (hp1 : Nin w e1 n1 c1 q1) (hn1 : n1 ≤ 1048576) (hk : 0 ≤ a2 ∧ a2 < 4294967296) :
    Calls Try.prog 10 #[.agg #[.bool b0, .slice a0 len0 cap0, .slice e0 n0 c0], .agg #[.bool b1, .slice a1 len1 cap1, .slice e1 n1 c1], .int .u32 a2] w fun e w' => e = .returned (.bool true) ∧ Below w.heap.size w w' := by
  by_cases h0 : a2 = 0
  · exact scaled_zero b0 a0 len0 cap0 z0 e0 n0 c0 q0 b1 a1 len1 cap1 z1 e1 n1 c1 q1 a2 w hx0 hl0 hp0 hn0 hx1 hl1 hp1 hn1 hk  h0
  · rcases sgR_cases (mkRat z0 q0) with hs | hs | hs
    · exact scaled_neg b0 a0 len0 cap0 z0 e0 n0 c0 q0 b1 a1 len1 cap1 z1 e1 n1 c1 q1 a2 w hx0 hl0 hp0 hn0 hx1 hl1 hp1 hn1 hk  h0 hs
    · exact scaled_num b0 a0 len0 cap0 z0 e0 n0 c0 q0 b1 a1 len1 cap1 z1 e1 n1 c1 q1 a2 w hx0 hl0 hp0 hn0 hx1 hl1 hp1 hn1 hk  h0 hs
    · exact scaled_pos b0 a0 len0 cap0 z0 e0 n0 c0 q0 b1 a1 len1 cap1 z1 e1 n1 c1 q1 a2 w hx0 hl0 hp0 hn0 hx1 hl1 hp1 hn1 hk  h0 hs
end Go.Proofs.Ytgleknejogbomaa
