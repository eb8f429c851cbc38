/-
  The statement RationalArithmetic: its walk.
-/
import Derived.Test.YtgleknejogbomaaRzro
namespace Go.Proofs.Ytgleknejogbomaa
open Go.RowKit
set_option linter.unusedVariables false

set_option maxRecDepth 100000 in
set_option maxHeartbeats 16000000 in
theorem arith_b0_a0 (b0 : Bool) (a0 : Option Addr) (len0 cap0 : Nat) (z0 : Int) (e0 : Option Addr) (n0 c0 q0 : Nat) (b1 : Bool) (a1 : Option Addr) (len1 cap1 : Nat) (z1 : Int) (e1 : Option Addr) (n1 c1 q1 : Nat) (hb : mkRat z1 q1 = 0) (ha : mkRat z0 q0 = 0) (w : World) (hx0 : Zin w b0 a0 len0 cap0 z0) (hl0 : len0 ≤ 1048576) (hp0 : Nin w e0 n0 c0 q0) (hn0 : n0 ≤ 1048576) (hx1 : Zin w b1 a1 len1 cap1 z1) (hl1 : len1 ≤ 1048576) (hp1 : Nin w e1 n1 c1 q1) (hn1 : n1 ≤ 1048576) :
    Calls Try.prog 6 #[.agg #[.bool b0, .slice a0 len0 cap0, .slice e0 n0 c0], .agg #[.bool b1, .slice a1 len1 cap1, .slice e1 n1 c1]] w fun e w' => e = .returned (.bool true) ∧ Below w.heap.size w w' := by
  obtain ⟨B1, V0, V1⟩ := start_R2 w b0 a0 len0 cap0 e0 n0 c0 b1 a1 len1 cap1 e1 n1 c1
  have X0 := Lib.hid (hx0.below B1.out)
  have Y0 := Lib.hid (hp0.below B1.out)
  have LZ0 : Hid (len0 ≤ 100000000) := Nat.le_trans hl0 (by decide)
  have LD0 : Hid (n0 ≤ 100000000) := Nat.le_trans hn0 (by decide)
  have r0 : RL (mkRat z0 q0) 1048576 := rl_mk (Nat.le_trans hx0.len hl0) (Nat.le_trans hp0.len hn0) (by decide)
  have X1 := Lib.hid (hx1.below B1.out)
  have Y1 := Lib.hid (hp1.below B1.out)
  have LZ1 : Hid (len1 ≤ 100000000) := Nat.le_trans hl1 (by decide)
  have LD1 : Hid (n1 ≤ 100000000) := Nat.le_trans hn1 (by decide)
  have r1 : RL (mkRat z1 q1) 1048576 := rl_mk (Nat.le_trans hx1.len hl1) (Nat.le_trans hp1.len hn1) (by decide)
  have LL : Hid (1 ≤ 100000000 ∧ 100000000 ≤ 35184372088829) := by show _ ∧ _; omega
  have LL2 : Hid (1 ≤ 100000000 ∧ 100000000 ≤ 70368744177660) := by show _ ∧ _; omega
  have HB0 := Lib.hid hb
  have HA0 := Lib.hid ha
  obtain ⟨xz, exz⟩ : ∃ z : Int, 0 = z := ⟨_, rfl⟩
  obtain ⟨dz, edz⟩ : ∃ z : Nat, 0 = z := ⟨_, rfl⟩
  have HXZ := Lib.hid exz
  have HDZ := Lib.hid edz
  obtain ⟨xk, exk⟩ : ∃ z : Int, (Rat.divInt 1 1).num = z := ⟨_, rfl⟩
  obtain ⟨dk, edk⟩ : ∃ z : Nat, (Rat.divInt 1 1).den = z := ⟨_, rfl⟩
  have Mk : mkRat xk dk = Rat.divInt 1 1 := by rw [← exk, ← edk, mk_self]
  have rk : RL (mkRat xk dk) 1 := by rw [Mk]; exact ⟨len_small (by decide +kernel), len_small (by decide +kernel)⟩
  have LZk : Hid ((ofv xk.natAbs).length ≤ 100000000) := by show _ ≤ _; rw [← exk]; exact Nat.le_trans (len_small (by decide +kernel)) (by decide)
  have LDk : Hid ((ofv dk).length ≤ 100000000) := by show _ ≤ _; rw [← edk]; exact Nat.le_trans (len_small (by decide +kernel)) (by decide)
  have HZk := Lib.hid exk
  have HDk := Lib.hid edk
  have I1 : Hid (-9223372036854775808 ≤ (1 : Int) ∧ (1 : Int) ≤ 9223372036854775807) := by show _ ∧ _; omega
  obtain ⟨xn, exn⟩ : ∃ z : Int, (-mkRat z0 q0).num = z := ⟨_, rfl⟩
  obtain ⟨dn, edn⟩ : ∃ z : Nat, (-mkRat z0 q0).den = z := ⟨_, rfl⟩
  have Mn : mkRat xn dn = -mkRat z0 q0 := by rw [← exn, ← edn, mk_self]
  have rn : RL (mkRat xn dn) 1048576 := by rw [Mn]; exact (rl_neg r0).le (by decide)
  have LZn : Hid ((ofv xn.natAbs).length ≤ 100000000) := by show _ ≤ _; have h := rn.1; rw [Mn, exn] at h; exact Nat.le_trans h (by decide)
  have LDn : Hid ((ofv dn).length ≤ 100000000) := by show _ ≤ _; have h := rn.2; rw [Mn, edn] at h; exact Nat.le_trans h (by decide)
  have HZn := Lib.hid exn
  have HDn := Lib.hid edn
  obtain ⟨xn2, exn2⟩ : ∃ z : Int, (-mkRat z0 q0).num = z := ⟨_, rfl⟩
  obtain ⟨dn2, edn2⟩ : ∃ z : Nat, (-mkRat z0 q0).den = z := ⟨_, rfl⟩
  have Mn2 : mkRat xn2 dn2 = -mkRat z0 q0 := by rw [← exn2, ← edn2, mk_self]
  have rn2 : RL (mkRat xn2 dn2) 1048576 := by rw [Mn2]; exact (rl_neg r0).le (by decide)
  have LZn2 : Hid ((ofv xn2.natAbs).length ≤ 100000000) := by show _ ≤ _; have h := rn2.1; rw [Mn2, exn2] at h; exact Nat.le_trans h (by decide)
  have LDn2 : Hid ((ofv dn2).length ≤ 100000000) := by show _ ≤ _; have h := rn2.2; rw [Mn2, edn2] at h; exact Nat.le_trans h (by decide)
  have HZn2 := Lib.hid exn2
  have HDn2 := Lib.hid edn2
  have EE : -mkRat z0 q0 = -mkRat z0 q0 := by rfl
  have EQn_n2 : Hid (xn = xn2 ∧ dn = dn2) := by show _ ∧ _; rw [← exn, ← exn2, ← edn, ← edn2]; exact ⟨congrArg Rat.num EE, congrArg Rat.den EE⟩
  clear EE
  obtain ⟨xs, exs⟩ : ∃ z : Int, (mkRat z0 q0 + mkRat z1 q1).num = z := ⟨_, rfl⟩
  obtain ⟨ds, eds⟩ : ∃ z : Nat, (mkRat z0 q0 + mkRat z1 q1).den = z := ⟨_, rfl⟩
  have Ms : mkRat xs ds = mkRat z0 q0 + mkRat z1 q1 := by rw [← exs, ← eds, mk_self]
  have rs : RL (mkRat xs ds) 2097153 := by rw [Ms]; exact (rl_add r0 r1).le (by decide)
  have LZs : Hid ((ofv xs.natAbs).length ≤ 100000000) := by show _ ≤ _; have h := rs.1; rw [Ms, exs] at h; exact Nat.le_trans h (by decide)
  have LDs : Hid ((ofv ds).length ≤ 100000000) := by show _ ≤ _; have h := rs.2; rw [Ms, eds] at h; exact Nat.le_trans h (by decide)
  have HZs := Lib.hid exs
  have HDs := Lib.hid eds
  obtain ⟨xs2, exs2⟩ : ∃ z : Int, (mkRat z0 q0 + mkRat z1 q1).num = z := ⟨_, rfl⟩
  obtain ⟨ds2, eds2⟩ : ∃ z : Nat, (mkRat z0 q0 + mkRat z1 q1).den = z := ⟨_, rfl⟩
  have Ms2 : mkRat xs2 ds2 = mkRat z0 q0 + mkRat z1 q1 := by rw [← exs2, ← eds2, mk_self]
  have rs2 : RL (mkRat xs2 ds2) 2097153 := by rw [Ms2]; exact (rl_add r0 r1).le (by decide)
  have LZs2 : Hid ((ofv xs2.natAbs).length ≤ 100000000) := by show _ ≤ _; have h := rs2.1; rw [Ms2, exs2] at h; exact Nat.le_trans h (by decide)
  have LDs2 : Hid ((ofv ds2).length ≤ 100000000) := by show _ ≤ _; have h := rs2.2; rw [Ms2, eds2] at h; exact Nat.le_trans h (by decide)
  have HZs2 := Lib.hid exs2
  have HDs2 := Lib.hid eds2
  have EE : mkRat z0 q0 + mkRat z1 q1 = mkRat z0 q0 + mkRat z1 q1 := by rfl
  have EQs_s2 : Hid (xs = xs2 ∧ ds = ds2) := by show _ ∧ _; rw [← exs, ← exs2, ← eds, ← eds2]; exact ⟨congrArg Rat.num EE, congrArg Rat.den EE⟩
  clear EE
  obtain ⟨xt, ext⟩ : ∃ z : Int, (mkRat z0 q0 - mkRat z1 q1).num = z := ⟨_, rfl⟩
  obtain ⟨dt, edt⟩ : ∃ z : Nat, (mkRat z0 q0 - mkRat z1 q1).den = z := ⟨_, rfl⟩
  have Mt : mkRat xt dt = mkRat z0 q0 - mkRat z1 q1 := by rw [← ext, ← edt, mk_self]
  have rt : RL (mkRat xt dt) 2097153 := by rw [Mt]; exact (rl_sub r0 r1).le (by decide)
  have LZt : Hid ((ofv xt.natAbs).length ≤ 100000000) := by show _ ≤ _; have h := rt.1; rw [Mt, ext] at h; exact Nat.le_trans h (by decide)
  have LDt : Hid ((ofv dt).length ≤ 100000000) := by show _ ≤ _; have h := rt.2; rw [Mt, edt] at h; exact Nat.le_trans h (by decide)
  have HZt := Lib.hid ext
  have HDt := Lib.hid edt
  obtain ⟨xt2, ext2⟩ : ∃ z : Int, (mkRat z0 q0 - mkRat z1 q1).num = z := ⟨_, rfl⟩
  obtain ⟨dt2, edt2⟩ : ∃ z : Nat, (mkRat z0 q0 - mkRat z1 q1).den = z := ⟨_, rfl⟩
  have Mt2 : mkRat xt2 dt2 = mkRat z0 q0 - mkRat z1 q1 := by rw [← ext2, ← edt2, mk_self]
  have rt2 : RL (mkRat xt2 dt2) 2097153 := by rw [Mt2]; exact (rl_sub r0 r1).le (by decide)
  have LZt2 : Hid ((ofv xt2.natAbs).length ≤ 100000000) := by show _ ≤ _; have h := rt2.1; rw [Mt2, ext2] at h; exact Nat.le_trans h (by decide)
  have LDt2 : Hid ((ofv dt2).length ≤ 100000000) := by show _ ≤ _; have h := rt2.2; rw [Mt2, edt2] at h; exact Nat.le_trans h (by decide)
  have HZt2 := Lib.hid ext2
  have HDt2 := Lib.hid edt2
  have EE : mkRat z0 q0 - mkRat z1 q1 = mkRat z0 q0 - mkRat z1 q1 := by rfl
  have EQt_t2 : Hid (xt = xt2 ∧ dt = dt2) := by show _ ∧ _; rw [← ext, ← ext2, ← edt, ← edt2]; exact ⟨congrArg Rat.num EE, congrArg Rat.den EE⟩
  clear EE
  obtain ⟨xv, exv⟩ : ∃ z : Int, (mkRat z0 q0 * mkRat z1 q1).num = z := ⟨_, rfl⟩
  obtain ⟨dv, edv⟩ : ∃ z : Nat, (mkRat z0 q0 * mkRat z1 q1).den = z := ⟨_, rfl⟩
  have Mv : mkRat xv dv = mkRat z0 q0 * mkRat z1 q1 := by rw [← exv, ← edv, mk_self]
  have rv : RL (mkRat xv dv) 2097152 := by rw [Mv]; exact (rl_mul r0 r1).le (by decide)
  have LZv : Hid ((ofv xv.natAbs).length ≤ 100000000) := by show _ ≤ _; have h := rv.1; rw [Mv, exv] at h; exact Nat.le_trans h (by decide)
  have LDv : Hid ((ofv dv).length ≤ 100000000) := by show _ ≤ _; have h := rv.2; rw [Mv, edv] at h; exact Nat.le_trans h (by decide)
  have HZv := Lib.hid exv
  have HDv := Lib.hid edv
  obtain ⟨xv2, exv2⟩ : ∃ z : Int, (mkRat z0 q0 * mkRat z1 q1).num = z := ⟨_, rfl⟩
  obtain ⟨dv2, edv2⟩ : ∃ z : Nat, (mkRat z0 q0 * mkRat z1 q1).den = z := ⟨_, rfl⟩
  have Mv2 : mkRat xv2 dv2 = mkRat z0 q0 * mkRat z1 q1 := by rw [← exv2, ← edv2, mk_self]
  have rv2 : RL (mkRat xv2 dv2) 2097152 := by rw [Mv2]; exact (rl_mul r0 r1).le (by decide)
  have LZv2 : Hid ((ofv xv2.natAbs).length ≤ 100000000) := by show _ ≤ _; have h := rv2.1; rw [Mv2, exv2] at h; exact Nat.le_trans h (by decide)
  have LDv2 : Hid ((ofv dv2).length ≤ 100000000) := by show _ ≤ _; have h := rv2.2; rw [Mv2, edv2] at h; exact Nat.le_trans h (by decide)
  have HZv2 := Lib.hid exv2
  have HDv2 := Lib.hid edv2
  have EE : mkRat z0 q0 * mkRat z1 q1 = mkRat z0 q0 * mkRat z1 q1 := by rfl
  have EQv_v2 : Hid (xv = xv2 ∧ dv = dv2) := by show _ ∧ _; rw [← exv, ← exv2, ← edv, ← edv2]; exact ⟨congrArg Rat.num EE, congrArg Rat.den EE⟩
  clear EE
  clear hx0 hl0 hp0 hn0 r0 hx1 hl1 hp1 hn1 r1 hb ha exz edz exk edk Mk rk exn edn Mn rn exn2 edn2 Mn2 rn2 exs eds Ms rs exs2 eds2 Ms2 rs2 ext edt Mt rt ext2 edt2 Mt2 rt2 exv edv Mv rv exv2 edv2 Mv2 rv2
  go_enter Try.func6, Try.ntmps6
  go_wp2_with fail
  generalize ((w.alloc (.cells #[.bool b0, .slice a0 len0 cap0, .slice e0 n0 c0] 42)).alloc (.cells #[.bool b1, .slice a1 len1 cap1, .slice e1 n1 c1] 42)) = w2 at *
  have pc0 := Lib.hid trivial
  go_wp2_with (first
    | (clear pc0; go_at_call 29; refine Calls.mono (qdiv_zero (L := 100000000) X0.out Y0.out X1.out Y1.out LZ0.out LD0.out LZ1.out LD1.out LL.out HB0.out) ?_; rintro e v1 ⟨rfl, hb⟩; replace V0 := Lib.hid (V0.out.below hb V0.out.lt); replace X0 := Lib.hid (X0.out.below hb); replace Y0 := Lib.hid (Y0.out.below hb); replace V1 := Lib.hid (V1.out.below hb V1.out.lt); replace X1 := Lib.hid (X1.out.below hb); replace Y1 := Lib.hid (Y1.out.below hb); replace B1 := Lib.hid (B1.out.trans (hb.mono B1.out.size)); clear hb; have pc1 := Lib.hid trivial)
    | (clear pc1; have LTG1 : Hid (w.heap.size + 1 < v1.heap.size) := V1.out.lt; have hb : Below v1.heap.size v1 (v1.alloc (.cells #[.bool false, .slice none 0 0, .slice none 0 0] 42)) := (Below.refl _ _).alloc (Nat.le_refl _) _; replace V0 := Lib.hid (V0.out.below hb V0.out.lt); replace X0 := Lib.hid (X0.out.below hb); replace Y0 := Lib.hid (Y0.out.below hb); replace V1 := Lib.hid (V1.out.below hb V1.out.lt); replace X1 := Lib.hid (X1.out.below hb); replace Y1 := Lib.hid (Y1.out.below hb); replace B1 := Lib.hid (B1.out.trans (hb.mono B1.out.size)); clear hb; have G1 := Lib.hid (Rb.new v1 false none 0 0 none 0 0); refine wpList_stR (by rfl) _ _ rfl (by rfl) (by rfl) G1.out ?_; intro wsA hz hg; replace V0 := Lib.hid (V0.out.gro hg (by have := LTG1.out; omega)); replace X0 := Lib.hid (X0.out.grR G1.out hg); replace Y0 := Lib.hid (Y0.out.grR G1.out hg); replace V1 := Lib.hid (V1.out.gro hg (by have := LTG1.out; omega)); replace X1 := Lib.hid (X1.out.grR G1.out hg); replace Y1 := Lib.hid (Y1.out.grR G1.out hg); replace B1 := Lib.hid (Below.gr B1.out (by have := LTG1.out; omega) hg B1.out.size); replace G1 := Lib.hid hz; clear hz hg; have pc2 := Lib.hid trivial)
    | (clear pc2; replace G1 := Lib.hid (rb_zero HXZ.out HDZ.out G1.out); refine wpList_ldR (by rfl) _ rfl (by rfl) V0.out ?_; have pc3 := Lib.hid trivial)
    | (clear pc3; refine wpList_ldR (by rfl) _ rfl (by rfl) V1.out ?_; have pc4 := Lib.hid trivial)
    | (clear pc4; go_at_call 30; refine Calls.mono (r3div_zero X0.out Y0.out X1.out Y1.out (Nat.le_trans LZ0.out (by decide)) (Nat.le_trans LD0.out (by decide)) (Nat.le_trans LZ1.out (by decide)) (Nat.le_trans LD1.out (by decide)) HB0.out) ?_; rintro e v2 ⟨rfl, hb⟩; replace V0 := Lib.hid (V0.out.below hb V0.out.lt); replace X0 := Lib.hid (X0.out.below hb); replace Y0 := Lib.hid (Y0.out.below hb); replace V1 := Lib.hid (V1.out.below hb V1.out.lt); replace X1 := Lib.hid (X1.out.below hb); replace Y1 := Lib.hid (Y1.out.below hb); replace G1 := Lib.hid (G1.out.below hb G1.out.lt); replace B1 := Lib.hid (B1.out.trans (hb.mono B1.out.size)); clear hb; have pc5 := Lib.hid trivial)
    | (clear pc5; have LTG2 : Hid (w.heap.size + 1 < v2.heap.size ∧ v1.heap.size < v2.heap.size) := ⟨V1.out.lt, G1.out.lt⟩; have hb : Below v2.heap.size v2 (v2.alloc (.cells #[.bool false, .slice none 0 0, .slice none 0 0] 42)) := (Below.refl _ _).alloc (Nat.le_refl _) _; replace V0 := Lib.hid (V0.out.below hb V0.out.lt); replace X0 := Lib.hid (X0.out.below hb); replace Y0 := Lib.hid (Y0.out.below hb); replace V1 := Lib.hid (V1.out.below hb V1.out.lt); replace X1 := Lib.hid (X1.out.below hb); replace Y1 := Lib.hid (Y1.out.below hb); replace G1 := Lib.hid (G1.out.below hb G1.out.lt); replace B1 := Lib.hid (B1.out.trans (hb.mono B1.out.size)); clear hb; have G2 := Lib.hid (Rb.new v2 false none 0 0 none 0 0); refine wpList_stR (by rfl) _ _ rfl (by rfl) (by rfl) G2.out ?_; intro wsB hz hg; replace V0 := Lib.hid (V0.out.gro hg (by have := LTG1.out; have := LTG2.out; omega)); replace X0 := Lib.hid (X0.out.grR G2.out hg); replace Y0 := Lib.hid (Y0.out.grR G2.out hg); replace V1 := Lib.hid (V1.out.gro hg (by have := LTG1.out; have := LTG2.out; omega)); replace X1 := Lib.hid (X1.out.grR G2.out hg); replace Y1 := Lib.hid (Y1.out.grR G2.out hg); replace G1 := Lib.hid (G1.out.gro hg (by have := LTG1.out; have := LTG2.out; omega)); replace B1 := Lib.hid (Below.gr B1.out (by have := LTG1.out; have := LTG2.out; omega) hg B1.out.size); replace G2 := Lib.hid hz; clear hz hg; have pc6 := Lib.hid trivial)
    | (clear pc6; replace G2 := Lib.hid (rb_zero HXZ.out HDZ.out G2.out); refine wpList_ldR (by rfl) _ rfl (by rfl) V0.out ?_; have pc7 := Lib.hid trivial)
    | (clear pc7; go_at_call 31; refine Calls.mono (qinv_zero (L := 100000000) X0.out Y0.out LZ0.out LD0.out LL2.out HA0.out) ?_; rintro e v3 ⟨rfl, hb⟩; replace V0 := Lib.hid (V0.out.below hb V0.out.lt); replace X0 := Lib.hid (X0.out.below hb); replace Y0 := Lib.hid (Y0.out.below hb); replace V1 := Lib.hid (V1.out.below hb V1.out.lt); replace X1 := Lib.hid (X1.out.below hb); replace Y1 := Lib.hid (Y1.out.below hb); replace G1 := Lib.hid (G1.out.below hb G1.out.lt); replace G2 := Lib.hid (G2.out.below hb G2.out.lt); replace B1 := Lib.hid (B1.out.trans (hb.mono B1.out.size)); clear hb; have pc8 := Lib.hid trivial)
    | (clear pc8; have LTG3 : Hid (w.heap.size + 1 < v3.heap.size ∧ v1.heap.size < v3.heap.size ∧ v2.heap.size < v3.heap.size) := ⟨V1.out.lt, G1.out.lt, G2.out.lt⟩; have hb : Below v3.heap.size v3 (v3.alloc (.cells #[.bool false, .slice none 0 0, .slice none 0 0] 42)) := (Below.refl _ _).alloc (Nat.le_refl _) _; replace V0 := Lib.hid (V0.out.below hb V0.out.lt); replace X0 := Lib.hid (X0.out.below hb); replace Y0 := Lib.hid (Y0.out.below hb); replace V1 := Lib.hid (V1.out.below hb V1.out.lt); replace X1 := Lib.hid (X1.out.below hb); replace Y1 := Lib.hid (Y1.out.below hb); replace G1 := Lib.hid (G1.out.below hb G1.out.lt); replace G2 := Lib.hid (G2.out.below hb G2.out.lt); replace B1 := Lib.hid (B1.out.trans (hb.mono B1.out.size)); clear hb; have G3 := Lib.hid (Rb.new v3 false none 0 0 none 0 0); refine wpList_stR (by rfl) _ _ rfl (by rfl) (by rfl) G3.out ?_; intro wsC hz hg; replace V0 := Lib.hid (V0.out.gro hg (by have := LTG1.out; have := LTG2.out; have := LTG3.out; omega)); replace X0 := Lib.hid (X0.out.grR G3.out hg); replace Y0 := Lib.hid (Y0.out.grR G3.out hg); replace V1 := Lib.hid (V1.out.gro hg (by have := LTG1.out; have := LTG2.out; have := LTG3.out; omega)); replace X1 := Lib.hid (X1.out.grR G3.out hg); replace Y1 := Lib.hid (Y1.out.grR G3.out hg); replace G1 := Lib.hid (G1.out.gro hg (by have := LTG1.out; have := LTG2.out; have := LTG3.out; omega)); replace G2 := Lib.hid (G2.out.gro hg (by have := LTG1.out; have := LTG2.out; have := LTG3.out; omega)); replace B1 := Lib.hid (Below.gr B1.out (by have := LTG1.out; have := LTG2.out; have := LTG3.out; omega) hg B1.out.size); replace G3 := Lib.hid hz; clear hz hg; have pc9 := Lib.hid trivial))
  clear pc9
  replace G3 := Lib.hid (rb_zero HXZ.out HDZ.out G3.out)
  have LT4 : Hid (w.heap.size + 1 < wsC.heap.size ∧ v1.heap.size < wsC.heap.size ∧ v2.heap.size < wsC.heap.size ∧ v3.heap.size < wsC.heap.size) := ⟨V1.out.lt, G1.out.lt, G2.out.lt, G3.out.lt⟩
  have HB : Hid (Below wsC.heap.size wsC wsC.drew) := below_drewN _ wsC 1
  refine wp_region_held_drew (S := fun w' => Below wsC.heap.size wsC w') (by kernel_rfl) (HB.out) (fun hHeld => ?_)
  refine wpAnyH_takeL (i := 1) (oi := _) rfl (by kernel_rfl) (by kernel_rfl) (by kernel_rfl) (fun _ _ _ h => h) (yields_ldR (by rfl) _ rfl (by rfl) (fun _ hb => V0.out.below hb V0.out.lt)) hHeld ?_
  try simp only [Act.put, List.setIfInBounds_toArray, List.set_cons_zero, List.set_cons_succ]
  refine wpAnyH_rgt [(0, some 31), (2, some 33), (3, some 30), (4, some 34), (5, some 35), (6, some 11)] [3, 4, 5] (isNewR wsC.heap.size) [(0, isR xk dk wsC.heap.size), (2, isV (.tuple #[.agg #[.bool false, .slice none 0 0, .slice none 0 0], .bool false])), (3, isV (.tuple #[.agg #[.bool false, .slice none 0 0, .slice none 0 0], .bool false])), (4, isV (.agg #[.bool false, .slice none 0 0, .slice none 0 0])), (5, isV (.bool false))] wsC (f0 := 2) (by kernel_rfl) (by kernel_rfl) (by rfl) HB.out (fun _ h => h) (fun _ _ _ _ _ h => h) (isNewR_good _) ⟨isR_good _ _ _, isV_good _, isV_good _, isV_good _, isV_good _, trivial⟩ ?_ ?_ ?_
  · clear hHeld HB
    show RgOps _ _ _ _ _ _ _ _ _ [0, 2, 6]
    refine RgOps.consL (o := _) (ds := []) rfl rfl (by kernel_rfl) (fun vals wr hbr hC hdep K hK => ?_) ?_
    · have BB := Lib.hid hbr
      clear hdep
      clear hbr hC
      simp only [Upd2, Act.put, List.setIfInBounds_toArray, List.set_cons_zero, List.set_cons_succ] at hK ⊢
      go_simp
      go_at_call 32
      refine Calls.mono (r3fromInt_any (a := 1) (z := xk) (d := dk) I1.out HZk.out HDk.out _) ?_
      rintro e wq ⟨R, cR, R2, cR2, rfl, ho, ho2, hb⟩
      exact hK.out _ _ (LeavesB.giveR BB.out.size ho ho2 hb)
    refine RgOps.consL (o := _) (ds := [0]) rfl rfl (by kernel_rfl) (fun vals wr hbr hC hdep K hK => ?_) ?_
    · have BB := Lib.hid hbr
      obtain ⟨⟨P0, c0, Q0, k0, e0, o0, u0⟩, -⟩ := hdep
      clear hbr hC
      simp only [e0, Upd2, Act.put, List.setIfInBounds_toArray, List.set_cons_zero, List.set_cons_succ] at hK ⊢
      clear e0
      go_simp
      go_at_call 30
      refine Calls.mono (r3div_zero (Zo.of_own o0).in_ (Nin.of_rd u0.rd) (X0.out.below BB.out) (Y0.out.below BB.out) (Nat.le_trans LZk.out (by decide)) (Nat.le_trans LDk.out (by decide)) (Nat.le_trans LZ0.out (by decide)) (Nat.le_trans LD0.out (by decide)) HA0.out) ?_
      rintro e wq ⟨rfl, hb⟩
      exact hK.out _ _ (LeavesB.behind hb ⟨rfl, rfl⟩ rfl)
    refine RgOps.consL (o := _) (ds := []) rfl rfl (by kernel_rfl) (fun vals wr hbr hC hdep K hK => ?_) RgOps.nil
    · have BB := Lib.hid hbr
      clear hdep
      clear hbr hC
      simp only [Upd2, Act.put, List.setIfInBounds_toArray, List.set_cons_zero, List.set_cons_succ] at hK ⊢
      go_simp
      exact hK.out _ _ (LeavesB.newR BB.out.size)
  · clear hHeld HB
    show TaAll _ _ _ _ _ [3, 4, 5]
    refine TaAll.cons (o := _) (ds := [2]) rfl rfl (by kernel_rfl) (fun vals wr hdep => ?_) ?_
    · obtain ⟨⟨e2, -⟩, -⟩ := hdep
      refine ⟨_, fun S => Or.inl ⟨by rfl, ?_⟩, ⟨rfl, rfl⟩, rfl⟩
      intro w' _
      simp only [e2, Upd2, Act.put, List.setIfInBounds_toArray, List.set_cons_zero, List.set_cons_succ]
      go_simp
    refine TaAll.cons (o := _) (ds := [3]) rfl rfl (by kernel_rfl) (fun vals wr hdep => ?_) ?_
    · obtain ⟨⟨e3, -⟩, -⟩ := hdep
      refine ⟨_, fun S => Or.inl ⟨by rfl, ?_⟩, ⟨rfl, rfl⟩, rfl⟩
      intro w' _
      simp only [e3, Upd2, Act.put, List.setIfInBounds_toArray, List.set_cons_zero, List.set_cons_succ]
      go_simp
    refine TaAll.cons (o := _) (ds := [3]) rfl rfl (by kernel_rfl) (fun vals wr hdep => ?_) TaAll.nil
    · obtain ⟨⟨e3, -⟩, -⟩ := hdep
      refine ⟨_, fun S => Or.inl ⟨by rfl, ?_⟩, ⟨rfl, rfl⟩, rfl⟩
      intro w' _
      simp only [e3, Upd2, Act.put, List.setIfInBounds_toArray, List.set_cons_zero, List.set_cons_succ]
      go_simp
  clear hHeld HB
  intro vals wr hb hdep hD
  obtain ⟨⟨P0, c0, Q0, k0, e0, o0, u0⟩, ⟨e2, -⟩, ⟨e3, -⟩, ⟨e4, -⟩, ⟨e5, -⟩, ⟨g6, e6, l6, z6⟩, -⟩ := hdep
  simp only [Upd2, e0, e2, e3, e4, e5, e6, Act.put, List.setIfInBounds_toArray, List.set_cons_zero, List.set_cons_succ]
  clear e0 e2 e3 e4 e5 e6
  clear hD vals
  replace V0 := Lib.hid (V0.out.below hb V0.out.lt)
  replace X0 := Lib.hid (X0.out.below hb)
  replace Y0 := Lib.hid (Y0.out.below hb)
  replace V1 := Lib.hid (V1.out.below hb V1.out.lt)
  replace X1 := Lib.hid (X1.out.below hb)
  replace Y1 := Lib.hid (Y1.out.below hb)
  replace G1 := Lib.hid (G1.out.below hb G1.out.lt)
  replace G2 := Lib.hid (G2.out.below hb G2.out.lt)
  replace G3 := Lib.hid (G3.out.below hb G3.out.lt)
  replace B1 := Lib.hid (B1.out.trans (hb.mono B1.out.size))
  have HB := Lib.hid hb
  clear hb
  have G4 := Lib.hid z6; have L6 := Lib.hid l6
  clear o0 u0 z6 l6
  refine wpAnyH_ready (rs := [7]) (by kernel_rfl) (by simp) ?_
  refine AllReadyH.consL (o := _) rfl (fun K hK => ?_) AllReadyH.nil
  rw [if_pos (by rfl)]
  refine wp_stR _ _ rfl (by rfl) (by rfl) G4.out ?_
  intro ws0 hz hg
  replace HB := Lib.hid (Below.gr HB.out (by have := L6.out; omega) hg HB.out.size)
  replace V0 := Lib.hid (V0.out.gro hg (by have := LTG1.out; have := LTG2.out; have := LTG3.out; have := LT4.out; have := L6.out; omega))
  replace X0 := Lib.hid (X0.out.grR G4.out hg)
  replace Y0 := Lib.hid (Y0.out.grR G4.out hg)
  replace V1 := Lib.hid (V1.out.gro hg (by have := LTG1.out; have := LTG2.out; have := LTG3.out; have := LT4.out; have := L6.out; omega))
  replace X1 := Lib.hid (X1.out.grR G4.out hg)
  replace Y1 := Lib.hid (Y1.out.grR G4.out hg)
  replace G1 := Lib.hid (G1.out.gro hg (by have := LTG1.out; have := LTG2.out; have := LTG3.out; have := LT4.out; have := L6.out; omega))
  replace G2 := Lib.hid (G2.out.gro hg (by have := LTG1.out; have := LTG2.out; have := LTG3.out; have := LT4.out; have := L6.out; omega))
  replace G3 := Lib.hid (G3.out.gro hg (by have := LTG1.out; have := LTG2.out; have := LTG3.out; have := LT4.out; have := L6.out; omega))
  replace B1 := Lib.hid (Below.gr B1.out (by have := LTG1.out; have := LTG2.out; have := LTG3.out; have := LT4.out; have := L6.out; omega) hg B1.out.size)
  replace G4 := Lib.hid hz
  refine hK.out _ _ ⟨HB.out, HB.out⟩ (fun _ => ?_)
  clear hK K hg hz
  try simp only [Act.put]
  have hHeld : Below wsC.heap.size wsC _ ∧ Below wsC.heap.size wsC _ := ⟨HB.out, HB.out⟩
  refine wpAnyH_takeL (i := 8) (oi := _) (v := ?_) rfl (by kernel_rfl) (by kernel_rfl) (by kernel_rfl) (fun _ _ _ h => h) (Or.inl ⟨by rfl, ?_⟩) hHeld ?_
  rotate_left
  · (intro w' hSw; (try dsimp only at hSw); go_simp; try (with_reducible rfl))
  try simp only [Act.put, List.setIfInBounds_toArray, List.set_cons_zero, List.set_cons_succ]
  clear hHeld
  refine wpAnyH_done (by kernel_rfl) ?_ _
  clear HB
  replace G4 := Lib.hid (rb_zero HXZ.out HDZ.out G4.out)
  have pc0 := Lib.hid trivial
  go_wp2_with (first
    | (clear pc0; refine wpList_ldR (by rfl) _ rfl (by rfl) G1.out ?_; have pc1 := Lib.hid trivial)
    | (clear pc1; refine wpList_ldR (by rfl) _ rfl (by rfl) G2.out ?_; have pc2 := Lib.hid trivial)
    | (clear pc2; go_at_call 33; refine Calls.mono (r3equal_any (b := true) (zo_zero HXZ.out _) (zo_zero HXZ.out _) (rd_zero HDZ.out _) (rd_zero HDZ.out _) (by simp)) ?_; rintro e v4 ⟨rfl, hb⟩; replace V0 := Lib.hid (V0.out.below hb V0.out.lt); replace X0 := Lib.hid (X0.out.below hb); replace Y0 := Lib.hid (Y0.out.below hb); replace V1 := Lib.hid (V1.out.below hb V1.out.lt); replace X1 := Lib.hid (X1.out.below hb); replace Y1 := Lib.hid (Y1.out.below hb); replace G1 := Lib.hid (G1.out.below hb G1.out.lt); replace G2 := Lib.hid (G2.out.below hb G2.out.lt); replace G3 := Lib.hid (G3.out.below hb G3.out.lt); replace G4 := Lib.hid (G4.out.below hb G4.out.lt); replace B1 := Lib.hid (B1.out.trans (hb.mono B1.out.size)); clear hb; have pc3 := Lib.hid trivial)
    | (clear pc3; refine wpList_ldR (by rfl) _ rfl (by rfl) G3.out ?_; have pc4 := Lib.hid trivial)
    | (clear pc4; refine wpList_ldR (by rfl) _ rfl (by rfl) G4.out ?_; have pc5 := Lib.hid trivial)
    | (clear pc5; go_at_call 33; refine Calls.mono (r3equal_any (b := true) (zo_zero HXZ.out _) (zo_zero HXZ.out _) (rd_zero HDZ.out _) (rd_zero HDZ.out _) (by simp)) ?_; rintro e v5 ⟨rfl, hb⟩; replace V0 := Lib.hid (V0.out.below hb V0.out.lt); replace X0 := Lib.hid (X0.out.below hb); replace Y0 := Lib.hid (Y0.out.below hb); replace V1 := Lib.hid (V1.out.below hb V1.out.lt); replace X1 := Lib.hid (X1.out.below hb); replace Y1 := Lib.hid (Y1.out.below hb); replace G1 := Lib.hid (G1.out.below hb G1.out.lt); replace G2 := Lib.hid (G2.out.below hb G2.out.lt); replace G3 := Lib.hid (G3.out.below hb G3.out.lt); replace G4 := Lib.hid (G4.out.below hb G4.out.lt); replace B1 := Lib.hid (B1.out.trans (hb.mono B1.out.size)); clear hb; have pc6 := Lib.hid trivial))
  clear pc6
  have HB : Hid (Below v5.heap.size v5 v5.drew) := below_drewN _ v5 1
  refine wp_region_held_drew (S := fun w' => Below v5.heap.size v5 w') (by kernel_rfl) (HB.out) (fun hHeld => ?_)
  refine wpAnyH_ready (rs := [0]) (by kernel_rfl) (by simp) ?_
  refine AllReadyH.consL (o := _) rfl (fun K hK => ?_) AllReadyH.nil
  clear hHeld
  go_simp
  go_at_call 34
  refine Calls.mono (rawake_any _) ?_
  rintro e v6 ⟨rfl, hb⟩
  replace HB := Lib.hid (HB.out.trans (hb.mono HB.out.size))
  clear hb
  refine hK.out _ _ HB.out (fun hHeld => ?_)
  clear hK K
  try simp only [Act.put, List.setIfInBounds_toArray, List.set_cons_zero, List.set_cons_succ]
  refine wpAnyH_takeL (i := 1) (oi := _) (v := ?_) rfl (by kernel_rfl) (by kernel_rfl) (by kernel_rfl) (fun _ _ _ h => h) (Or.inl ⟨by rfl, ?_⟩) hHeld ?_
  rotate_left
  · (intro w' hSw; (try dsimp only at hSw); go_simp; try (with_reducible rfl))
  try simp only [Act.put, List.setIfInBounds_toArray, List.set_cons_zero, List.set_cons_succ]
  refine wpAnyH_takeL (i := 2) (oi := _) rfl (by kernel_rfl) (by kernel_rfl) (by kernel_rfl) (fun _ _ _ h => h) (yields_ldR (by rfl) _ rfl (by rfl) (fun _ hb => V0.out.below hb V0.out.lt)) hHeld ?_
  try simp only [Act.put, List.setIfInBounds_toArray, List.set_cons_zero, List.set_cons_succ]
  refine wpAnyH_takeL (i := 4) (oi := _) rfl (by kernel_rfl) (by kernel_rfl) (by kernel_rfl) (fun _ _ _ h => h) (yields_ldR (by rfl) _ rfl (by rfl) (fun _ hb => V0.out.below hb V0.out.lt)) hHeld ?_
  try simp only [Act.put, List.setIfInBounds_toArray, List.set_cons_zero, List.set_cons_succ]
  refine wpAnyH_ready (rs := [3]) (by kernel_rfl) (by simp) ?_
  refine AllReadyH.consL (o := _) rfl (fun K hK => ?_) AllReadyH.nil
  clear hHeld
  go_simp
  go_at_call 35
  refine Calls.mono (qneg_any (L := 100000000) (z := xn) (d := dn) (X0.out.below HB.out) (Y0.out.below HB.out) LZ0.out LD0.out LL2.out HZn.out HDn.out) ?_
  rintro e v7 ⟨Pn, cn, Qn, kn, rfl, ho, ho2, hb⟩
  replace HB := Lib.hid (HB.out.trans (hb.mono HB.out.size))
  have Zn := Lib.hid (Zo.of_own ho)
  have Nn := Lib.hid ho2.rd
  clear ho ho2
  clear hb
  refine hK.out _ _ HB.out (fun hHeld => ?_)
  clear hK K
  try simp only [Act.put, List.setIfInBounds_toArray, List.set_cons_zero, List.set_cons_succ]
  refine wpAnyH_ready (rs := [5]) (by kernel_rfl) (by simp) ?_
  refine AllReadyH.consL (o := _) rfl (fun K hK => ?_) AllReadyH.nil
  clear hHeld
  go_simp
  go_at_call 36
  refine Calls.mono (r3neg_any (z2 := xn2) (d2 := dn2) (X0.out.below HB.out) (Y0.out.below HB.out) (Nat.le_trans LZ0.out (by decide)) (Nat.le_trans LD0.out (by decide)) HZn2.out HDn2.out) ?_
  rintro e v8 ⟨Pn2, cn2, Qn2, kn2, rfl, ho, ho2, hb⟩
  replace HB := Lib.hid (HB.out.trans (hb.mono HB.out.size))
  replace Zn := Lib.hid (Zn.out.below hb)
  replace Nn := Lib.hid (Nn.out.below hb)
  have Zn2 := Lib.hid (Zo.of_own ho)
  have Nn2 := Lib.hid ho2.rd
  clear ho ho2
  clear hb
  refine hK.out _ _ HB.out (fun hHeld => ?_)
  clear hK K
  try simp only [Act.put, List.setIfInBounds_toArray, List.set_cons_zero, List.set_cons_succ]
  refine wpAnyH_ready (rs := [6]) (by kernel_rfl) (by simp) ?_
  refine AllReadyH.consL (o := _) rfl (fun K hK => ?_) AllReadyH.nil
  clear hHeld
  go_simp
  go_at_call 33
  refine Calls.mono (r3equal_any (b := true) Zn.out Zn2.out Nn.out Nn2.out (by simpa using EQn_n2.out)) ?_
  rintro e v9 ⟨rfl, hb⟩
  replace HB := Lib.hid (HB.out.trans (hb.mono HB.out.size))
  replace Zn := Lib.hid (Zn.out.below hb)
  replace Nn := Lib.hid (Nn.out.below hb)
  replace Zn2 := Lib.hid (Zn2.out.below hb)
  replace Nn2 := Lib.hid (Nn2.out.below hb)
  clear hb
  refine hK.out _ _ HB.out (fun hHeld => ?_)
  clear hK K
  try simp only [Act.put, List.setIfInBounds_toArray, List.set_cons_zero, List.set_cons_succ]
  refine wpAnyH_takeL (i := 7) (oi := _) (v := ?_) rfl (by kernel_rfl) (by kernel_rfl) (by kernel_rfl) (fun _ _ _ h => h) (Or.inl ⟨by rfl, ?_⟩) hHeld ?_
  rotate_left
  · (intro w' hSw; (try dsimp only at hSw); go_simp; try (with_reducible rfl))
  try simp only [Act.put, List.setIfInBounds_toArray, List.set_cons_zero, List.set_cons_succ]
  refine wpAnyH_takeL (i := 8) (oi := _) (v := ?_) rfl (by kernel_rfl) (by kernel_rfl) (by kernel_rfl) (fun _ _ _ h => h) (Or.inl ⟨by rfl, ?_⟩) hHeld ?_
  rotate_left
  · (intro w' hSw; (try dsimp only at hSw); go_simp; try (with_reducible rfl))
  try simp only [Act.put, List.setIfInBounds_toArray, List.set_cons_zero, List.set_cons_succ]
  refine wpAnyH_takeL (i := 9) (oi := _) rfl (by kernel_rfl) (by kernel_rfl) (by kernel_rfl) (fun _ _ _ h => h) (yields_ldR (by rfl) _ rfl (by rfl) (fun _ hb => V0.out.below hb V0.out.lt)) hHeld ?_
  try simp only [Act.put, List.setIfInBounds_toArray, List.set_cons_zero, List.set_cons_succ]
  refine wpAnyH_takeL (i := 10) (oi := _) rfl (by kernel_rfl) (by kernel_rfl) (by kernel_rfl) (fun _ _ _ h => h) (yields_ldR (by rfl) _ rfl (by rfl) (fun _ hb => V1.out.below hb V1.out.lt)) hHeld ?_
  try simp only [Act.put, List.setIfInBounds_toArray, List.set_cons_zero, List.set_cons_succ]
  refine wpAnyH_takeL (i := 12) (oi := _) rfl (by kernel_rfl) (by kernel_rfl) (by kernel_rfl) (fun _ _ _ h => h) (yields_ldR (by rfl) _ rfl (by rfl) (fun _ hb => V0.out.below hb V0.out.lt)) hHeld ?_
  try simp only [Act.put, List.setIfInBounds_toArray, List.set_cons_zero, List.set_cons_succ]
  refine wpAnyH_takeL (i := 13) (oi := _) rfl (by kernel_rfl) (by kernel_rfl) (by kernel_rfl) (fun _ _ _ h => h) (yields_ldR (by rfl) _ rfl (by rfl) (fun _ hb => V1.out.below hb V1.out.lt)) hHeld ?_
  try simp only [Act.put, List.setIfInBounds_toArray, List.set_cons_zero, List.set_cons_succ]
  refine wpAnyH_ready (rs := [11]) (by kernel_rfl) (by simp) ?_
  refine AllReadyH.consL (o := _) rfl (fun K hK => ?_) AllReadyH.nil
  clear hHeld
  go_simp
  go_at_call 37
  refine Calls.mono (qadd_any (L := 100000000) (z := xs) (d := ds) (X0.out.below HB.out) (Y0.out.below HB.out) (X1.out.below HB.out) (Y1.out.below HB.out) LZ0.out LD0.out LZ1.out LD1.out LL.out HZs.out HDs.out) ?_
  rintro e v10 ⟨Ps, cs, Qs, ks, rfl, ho, ho2, hb⟩
  replace HB := Lib.hid (HB.out.trans (hb.mono HB.out.size))
  replace Zn := Lib.hid (Zn.out.below hb)
  replace Nn := Lib.hid (Nn.out.below hb)
  replace Zn2 := Lib.hid (Zn2.out.below hb)
  replace Nn2 := Lib.hid (Nn2.out.below hb)
  have Zs := Lib.hid (Zo.of_own ho)
  have Ns := Lib.hid ho2.rd
  clear ho ho2
  clear hb
  refine hK.out _ _ HB.out (fun hHeld => ?_)
  clear hK K
  try simp only [Act.put, List.setIfInBounds_toArray, List.set_cons_zero, List.set_cons_succ]
  refine wpAnyH_ready (rs := [14]) (by kernel_rfl) (by simp) ?_
  refine AllReadyH.consL (o := _) rfl (fun K hK => ?_) AllReadyH.nil
  clear hHeld
  go_simp
  go_at_call 38
  refine Calls.mono (r3add_any (z := xs2) (d := ds2) (X0.out.below HB.out) (Y0.out.below HB.out) (X1.out.below HB.out) (Y1.out.below HB.out) (Nat.le_trans LZ0.out (by decide)) (Nat.le_trans LD0.out (by decide)) (Nat.le_trans LZ1.out (by decide)) (Nat.le_trans LD1.out (by decide)) HZs2.out HDs2.out) ?_
  rintro e v11 ⟨Ps2, cs2, Qs2, ks2, rfl, ho, ho2, hb⟩
  replace HB := Lib.hid (HB.out.trans (hb.mono HB.out.size))
  replace Zn := Lib.hid (Zn.out.below hb)
  replace Nn := Lib.hid (Nn.out.below hb)
  replace Zn2 := Lib.hid (Zn2.out.below hb)
  replace Nn2 := Lib.hid (Nn2.out.below hb)
  replace Zs := Lib.hid (Zs.out.below hb)
  replace Ns := Lib.hid (Ns.out.below hb)
  have Zs2 := Lib.hid (Zo.of_own ho)
  have Ns2 := Lib.hid ho2.rd
  clear ho ho2
  clear hb
  refine hK.out _ _ HB.out (fun hHeld => ?_)
  clear hK K
  try simp only [Act.put, List.setIfInBounds_toArray, List.set_cons_zero, List.set_cons_succ]
  refine wpAnyH_ready (rs := [15]) (by kernel_rfl) (by simp) ?_
  refine AllReadyH.consL (o := _) rfl (fun K hK => ?_) AllReadyH.nil
  clear hHeld
  go_simp
  go_at_call 33
  refine Calls.mono (r3equal_any (b := true) Zs.out Zs2.out Ns.out Ns2.out (by simpa using EQs_s2.out)) ?_
  rintro e v12 ⟨rfl, hb⟩
  replace HB := Lib.hid (HB.out.trans (hb.mono HB.out.size))
  replace Zn := Lib.hid (Zn.out.below hb)
  replace Nn := Lib.hid (Nn.out.below hb)
  replace Zn2 := Lib.hid (Zn2.out.below hb)
  replace Nn2 := Lib.hid (Nn2.out.below hb)
  replace Zs := Lib.hid (Zs.out.below hb)
  replace Ns := Lib.hid (Ns.out.below hb)
  replace Zs2 := Lib.hid (Zs2.out.below hb)
  replace Ns2 := Lib.hid (Ns2.out.below hb)
  clear hb
  refine hK.out _ _ HB.out (fun hHeld => ?_)
  clear hK K
  try simp only [Act.put, List.setIfInBounds_toArray, List.set_cons_zero, List.set_cons_succ]
  refine wpAnyH_takeL (i := 16) (oi := _) (v := ?_) rfl (by kernel_rfl) (by kernel_rfl) (by kernel_rfl) (fun _ _ _ h => h) (Or.inl ⟨by rfl, ?_⟩) hHeld ?_
  rotate_left
  · (intro w' hSw; (try dsimp only at hSw); go_simp; try (with_reducible rfl))
  try simp only [Act.put, List.setIfInBounds_toArray, List.set_cons_zero, List.set_cons_succ]
  refine wpAnyH_takeL (i := 17) (oi := _) (v := ?_) rfl (by kernel_rfl) (by kernel_rfl) (by kernel_rfl) (fun _ _ _ h => h) (Or.inl ⟨by rfl, ?_⟩) hHeld ?_
  rotate_left
  · (intro w' hSw; (try dsimp only at hSw); go_simp; try (with_reducible rfl))
  try simp only [Act.put, List.setIfInBounds_toArray, List.set_cons_zero, List.set_cons_succ]
  refine wpAnyH_takeL (i := 18) (oi := _) rfl (by kernel_rfl) (by kernel_rfl) (by kernel_rfl) (fun _ _ _ h => h) (yields_ldR (by rfl) _ rfl (by rfl) (fun _ hb => V0.out.below hb V0.out.lt)) hHeld ?_
  try simp only [Act.put, List.setIfInBounds_toArray, List.set_cons_zero, List.set_cons_succ]
  refine wpAnyH_takeL (i := 19) (oi := _) rfl (by kernel_rfl) (by kernel_rfl) (by kernel_rfl) (fun _ _ _ h => h) (yields_ldR (by rfl) _ rfl (by rfl) (fun _ hb => V1.out.below hb V1.out.lt)) hHeld ?_
  try simp only [Act.put, List.setIfInBounds_toArray, List.set_cons_zero, List.set_cons_succ]
  refine wpAnyH_takeL (i := 21) (oi := _) rfl (by kernel_rfl) (by kernel_rfl) (by kernel_rfl) (fun _ _ _ h => h) (yields_ldR (by rfl) _ rfl (by rfl) (fun _ hb => V0.out.below hb V0.out.lt)) hHeld ?_
  try simp only [Act.put, List.setIfInBounds_toArray, List.set_cons_zero, List.set_cons_succ]
  refine wpAnyH_takeL (i := 22) (oi := _) rfl (by kernel_rfl) (by kernel_rfl) (by kernel_rfl) (fun _ _ _ h => h) (yields_ldR (by rfl) _ rfl (by rfl) (fun _ hb => V1.out.below hb V1.out.lt)) hHeld ?_
  try simp only [Act.put, List.setIfInBounds_toArray, List.set_cons_zero, List.set_cons_succ]
  refine wpAnyH_ready (rs := [20]) (by kernel_rfl) (by simp) ?_
  refine AllReadyH.consL (o := _) rfl (fun K hK => ?_) AllReadyH.nil
  clear hHeld
  go_simp
  go_at_call 39
  refine Calls.mono (qsub_any (L := 100000000) (z := xt) (d := dt) (X0.out.below HB.out) (Y0.out.below HB.out) (X1.out.below HB.out) (Y1.out.below HB.out) LZ0.out LD0.out LZ1.out LD1.out LL.out HZt.out HDt.out) ?_
  rintro e v13 ⟨Pt, ct, Qt, kt, rfl, ho, ho2, hb⟩
  replace HB := Lib.hid (HB.out.trans (hb.mono HB.out.size))
  replace Zn := Lib.hid (Zn.out.below hb)
  replace Nn := Lib.hid (Nn.out.below hb)
  replace Zn2 := Lib.hid (Zn2.out.below hb)
  replace Nn2 := Lib.hid (Nn2.out.below hb)
  replace Zs := Lib.hid (Zs.out.below hb)
  replace Ns := Lib.hid (Ns.out.below hb)
  replace Zs2 := Lib.hid (Zs2.out.below hb)
  replace Ns2 := Lib.hid (Ns2.out.below hb)
  have Zt := Lib.hid (Zo.of_own ho)
  have Nt := Lib.hid ho2.rd
  clear ho ho2
  clear hb
  refine hK.out _ _ HB.out (fun hHeld => ?_)
  clear hK K
  try simp only [Act.put, List.setIfInBounds_toArray, List.set_cons_zero, List.set_cons_succ]
  refine wpAnyH_ready (rs := [23]) (by kernel_rfl) (by simp) ?_
  refine AllReadyH.consL (o := _) rfl (fun K hK => ?_) AllReadyH.nil
  clear hHeld
  go_simp
  go_at_call 40
  refine Calls.mono (r3sub_any (z := xt2) (d := dt2) (X0.out.below HB.out) (Y0.out.below HB.out) (X1.out.below HB.out) (Y1.out.below HB.out) (Nat.le_trans LZ0.out (by decide)) (Nat.le_trans LD0.out (by decide)) (Nat.le_trans LZ1.out (by decide)) (Nat.le_trans LD1.out (by decide)) HZt2.out HDt2.out) ?_
  rintro e v14 ⟨Pt2, ct2, Qt2, kt2, rfl, ho, ho2, hb⟩
  replace HB := Lib.hid (HB.out.trans (hb.mono HB.out.size))
  replace Zn := Lib.hid (Zn.out.below hb)
  replace Nn := Lib.hid (Nn.out.below hb)
  replace Zn2 := Lib.hid (Zn2.out.below hb)
  replace Nn2 := Lib.hid (Nn2.out.below hb)
  replace Zs := Lib.hid (Zs.out.below hb)
  replace Ns := Lib.hid (Ns.out.below hb)
  replace Zs2 := Lib.hid (Zs2.out.below hb)
  replace Ns2 := Lib.hid (Ns2.out.below hb)
  replace Zt := Lib.hid (Zt.out.below hb)
  replace Nt := Lib.hid (Nt.out.below hb)
  have Zt2 := Lib.hid (Zo.of_own ho)
  have Nt2 := Lib.hid ho2.rd
  clear ho ho2
  clear hb
  refine hK.out _ _ HB.out (fun hHeld => ?_)
  clear hK K
  try simp only [Act.put, List.setIfInBounds_toArray, List.set_cons_zero, List.set_cons_succ]
  refine wpAnyH_ready (rs := [24]) (by kernel_rfl) (by simp) ?_
  refine AllReadyH.consL (o := _) rfl (fun K hK => ?_) AllReadyH.nil
  clear hHeld
  go_simp
  go_at_call 33
  refine Calls.mono (r3equal_any (b := true) Zt.out Zt2.out Nt.out Nt2.out (by simpa using EQt_t2.out)) ?_
  rintro e v15 ⟨rfl, hb⟩
  replace HB := Lib.hid (HB.out.trans (hb.mono HB.out.size))
  replace Zn := Lib.hid (Zn.out.below hb)
  replace Nn := Lib.hid (Nn.out.below hb)
  replace Zn2 := Lib.hid (Zn2.out.below hb)
  replace Nn2 := Lib.hid (Nn2.out.below hb)
  replace Zs := Lib.hid (Zs.out.below hb)
  replace Ns := Lib.hid (Ns.out.below hb)
  replace Zs2 := Lib.hid (Zs2.out.below hb)
  replace Ns2 := Lib.hid (Ns2.out.below hb)
  replace Zt := Lib.hid (Zt.out.below hb)
  replace Nt := Lib.hid (Nt.out.below hb)
  replace Zt2 := Lib.hid (Zt2.out.below hb)
  replace Nt2 := Lib.hid (Nt2.out.below hb)
  clear hb
  refine hK.out _ _ HB.out (fun hHeld => ?_)
  clear hK K
  try simp only [Act.put, List.setIfInBounds_toArray, List.set_cons_zero, List.set_cons_succ]
  refine wpAnyH_takeL (i := 25) (oi := _) (v := ?_) rfl (by kernel_rfl) (by kernel_rfl) (by kernel_rfl) (fun _ _ _ h => h) (Or.inl ⟨by rfl, ?_⟩) hHeld ?_
  rotate_left
  · (intro w' hSw; (try dsimp only at hSw); go_simp; try (with_reducible rfl))
  try simp only [Act.put, List.setIfInBounds_toArray, List.set_cons_zero, List.set_cons_succ]
  refine wpAnyH_takeL (i := 26) (oi := _) (v := ?_) rfl (by kernel_rfl) (by kernel_rfl) (by kernel_rfl) (fun _ _ _ h => h) (Or.inl ⟨by rfl, ?_⟩) hHeld ?_
  rotate_left
  · (intro w' hSw; (try dsimp only at hSw); go_simp; try (with_reducible rfl))
  try simp only [Act.put, List.setIfInBounds_toArray, List.set_cons_zero, List.set_cons_succ]
  refine wpAnyH_takeL (i := 27) (oi := _) rfl (by kernel_rfl) (by kernel_rfl) (by kernel_rfl) (fun _ _ _ h => h) (yields_ldR (by rfl) _ rfl (by rfl) (fun _ hb => V0.out.below hb V0.out.lt)) hHeld ?_
  try simp only [Act.put, List.setIfInBounds_toArray, List.set_cons_zero, List.set_cons_succ]
  refine wpAnyH_takeL (i := 28) (oi := _) rfl (by kernel_rfl) (by kernel_rfl) (by kernel_rfl) (fun _ _ _ h => h) (yields_ldR (by rfl) _ rfl (by rfl) (fun _ hb => V1.out.below hb V1.out.lt)) hHeld ?_
  try simp only [Act.put, List.setIfInBounds_toArray, List.set_cons_zero, List.set_cons_succ]
  refine wpAnyH_takeL (i := 30) (oi := _) rfl (by kernel_rfl) (by kernel_rfl) (by kernel_rfl) (fun _ _ _ h => h) (yields_ldR (by rfl) _ rfl (by rfl) (fun _ hb => V0.out.below hb V0.out.lt)) hHeld ?_
  try simp only [Act.put, List.setIfInBounds_toArray, List.set_cons_zero, List.set_cons_succ]
  refine wpAnyH_takeL (i := 31) (oi := _) rfl (by kernel_rfl) (by kernel_rfl) (by kernel_rfl) (fun _ _ _ h => h) (yields_ldR (by rfl) _ rfl (by rfl) (fun _ hb => V1.out.below hb V1.out.lt)) hHeld ?_
  try simp only [Act.put, List.setIfInBounds_toArray, List.set_cons_zero, List.set_cons_succ]
  refine wpAnyH_ready (rs := [29]) (by kernel_rfl) (by simp) ?_
  refine AllReadyH.consL (o := _) rfl (fun K hK => ?_) AllReadyH.nil
  clear hHeld
  go_simp
  go_at_call 41
  refine Calls.mono (qmul_any (L := 100000000) (z := xv) (d := dv) (X0.out.below HB.out) (Y0.out.below HB.out) (X1.out.below HB.out) (Y1.out.below HB.out) LZ0.out LD0.out LZ1.out LD1.out LL.out HZv.out HDv.out) ?_
  rintro e v16 ⟨Pv, cv, Qv, kv, rfl, ho, ho2, hb⟩
  replace HB := Lib.hid (HB.out.trans (hb.mono HB.out.size))
  replace Zn := Lib.hid (Zn.out.below hb)
  replace Nn := Lib.hid (Nn.out.below hb)
  replace Zn2 := Lib.hid (Zn2.out.below hb)
  replace Nn2 := Lib.hid (Nn2.out.below hb)
  replace Zs := Lib.hid (Zs.out.below hb)
  replace Ns := Lib.hid (Ns.out.below hb)
  replace Zs2 := Lib.hid (Zs2.out.below hb)
  replace Ns2 := Lib.hid (Ns2.out.below hb)
  replace Zt := Lib.hid (Zt.out.below hb)
  replace Nt := Lib.hid (Nt.out.below hb)
  replace Zt2 := Lib.hid (Zt2.out.below hb)
  replace Nt2 := Lib.hid (Nt2.out.below hb)
  have Zv := Lib.hid (Zo.of_own ho)
  have Nv := Lib.hid ho2.rd
  clear ho ho2
  clear hb
  refine hK.out _ _ HB.out (fun hHeld => ?_)
  clear hK K
  try simp only [Act.put, List.setIfInBounds_toArray, List.set_cons_zero, List.set_cons_succ]
  refine wpAnyH_ready (rs := [32]) (by kernel_rfl) (by simp) ?_
  refine AllReadyH.consL (o := _) rfl (fun K hK => ?_) AllReadyH.nil
  clear hHeld
  go_simp
  go_at_call 42
  refine Calls.mono (r3mul_any (z := xv2) (d := dv2) (X0.out.below HB.out) (Y0.out.below HB.out) (X1.out.below HB.out) (Y1.out.below HB.out) (Nat.le_trans LZ0.out (by decide)) (Nat.le_trans LD0.out (by decide)) (Nat.le_trans LZ1.out (by decide)) (Nat.le_trans LD1.out (by decide)) HZv2.out HDv2.out) ?_
  rintro e v17 ⟨Pv2, cv2, Qv2, kv2, rfl, ho, ho2, hb⟩
  replace HB := Lib.hid (HB.out.trans (hb.mono HB.out.size))
  replace Zn := Lib.hid (Zn.out.below hb)
  replace Nn := Lib.hid (Nn.out.below hb)
  replace Zn2 := Lib.hid (Zn2.out.below hb)
  replace Nn2 := Lib.hid (Nn2.out.below hb)
  replace Zs := Lib.hid (Zs.out.below hb)
  replace Ns := Lib.hid (Ns.out.below hb)
  replace Zs2 := Lib.hid (Zs2.out.below hb)
  replace Ns2 := Lib.hid (Ns2.out.below hb)
  replace Zt := Lib.hid (Zt.out.below hb)
  replace Nt := Lib.hid (Nt.out.below hb)
  replace Zt2 := Lib.hid (Zt2.out.below hb)
  replace Nt2 := Lib.hid (Nt2.out.below hb)
  replace Zv := Lib.hid (Zv.out.below hb)
  replace Nv := Lib.hid (Nv.out.below hb)
  have Zv2 := Lib.hid (Zo.of_own ho)
  have Nv2 := Lib.hid ho2.rd
  clear ho ho2
  clear hb
  refine hK.out _ _ HB.out (fun hHeld => ?_)
  clear hK K
  try simp only [Act.put, List.setIfInBounds_toArray, List.set_cons_zero, List.set_cons_succ]
  refine wpAnyH_ready (rs := [33]) (by kernel_rfl) (by simp) ?_
  refine AllReadyH.consL (o := _) rfl (fun K hK => ?_) AllReadyH.nil
  clear hHeld
  go_simp
  go_at_call 33
  refine Calls.mono (r3equal_any (b := true) Zv.out Zv2.out Nv.out Nv2.out (by simpa using EQv_v2.out)) ?_
  rintro e v18 ⟨rfl, hb⟩
  replace HB := Lib.hid (HB.out.trans (hb.mono HB.out.size))
  replace Zn := Lib.hid (Zn.out.below hb)
  replace Nn := Lib.hid (Nn.out.below hb)
  replace Zn2 := Lib.hid (Zn2.out.below hb)
  replace Nn2 := Lib.hid (Nn2.out.below hb)
  replace Zs := Lib.hid (Zs.out.below hb)
  replace Ns := Lib.hid (Ns.out.below hb)
  replace Zs2 := Lib.hid (Zs2.out.below hb)
  replace Ns2 := Lib.hid (Ns2.out.below hb)
  replace Zt := Lib.hid (Zt.out.below hb)
  replace Nt := Lib.hid (Nt.out.below hb)
  replace Zt2 := Lib.hid (Zt2.out.below hb)
  replace Nt2 := Lib.hid (Nt2.out.below hb)
  replace Zv := Lib.hid (Zv.out.below hb)
  replace Nv := Lib.hid (Nv.out.below hb)
  replace Zv2 := Lib.hid (Zv2.out.below hb)
  replace Nv2 := Lib.hid (Nv2.out.below hb)
  clear hb
  refine hK.out _ _ HB.out (fun hHeld => ?_)
  clear hK K
  try simp only [Act.put, List.setIfInBounds_toArray, List.set_cons_zero, List.set_cons_succ]
  refine wpAnyH_takeL (i := 34) (oi := _) (v := ?_) rfl (by kernel_rfl) (by kernel_rfl) (by kernel_rfl) (fun _ _ _ h => h) (Or.inl ⟨by rfl, ?_⟩) hHeld ?_
  rotate_left
  · (intro w' hSw; (try dsimp only at hSw); go_simp; try (with_reducible rfl))
  try simp only [Act.put, List.setIfInBounds_toArray, List.set_cons_zero, List.set_cons_succ]
  refine wpAnyH_takeL (i := 35) (oi := _) (v := ?_) rfl (by kernel_rfl) (by kernel_rfl) (by kernel_rfl) (fun _ _ _ h => h) (Or.inl ⟨by rfl, ?_⟩) hHeld ?_
  rotate_left
  · (intro w' hSw; (try dsimp only at hSw); go_simp; try (with_reducible rfl))
  try simp only [Act.put, List.setIfInBounds_toArray, List.set_cons_zero, List.set_cons_succ]
  skip
  refine wpAnyH_done (by kernel_rfl) ?_ _
  have hb := HB.out
  replace V0 := Lib.hid (V0.out.below hb V0.out.lt)
  replace X0 := Lib.hid (X0.out.below hb)
  replace Y0 := Lib.hid (Y0.out.below hb)
  replace V1 := Lib.hid (V1.out.below hb V1.out.lt)
  replace X1 := Lib.hid (X1.out.below hb)
  replace Y1 := Lib.hid (Y1.out.below hb)
  replace G1 := Lib.hid (G1.out.below hb G1.out.lt)
  replace G2 := Lib.hid (G2.out.below hb G2.out.lt)
  replace G3 := Lib.hid (G3.out.below hb G3.out.lt)
  replace G4 := Lib.hid (G4.out.below hb G4.out.lt)
  replace B1 := Lib.hid (B1.out.trans (hb.mono B1.out.size))
  clear hHeld hb HB Zn Nn Zn2 Nn2 Zs Ns Zs2 Ns2 Zt Nt Zt2 Nt2 Zv Nv Zv2 Nv2
  go_wp2
  go_ret
  exact ⟨rfl, B1.out⟩
set_option maxRecDepth 100000 in
set_option maxHeartbeats 16000000 in
theorem arith_b0_a (b0 : Bool) (a0 : Option Addr) (len0 cap0 : Nat) (z0 : Int) (e0 : Option Addr) (n0 c0 q0 : Nat) (b1 : Bool) (a1 : Option Addr) (len1 cap1 : Nat) (z1 : Int) (e1 : Option Addr) (n1 c1 q1 : Nat) (hb : mkRat z1 q1 = 0) (ha : mkRat z0 q0 ≠ 0) (w : World) (hx0 : Zin w b0 a0 len0 cap0 z0) (hl0 : len0 ≤ 1048576) (hp0 : Nin w e0 n0 c0 q0) (hn0 : n0 ≤ 1048576) (hx1 : Zin w b1 a1 len1 cap1 z1) (hl1 : len1 ≤ 1048576) (hp1 : Nin w e1 n1 c1 q1) (hn1 : n1 ≤ 1048576) :
    Calls Try.prog 6 #[.agg #[.bool b0, .slice a0 len0 cap0, .slice e0 n0 c0], .agg #[.bool b1, .slice a1 len1 cap1, .slice e1 n1 c1]] w fun e w' => e = .returned (.bool true) ∧ Below w.heap.size w w' := by
  obtain ⟨B1, V0, V1⟩ := start_R2 w b0 a0 len0 cap0 e0 n0 c0 b1 a1 len1 cap1 e1 n1 c1
  have X0 := Lib.hid (hx0.below B1.out)
  have Y0 := Lib.hid (hp0.below B1.out)
  have LZ0 : Hid (len0 ≤ 100000000) := Nat.le_trans hl0 (by decide)
  have LD0 : Hid (n0 ≤ 100000000) := Nat.le_trans hn0 (by decide)
  have r0 : RL (mkRat z0 q0) 1048576 := rl_mk (Nat.le_trans hx0.len hl0) (Nat.le_trans hp0.len hn0) (by decide)
  have X1 := Lib.hid (hx1.below B1.out)
  have Y1 := Lib.hid (hp1.below B1.out)
  have LZ1 : Hid (len1 ≤ 100000000) := Nat.le_trans hl1 (by decide)
  have LD1 : Hid (n1 ≤ 100000000) := Nat.le_trans hn1 (by decide)
  have r1 : RL (mkRat z1 q1) 1048576 := rl_mk (Nat.le_trans hx1.len hl1) (Nat.le_trans hp1.len hn1) (by decide)
  have LL : Hid (1 ≤ 100000000 ∧ 100000000 ≤ 35184372088829) := by show _ ∧ _; omega
  have LL2 : Hid (1 ≤ 100000000 ∧ 100000000 ≤ 70368744177660) := by show _ ∧ _; omega
  have HB0 := Lib.hid hb
  have HA0 := Lib.hid ha
  obtain ⟨xz, exz⟩ : ∃ z : Int, 0 = z := ⟨_, rfl⟩
  obtain ⟨dz, edz⟩ : ∃ z : Nat, 0 = z := ⟨_, rfl⟩
  have HXZ := Lib.hid exz
  have HDZ := Lib.hid edz
  obtain ⟨xk, exk⟩ : ∃ z : Int, (Rat.divInt 1 1).num = z := ⟨_, rfl⟩
  obtain ⟨dk, edk⟩ : ∃ z : Nat, (Rat.divInt 1 1).den = z := ⟨_, rfl⟩
  have Mk : mkRat xk dk = Rat.divInt 1 1 := by rw [← exk, ← edk, mk_self]
  have rk : RL (mkRat xk dk) 1 := by rw [Mk]; exact ⟨len_small (by decide +kernel), len_small (by decide +kernel)⟩
  have LZk : Hid ((ofv xk.natAbs).length ≤ 100000000) := by show _ ≤ _; rw [← exk]; exact Nat.le_trans (len_small (by decide +kernel)) (by decide)
  have LDk : Hid ((ofv dk).length ≤ 100000000) := by show _ ≤ _; rw [← edk]; exact Nat.le_trans (len_small (by decide +kernel)) (by decide)
  have HZk := Lib.hid exk
  have HDk := Lib.hid edk
  have I1 : Hid (-9223372036854775808 ≤ (1 : Int) ∧ (1 : Int) ≤ 9223372036854775807) := by show _ ∧ _; omega
  obtain ⟨xn, exn⟩ : ∃ z : Int, (-mkRat z0 q0).num = z := ⟨_, rfl⟩
  obtain ⟨dn, edn⟩ : ∃ z : Nat, (-mkRat z0 q0).den = z := ⟨_, rfl⟩
  have Mn : mkRat xn dn = -mkRat z0 q0 := by rw [← exn, ← edn, mk_self]
  have rn : RL (mkRat xn dn) 1048576 := by rw [Mn]; exact (rl_neg r0).le (by decide)
  have LZn : Hid ((ofv xn.natAbs).length ≤ 100000000) := by show _ ≤ _; have h := rn.1; rw [Mn, exn] at h; exact Nat.le_trans h (by decide)
  have LDn : Hid ((ofv dn).length ≤ 100000000) := by show _ ≤ _; have h := rn.2; rw [Mn, edn] at h; exact Nat.le_trans h (by decide)
  have HZn := Lib.hid exn
  have HDn := Lib.hid edn
  obtain ⟨xn2, exn2⟩ : ∃ z : Int, (-mkRat z0 q0).num = z := ⟨_, rfl⟩
  obtain ⟨dn2, edn2⟩ : ∃ z : Nat, (-mkRat z0 q0).den = z := ⟨_, rfl⟩
  have Mn2 : mkRat xn2 dn2 = -mkRat z0 q0 := by rw [← exn2, ← edn2, mk_self]
  have rn2 : RL (mkRat xn2 dn2) 1048576 := by rw [Mn2]; exact (rl_neg r0).le (by decide)
  have LZn2 : Hid ((ofv xn2.natAbs).length ≤ 100000000) := by show _ ≤ _; have h := rn2.1; rw [Mn2, exn2] at h; exact Nat.le_trans h (by decide)
  have LDn2 : Hid ((ofv dn2).length ≤ 100000000) := by show _ ≤ _; have h := rn2.2; rw [Mn2, edn2] at h; exact Nat.le_trans h (by decide)
  have HZn2 := Lib.hid exn2
  have HDn2 := Lib.hid edn2
  have EE : -mkRat z0 q0 = -mkRat z0 q0 := by rfl
  have EQn_n2 : Hid (xn = xn2 ∧ dn = dn2) := by show _ ∧ _; rw [← exn, ← exn2, ← edn, ← edn2]; exact ⟨congrArg Rat.num EE, congrArg Rat.den EE⟩
  clear EE
  obtain ⟨xs, exs⟩ : ∃ z : Int, (mkRat z0 q0 + mkRat z1 q1).num = z := ⟨_, rfl⟩
  obtain ⟨ds, eds⟩ : ∃ z : Nat, (mkRat z0 q0 + mkRat z1 q1).den = z := ⟨_, rfl⟩
  have Ms : mkRat xs ds = mkRat z0 q0 + mkRat z1 q1 := by rw [← exs, ← eds, mk_self]
  have rs : RL (mkRat xs ds) 2097153 := by rw [Ms]; exact (rl_add r0 r1).le (by decide)
  have LZs : Hid ((ofv xs.natAbs).length ≤ 100000000) := by show _ ≤ _; have h := rs.1; rw [Ms, exs] at h; exact Nat.le_trans h (by decide)
  have LDs : Hid ((ofv ds).length ≤ 100000000) := by show _ ≤ _; have h := rs.2; rw [Ms, eds] at h; exact Nat.le_trans h (by decide)
  have HZs := Lib.hid exs
  have HDs := Lib.hid eds
  obtain ⟨xs2, exs2⟩ : ∃ z : Int, (mkRat z0 q0 + mkRat z1 q1).num = z := ⟨_, rfl⟩
  obtain ⟨ds2, eds2⟩ : ∃ z : Nat, (mkRat z0 q0 + mkRat z1 q1).den = z := ⟨_, rfl⟩
  have Ms2 : mkRat xs2 ds2 = mkRat z0 q0 + mkRat z1 q1 := by rw [← exs2, ← eds2, mk_self]
  have rs2 : RL (mkRat xs2 ds2) 2097153 := by rw [Ms2]; exact (rl_add r0 r1).le (by decide)
  have LZs2 : Hid ((ofv xs2.natAbs).length ≤ 100000000) := by show _ ≤ _; have h := rs2.1; rw [Ms2, exs2] at h; exact Nat.le_trans h (by decide)
  have LDs2 : Hid ((ofv ds2).length ≤ 100000000) := by show _ ≤ _; have h := rs2.2; rw [Ms2, eds2] at h; exact Nat.le_trans h (by decide)
  have HZs2 := Lib.hid exs2
  have HDs2 := Lib.hid eds2
  have EE : mkRat z0 q0 + mkRat z1 q1 = mkRat z0 q0 + mkRat z1 q1 := by rfl
  have EQs_s2 : Hid (xs = xs2 ∧ ds = ds2) := by show _ ∧ _; rw [← exs, ← exs2, ← eds, ← eds2]; exact ⟨congrArg Rat.num EE, congrArg Rat.den EE⟩
  clear EE
  obtain ⟨xt, ext⟩ : ∃ z : Int, (mkRat z0 q0 - mkRat z1 q1).num = z := ⟨_, rfl⟩
  obtain ⟨dt, edt⟩ : ∃ z : Nat, (mkRat z0 q0 - mkRat z1 q1).den = z := ⟨_, rfl⟩
  have Mt : mkRat xt dt = mkRat z0 q0 - mkRat z1 q1 := by rw [← ext, ← edt, mk_self]
  have rt : RL (mkRat xt dt) 2097153 := by rw [Mt]; exact (rl_sub r0 r1).le (by decide)
  have LZt : Hid ((ofv xt.natAbs).length ≤ 100000000) := by show _ ≤ _; have h := rt.1; rw [Mt, ext] at h; exact Nat.le_trans h (by decide)
  have LDt : Hid ((ofv dt).length ≤ 100000000) := by show _ ≤ _; have h := rt.2; rw [Mt, edt] at h; exact Nat.le_trans h (by decide)
  have HZt := Lib.hid ext
  have HDt := Lib.hid edt
  obtain ⟨xt2, ext2⟩ : ∃ z : Int, (mkRat z0 q0 - mkRat z1 q1).num = z := ⟨_, rfl⟩
  obtain ⟨dt2, edt2⟩ : ∃ z : Nat, (mkRat z0 q0 - mkRat z1 q1).den = z := ⟨_, rfl⟩
  have Mt2 : mkRat xt2 dt2 = mkRat z0 q0 - mkRat z1 q1 := by rw [← ext2, ← edt2, mk_self]
  have rt2 : RL (mkRat xt2 dt2) 2097153 := by rw [Mt2]; exact (rl_sub r0 r1).le (by decide)
  have LZt2 : Hid ((ofv xt2.natAbs).length ≤ 100000000) := by show _ ≤ _; have h := rt2.1; rw [Mt2, ext2] at h; exact Nat.le_trans h (by decide)
  have LDt2 : Hid ((ofv dt2).length ≤ 100000000) := by show _ ≤ _; have h := rt2.2; rw [Mt2, edt2] at h; exact Nat.le_trans h (by decide)
  have HZt2 := Lib.hid ext2
  have HDt2 := Lib.hid edt2
  have EE : mkRat z0 q0 - mkRat z1 q1 = mkRat z0 q0 - mkRat z1 q1 := by rfl
  have EQt_t2 : Hid (xt = xt2 ∧ dt = dt2) := by show _ ∧ _; rw [← ext, ← ext2, ← edt, ← edt2]; exact ⟨congrArg Rat.num EE, congrArg Rat.den EE⟩
  clear EE
  obtain ⟨xv, exv⟩ : ∃ z : Int, (mkRat z0 q0 * mkRat z1 q1).num = z := ⟨_, rfl⟩
  obtain ⟨dv, edv⟩ : ∃ z : Nat, (mkRat z0 q0 * mkRat z1 q1).den = z := ⟨_, rfl⟩
  have Mv : mkRat xv dv = mkRat z0 q0 * mkRat z1 q1 := by rw [← exv, ← edv, mk_self]
  have rv : RL (mkRat xv dv) 2097152 := by rw [Mv]; exact (rl_mul r0 r1).le (by decide)
  have LZv : Hid ((ofv xv.natAbs).length ≤ 100000000) := by show _ ≤ _; have h := rv.1; rw [Mv, exv] at h; exact Nat.le_trans h (by decide)
  have LDv : Hid ((ofv dv).length ≤ 100000000) := by show _ ≤ _; have h := rv.2; rw [Mv, edv] at h; exact Nat.le_trans h (by decide)
  have HZv := Lib.hid exv
  have HDv := Lib.hid edv
  obtain ⟨xv2, exv2⟩ : ∃ z : Int, (mkRat z0 q0 * mkRat z1 q1).num = z := ⟨_, rfl⟩
  obtain ⟨dv2, edv2⟩ : ∃ z : Nat, (mkRat z0 q0 * mkRat z1 q1).den = z := ⟨_, rfl⟩
  have Mv2 : mkRat xv2 dv2 = mkRat z0 q0 * mkRat z1 q1 := by rw [← exv2, ← edv2, mk_self]
  have rv2 : RL (mkRat xv2 dv2) 2097152 := by rw [Mv2]; exact (rl_mul r0 r1).le (by decide)
  have LZv2 : Hid ((ofv xv2.natAbs).length ≤ 100000000) := by show _ ≤ _; have h := rv2.1; rw [Mv2, exv2] at h; exact Nat.le_trans h (by decide)
  have LDv2 : Hid ((ofv dv2).length ≤ 100000000) := by show _ ≤ _; have h := rv2.2; rw [Mv2, edv2] at h; exact Nat.le_trans h (by decide)
  have HZv2 := Lib.hid exv2
  have HDv2 := Lib.hid edv2
  have EE : mkRat z0 q0 * mkRat z1 q1 = mkRat z0 q0 * mkRat z1 q1 := by rfl
  have EQv_v2 : Hid (xv = xv2 ∧ dv = dv2) := by show _ ∧ _; rw [← exv, ← exv2, ← edv, ← edv2]; exact ⟨congrArg Rat.num EE, congrArg Rat.den EE⟩
  clear EE
  have NZ0 := ha
  obtain ⟨xi, exi⟩ : ∃ z : Int, ((mkRat z0 q0)⁻¹).num = z := ⟨_, rfl⟩
  obtain ⟨di, edi⟩ : ∃ z : Nat, ((mkRat z0 q0)⁻¹).den = z := ⟨_, rfl⟩
  have Mi : mkRat xi di = (mkRat z0 q0)⁻¹ := by rw [← exi, ← edi, mk_self]
  have ri : RL (mkRat xi di) 1048576 := by rw [Mi]; exact (rl_inv r0 NZ0).le (by decide)
  have LZi : Hid ((ofv xi.natAbs).length ≤ 100000000) := by show _ ≤ _; have h := ri.1; rw [Mi, exi] at h; exact Nat.le_trans h (by decide)
  have LDi : Hid ((ofv di).length ≤ 100000000) := by show _ ≤ _; have h := ri.2; rw [Mi, edi] at h; exact Nat.le_trans h (by decide)
  have HZi := Lib.hid exi
  have HDi := Lib.hid edi
  obtain ⟨xj, exj⟩ : ∃ z : Int, (mkRat xk dk * (mkRat z0 q0)⁻¹).num = z := ⟨_, rfl⟩
  obtain ⟨dj, edj⟩ : ∃ z : Nat, (mkRat xk dk * (mkRat z0 q0)⁻¹).den = z := ⟨_, rfl⟩
  have Mj : mkRat xj dj = mkRat xk dk * (mkRat z0 q0)⁻¹ := by rw [← exj, ← edj, mk_self]
  have rj : RL (mkRat xj dj) 1048577 := by rw [Mj]; exact (rl_mul rk (rl_inv r0 NZ0)).le (by decide)
  have LZj : Hid ((ofv xj.natAbs).length ≤ 100000000) := by show _ ≤ _; have h := rj.1; rw [Mj, exj] at h; exact Nat.le_trans h (by decide)
  have LDj : Hid ((ofv dj).length ≤ 100000000) := by show _ ≤ _; have h := rj.2; rw [Mj, edj] at h; exact Nat.le_trans h (by decide)
  have HZj := Lib.hid exj
  have HDj := Lib.hid edj
  have EE : (mkRat z0 q0)⁻¹ = mkRat xk dk * (mkRat z0 q0)⁻¹ := by rw [Mk, show Rat.divInt 1 1 = 1 from rfl, Rat.one_mul]
  have EQi_j : Hid (xi = xj ∧ di = dj) := by show _ ∧ _; rw [← exi, ← exj, ← edi, ← edj]; exact ⟨congrArg Rat.num EE, congrArg Rat.den EE⟩
  clear EE
  clear hx0 hl0 hp0 hn0 r0 hx1 hl1 hp1 hn1 r1 hb ha exz edz exk edk Mk rk exn edn Mn rn exn2 edn2 Mn2 rn2 exs eds Ms rs exs2 eds2 Ms2 rs2 ext edt Mt rt ext2 edt2 Mt2 rt2 exv edv Mv rv exv2 edv2 Mv2 rv2 NZ0 exi edi Mi ri exj edj Mj rj
  go_enter Try.func6, Try.ntmps6
  go_wp2_with fail
  generalize ((w.alloc (.cells #[.bool b0, .slice a0 len0 cap0, .slice e0 n0 c0] 42)).alloc (.cells #[.bool b1, .slice a1 len1 cap1, .slice e1 n1 c1] 42)) = w2 at *
  have pc0 := Lib.hid trivial
  go_wp2_with (first
    | (clear pc0; go_at_call 29; refine Calls.mono (qdiv_zero (L := 100000000) X0.out Y0.out X1.out Y1.out LZ0.out LD0.out LZ1.out LD1.out LL.out HB0.out) ?_; rintro e v1 ⟨rfl, hb⟩; replace V0 := Lib.hid (V0.out.below hb V0.out.lt); replace X0 := Lib.hid (X0.out.below hb); replace Y0 := Lib.hid (Y0.out.below hb); replace V1 := Lib.hid (V1.out.below hb V1.out.lt); replace X1 := Lib.hid (X1.out.below hb); replace Y1 := Lib.hid (Y1.out.below hb); replace B1 := Lib.hid (B1.out.trans (hb.mono B1.out.size)); clear hb; have pc1 := Lib.hid trivial)
    | (clear pc1; have LTG1 : Hid (w.heap.size + 1 < v1.heap.size) := V1.out.lt; have hb : Below v1.heap.size v1 (v1.alloc (.cells #[.bool false, .slice none 0 0, .slice none 0 0] 42)) := (Below.refl _ _).alloc (Nat.le_refl _) _; replace V0 := Lib.hid (V0.out.below hb V0.out.lt); replace X0 := Lib.hid (X0.out.below hb); replace Y0 := Lib.hid (Y0.out.below hb); replace V1 := Lib.hid (V1.out.below hb V1.out.lt); replace X1 := Lib.hid (X1.out.below hb); replace Y1 := Lib.hid (Y1.out.below hb); replace B1 := Lib.hid (B1.out.trans (hb.mono B1.out.size)); clear hb; have G1 := Lib.hid (Rb.new v1 false none 0 0 none 0 0); refine wpList_stR (by rfl) _ _ rfl (by rfl) (by rfl) G1.out ?_; intro wsA hz hg; replace V0 := Lib.hid (V0.out.gro hg (by have := LTG1.out; omega)); replace X0 := Lib.hid (X0.out.grR G1.out hg); replace Y0 := Lib.hid (Y0.out.grR G1.out hg); replace V1 := Lib.hid (V1.out.gro hg (by have := LTG1.out; omega)); replace X1 := Lib.hid (X1.out.grR G1.out hg); replace Y1 := Lib.hid (Y1.out.grR G1.out hg); replace B1 := Lib.hid (Below.gr B1.out (by have := LTG1.out; omega) hg B1.out.size); replace G1 := Lib.hid hz; clear hz hg; have pc2 := Lib.hid trivial)
    | (clear pc2; replace G1 := Lib.hid (rb_zero HXZ.out HDZ.out G1.out); refine wpList_ldR (by rfl) _ rfl (by rfl) V0.out ?_; have pc3 := Lib.hid trivial)
    | (clear pc3; refine wpList_ldR (by rfl) _ rfl (by rfl) V1.out ?_; have pc4 := Lib.hid trivial)
    | (clear pc4; go_at_call 30; refine Calls.mono (r3div_zero X0.out Y0.out X1.out Y1.out (Nat.le_trans LZ0.out (by decide)) (Nat.le_trans LD0.out (by decide)) (Nat.le_trans LZ1.out (by decide)) (Nat.le_trans LD1.out (by decide)) HB0.out) ?_; rintro e v2 ⟨rfl, hb⟩; replace V0 := Lib.hid (V0.out.below hb V0.out.lt); replace X0 := Lib.hid (X0.out.below hb); replace Y0 := Lib.hid (Y0.out.below hb); replace V1 := Lib.hid (V1.out.below hb V1.out.lt); replace X1 := Lib.hid (X1.out.below hb); replace Y1 := Lib.hid (Y1.out.below hb); replace G1 := Lib.hid (G1.out.below hb G1.out.lt); replace B1 := Lib.hid (B1.out.trans (hb.mono B1.out.size)); clear hb; have pc5 := Lib.hid trivial)
    | (clear pc5; have LTG2 : Hid (w.heap.size + 1 < v2.heap.size ∧ v1.heap.size < v2.heap.size) := ⟨V1.out.lt, G1.out.lt⟩; have hb : Below v2.heap.size v2 (v2.alloc (.cells #[.bool false, .slice none 0 0, .slice none 0 0] 42)) := (Below.refl _ _).alloc (Nat.le_refl _) _; replace V0 := Lib.hid (V0.out.below hb V0.out.lt); replace X0 := Lib.hid (X0.out.below hb); replace Y0 := Lib.hid (Y0.out.below hb); replace V1 := Lib.hid (V1.out.below hb V1.out.lt); replace X1 := Lib.hid (X1.out.below hb); replace Y1 := Lib.hid (Y1.out.below hb); replace G1 := Lib.hid (G1.out.below hb G1.out.lt); replace B1 := Lib.hid (B1.out.trans (hb.mono B1.out.size)); clear hb; have G2 := Lib.hid (Rb.new v2 false none 0 0 none 0 0); refine wpList_stR (by rfl) _ _ rfl (by rfl) (by rfl) G2.out ?_; intro wsB hz hg; replace V0 := Lib.hid (V0.out.gro hg (by have := LTG1.out; have := LTG2.out; omega)); replace X0 := Lib.hid (X0.out.grR G2.out hg); replace Y0 := Lib.hid (Y0.out.grR G2.out hg); replace V1 := Lib.hid (V1.out.gro hg (by have := LTG1.out; have := LTG2.out; omega)); replace X1 := Lib.hid (X1.out.grR G2.out hg); replace Y1 := Lib.hid (Y1.out.grR G2.out hg); replace G1 := Lib.hid (G1.out.gro hg (by have := LTG1.out; have := LTG2.out; omega)); replace B1 := Lib.hid (Below.gr B1.out (by have := LTG1.out; have := LTG2.out; omega) hg B1.out.size); replace G2 := Lib.hid hz; clear hz hg; have pc6 := Lib.hid trivial)
    | (clear pc6; replace G2 := Lib.hid (rb_zero HXZ.out HDZ.out G2.out); refine wpList_ldR (by rfl) _ rfl (by rfl) V0.out ?_; have pc7 := Lib.hid trivial)
    | (clear pc7; go_at_call 31; refine Calls.mono (qinv_any (L := 100000000) (z := xi) (d := di) X0.out Y0.out LZ0.out LD0.out LL2.out HA0.out HZi.out HDi.out) ?_; rintro e v3 ⟨Pi, ci, Qi, ki, rfl, ho, ho2, hb⟩; replace V0 := Lib.hid (V0.out.below hb V0.out.lt); replace X0 := Lib.hid (X0.out.below hb); replace Y0 := Lib.hid (Y0.out.below hb); replace V1 := Lib.hid (V1.out.below hb V1.out.lt); replace X1 := Lib.hid (X1.out.below hb); replace Y1 := Lib.hid (Y1.out.below hb); replace G1 := Lib.hid (G1.out.below hb G1.out.lt); replace G2 := Lib.hid (G2.out.below hb G2.out.lt); replace B1 := Lib.hid (B1.out.trans (hb.mono B1.out.size)); have Zi := Lib.hid (Zo.of_own ho); have Ni := Lib.hid ho2.rd; clear ho ho2; clear hb; have pc8 := Lib.hid trivial)
    | (clear pc8; have LTG3 : Hid (w.heap.size + 1 < v3.heap.size ∧ v1.heap.size < v3.heap.size ∧ v2.heap.size < v3.heap.size) := ⟨V1.out.lt, G1.out.lt, G2.out.lt⟩; have hb : Below v3.heap.size v3 (v3.alloc (.cells #[.bool false, .slice none 0 0, .slice none 0 0] 42)) := (Below.refl _ _).alloc (Nat.le_refl _) _; replace V0 := Lib.hid (V0.out.below hb V0.out.lt); replace X0 := Lib.hid (X0.out.below hb); replace Y0 := Lib.hid (Y0.out.below hb); replace V1 := Lib.hid (V1.out.below hb V1.out.lt); replace X1 := Lib.hid (X1.out.below hb); replace Y1 := Lib.hid (Y1.out.below hb); replace G1 := Lib.hid (G1.out.below hb G1.out.lt); replace G2 := Lib.hid (G2.out.below hb G2.out.lt); replace Zi := Lib.hid (Zi.out.below hb); replace Ni := Lib.hid (Ni.out.below hb); replace B1 := Lib.hid (B1.out.trans (hb.mono B1.out.size)); clear hb; have G3 := Lib.hid (Rb.new v3 false none 0 0 none 0 0); refine wpList_stR (by rfl) _ _ rfl (by rfl) (by rfl) G3.out ?_; intro wsC hz hg; replace V0 := Lib.hid (V0.out.gro hg (by have := LTG1.out; have := LTG2.out; have := LTG3.out; omega)); replace X0 := Lib.hid (X0.out.grR G3.out hg); replace Y0 := Lib.hid (Y0.out.grR G3.out hg); replace V1 := Lib.hid (V1.out.gro hg (by have := LTG1.out; have := LTG2.out; have := LTG3.out; omega)); replace X1 := Lib.hid (X1.out.grR G3.out hg); replace Y1 := Lib.hid (Y1.out.grR G3.out hg); replace G1 := Lib.hid (G1.out.gro hg (by have := LTG1.out; have := LTG2.out; have := LTG3.out; omega)); replace G2 := Lib.hid (G2.out.gro hg (by have := LTG1.out; have := LTG2.out; have := LTG3.out; omega)); replace Zi := Lib.hid (Zi.out.grR G3.out hg); replace Ni := Lib.hid (Ni.out.grR G3.out hg); replace B1 := Lib.hid (Below.gr B1.out (by have := LTG1.out; have := LTG2.out; have := LTG3.out; omega) hg B1.out.size); replace G3 := Lib.hid hz; clear hz hg; have pc9 := Lib.hid trivial))
  clear pc9
  have LT4 : Hid (w.heap.size + 1 < wsC.heap.size ∧ v1.heap.size < wsC.heap.size ∧ v2.heap.size < wsC.heap.size ∧ v3.heap.size < wsC.heap.size) := ⟨V1.out.lt, G1.out.lt, G2.out.lt, G3.out.lt⟩
  have HB : Hid (Below wsC.heap.size wsC wsC.drew) := below_drewN _ wsC 1
  refine wp_region_held_drew (S := fun w' => Below wsC.heap.size wsC w') (by kernel_rfl) (HB.out) (fun hHeld => ?_)
  refine wpAnyH_takeL (i := 1) (oi := _) rfl (by kernel_rfl) (by kernel_rfl) (by kernel_rfl) (fun _ _ _ h => h) (yields_ldR (by rfl) _ rfl (by rfl) (fun _ hb => V0.out.below hb V0.out.lt)) hHeld ?_
  try simp only [Act.put, List.setIfInBounds_toArray, List.set_cons_zero, List.set_cons_succ]
  refine wpAnyH_rgt [(0, some 31), (2, some 33), (3, some 30), (4, some 34), (5, some 35), (6, some 11)] [3, 4, 5] (isNewR wsC.heap.size) [(0, isR xk dk wsC.heap.size), (2, isRT xj dj wsC.heap.size), (3, isRT xj dj wsC.heap.size), (4, isR xj dj wsC.heap.size), (5, isV (.bool true))] wsC (f0 := 2) (by kernel_rfl) (by kernel_rfl) (by rfl) HB.out (fun _ h => h) (fun _ _ _ _ _ h => h) (isNewR_good _) ⟨isR_good _ _ _, isRT_good _ _ _, isRT_good _ _ _, isR_good _ _ _, isV_good _, trivial⟩ ?_ ?_ ?_
  · clear hHeld HB
    show RgOps _ _ _ _ _ _ _ _ _ [0, 2, 6]
    refine RgOps.consL (o := _) (ds := []) rfl rfl (by kernel_rfl) (fun vals wr hbr hC hdep K hK => ?_) ?_
    · have BB := Lib.hid hbr
      clear hdep
      clear hbr hC
      simp only [Upd2, Act.put, List.setIfInBounds_toArray, List.set_cons_zero, List.set_cons_succ] at hK ⊢
      go_simp
      go_at_call 32
      refine Calls.mono (r3fromInt_any (a := 1) (z := xk) (d := dk) I1.out HZk.out HDk.out _) ?_
      rintro e wq ⟨R, cR, R2, cR2, rfl, ho, ho2, hb⟩
      exact hK.out _ _ (LeavesB.giveR BB.out.size ho ho2 hb)
    refine RgOps.consL (o := _) (ds := [0]) rfl rfl (by kernel_rfl) (fun vals wr hbr hC hdep K hK => ?_) ?_
    · have BB := Lib.hid hbr
      obtain ⟨⟨P0, c0, Q0, k0, e0, o0, u0⟩, -⟩ := hdep
      clear hbr hC
      simp only [e0, Upd2, Act.put, List.setIfInBounds_toArray, List.set_cons_zero, List.set_cons_succ] at hK ⊢
      clear e0
      go_simp
      go_at_call 30
      refine Calls.mono (r3div_any (z := xj) (d := dj) (Zo.of_own o0).in_ (Nin.of_rd u0.rd) (X0.out.below BB.out) (Y0.out.below BB.out) (Nat.le_trans LZk.out (by decide)) (Nat.le_trans LDk.out (by decide)) (Nat.le_trans LZ0.out (by decide)) (Nat.le_trans LD0.out (by decide)) HA0.out HZj.out HDj.out) ?_
      rintro e wq ⟨R, cR, R2, cR2, rfl, ho, ho2, hb⟩
      exact hK.out _ _ (LeavesB.behind hb ⟨_, _, _, _, rfl, ho.mono BB.out.size, ho2.mono BB.out.size⟩ rfl)
    refine RgOps.consL (o := _) (ds := []) rfl rfl (by kernel_rfl) (fun vals wr hbr hC hdep K hK => ?_) RgOps.nil
    · have BB := Lib.hid hbr
      clear hdep
      clear hbr hC
      simp only [Upd2, Act.put, List.setIfInBounds_toArray, List.set_cons_zero, List.set_cons_succ] at hK ⊢
      go_simp
      exact hK.out _ _ (LeavesB.newR BB.out.size)
  · clear hHeld HB
    show TaAll _ _ _ _ _ [3, 4, 5]
    refine TaAll.cons (o := _) (ds := [2]) rfl rfl (by kernel_rfl) (fun vals wr hdep => ?_) ?_
    · obtain ⟨⟨P2, c2, Q2, k2, e2, o2, u2⟩, -⟩ := hdep
      refine ⟨_, fun S => Or.inl ⟨by rfl, ?_⟩, ⟨_, _, _, _, rfl, o2, u2⟩, rfl⟩
      intro w' _
      simp only [e2, Upd2, Act.put, List.setIfInBounds_toArray, List.set_cons_zero, List.set_cons_succ]
      go_simp
    refine TaAll.cons (o := _) (ds := [3]) rfl rfl (by kernel_rfl) (fun vals wr hdep => ?_) ?_
    · obtain ⟨⟨P3, c3, Q3, k3, e3, o3, u3⟩, -⟩ := hdep
      refine ⟨_, fun S => Or.inl ⟨by rfl, ?_⟩, ⟨_, _, _, _, rfl, o3, u3⟩, rfl⟩
      intro w' _
      simp only [e3, Upd2, Act.put, List.setIfInBounds_toArray, List.set_cons_zero, List.set_cons_succ]
      go_simp
    refine TaAll.cons (o := _) (ds := [3]) rfl rfl (by kernel_rfl) (fun vals wr hdep => ?_) TaAll.nil
    · obtain ⟨⟨P3, c3, Q3, k3, e3, o3, u3⟩, -⟩ := hdep
      refine ⟨_, fun S => Or.inl ⟨by rfl, ?_⟩, ⟨rfl, rfl⟩, rfl⟩
      intro w' _
      simp only [e3, Upd2, Act.put, List.setIfInBounds_toArray, List.set_cons_zero, List.set_cons_succ]
      go_simp
  clear hHeld HB
  intro vals wr hb hdep hD
  obtain ⟨⟨P0, c0, Q0, k0, e0, o0, u0⟩, ⟨P2, c2, Q2, k2, e2, o2, u2⟩, ⟨P3, c3, Q3, k3, e3, o3, u3⟩, ⟨P4, c4, Q4, k4, e4, o4, u4⟩, ⟨e5, -⟩, ⟨g6, e6, l6, z6⟩, -⟩ := hdep
  simp only [Upd2, e0, e2, e3, e4, e5, e6, Act.put, List.setIfInBounds_toArray, List.set_cons_zero, List.set_cons_succ]
  clear e0 e2 e3 e4 e5 e6
  clear hD vals
  replace V0 := Lib.hid (V0.out.below hb V0.out.lt)
  replace X0 := Lib.hid (X0.out.below hb)
  replace Y0 := Lib.hid (Y0.out.below hb)
  replace V1 := Lib.hid (V1.out.below hb V1.out.lt)
  replace X1 := Lib.hid (X1.out.below hb)
  replace Y1 := Lib.hid (Y1.out.below hb)
  replace G1 := Lib.hid (G1.out.below hb G1.out.lt)
  replace G2 := Lib.hid (G2.out.below hb G2.out.lt)
  replace Zi := Lib.hid (Zi.out.below hb)
  replace Ni := Lib.hid (Ni.out.below hb)
  replace G3 := Lib.hid (G3.out.below hb G3.out.lt)
  replace B1 := Lib.hid (B1.out.trans (hb.mono B1.out.size))
  have HB := Lib.hid hb
  clear hb
  have Zj := Lib.hid (Zo.of_own o4); have Nj := Lib.hid u4.rd; have G4 := Lib.hid z6; have L6 := Lib.hid l6
  clear o0 u0 o2 u2 o3 u3 o4 u4 z6 l6
  refine wpAnyH_ready (rs := [7]) (by kernel_rfl) (by simp) ?_
  refine AllReadyH.consL (o := _) rfl (fun K hK => ?_) AllReadyH.nil
  rw [if_pos (by rfl)]
  refine wp_stR _ _ rfl (by rfl) (by rfl) G4.out ?_
  intro ws0 hz hg
  replace HB := Lib.hid (Below.gr HB.out (by have := L6.out; omega) hg HB.out.size)
  replace V0 := Lib.hid (V0.out.gro hg (by have := LTG1.out; have := LTG2.out; have := LTG3.out; have := LT4.out; have := L6.out; omega))
  replace X0 := Lib.hid (X0.out.grR G4.out hg)
  replace Y0 := Lib.hid (Y0.out.grR G4.out hg)
  replace V1 := Lib.hid (V1.out.gro hg (by have := LTG1.out; have := LTG2.out; have := LTG3.out; have := LT4.out; have := L6.out; omega))
  replace X1 := Lib.hid (X1.out.grR G4.out hg)
  replace Y1 := Lib.hid (Y1.out.grR G4.out hg)
  replace G1 := Lib.hid (G1.out.gro hg (by have := LTG1.out; have := LTG2.out; have := LTG3.out; have := LT4.out; have := L6.out; omega))
  replace G2 := Lib.hid (G2.out.gro hg (by have := LTG1.out; have := LTG2.out; have := LTG3.out; have := LT4.out; have := L6.out; omega))
  replace Zi := Lib.hid (Zi.out.grR G4.out hg)
  replace Ni := Lib.hid (Ni.out.grR G4.out hg)
  replace G3 := Lib.hid (G3.out.gro hg (by have := LTG1.out; have := LTG2.out; have := LTG3.out; have := LT4.out; have := L6.out; omega))
  replace Zj := Lib.hid (Zj.out.grR G4.out hg)
  replace Nj := Lib.hid (Nj.out.grR G4.out hg)
  replace B1 := Lib.hid (Below.gr B1.out (by have := LTG1.out; have := LTG2.out; have := LTG3.out; have := LT4.out; have := L6.out; omega) hg B1.out.size)
  replace G4 := Lib.hid hz
  refine hK.out _ _ ⟨HB.out, HB.out⟩ (fun _ => ?_)
  clear hK K hg hz
  try simp only [Act.put]
  have hHeld : Below wsC.heap.size wsC _ ∧ Below wsC.heap.size wsC _ := ⟨HB.out, HB.out⟩
  refine wpAnyH_takeL (i := 8) (oi := _) (v := ?_) rfl (by kernel_rfl) (by kernel_rfl) (by kernel_rfl) (fun _ _ _ h => h) (Or.inl ⟨by rfl, ?_⟩) hHeld ?_
  rotate_left
  · (intro w' hSw; (try dsimp only at hSw); go_simp; try (with_reducible rfl))
  try simp only [Act.put, List.setIfInBounds_toArray, List.set_cons_zero, List.set_cons_succ]
  clear hHeld
  refine wpAnyH_done (by kernel_rfl) ?_ _
  clear HB
  have pc0 := Lib.hid trivial
  go_wp2_with (first
    | (clear pc0; refine wpList_ldR (by rfl) _ rfl (by rfl) G1.out ?_; have pc1 := Lib.hid trivial)
    | (clear pc1; refine wpList_ldR (by rfl) _ rfl (by rfl) G2.out ?_; have pc2 := Lib.hid trivial)
    | (clear pc2; go_at_call 33; refine Calls.mono (r3equal_any (b := true) (zo_zero HXZ.out _) (zo_zero HXZ.out _) (rd_zero HDZ.out _) (rd_zero HDZ.out _) (by simp)) ?_; rintro e v4 ⟨rfl, hb⟩; replace V0 := Lib.hid (V0.out.below hb V0.out.lt); replace X0 := Lib.hid (X0.out.below hb); replace Y0 := Lib.hid (Y0.out.below hb); replace V1 := Lib.hid (V1.out.below hb V1.out.lt); replace X1 := Lib.hid (X1.out.below hb); replace Y1 := Lib.hid (Y1.out.below hb); replace G1 := Lib.hid (G1.out.below hb G1.out.lt); replace G2 := Lib.hid (G2.out.below hb G2.out.lt); replace Zi := Lib.hid (Zi.out.below hb); replace Ni := Lib.hid (Ni.out.below hb); replace G3 := Lib.hid (G3.out.below hb G3.out.lt); replace G4 := Lib.hid (G4.out.below hb G4.out.lt); replace Zj := Lib.hid (Zj.out.below hb); replace Nj := Lib.hid (Nj.out.below hb); replace B1 := Lib.hid (B1.out.trans (hb.mono B1.out.size)); clear hb; have pc3 := Lib.hid trivial)
    | (clear pc3; refine wpList_ldR (by rfl) _ rfl (by rfl) G3.out ?_; have pc4 := Lib.hid trivial)
    | (clear pc4; refine wpList_ldR (by rfl) _ rfl (by rfl) G4.out ?_; have pc5 := Lib.hid trivial)
    | (clear pc5; go_at_call 33; refine Calls.mono (r3equal_any (b := true) Zi.out Zj.out Ni.out Nj.out (by simpa using EQi_j.out)) ?_; rintro e v5 ⟨rfl, hb⟩; replace V0 := Lib.hid (V0.out.below hb V0.out.lt); replace X0 := Lib.hid (X0.out.below hb); replace Y0 := Lib.hid (Y0.out.below hb); replace V1 := Lib.hid (V1.out.below hb V1.out.lt); replace X1 := Lib.hid (X1.out.below hb); replace Y1 := Lib.hid (Y1.out.below hb); replace G1 := Lib.hid (G1.out.below hb G1.out.lt); replace G2 := Lib.hid (G2.out.below hb G2.out.lt); replace Zi := Lib.hid (Zi.out.below hb); replace Ni := Lib.hid (Ni.out.below hb); replace G3 := Lib.hid (G3.out.below hb G3.out.lt); replace G4 := Lib.hid (G4.out.below hb G4.out.lt); replace Zj := Lib.hid (Zj.out.below hb); replace Nj := Lib.hid (Nj.out.below hb); replace B1 := Lib.hid (B1.out.trans (hb.mono B1.out.size)); clear hb; have pc6 := Lib.hid trivial))
  clear pc6
  have HB : Hid (Below v5.heap.size v5 v5.drew) := below_drewN _ v5 1
  refine wp_region_held_drew (S := fun w' => Below v5.heap.size v5 w') (by kernel_rfl) (HB.out) (fun hHeld => ?_)
  refine wpAnyH_ready (rs := [0]) (by kernel_rfl) (by simp) ?_
  refine AllReadyH.consL (o := _) rfl (fun K hK => ?_) AllReadyH.nil
  clear hHeld
  go_simp
  go_at_call 34
  refine Calls.mono (rawake_any _) ?_
  rintro e v6 ⟨rfl, hb⟩
  replace HB := Lib.hid (HB.out.trans (hb.mono HB.out.size))
  clear hb
  refine hK.out _ _ HB.out (fun hHeld => ?_)
  clear hK K
  try simp only [Act.put, List.setIfInBounds_toArray, List.set_cons_zero, List.set_cons_succ]
  refine wpAnyH_takeL (i := 1) (oi := _) (v := ?_) rfl (by kernel_rfl) (by kernel_rfl) (by kernel_rfl) (fun _ _ _ h => h) (Or.inl ⟨by rfl, ?_⟩) hHeld ?_
  rotate_left
  · (intro w' hSw; (try dsimp only at hSw); go_simp; try (with_reducible rfl))
  try simp only [Act.put, List.setIfInBounds_toArray, List.set_cons_zero, List.set_cons_succ]
  refine wpAnyH_takeL (i := 2) (oi := _) rfl (by kernel_rfl) (by kernel_rfl) (by kernel_rfl) (fun _ _ _ h => h) (yields_ldR (by rfl) _ rfl (by rfl) (fun _ hb => V0.out.below hb V0.out.lt)) hHeld ?_
  try simp only [Act.put, List.setIfInBounds_toArray, List.set_cons_zero, List.set_cons_succ]
  refine wpAnyH_takeL (i := 4) (oi := _) rfl (by kernel_rfl) (by kernel_rfl) (by kernel_rfl) (fun _ _ _ h => h) (yields_ldR (by rfl) _ rfl (by rfl) (fun _ hb => V0.out.below hb V0.out.lt)) hHeld ?_
  try simp only [Act.put, List.setIfInBounds_toArray, List.set_cons_zero, List.set_cons_succ]
  refine wpAnyH_ready (rs := [3]) (by kernel_rfl) (by simp) ?_
  refine AllReadyH.consL (o := _) rfl (fun K hK => ?_) AllReadyH.nil
  clear hHeld
  go_simp
  go_at_call 35
  refine Calls.mono (qneg_any (L := 100000000) (z := xn) (d := dn) (X0.out.below HB.out) (Y0.out.below HB.out) LZ0.out LD0.out LL2.out HZn.out HDn.out) ?_
  rintro e v7 ⟨Pn, cn, Qn, kn, rfl, ho, ho2, hb⟩
  replace HB := Lib.hid (HB.out.trans (hb.mono HB.out.size))
  have Zn := Lib.hid (Zo.of_own ho)
  have Nn := Lib.hid ho2.rd
  clear ho ho2
  clear hb
  refine hK.out _ _ HB.out (fun hHeld => ?_)
  clear hK K
  try simp only [Act.put, List.setIfInBounds_toArray, List.set_cons_zero, List.set_cons_succ]
  refine wpAnyH_ready (rs := [5]) (by kernel_rfl) (by simp) ?_
  refine AllReadyH.consL (o := _) rfl (fun K hK => ?_) AllReadyH.nil
  clear hHeld
  go_simp
  go_at_call 36
  refine Calls.mono (r3neg_any (z2 := xn2) (d2 := dn2) (X0.out.below HB.out) (Y0.out.below HB.out) (Nat.le_trans LZ0.out (by decide)) (Nat.le_trans LD0.out (by decide)) HZn2.out HDn2.out) ?_
  rintro e v8 ⟨Pn2, cn2, Qn2, kn2, rfl, ho, ho2, hb⟩
  replace HB := Lib.hid (HB.out.trans (hb.mono HB.out.size))
  replace Zn := Lib.hid (Zn.out.below hb)
  replace Nn := Lib.hid (Nn.out.below hb)
  have Zn2 := Lib.hid (Zo.of_own ho)
  have Nn2 := Lib.hid ho2.rd
  clear ho ho2
  clear hb
  refine hK.out _ _ HB.out (fun hHeld => ?_)
  clear hK K
  try simp only [Act.put, List.setIfInBounds_toArray, List.set_cons_zero, List.set_cons_succ]
  refine wpAnyH_ready (rs := [6]) (by kernel_rfl) (by simp) ?_
  refine AllReadyH.consL (o := _) rfl (fun K hK => ?_) AllReadyH.nil
  clear hHeld
  go_simp
  go_at_call 33
  refine Calls.mono (r3equal_any (b := true) Zn.out Zn2.out Nn.out Nn2.out (by simpa using EQn_n2.out)) ?_
  rintro e v9 ⟨rfl, hb⟩
  replace HB := Lib.hid (HB.out.trans (hb.mono HB.out.size))
  replace Zn := Lib.hid (Zn.out.below hb)
  replace Nn := Lib.hid (Nn.out.below hb)
  replace Zn2 := Lib.hid (Zn2.out.below hb)
  replace Nn2 := Lib.hid (Nn2.out.below hb)
  clear hb
  refine hK.out _ _ HB.out (fun hHeld => ?_)
  clear hK K
  try simp only [Act.put, List.setIfInBounds_toArray, List.set_cons_zero, List.set_cons_succ]
  refine wpAnyH_takeL (i := 7) (oi := _) (v := ?_) rfl (by kernel_rfl) (by kernel_rfl) (by kernel_rfl) (fun _ _ _ h => h) (Or.inl ⟨by rfl, ?_⟩) hHeld ?_
  rotate_left
  · (intro w' hSw; (try dsimp only at hSw); go_simp; try (with_reducible rfl))
  try simp only [Act.put, List.setIfInBounds_toArray, List.set_cons_zero, List.set_cons_succ]
  refine wpAnyH_takeL (i := 8) (oi := _) (v := ?_) rfl (by kernel_rfl) (by kernel_rfl) (by kernel_rfl) (fun _ _ _ h => h) (Or.inl ⟨by rfl, ?_⟩) hHeld ?_
  rotate_left
  · (intro w' hSw; (try dsimp only at hSw); go_simp; try (with_reducible rfl))
  try simp only [Act.put, List.setIfInBounds_toArray, List.set_cons_zero, List.set_cons_succ]
  refine wpAnyH_takeL (i := 9) (oi := _) rfl (by kernel_rfl) (by kernel_rfl) (by kernel_rfl) (fun _ _ _ h => h) (yields_ldR (by rfl) _ rfl (by rfl) (fun _ hb => V0.out.below hb V0.out.lt)) hHeld ?_
  try simp only [Act.put, List.setIfInBounds_toArray, List.set_cons_zero, List.set_cons_succ]
  refine wpAnyH_takeL (i := 10) (oi := _) rfl (by kernel_rfl) (by kernel_rfl) (by kernel_rfl) (fun _ _ _ h => h) (yields_ldR (by rfl) _ rfl (by rfl) (fun _ hb => V1.out.below hb V1.out.lt)) hHeld ?_
  try simp only [Act.put, List.setIfInBounds_toArray, List.set_cons_zero, List.set_cons_succ]
  refine wpAnyH_takeL (i := 12) (oi := _) rfl (by kernel_rfl) (by kernel_rfl) (by kernel_rfl) (fun _ _ _ h => h) (yields_ldR (by rfl) _ rfl (by rfl) (fun _ hb => V0.out.below hb V0.out.lt)) hHeld ?_
  try simp only [Act.put, List.setIfInBounds_toArray, List.set_cons_zero, List.set_cons_succ]
  refine wpAnyH_takeL (i := 13) (oi := _) rfl (by kernel_rfl) (by kernel_rfl) (by kernel_rfl) (fun _ _ _ h => h) (yields_ldR (by rfl) _ rfl (by rfl) (fun _ hb => V1.out.below hb V1.out.lt)) hHeld ?_
  try simp only [Act.put, List.setIfInBounds_toArray, List.set_cons_zero, List.set_cons_succ]
  refine wpAnyH_ready (rs := [11]) (by kernel_rfl) (by simp) ?_
  refine AllReadyH.consL (o := _) rfl (fun K hK => ?_) AllReadyH.nil
  clear hHeld
  go_simp
  go_at_call 37
  refine Calls.mono (qadd_any (L := 100000000) (z := xs) (d := ds) (X0.out.below HB.out) (Y0.out.below HB.out) (X1.out.below HB.out) (Y1.out.below HB.out) LZ0.out LD0.out LZ1.out LD1.out LL.out HZs.out HDs.out) ?_
  rintro e v10 ⟨Ps, cs, Qs, ks, rfl, ho, ho2, hb⟩
  replace HB := Lib.hid (HB.out.trans (hb.mono HB.out.size))
  replace Zn := Lib.hid (Zn.out.below hb)
  replace Nn := Lib.hid (Nn.out.below hb)
  replace Zn2 := Lib.hid (Zn2.out.below hb)
  replace Nn2 := Lib.hid (Nn2.out.below hb)
  have Zs := Lib.hid (Zo.of_own ho)
  have Ns := Lib.hid ho2.rd
  clear ho ho2
  clear hb
  refine hK.out _ _ HB.out (fun hHeld => ?_)
  clear hK K
  try simp only [Act.put, List.setIfInBounds_toArray, List.set_cons_zero, List.set_cons_succ]
  refine wpAnyH_ready (rs := [14]) (by kernel_rfl) (by simp) ?_
  refine AllReadyH.consL (o := _) rfl (fun K hK => ?_) AllReadyH.nil
  clear hHeld
  go_simp
  go_at_call 38
  refine Calls.mono (r3add_any (z := xs2) (d := ds2) (X0.out.below HB.out) (Y0.out.below HB.out) (X1.out.below HB.out) (Y1.out.below HB.out) (Nat.le_trans LZ0.out (by decide)) (Nat.le_trans LD0.out (by decide)) (Nat.le_trans LZ1.out (by decide)) (Nat.le_trans LD1.out (by decide)) HZs2.out HDs2.out) ?_
  rintro e v11 ⟨Ps2, cs2, Qs2, ks2, rfl, ho, ho2, hb⟩
  replace HB := Lib.hid (HB.out.trans (hb.mono HB.out.size))
  replace Zn := Lib.hid (Zn.out.below hb)
  replace Nn := Lib.hid (Nn.out.below hb)
  replace Zn2 := Lib.hid (Zn2.out.below hb)
  replace Nn2 := Lib.hid (Nn2.out.below hb)
  replace Zs := Lib.hid (Zs.out.below hb)
  replace Ns := Lib.hid (Ns.out.below hb)
  have Zs2 := Lib.hid (Zo.of_own ho)
  have Ns2 := Lib.hid ho2.rd
  clear ho ho2
  clear hb
  refine hK.out _ _ HB.out (fun hHeld => ?_)
  clear hK K
  try simp only [Act.put, List.setIfInBounds_toArray, List.set_cons_zero, List.set_cons_succ]
  refine wpAnyH_ready (rs := [15]) (by kernel_rfl) (by simp) ?_
  refine AllReadyH.consL (o := _) rfl (fun K hK => ?_) AllReadyH.nil
  clear hHeld
  go_simp
  go_at_call 33
  refine Calls.mono (r3equal_any (b := true) Zs.out Zs2.out Ns.out Ns2.out (by simpa using EQs_s2.out)) ?_
  rintro e v12 ⟨rfl, hb⟩
  replace HB := Lib.hid (HB.out.trans (hb.mono HB.out.size))
  replace Zn := Lib.hid (Zn.out.below hb)
  replace Nn := Lib.hid (Nn.out.below hb)
  replace Zn2 := Lib.hid (Zn2.out.below hb)
  replace Nn2 := Lib.hid (Nn2.out.below hb)
  replace Zs := Lib.hid (Zs.out.below hb)
  replace Ns := Lib.hid (Ns.out.below hb)
  replace Zs2 := Lib.hid (Zs2.out.below hb)
  replace Ns2 := Lib.hid (Ns2.out.below hb)
  clear hb
  refine hK.out _ _ HB.out (fun hHeld => ?_)
  clear hK K
  try simp only [Act.put, List.setIfInBounds_toArray, List.set_cons_zero, List.set_cons_succ]
  refine wpAnyH_takeL (i := 16) (oi := _) (v := ?_) rfl (by kernel_rfl) (by kernel_rfl) (by kernel_rfl) (fun _ _ _ h => h) (Or.inl ⟨by rfl, ?_⟩) hHeld ?_
  rotate_left
  · (intro w' hSw; (try dsimp only at hSw); go_simp; try (with_reducible rfl))
  try simp only [Act.put, List.setIfInBounds_toArray, List.set_cons_zero, List.set_cons_succ]
  refine wpAnyH_takeL (i := 17) (oi := _) (v := ?_) rfl (by kernel_rfl) (by kernel_rfl) (by kernel_rfl) (fun _ _ _ h => h) (Or.inl ⟨by rfl, ?_⟩) hHeld ?_
  rotate_left
  · (intro w' hSw; (try dsimp only at hSw); go_simp; try (with_reducible rfl))
  try simp only [Act.put, List.setIfInBounds_toArray, List.set_cons_zero, List.set_cons_succ]
  refine wpAnyH_takeL (i := 18) (oi := _) rfl (by kernel_rfl) (by kernel_rfl) (by kernel_rfl) (fun _ _ _ h => h) (yields_ldR (by rfl) _ rfl (by rfl) (fun _ hb => V0.out.below hb V0.out.lt)) hHeld ?_
  try simp only [Act.put, List.setIfInBounds_toArray, List.set_cons_zero, List.set_cons_succ]
  refine wpAnyH_takeL (i := 19) (oi := _) rfl (by kernel_rfl) (by kernel_rfl) (by kernel_rfl) (fun _ _ _ h => h) (yields_ldR (by rfl) _ rfl (by rfl) (fun _ hb => V1.out.below hb V1.out.lt)) hHeld ?_
  try simp only [Act.put, List.setIfInBounds_toArray, List.set_cons_zero, List.set_cons_succ]
  refine wpAnyH_takeL (i := 21) (oi := _) rfl (by kernel_rfl) (by kernel_rfl) (by kernel_rfl) (fun _ _ _ h => h) (yields_ldR (by rfl) _ rfl (by rfl) (fun _ hb => V0.out.below hb V0.out.lt)) hHeld ?_
  try simp only [Act.put, List.setIfInBounds_toArray, List.set_cons_zero, List.set_cons_succ]
  refine wpAnyH_takeL (i := 22) (oi := _) rfl (by kernel_rfl) (by kernel_rfl) (by kernel_rfl) (fun _ _ _ h => h) (yields_ldR (by rfl) _ rfl (by rfl) (fun _ hb => V1.out.below hb V1.out.lt)) hHeld ?_
  try simp only [Act.put, List.setIfInBounds_toArray, List.set_cons_zero, List.set_cons_succ]
  refine wpAnyH_ready (rs := [20]) (by kernel_rfl) (by simp) ?_
  refine AllReadyH.consL (o := _) rfl (fun K hK => ?_) AllReadyH.nil
  clear hHeld
  go_simp
  go_at_call 39
  refine Calls.mono (qsub_any (L := 100000000) (z := xt) (d := dt) (X0.out.below HB.out) (Y0.out.below HB.out) (X1.out.below HB.out) (Y1.out.below HB.out) LZ0.out LD0.out LZ1.out LD1.out LL.out HZt.out HDt.out) ?_
  rintro e v13 ⟨Pt, ct, Qt, kt, rfl, ho, ho2, hb⟩
  replace HB := Lib.hid (HB.out.trans (hb.mono HB.out.size))
  replace Zn := Lib.hid (Zn.out.below hb)
  replace Nn := Lib.hid (Nn.out.below hb)
  replace Zn2 := Lib.hid (Zn2.out.below hb)
  replace Nn2 := Lib.hid (Nn2.out.below hb)
  replace Zs := Lib.hid (Zs.out.below hb)
  replace Ns := Lib.hid (Ns.out.below hb)
  replace Zs2 := Lib.hid (Zs2.out.below hb)
  replace Ns2 := Lib.hid (Ns2.out.below hb)
  have Zt := Lib.hid (Zo.of_own ho)
  have Nt := Lib.hid ho2.rd
  clear ho ho2
  clear hb
  refine hK.out _ _ HB.out (fun hHeld => ?_)
  clear hK K
  try simp only [Act.put, List.setIfInBounds_toArray, List.set_cons_zero, List.set_cons_succ]
  refine wpAnyH_ready (rs := [23]) (by kernel_rfl) (by simp) ?_
  refine AllReadyH.consL (o := _) rfl (fun K hK => ?_) AllReadyH.nil
  clear hHeld
  go_simp
  go_at_call 40
  refine Calls.mono (r3sub_any (z := xt2) (d := dt2) (X0.out.below HB.out) (Y0.out.below HB.out) (X1.out.below HB.out) (Y1.out.below HB.out) (Nat.le_trans LZ0.out (by decide)) (Nat.le_trans LD0.out (by decide)) (Nat.le_trans LZ1.out (by decide)) (Nat.le_trans LD1.out (by decide)) HZt2.out HDt2.out) ?_
  rintro e v14 ⟨Pt2, ct2, Qt2, kt2, rfl, ho, ho2, hb⟩
  replace HB := Lib.hid (HB.out.trans (hb.mono HB.out.size))
  replace Zn := Lib.hid (Zn.out.below hb)
  replace Nn := Lib.hid (Nn.out.below hb)
  replace Zn2 := Lib.hid (Zn2.out.below hb)
  replace Nn2 := Lib.hid (Nn2.out.below hb)
  replace Zs := Lib.hid (Zs.out.below hb)
  replace Ns := Lib.hid (Ns.out.below hb)
  replace Zs2 := Lib.hid (Zs2.out.below hb)
  replace Ns2 := Lib.hid (Ns2.out.below hb)
  replace Zt := Lib.hid (Zt.out.below hb)
  replace Nt := Lib.hid (Nt.out.below hb)
  have Zt2 := Lib.hid (Zo.of_own ho)
  have Nt2 := Lib.hid ho2.rd
  clear ho ho2
  clear hb
  refine hK.out _ _ HB.out (fun hHeld => ?_)
  clear hK K
  try simp only [Act.put, List.setIfInBounds_toArray, List.set_cons_zero, List.set_cons_succ]
  refine wpAnyH_ready (rs := [24]) (by kernel_rfl) (by simp) ?_
  refine AllReadyH.consL (o := _) rfl (fun K hK => ?_) AllReadyH.nil
  clear hHeld
  go_simp
  go_at_call 33
  refine Calls.mono (r3equal_any (b := true) Zt.out Zt2.out Nt.out Nt2.out (by simpa using EQt_t2.out)) ?_
  rintro e v15 ⟨rfl, hb⟩
  replace HB := Lib.hid (HB.out.trans (hb.mono HB.out.size))
  replace Zn := Lib.hid (Zn.out.below hb)
  replace Nn := Lib.hid (Nn.out.below hb)
  replace Zn2 := Lib.hid (Zn2.out.below hb)
  replace Nn2 := Lib.hid (Nn2.out.below hb)
  replace Zs := Lib.hid (Zs.out.below hb)
  replace Ns := Lib.hid (Ns.out.below hb)
  replace Zs2 := Lib.hid (Zs2.out.below hb)
  replace Ns2 := Lib.hid (Ns2.out.below hb)
  replace Zt := Lib.hid (Zt.out.below hb)
  replace Nt := Lib.hid (Nt.out.below hb)
  replace Zt2 := Lib.hid (Zt2.out.below hb)
  replace Nt2 := Lib.hid (Nt2.out.below hb)
  clear hb
  refine hK.out _ _ HB.out (fun hHeld => ?_)
  clear hK K
  try simp only [Act.put, List.setIfInBounds_toArray, List.set_cons_zero, List.set_cons_succ]
  refine wpAnyH_takeL (i := 25) (oi := _) (v := ?_) rfl (by kernel_rfl) (by kernel_rfl) (by kernel_rfl) (fun _ _ _ h => h) (Or.inl ⟨by rfl, ?_⟩) hHeld ?_
  rotate_left
  · (intro w' hSw; (try dsimp only at hSw); go_simp; try (with_reducible rfl))
  try simp only [Act.put, List.setIfInBounds_toArray, List.set_cons_zero, List.set_cons_succ]
  refine wpAnyH_takeL (i := 26) (oi := _) (v := ?_) rfl (by kernel_rfl) (by kernel_rfl) (by kernel_rfl) (fun _ _ _ h => h) (Or.inl ⟨by rfl, ?_⟩) hHeld ?_
  rotate_left
  · (intro w' hSw; (try dsimp only at hSw); go_simp; try (with_reducible rfl))
  try simp only [Act.put, List.setIfInBounds_toArray, List.set_cons_zero, List.set_cons_succ]
  refine wpAnyH_takeL (i := 27) (oi := _) rfl (by kernel_rfl) (by kernel_rfl) (by kernel_rfl) (fun _ _ _ h => h) (yields_ldR (by rfl) _ rfl (by rfl) (fun _ hb => V0.out.below hb V0.out.lt)) hHeld ?_
  try simp only [Act.put, List.setIfInBounds_toArray, List.set_cons_zero, List.set_cons_succ]
  refine wpAnyH_takeL (i := 28) (oi := _) rfl (by kernel_rfl) (by kernel_rfl) (by kernel_rfl) (fun _ _ _ h => h) (yields_ldR (by rfl) _ rfl (by rfl) (fun _ hb => V1.out.below hb V1.out.lt)) hHeld ?_
  try simp only [Act.put, List.setIfInBounds_toArray, List.set_cons_zero, List.set_cons_succ]
  refine wpAnyH_takeL (i := 30) (oi := _) rfl (by kernel_rfl) (by kernel_rfl) (by kernel_rfl) (fun _ _ _ h => h) (yields_ldR (by rfl) _ rfl (by rfl) (fun _ hb => V0.out.below hb V0.out.lt)) hHeld ?_
  try simp only [Act.put, List.setIfInBounds_toArray, List.set_cons_zero, List.set_cons_succ]
  refine wpAnyH_takeL (i := 31) (oi := _) rfl (by kernel_rfl) (by kernel_rfl) (by kernel_rfl) (fun _ _ _ h => h) (yields_ldR (by rfl) _ rfl (by rfl) (fun _ hb => V1.out.below hb V1.out.lt)) hHeld ?_
  try simp only [Act.put, List.setIfInBounds_toArray, List.set_cons_zero, List.set_cons_succ]
  refine wpAnyH_ready (rs := [29]) (by kernel_rfl) (by simp) ?_
  refine AllReadyH.consL (o := _) rfl (fun K hK => ?_) AllReadyH.nil
  clear hHeld
  go_simp
  go_at_call 41
  refine Calls.mono (qmul_any (L := 100000000) (z := xv) (d := dv) (X0.out.below HB.out) (Y0.out.below HB.out) (X1.out.below HB.out) (Y1.out.below HB.out) LZ0.out LD0.out LZ1.out LD1.out LL.out HZv.out HDv.out) ?_
  rintro e v16 ⟨Pv, cv, Qv, kv, rfl, ho, ho2, hb⟩
  replace HB := Lib.hid (HB.out.trans (hb.mono HB.out.size))
  replace Zn := Lib.hid (Zn.out.below hb)
  replace Nn := Lib.hid (Nn.out.below hb)
  replace Zn2 := Lib.hid (Zn2.out.below hb)
  replace Nn2 := Lib.hid (Nn2.out.below hb)
  replace Zs := Lib.hid (Zs.out.below hb)
  replace Ns := Lib.hid (Ns.out.below hb)
  replace Zs2 := Lib.hid (Zs2.out.below hb)
  replace Ns2 := Lib.hid (Ns2.out.below hb)
  replace Zt := Lib.hid (Zt.out.below hb)
  replace Nt := Lib.hid (Nt.out.below hb)
  replace Zt2 := Lib.hid (Zt2.out.below hb)
  replace Nt2 := Lib.hid (Nt2.out.below hb)
  have Zv := Lib.hid (Zo.of_own ho)
  have Nv := Lib.hid ho2.rd
  clear ho ho2
  clear hb
  refine hK.out _ _ HB.out (fun hHeld => ?_)
  clear hK K
  try simp only [Act.put, List.setIfInBounds_toArray, List.set_cons_zero, List.set_cons_succ]
  refine wpAnyH_ready (rs := [32]) (by kernel_rfl) (by simp) ?_
  refine AllReadyH.consL (o := _) rfl (fun K hK => ?_) AllReadyH.nil
  clear hHeld
  go_simp
  go_at_call 42
  refine Calls.mono (r3mul_any (z := xv2) (d := dv2) (X0.out.below HB.out) (Y0.out.below HB.out) (X1.out.below HB.out) (Y1.out.below HB.out) (Nat.le_trans LZ0.out (by decide)) (Nat.le_trans LD0.out (by decide)) (Nat.le_trans LZ1.out (by decide)) (Nat.le_trans LD1.out (by decide)) HZv2.out HDv2.out) ?_
  rintro e v17 ⟨Pv2, cv2, Qv2, kv2, rfl, ho, ho2, hb⟩
  replace HB := Lib.hid (HB.out.trans (hb.mono HB.out.size))
  replace Zn := Lib.hid (Zn.out.below hb)
  replace Nn := Lib.hid (Nn.out.below hb)
  replace Zn2 := Lib.hid (Zn2.out.below hb)
  replace Nn2 := Lib.hid (Nn2.out.below hb)
  replace Zs := Lib.hid (Zs.out.below hb)
  replace Ns := Lib.hid (Ns.out.below hb)
  replace Zs2 := Lib.hid (Zs2.out.below hb)
  replace Ns2 := Lib.hid (Ns2.out.below hb)
  replace Zt := Lib.hid (Zt.out.below hb)
  replace Nt := Lib.hid (Nt.out.below hb)
  replace Zt2 := Lib.hid (Zt2.out.below hb)
  replace Nt2 := Lib.hid (Nt2.out.below hb)
  replace Zv := Lib.hid (Zv.out.below hb)
  replace Nv := Lib.hid (Nv.out.below hb)
  have Zv2 := Lib.hid (Zo.of_own ho)
  have Nv2 := Lib.hid ho2.rd
  clear ho ho2
  clear hb
  refine hK.out _ _ HB.out (fun hHeld => ?_)
  clear hK K
  try simp only [Act.put, List.setIfInBounds_toArray, List.set_cons_zero, List.set_cons_succ]
  refine wpAnyH_ready (rs := [33]) (by kernel_rfl) (by simp) ?_
  refine AllReadyH.consL (o := _) rfl (fun K hK => ?_) AllReadyH.nil
  clear hHeld
  go_simp
  go_at_call 33
  refine Calls.mono (r3equal_any (b := true) Zv.out Zv2.out Nv.out Nv2.out (by simpa using EQv_v2.out)) ?_
  rintro e v18 ⟨rfl, hb⟩
  replace HB := Lib.hid (HB.out.trans (hb.mono HB.out.size))
  replace Zn := Lib.hid (Zn.out.below hb)
  replace Nn := Lib.hid (Nn.out.below hb)
  replace Zn2 := Lib.hid (Zn2.out.below hb)
  replace Nn2 := Lib.hid (Nn2.out.below hb)
  replace Zs := Lib.hid (Zs.out.below hb)
  replace Ns := Lib.hid (Ns.out.below hb)
  replace Zs2 := Lib.hid (Zs2.out.below hb)
  replace Ns2 := Lib.hid (Ns2.out.below hb)
  replace Zt := Lib.hid (Zt.out.below hb)
  replace Nt := Lib.hid (Nt.out.below hb)
  replace Zt2 := Lib.hid (Zt2.out.below hb)
  replace Nt2 := Lib.hid (Nt2.out.below hb)
  replace Zv := Lib.hid (Zv.out.below hb)
  replace Nv := Lib.hid (Nv.out.below hb)
  replace Zv2 := Lib.hid (Zv2.out.below hb)
  replace Nv2 := Lib.hid (Nv2.out.below hb)
  clear hb
  refine hK.out _ _ HB.out (fun hHeld => ?_)
  clear hK K
  try simp only [Act.put, List.setIfInBounds_toArray, List.set_cons_zero, List.set_cons_succ]
  refine wpAnyH_takeL (i := 34) (oi := _) (v := ?_) rfl (by kernel_rfl) (by kernel_rfl) (by kernel_rfl) (fun _ _ _ h => h) (Or.inl ⟨by rfl, ?_⟩) hHeld ?_
  rotate_left
  · (intro w' hSw; (try dsimp only at hSw); go_simp; try (with_reducible rfl))
  try simp only [Act.put, List.setIfInBounds_toArray, List.set_cons_zero, List.set_cons_succ]
  refine wpAnyH_takeL (i := 35) (oi := _) (v := ?_) rfl (by kernel_rfl) (by kernel_rfl) (by kernel_rfl) (fun _ _ _ h => h) (Or.inl ⟨by rfl, ?_⟩) hHeld ?_
  rotate_left
  · (intro w' hSw; (try dsimp only at hSw); go_simp; try (with_reducible rfl))
  try simp only [Act.put, List.setIfInBounds_toArray, List.set_cons_zero, List.set_cons_succ]
  skip
  refine wpAnyH_done (by kernel_rfl) ?_ _
  have hb := HB.out
  replace V0 := Lib.hid (V0.out.below hb V0.out.lt)
  replace X0 := Lib.hid (X0.out.below hb)
  replace Y0 := Lib.hid (Y0.out.below hb)
  replace V1 := Lib.hid (V1.out.below hb V1.out.lt)
  replace X1 := Lib.hid (X1.out.below hb)
  replace Y1 := Lib.hid (Y1.out.below hb)
  replace G1 := Lib.hid (G1.out.below hb G1.out.lt)
  replace G2 := Lib.hid (G2.out.below hb G2.out.lt)
  replace Zi := Lib.hid (Zi.out.below hb)
  replace Ni := Lib.hid (Ni.out.below hb)
  replace G3 := Lib.hid (G3.out.below hb G3.out.lt)
  replace G4 := Lib.hid (G4.out.below hb G4.out.lt)
  replace Zj := Lib.hid (Zj.out.below hb)
  replace Nj := Lib.hid (Nj.out.below hb)
  replace B1 := Lib.hid (B1.out.trans (hb.mono B1.out.size))
  clear hHeld hb HB Zn Nn Zn2 Nn2 Zs Ns Zs2 Ns2 Zt Nt Zt2 Nt2 Zv Nv Zv2 Nv2
  go_wp2
  go_ret
  exact ⟨rfl, B1.out⟩
set_option maxRecDepth 100000 in
set_option maxHeartbeats 16000000 in
theorem arith_b_a0 (b0 : Bool) (a0 : Option Addr) (len0 cap0 : Nat) (z0 : Int) (e0 : Option Addr) (n0 c0 q0 : Nat) (b1 : Bool) (a1 : Option Addr) (len1 cap1 : Nat) (z1 : Int) (e1 : Option Addr) (n1 c1 q1 : Nat) (hb : mkRat z1 q1 ≠ 0) (ha : mkRat z0 q0 = 0) (w : World) (hx0 : Zin w b0 a0 len0 cap0 z0) (hl0 : len0 ≤ 1048576) (hp0 : Nin w e0 n0 c0 q0) (hn0 : n0 ≤ 1048576) (hx1 : Zin w b1 a1 len1 cap1 z1) (hl1 : len1 ≤ 1048576) (hp1 : Nin w e1 n1 c1 q1) (hn1 : n1 ≤ 1048576) :
    Calls Try.prog 6 #[.agg #[.bool b0, .slice a0 len0 cap0, .slice e0 n0 c0], .agg #[.bool b1, .slice a1 len1 cap1, .slice e1 n1 c1]] w fun e w' => e = .returned (.bool true) ∧ Below w.heap.size w w' := by
  obtain ⟨B1, V0, V1⟩ := start_R2 w b0 a0 len0 cap0 e0 n0 c0 b1 a1 len1 cap1 e1 n1 c1
  have X0 := Lib.hid (hx0.below B1.out)
  have Y0 := Lib.hid (hp0.below B1.out)
  have LZ0 : Hid (len0 ≤ 100000000) := Nat.le_trans hl0 (by decide)
  have LD0 : Hid (n0 ≤ 100000000) := Nat.le_trans hn0 (by decide)
  have r0 : RL (mkRat z0 q0) 1048576 := rl_mk (Nat.le_trans hx0.len hl0) (Nat.le_trans hp0.len hn0) (by decide)
  have X1 := Lib.hid (hx1.below B1.out)
  have Y1 := Lib.hid (hp1.below B1.out)
  have LZ1 : Hid (len1 ≤ 100000000) := Nat.le_trans hl1 (by decide)
  have LD1 : Hid (n1 ≤ 100000000) := Nat.le_trans hn1 (by decide)
  have r1 : RL (mkRat z1 q1) 1048576 := rl_mk (Nat.le_trans hx1.len hl1) (Nat.le_trans hp1.len hn1) (by decide)
  have LL : Hid (1 ≤ 100000000 ∧ 100000000 ≤ 35184372088829) := by show _ ∧ _; omega
  have LL2 : Hid (1 ≤ 100000000 ∧ 100000000 ≤ 70368744177660) := by show _ ∧ _; omega
  have HB0 := Lib.hid hb
  have HA0 := Lib.hid ha
  obtain ⟨xz, exz⟩ : ∃ z : Int, 0 = z := ⟨_, rfl⟩
  obtain ⟨dz, edz⟩ : ∃ z : Nat, 0 = z := ⟨_, rfl⟩
  have HXZ := Lib.hid exz
  have HDZ := Lib.hid edz
  obtain ⟨xk, exk⟩ : ∃ z : Int, (Rat.divInt 1 1).num = z := ⟨_, rfl⟩
  obtain ⟨dk, edk⟩ : ∃ z : Nat, (Rat.divInt 1 1).den = z := ⟨_, rfl⟩
  have Mk : mkRat xk dk = Rat.divInt 1 1 := by rw [← exk, ← edk, mk_self]
  have rk : RL (mkRat xk dk) 1 := by rw [Mk]; exact ⟨len_small (by decide +kernel), len_small (by decide +kernel)⟩
  have LZk : Hid ((ofv xk.natAbs).length ≤ 100000000) := by show _ ≤ _; rw [← exk]; exact Nat.le_trans (len_small (by decide +kernel)) (by decide)
  have LDk : Hid ((ofv dk).length ≤ 100000000) := by show _ ≤ _; rw [← edk]; exact Nat.le_trans (len_small (by decide +kernel)) (by decide)
  have HZk := Lib.hid exk
  have HDk := Lib.hid edk
  have I1 : Hid (-9223372036854775808 ≤ (1 : Int) ∧ (1 : Int) ≤ 9223372036854775807) := by show _ ∧ _; omega
  obtain ⟨xn, exn⟩ : ∃ z : Int, (-mkRat z0 q0).num = z := ⟨_, rfl⟩
  obtain ⟨dn, edn⟩ : ∃ z : Nat, (-mkRat z0 q0).den = z := ⟨_, rfl⟩
  have Mn : mkRat xn dn = -mkRat z0 q0 := by rw [← exn, ← edn, mk_self]
  have rn : RL (mkRat xn dn) 1048576 := by rw [Mn]; exact (rl_neg r0).le (by decide)
  have LZn : Hid ((ofv xn.natAbs).length ≤ 100000000) := by show _ ≤ _; have h := rn.1; rw [Mn, exn] at h; exact Nat.le_trans h (by decide)
  have LDn : Hid ((ofv dn).length ≤ 100000000) := by show _ ≤ _; have h := rn.2; rw [Mn, edn] at h; exact Nat.le_trans h (by decide)
  have HZn := Lib.hid exn
  have HDn := Lib.hid edn
  obtain ⟨xn2, exn2⟩ : ∃ z : Int, (-mkRat z0 q0).num = z := ⟨_, rfl⟩
  obtain ⟨dn2, edn2⟩ : ∃ z : Nat, (-mkRat z0 q0).den = z := ⟨_, rfl⟩
  have Mn2 : mkRat xn2 dn2 = -mkRat z0 q0 := by rw [← exn2, ← edn2, mk_self]
  have rn2 : RL (mkRat xn2 dn2) 1048576 := by rw [Mn2]; exact (rl_neg r0).le (by decide)
  have LZn2 : Hid ((ofv xn2.natAbs).length ≤ 100000000) := by show _ ≤ _; have h := rn2.1; rw [Mn2, exn2] at h; exact Nat.le_trans h (by decide)
  have LDn2 : Hid ((ofv dn2).length ≤ 100000000) := by show _ ≤ _; have h := rn2.2; rw [Mn2, edn2] at h; exact Nat.le_trans h (by decide)
  have HZn2 := Lib.hid exn2
  have HDn2 := Lib.hid edn2
  have EE : -mkRat z0 q0 = -mkRat z0 q0 := by rfl
  have EQn_n2 : Hid (xn = xn2 ∧ dn = dn2) := by show _ ∧ _; rw [← exn, ← exn2, ← edn, ← edn2]; exact ⟨congrArg Rat.num EE, congrArg Rat.den EE⟩
  clear EE
  obtain ⟨xs, exs⟩ : ∃ z : Int, (mkRat z0 q0 + mkRat z1 q1).num = z := ⟨_, rfl⟩
  obtain ⟨ds, eds⟩ : ∃ z : Nat, (mkRat z0 q0 + mkRat z1 q1).den = z := ⟨_, rfl⟩
  have Ms : mkRat xs ds = mkRat z0 q0 + mkRat z1 q1 := by rw [← exs, ← eds, mk_self]
  have rs : RL (mkRat xs ds) 2097153 := by rw [Ms]; exact (rl_add r0 r1).le (by decide)
  have LZs : Hid ((ofv xs.natAbs).length ≤ 100000000) := by show _ ≤ _; have h := rs.1; rw [Ms, exs] at h; exact Nat.le_trans h (by decide)
  have LDs : Hid ((ofv ds).length ≤ 100000000) := by show _ ≤ _; have h := rs.2; rw [Ms, eds] at h; exact Nat.le_trans h (by decide)
  have HZs := Lib.hid exs
  have HDs := Lib.hid eds
  obtain ⟨xs2, exs2⟩ : ∃ z : Int, (mkRat z0 q0 + mkRat z1 q1).num = z := ⟨_, rfl⟩
  obtain ⟨ds2, eds2⟩ : ∃ z : Nat, (mkRat z0 q0 + mkRat z1 q1).den = z := ⟨_, rfl⟩
  have Ms2 : mkRat xs2 ds2 = mkRat z0 q0 + mkRat z1 q1 := by rw [← exs2, ← eds2, mk_self]
  have rs2 : RL (mkRat xs2 ds2) 2097153 := by rw [Ms2]; exact (rl_add r0 r1).le (by decide)
  have LZs2 : Hid ((ofv xs2.natAbs).length ≤ 100000000) := by show _ ≤ _; have h := rs2.1; rw [Ms2, exs2] at h; exact Nat.le_trans h (by decide)
  have LDs2 : Hid ((ofv ds2).length ≤ 100000000) := by show _ ≤ _; have h := rs2.2; rw [Ms2, eds2] at h; exact Nat.le_trans h (by decide)
  have HZs2 := Lib.hid exs2
  have HDs2 := Lib.hid eds2
  have EE : mkRat z0 q0 + mkRat z1 q1 = mkRat z0 q0 + mkRat z1 q1 := by rfl
  have EQs_s2 : Hid (xs = xs2 ∧ ds = ds2) := by show _ ∧ _; rw [← exs, ← exs2, ← eds, ← eds2]; exact ⟨congrArg Rat.num EE, congrArg Rat.den EE⟩
  clear EE
  obtain ⟨xt, ext⟩ : ∃ z : Int, (mkRat z0 q0 - mkRat z1 q1).num = z := ⟨_, rfl⟩
  obtain ⟨dt, edt⟩ : ∃ z : Nat, (mkRat z0 q0 - mkRat z1 q1).den = z := ⟨_, rfl⟩
  have Mt : mkRat xt dt = mkRat z0 q0 - mkRat z1 q1 := by rw [← ext, ← edt, mk_self]
  have rt : RL (mkRat xt dt) 2097153 := by rw [Mt]; exact (rl_sub r0 r1).le (by decide)
  have LZt : Hid ((ofv xt.natAbs).length ≤ 100000000) := by show _ ≤ _; have h := rt.1; rw [Mt, ext] at h; exact Nat.le_trans h (by decide)
  have LDt : Hid ((ofv dt).length ≤ 100000000) := by show _ ≤ _; have h := rt.2; rw [Mt, edt] at h; exact Nat.le_trans h (by decide)
  have HZt := Lib.hid ext
  have HDt := Lib.hid edt
  obtain ⟨xt2, ext2⟩ : ∃ z : Int, (mkRat z0 q0 - mkRat z1 q1).num = z := ⟨_, rfl⟩
  obtain ⟨dt2, edt2⟩ : ∃ z : Nat, (mkRat z0 q0 - mkRat z1 q1).den = z := ⟨_, rfl⟩
  have Mt2 : mkRat xt2 dt2 = mkRat z0 q0 - mkRat z1 q1 := by rw [← ext2, ← edt2, mk_self]
  have rt2 : RL (mkRat xt2 dt2) 2097153 := by rw [Mt2]; exact (rl_sub r0 r1).le (by decide)
  have LZt2 : Hid ((ofv xt2.natAbs).length ≤ 100000000) := by show _ ≤ _; have h := rt2.1; rw [Mt2, ext2] at h; exact Nat.le_trans h (by decide)
  have LDt2 : Hid ((ofv dt2).length ≤ 100000000) := by show _ ≤ _; have h := rt2.2; rw [Mt2, edt2] at h; exact Nat.le_trans h (by decide)
  have HZt2 := Lib.hid ext2
  have HDt2 := Lib.hid edt2
  have EE : mkRat z0 q0 - mkRat z1 q1 = mkRat z0 q0 - mkRat z1 q1 := by rfl
  have EQt_t2 : Hid (xt = xt2 ∧ dt = dt2) := by show _ ∧ _; rw [← ext, ← ext2, ← edt, ← edt2]; exact ⟨congrArg Rat.num EE, congrArg Rat.den EE⟩
  clear EE
  obtain ⟨xv, exv⟩ : ∃ z : Int, (mkRat z0 q0 * mkRat z1 q1).num = z := ⟨_, rfl⟩
  obtain ⟨dv, edv⟩ : ∃ z : Nat, (mkRat z0 q0 * mkRat z1 q1).den = z := ⟨_, rfl⟩
  have Mv : mkRat xv dv = mkRat z0 q0 * mkRat z1 q1 := by rw [← exv, ← edv, mk_self]
  have rv : RL (mkRat xv dv) 2097152 := by rw [Mv]; exact (rl_mul r0 r1).le (by decide)
  have LZv : Hid ((ofv xv.natAbs).length ≤ 100000000) := by show _ ≤ _; have h := rv.1; rw [Mv, exv] at h; exact Nat.le_trans h (by decide)
  have LDv : Hid ((ofv dv).length ≤ 100000000) := by show _ ≤ _; have h := rv.2; rw [Mv, edv] at h; exact Nat.le_trans h (by decide)
  have HZv := Lib.hid exv
  have HDv := Lib.hid edv
  obtain ⟨xv2, exv2⟩ : ∃ z : Int, (mkRat z0 q0 * mkRat z1 q1).num = z := ⟨_, rfl⟩
  obtain ⟨dv2, edv2⟩ : ∃ z : Nat, (mkRat z0 q0 * mkRat z1 q1).den = z := ⟨_, rfl⟩
  have Mv2 : mkRat xv2 dv2 = mkRat z0 q0 * mkRat z1 q1 := by rw [← exv2, ← edv2, mk_self]
  have rv2 : RL (mkRat xv2 dv2) 2097152 := by rw [Mv2]; exact (rl_mul r0 r1).le (by decide)
  have LZv2 : Hid ((ofv xv2.natAbs).length ≤ 100000000) := by show _ ≤ _; have h := rv2.1; rw [Mv2, exv2] at h; exact Nat.le_trans h (by decide)
  have LDv2 : Hid ((ofv dv2).length ≤ 100000000) := by show _ ≤ _; have h := rv2.2; rw [Mv2, edv2] at h; exact Nat.le_trans h (by decide)
  have HZv2 := Lib.hid exv2
  have HDv2 := Lib.hid edv2
  have EE : mkRat z0 q0 * mkRat z1 q1 = mkRat z0 q0 * mkRat z1 q1 := by rfl
  have EQv_v2 : Hid (xv = xv2 ∧ dv = dv2) := by show _ ∧ _; rw [← exv, ← exv2, ← edv, ← edv2]; exact ⟨congrArg Rat.num EE, congrArg Rat.den EE⟩
  clear EE
  have NZ1 := hb
  obtain ⟨xp, exp⟩ : ∃ z : Int, (mkRat z0 q0 * (mkRat z1 q1)⁻¹).num = z := ⟨_, rfl⟩
  obtain ⟨dp, edp⟩ : ∃ z : Nat, (mkRat z0 q0 * (mkRat z1 q1)⁻¹).den = z := ⟨_, rfl⟩
  have Mp : mkRat xp dp = mkRat z0 q0 * (mkRat z1 q1)⁻¹ := by rw [← exp, ← edp, mk_self]
  have rp : RL (mkRat xp dp) 2097152 := by rw [Mp]; exact (rl_mul r0 (rl_inv r1 NZ1)).le (by decide)
  have LZp : Hid ((ofv xp.natAbs).length ≤ 100000000) := by show _ ≤ _; have h := rp.1; rw [Mp, exp] at h; exact Nat.le_trans h (by decide)
  have LDp : Hid ((ofv dp).length ≤ 100000000) := by show _ ≤ _; have h := rp.2; rw [Mp, edp] at h; exact Nat.le_trans h (by decide)
  have HZp := Lib.hid exp
  have HDp := Lib.hid edp
  obtain ⟨xp2, exp2⟩ : ∃ z : Int, (mkRat z0 q0 * (mkRat z1 q1)⁻¹).num = z := ⟨_, rfl⟩
  obtain ⟨dp2, edp2⟩ : ∃ z : Nat, (mkRat z0 q0 * (mkRat z1 q1)⁻¹).den = z := ⟨_, rfl⟩
  have Mp2 : mkRat xp2 dp2 = mkRat z0 q0 * (mkRat z1 q1)⁻¹ := by rw [← exp2, ← edp2, mk_self]
  have rp2 : RL (mkRat xp2 dp2) 2097152 := by rw [Mp2]; exact (rl_mul r0 (rl_inv r1 NZ1)).le (by decide)
  have LZp2 : Hid ((ofv xp2.natAbs).length ≤ 100000000) := by show _ ≤ _; have h := rp2.1; rw [Mp2, exp2] at h; exact Nat.le_trans h (by decide)
  have LDp2 : Hid ((ofv dp2).length ≤ 100000000) := by show _ ≤ _; have h := rp2.2; rw [Mp2, edp2] at h; exact Nat.le_trans h (by decide)
  have HZp2 := Lib.hid exp2
  have HDp2 := Lib.hid edp2
  have EE : mkRat z0 q0 * (mkRat z1 q1)⁻¹ = mkRat z0 q0 * (mkRat z1 q1)⁻¹ := by rfl
  have EQp_p2 : Hid (xp = xp2 ∧ dp = dp2) := by show _ ∧ _; rw [← exp, ← exp2, ← edp, ← edp2]; exact ⟨congrArg Rat.num EE, congrArg Rat.den EE⟩
  clear EE
  clear hx0 hl0 hp0 hn0 r0 hx1 hl1 hp1 hn1 r1 hb ha exz edz exk edk Mk rk exn edn Mn rn exn2 edn2 Mn2 rn2 exs eds Ms rs exs2 eds2 Ms2 rs2 ext edt Mt rt ext2 edt2 Mt2 rt2 exv edv Mv rv exv2 edv2 Mv2 rv2 NZ1 exp edp Mp rp exp2 edp2 Mp2 rp2
  go_enter Try.func6, Try.ntmps6
  go_wp2_with fail
  generalize ((w.alloc (.cells #[.bool b0, .slice a0 len0 cap0, .slice e0 n0 c0] 42)).alloc (.cells #[.bool b1, .slice a1 len1 cap1, .slice e1 n1 c1] 42)) = w2 at *
  have pc0 := Lib.hid trivial
  go_wp2_with (first
    | (clear pc0; go_at_call 29; refine Calls.mono (qdiv_any (L := 100000000) (z := xp) (d := dp) X0.out Y0.out X1.out Y1.out LZ0.out LD0.out LZ1.out LD1.out LL.out HB0.out HZp.out HDp.out) ?_; rintro e v1 ⟨Pp, cp, Qp, kp, rfl, ho, ho2, hb⟩; replace V0 := Lib.hid (V0.out.below hb V0.out.lt); replace X0 := Lib.hid (X0.out.below hb); replace Y0 := Lib.hid (Y0.out.below hb); replace V1 := Lib.hid (V1.out.below hb V1.out.lt); replace X1 := Lib.hid (X1.out.below hb); replace Y1 := Lib.hid (Y1.out.below hb); replace B1 := Lib.hid (B1.out.trans (hb.mono B1.out.size)); have Zp := Lib.hid (Zo.of_own ho); have Np := Lib.hid ho2.rd; clear ho ho2; clear hb; have pc1 := Lib.hid trivial)
    | (clear pc1; have LTG1 : Hid (w.heap.size + 1 < v1.heap.size) := V1.out.lt; have hb : Below v1.heap.size v1 (v1.alloc (.cells #[.bool false, .slice none 0 0, .slice none 0 0] 42)) := (Below.refl _ _).alloc (Nat.le_refl _) _; replace V0 := Lib.hid (V0.out.below hb V0.out.lt); replace X0 := Lib.hid (X0.out.below hb); replace Y0 := Lib.hid (Y0.out.below hb); replace V1 := Lib.hid (V1.out.below hb V1.out.lt); replace X1 := Lib.hid (X1.out.below hb); replace Y1 := Lib.hid (Y1.out.below hb); replace Zp := Lib.hid (Zp.out.below hb); replace Np := Lib.hid (Np.out.below hb); replace B1 := Lib.hid (B1.out.trans (hb.mono B1.out.size)); clear hb; have G1 := Lib.hid (Rb.new v1 false none 0 0 none 0 0); refine wpList_stR (by rfl) _ _ rfl (by rfl) (by rfl) G1.out ?_; intro wsA hz hg; replace V0 := Lib.hid (V0.out.gro hg (by have := LTG1.out; omega)); replace X0 := Lib.hid (X0.out.grR G1.out hg); replace Y0 := Lib.hid (Y0.out.grR G1.out hg); replace V1 := Lib.hid (V1.out.gro hg (by have := LTG1.out; omega)); replace X1 := Lib.hid (X1.out.grR G1.out hg); replace Y1 := Lib.hid (Y1.out.grR G1.out hg); replace Zp := Lib.hid (Zp.out.grR G1.out hg); replace Np := Lib.hid (Np.out.grR G1.out hg); replace B1 := Lib.hid (Below.gr B1.out (by have := LTG1.out; omega) hg B1.out.size); replace G1 := Lib.hid hz; clear hz hg; have pc2 := Lib.hid trivial)
    | (clear pc2; refine wpList_ldR (by rfl) _ rfl (by rfl) V0.out ?_; have pc3 := Lib.hid trivial)
    | (clear pc3; refine wpList_ldR (by rfl) _ rfl (by rfl) V1.out ?_; have pc4 := Lib.hid trivial)
    | (clear pc4; go_at_call 30; refine Calls.mono (r3div_any (z := xp2) (d := dp2) X0.out Y0.out X1.out Y1.out (Nat.le_trans LZ0.out (by decide)) (Nat.le_trans LD0.out (by decide)) (Nat.le_trans LZ1.out (by decide)) (Nat.le_trans LD1.out (by decide)) HB0.out HZp2.out HDp2.out) ?_; rintro e v2 ⟨Pp2, cp2, Qp2, kp2, rfl, ho, ho2, hb⟩; replace V0 := Lib.hid (V0.out.below hb V0.out.lt); replace X0 := Lib.hid (X0.out.below hb); replace Y0 := Lib.hid (Y0.out.below hb); replace V1 := Lib.hid (V1.out.below hb V1.out.lt); replace X1 := Lib.hid (X1.out.below hb); replace Y1 := Lib.hid (Y1.out.below hb); replace Zp := Lib.hid (Zp.out.below hb); replace Np := Lib.hid (Np.out.below hb); replace G1 := Lib.hid (G1.out.below hb G1.out.lt); replace B1 := Lib.hid (B1.out.trans (hb.mono B1.out.size)); have Zp2 := Lib.hid (Zo.of_own ho); have Np2 := Lib.hid ho2.rd; clear ho ho2; clear hb; have pc5 := Lib.hid trivial)
    | (clear pc5; have LTG2 : Hid (w.heap.size + 1 < v2.heap.size ∧ v1.heap.size < v2.heap.size) := ⟨V1.out.lt, G1.out.lt⟩; have hb : Below v2.heap.size v2 (v2.alloc (.cells #[.bool false, .slice none 0 0, .slice none 0 0] 42)) := (Below.refl _ _).alloc (Nat.le_refl _) _; replace V0 := Lib.hid (V0.out.below hb V0.out.lt); replace X0 := Lib.hid (X0.out.below hb); replace Y0 := Lib.hid (Y0.out.below hb); replace V1 := Lib.hid (V1.out.below hb V1.out.lt); replace X1 := Lib.hid (X1.out.below hb); replace Y1 := Lib.hid (Y1.out.below hb); replace Zp := Lib.hid (Zp.out.below hb); replace Np := Lib.hid (Np.out.below hb); replace G1 := Lib.hid (G1.out.below hb G1.out.lt); replace Zp2 := Lib.hid (Zp2.out.below hb); replace Np2 := Lib.hid (Np2.out.below hb); replace B1 := Lib.hid (B1.out.trans (hb.mono B1.out.size)); clear hb; have G2 := Lib.hid (Rb.new v2 false none 0 0 none 0 0); refine wpList_stR (by rfl) _ _ rfl (by rfl) (by rfl) G2.out ?_; intro wsB hz hg; replace V0 := Lib.hid (V0.out.gro hg (by have := LTG1.out; have := LTG2.out; omega)); replace X0 := Lib.hid (X0.out.grR G2.out hg); replace Y0 := Lib.hid (Y0.out.grR G2.out hg); replace V1 := Lib.hid (V1.out.gro hg (by have := LTG1.out; have := LTG2.out; omega)); replace X1 := Lib.hid (X1.out.grR G2.out hg); replace Y1 := Lib.hid (Y1.out.grR G2.out hg); replace Zp := Lib.hid (Zp.out.grR G2.out hg); replace Np := Lib.hid (Np.out.grR G2.out hg); replace G1 := Lib.hid (G1.out.gro hg (by have := LTG1.out; have := LTG2.out; omega)); replace Zp2 := Lib.hid (Zp2.out.grR G2.out hg); replace Np2 := Lib.hid (Np2.out.grR G2.out hg); replace B1 := Lib.hid (Below.gr B1.out (by have := LTG1.out; have := LTG2.out; omega) hg B1.out.size); replace G2 := Lib.hid hz; clear hz hg; have pc6 := Lib.hid trivial)
    | (clear pc6; refine wpList_ldR (by rfl) _ rfl (by rfl) V0.out ?_; have pc7 := Lib.hid trivial)
    | (clear pc7; go_at_call 31; refine Calls.mono (qinv_zero (L := 100000000) X0.out Y0.out LZ0.out LD0.out LL2.out HA0.out) ?_; rintro e v3 ⟨rfl, hb⟩; replace V0 := Lib.hid (V0.out.below hb V0.out.lt); replace X0 := Lib.hid (X0.out.below hb); replace Y0 := Lib.hid (Y0.out.below hb); replace V1 := Lib.hid (V1.out.below hb V1.out.lt); replace X1 := Lib.hid (X1.out.below hb); replace Y1 := Lib.hid (Y1.out.below hb); replace Zp := Lib.hid (Zp.out.below hb); replace Np := Lib.hid (Np.out.below hb); replace G1 := Lib.hid (G1.out.below hb G1.out.lt); replace Zp2 := Lib.hid (Zp2.out.below hb); replace Np2 := Lib.hid (Np2.out.below hb); replace G2 := Lib.hid (G2.out.below hb G2.out.lt); replace B1 := Lib.hid (B1.out.trans (hb.mono B1.out.size)); clear hb; have pc8 := Lib.hid trivial)
    | (clear pc8; have LTG3 : Hid (w.heap.size + 1 < v3.heap.size ∧ v1.heap.size < v3.heap.size ∧ v2.heap.size < v3.heap.size) := ⟨V1.out.lt, G1.out.lt, G2.out.lt⟩; have hb : Below v3.heap.size v3 (v3.alloc (.cells #[.bool false, .slice none 0 0, .slice none 0 0] 42)) := (Below.refl _ _).alloc (Nat.le_refl _) _; replace V0 := Lib.hid (V0.out.below hb V0.out.lt); replace X0 := Lib.hid (X0.out.below hb); replace Y0 := Lib.hid (Y0.out.below hb); replace V1 := Lib.hid (V1.out.below hb V1.out.lt); replace X1 := Lib.hid (X1.out.below hb); replace Y1 := Lib.hid (Y1.out.below hb); replace Zp := Lib.hid (Zp.out.below hb); replace Np := Lib.hid (Np.out.below hb); replace G1 := Lib.hid (G1.out.below hb G1.out.lt); replace Zp2 := Lib.hid (Zp2.out.below hb); replace Np2 := Lib.hid (Np2.out.below hb); replace G2 := Lib.hid (G2.out.below hb G2.out.lt); replace B1 := Lib.hid (B1.out.trans (hb.mono B1.out.size)); clear hb; have G3 := Lib.hid (Rb.new v3 false none 0 0 none 0 0); refine wpList_stR (by rfl) _ _ rfl (by rfl) (by rfl) G3.out ?_; intro wsC hz hg; replace V0 := Lib.hid (V0.out.gro hg (by have := LTG1.out; have := LTG2.out; have := LTG3.out; omega)); replace X0 := Lib.hid (X0.out.grR G3.out hg); replace Y0 := Lib.hid (Y0.out.grR G3.out hg); replace V1 := Lib.hid (V1.out.gro hg (by have := LTG1.out; have := LTG2.out; have := LTG3.out; omega)); replace X1 := Lib.hid (X1.out.grR G3.out hg); replace Y1 := Lib.hid (Y1.out.grR G3.out hg); replace Zp := Lib.hid (Zp.out.grR G3.out hg); replace Np := Lib.hid (Np.out.grR G3.out hg); replace G1 := Lib.hid (G1.out.gro hg (by have := LTG1.out; have := LTG2.out; have := LTG3.out; omega)); replace Zp2 := Lib.hid (Zp2.out.grR G3.out hg); replace Np2 := Lib.hid (Np2.out.grR G3.out hg); replace G2 := Lib.hid (G2.out.gro hg (by have := LTG1.out; have := LTG2.out; have := LTG3.out; omega)); replace B1 := Lib.hid (Below.gr B1.out (by have := LTG1.out; have := LTG2.out; have := LTG3.out; omega) hg B1.out.size); replace G3 := Lib.hid hz; clear hz hg; have pc9 := Lib.hid trivial))
  clear pc9
  replace G3 := Lib.hid (rb_zero HXZ.out HDZ.out G3.out)
  have LT4 : Hid (w.heap.size + 1 < wsC.heap.size ∧ v1.heap.size < wsC.heap.size ∧ v2.heap.size < wsC.heap.size ∧ v3.heap.size < wsC.heap.size) := ⟨V1.out.lt, G1.out.lt, G2.out.lt, G3.out.lt⟩
  have HB : Hid (Below wsC.heap.size wsC wsC.drew) := below_drewN _ wsC 1
  refine wp_region_held_drew (S := fun w' => Below wsC.heap.size wsC w') (by kernel_rfl) (HB.out) (fun hHeld => ?_)
  refine wpAnyH_takeL (i := 1) (oi := _) rfl (by kernel_rfl) (by kernel_rfl) (by kernel_rfl) (fun _ _ _ h => h) (yields_ldR (by rfl) _ rfl (by rfl) (fun _ hb => V0.out.below hb V0.out.lt)) hHeld ?_
  try simp only [Act.put, List.setIfInBounds_toArray, List.set_cons_zero, List.set_cons_succ]
  refine wpAnyH_rgt [(0, some 31), (2, some 33), (3, some 30), (4, some 34), (5, some 35), (6, some 11)] [3, 4, 5] (isNewR wsC.heap.size) [(0, isR xk dk wsC.heap.size), (2, isV (.tuple #[.agg #[.bool false, .slice none 0 0, .slice none 0 0], .bool false])), (3, isV (.tuple #[.agg #[.bool false, .slice none 0 0, .slice none 0 0], .bool false])), (4, isV (.agg #[.bool false, .slice none 0 0, .slice none 0 0])), (5, isV (.bool false))] wsC (f0 := 2) (by kernel_rfl) (by kernel_rfl) (by rfl) HB.out (fun _ h => h) (fun _ _ _ _ _ h => h) (isNewR_good _) ⟨isR_good _ _ _, isV_good _, isV_good _, isV_good _, isV_good _, trivial⟩ ?_ ?_ ?_
  · clear hHeld HB
    show RgOps _ _ _ _ _ _ _ _ _ [0, 2, 6]
    refine RgOps.consL (o := _) (ds := []) rfl rfl (by kernel_rfl) (fun vals wr hbr hC hdep K hK => ?_) ?_
    · have BB := Lib.hid hbr
      clear hdep
      clear hbr hC
      simp only [Upd2, Act.put, List.setIfInBounds_toArray, List.set_cons_zero, List.set_cons_succ] at hK ⊢
      go_simp
      go_at_call 32
      refine Calls.mono (r3fromInt_any (a := 1) (z := xk) (d := dk) I1.out HZk.out HDk.out _) ?_
      rintro e wq ⟨R, cR, R2, cR2, rfl, ho, ho2, hb⟩
      exact hK.out _ _ (LeavesB.giveR BB.out.size ho ho2 hb)
    refine RgOps.consL (o := _) (ds := [0]) rfl rfl (by kernel_rfl) (fun vals wr hbr hC hdep K hK => ?_) ?_
    · have BB := Lib.hid hbr
      obtain ⟨⟨P0, c0, Q0, k0, e0, o0, u0⟩, -⟩ := hdep
      clear hbr hC
      simp only [e0, Upd2, Act.put, List.setIfInBounds_toArray, List.set_cons_zero, List.set_cons_succ] at hK ⊢
      clear e0
      go_simp
      go_at_call 30
      refine Calls.mono (r3div_zero (Zo.of_own o0).in_ (Nin.of_rd u0.rd) (X0.out.below BB.out) (Y0.out.below BB.out) (Nat.le_trans LZk.out (by decide)) (Nat.le_trans LDk.out (by decide)) (Nat.le_trans LZ0.out (by decide)) (Nat.le_trans LD0.out (by decide)) HA0.out) ?_
      rintro e wq ⟨rfl, hb⟩
      exact hK.out _ _ (LeavesB.behind hb ⟨rfl, rfl⟩ rfl)
    refine RgOps.consL (o := _) (ds := []) rfl rfl (by kernel_rfl) (fun vals wr hbr hC hdep K hK => ?_) RgOps.nil
    · have BB := Lib.hid hbr
      clear hdep
      clear hbr hC
      simp only [Upd2, Act.put, List.setIfInBounds_toArray, List.set_cons_zero, List.set_cons_succ] at hK ⊢
      go_simp
      exact hK.out _ _ (LeavesB.newR BB.out.size)
  · clear hHeld HB
    show TaAll _ _ _ _ _ [3, 4, 5]
    refine TaAll.cons (o := _) (ds := [2]) rfl rfl (by kernel_rfl) (fun vals wr hdep => ?_) ?_
    · obtain ⟨⟨e2, -⟩, -⟩ := hdep
      refine ⟨_, fun S => Or.inl ⟨by rfl, ?_⟩, ⟨rfl, rfl⟩, rfl⟩
      intro w' _
      simp only [e2, Upd2, Act.put, List.setIfInBounds_toArray, List.set_cons_zero, List.set_cons_succ]
      go_simp
    refine TaAll.cons (o := _) (ds := [3]) rfl rfl (by kernel_rfl) (fun vals wr hdep => ?_) ?_
    · obtain ⟨⟨e3, -⟩, -⟩ := hdep
      refine ⟨_, fun S => Or.inl ⟨by rfl, ?_⟩, ⟨rfl, rfl⟩, rfl⟩
      intro w' _
      simp only [e3, Upd2, Act.put, List.setIfInBounds_toArray, List.set_cons_zero, List.set_cons_succ]
      go_simp
    refine TaAll.cons (o := _) (ds := [3]) rfl rfl (by kernel_rfl) (fun vals wr hdep => ?_) TaAll.nil
    · obtain ⟨⟨e3, -⟩, -⟩ := hdep
      refine ⟨_, fun S => Or.inl ⟨by rfl, ?_⟩, ⟨rfl, rfl⟩, rfl⟩
      intro w' _
      simp only [e3, Upd2, Act.put, List.setIfInBounds_toArray, List.set_cons_zero, List.set_cons_succ]
      go_simp
  clear hHeld HB
  intro vals wr hb hdep hD
  obtain ⟨⟨P0, c0, Q0, k0, e0, o0, u0⟩, ⟨e2, -⟩, ⟨e3, -⟩, ⟨e4, -⟩, ⟨e5, -⟩, ⟨g6, e6, l6, z6⟩, -⟩ := hdep
  simp only [Upd2, e0, e2, e3, e4, e5, e6, Act.put, List.setIfInBounds_toArray, List.set_cons_zero, List.set_cons_succ]
  clear e0 e2 e3 e4 e5 e6
  clear hD vals
  replace V0 := Lib.hid (V0.out.below hb V0.out.lt)
  replace X0 := Lib.hid (X0.out.below hb)
  replace Y0 := Lib.hid (Y0.out.below hb)
  replace V1 := Lib.hid (V1.out.below hb V1.out.lt)
  replace X1 := Lib.hid (X1.out.below hb)
  replace Y1 := Lib.hid (Y1.out.below hb)
  replace Zp := Lib.hid (Zp.out.below hb)
  replace Np := Lib.hid (Np.out.below hb)
  replace G1 := Lib.hid (G1.out.below hb G1.out.lt)
  replace Zp2 := Lib.hid (Zp2.out.below hb)
  replace Np2 := Lib.hid (Np2.out.below hb)
  replace G2 := Lib.hid (G2.out.below hb G2.out.lt)
  replace G3 := Lib.hid (G3.out.below hb G3.out.lt)
  replace B1 := Lib.hid (B1.out.trans (hb.mono B1.out.size))
  have HB := Lib.hid hb
  clear hb
  have G4 := Lib.hid z6; have L6 := Lib.hid l6
  clear o0 u0 z6 l6
  refine wpAnyH_ready (rs := [7]) (by kernel_rfl) (by simp) ?_
  refine AllReadyH.consL (o := _) rfl (fun K hK => ?_) AllReadyH.nil
  rw [if_pos (by rfl)]
  refine wp_stR _ _ rfl (by rfl) (by rfl) G4.out ?_
  intro ws0 hz hg
  replace HB := Lib.hid (Below.gr HB.out (by have := L6.out; omega) hg HB.out.size)
  replace V0 := Lib.hid (V0.out.gro hg (by have := LTG1.out; have := LTG2.out; have := LTG3.out; have := LT4.out; have := L6.out; omega))
  replace X0 := Lib.hid (X0.out.grR G4.out hg)
  replace Y0 := Lib.hid (Y0.out.grR G4.out hg)
  replace V1 := Lib.hid (V1.out.gro hg (by have := LTG1.out; have := LTG2.out; have := LTG3.out; have := LT4.out; have := L6.out; omega))
  replace X1 := Lib.hid (X1.out.grR G4.out hg)
  replace Y1 := Lib.hid (Y1.out.grR G4.out hg)
  replace Zp := Lib.hid (Zp.out.grR G4.out hg)
  replace Np := Lib.hid (Np.out.grR G4.out hg)
  replace G1 := Lib.hid (G1.out.gro hg (by have := LTG1.out; have := LTG2.out; have := LTG3.out; have := LT4.out; have := L6.out; omega))
  replace Zp2 := Lib.hid (Zp2.out.grR G4.out hg)
  replace Np2 := Lib.hid (Np2.out.grR G4.out hg)
  replace G2 := Lib.hid (G2.out.gro hg (by have := LTG1.out; have := LTG2.out; have := LTG3.out; have := LT4.out; have := L6.out; omega))
  replace G3 := Lib.hid (G3.out.gro hg (by have := LTG1.out; have := LTG2.out; have := LTG3.out; have := LT4.out; have := L6.out; omega))
  replace B1 := Lib.hid (Below.gr B1.out (by have := LTG1.out; have := LTG2.out; have := LTG3.out; have := LT4.out; have := L6.out; omega) hg B1.out.size)
  replace G4 := Lib.hid hz
  refine hK.out _ _ ⟨HB.out, HB.out⟩ (fun _ => ?_)
  clear hK K hg hz
  try simp only [Act.put]
  have hHeld : Below wsC.heap.size wsC _ ∧ Below wsC.heap.size wsC _ := ⟨HB.out, HB.out⟩
  refine wpAnyH_takeL (i := 8) (oi := _) (v := ?_) rfl (by kernel_rfl) (by kernel_rfl) (by kernel_rfl) (fun _ _ _ h => h) (Or.inl ⟨by rfl, ?_⟩) hHeld ?_
  rotate_left
  · (intro w' hSw; (try dsimp only at hSw); go_simp; try (with_reducible rfl))
  try simp only [Act.put, List.setIfInBounds_toArray, List.set_cons_zero, List.set_cons_succ]
  clear hHeld
  refine wpAnyH_done (by kernel_rfl) ?_ _
  clear HB
  replace G4 := Lib.hid (rb_zero HXZ.out HDZ.out G4.out)
  have pc0 := Lib.hid trivial
  go_wp2_with (first
    | (clear pc0; refine wpList_ldR (by rfl) _ rfl (by rfl) G1.out ?_; have pc1 := Lib.hid trivial)
    | (clear pc1; refine wpList_ldR (by rfl) _ rfl (by rfl) G2.out ?_; have pc2 := Lib.hid trivial)
    | (clear pc2; go_at_call 33; refine Calls.mono (r3equal_any (b := true) Zp.out Zp2.out Np.out Np2.out (by simpa using EQp_p2.out)) ?_; rintro e v4 ⟨rfl, hb⟩; replace V0 := Lib.hid (V0.out.below hb V0.out.lt); replace X0 := Lib.hid (X0.out.below hb); replace Y0 := Lib.hid (Y0.out.below hb); replace V1 := Lib.hid (V1.out.below hb V1.out.lt); replace X1 := Lib.hid (X1.out.below hb); replace Y1 := Lib.hid (Y1.out.below hb); replace Zp := Lib.hid (Zp.out.below hb); replace Np := Lib.hid (Np.out.below hb); replace G1 := Lib.hid (G1.out.below hb G1.out.lt); replace Zp2 := Lib.hid (Zp2.out.below hb); replace Np2 := Lib.hid (Np2.out.below hb); replace G2 := Lib.hid (G2.out.below hb G2.out.lt); replace G3 := Lib.hid (G3.out.below hb G3.out.lt); replace G4 := Lib.hid (G4.out.below hb G4.out.lt); replace B1 := Lib.hid (B1.out.trans (hb.mono B1.out.size)); clear hb; have pc3 := Lib.hid trivial)
    | (clear pc3; refine wpList_ldR (by rfl) _ rfl (by rfl) G3.out ?_; have pc4 := Lib.hid trivial)
    | (clear pc4; refine wpList_ldR (by rfl) _ rfl (by rfl) G4.out ?_; have pc5 := Lib.hid trivial)
    | (clear pc5; go_at_call 33; refine Calls.mono (r3equal_any (b := true) (zo_zero HXZ.out _) (zo_zero HXZ.out _) (rd_zero HDZ.out _) (rd_zero HDZ.out _) (by simp)) ?_; rintro e v5 ⟨rfl, hb⟩; replace V0 := Lib.hid (V0.out.below hb V0.out.lt); replace X0 := Lib.hid (X0.out.below hb); replace Y0 := Lib.hid (Y0.out.below hb); replace V1 := Lib.hid (V1.out.below hb V1.out.lt); replace X1 := Lib.hid (X1.out.below hb); replace Y1 := Lib.hid (Y1.out.below hb); replace Zp := Lib.hid (Zp.out.below hb); replace Np := Lib.hid (Np.out.below hb); replace G1 := Lib.hid (G1.out.below hb G1.out.lt); replace Zp2 := Lib.hid (Zp2.out.below hb); replace Np2 := Lib.hid (Np2.out.below hb); replace G2 := Lib.hid (G2.out.below hb G2.out.lt); replace G3 := Lib.hid (G3.out.below hb G3.out.lt); replace G4 := Lib.hid (G4.out.below hb G4.out.lt); replace B1 := Lib.hid (B1.out.trans (hb.mono B1.out.size)); clear hb; have pc6 := Lib.hid trivial))
  clear pc6
  have HB : Hid (Below v5.heap.size v5 v5.drew) := below_drewN _ v5 1
  refine wp_region_held_drew (S := fun w' => Below v5.heap.size v5 w') (by kernel_rfl) (HB.out) (fun hHeld => ?_)
  refine wpAnyH_ready (rs := [0]) (by kernel_rfl) (by simp) ?_
  refine AllReadyH.consL (o := _) rfl (fun K hK => ?_) AllReadyH.nil
  clear hHeld
  go_simp
  go_at_call 34
  refine Calls.mono (rawake_any _) ?_
  rintro e v6 ⟨rfl, hb⟩
  replace HB := Lib.hid (HB.out.trans (hb.mono HB.out.size))
  clear hb
  refine hK.out _ _ HB.out (fun hHeld => ?_)
  clear hK K
  try simp only [Act.put, List.setIfInBounds_toArray, List.set_cons_zero, List.set_cons_succ]
  refine wpAnyH_takeL (i := 1) (oi := _) (v := ?_) rfl (by kernel_rfl) (by kernel_rfl) (by kernel_rfl) (fun _ _ _ h => h) (Or.inl ⟨by rfl, ?_⟩) hHeld ?_
  rotate_left
  · (intro w' hSw; (try dsimp only at hSw); go_simp; try (with_reducible rfl))
  try simp only [Act.put, List.setIfInBounds_toArray, List.set_cons_zero, List.set_cons_succ]
  refine wpAnyH_takeL (i := 2) (oi := _) rfl (by kernel_rfl) (by kernel_rfl) (by kernel_rfl) (fun _ _ _ h => h) (yields_ldR (by rfl) _ rfl (by rfl) (fun _ hb => V0.out.below hb V0.out.lt)) hHeld ?_
  try simp only [Act.put, List.setIfInBounds_toArray, List.set_cons_zero, List.set_cons_succ]
  refine wpAnyH_takeL (i := 4) (oi := _) rfl (by kernel_rfl) (by kernel_rfl) (by kernel_rfl) (fun _ _ _ h => h) (yields_ldR (by rfl) _ rfl (by rfl) (fun _ hb => V0.out.below hb V0.out.lt)) hHeld ?_
  try simp only [Act.put, List.setIfInBounds_toArray, List.set_cons_zero, List.set_cons_succ]
  refine wpAnyH_ready (rs := [3]) (by kernel_rfl) (by simp) ?_
  refine AllReadyH.consL (o := _) rfl (fun K hK => ?_) AllReadyH.nil
  clear hHeld
  go_simp
  go_at_call 35
  refine Calls.mono (qneg_any (L := 100000000) (z := xn) (d := dn) (X0.out.below HB.out) (Y0.out.below HB.out) LZ0.out LD0.out LL2.out HZn.out HDn.out) ?_
  rintro e v7 ⟨Pn, cn, Qn, kn, rfl, ho, ho2, hb⟩
  replace HB := Lib.hid (HB.out.trans (hb.mono HB.out.size))
  have Zn := Lib.hid (Zo.of_own ho)
  have Nn := Lib.hid ho2.rd
  clear ho ho2
  clear hb
  refine hK.out _ _ HB.out (fun hHeld => ?_)
  clear hK K
  try simp only [Act.put, List.setIfInBounds_toArray, List.set_cons_zero, List.set_cons_succ]
  refine wpAnyH_ready (rs := [5]) (by kernel_rfl) (by simp) ?_
  refine AllReadyH.consL (o := _) rfl (fun K hK => ?_) AllReadyH.nil
  clear hHeld
  go_simp
  go_at_call 36
  refine Calls.mono (r3neg_any (z2 := xn2) (d2 := dn2) (X0.out.below HB.out) (Y0.out.below HB.out) (Nat.le_trans LZ0.out (by decide)) (Nat.le_trans LD0.out (by decide)) HZn2.out HDn2.out) ?_
  rintro e v8 ⟨Pn2, cn2, Qn2, kn2, rfl, ho, ho2, hb⟩
  replace HB := Lib.hid (HB.out.trans (hb.mono HB.out.size))
  replace Zn := Lib.hid (Zn.out.below hb)
  replace Nn := Lib.hid (Nn.out.below hb)
  have Zn2 := Lib.hid (Zo.of_own ho)
  have Nn2 := Lib.hid ho2.rd
  clear ho ho2
  clear hb
  refine hK.out _ _ HB.out (fun hHeld => ?_)
  clear hK K
  try simp only [Act.put, List.setIfInBounds_toArray, List.set_cons_zero, List.set_cons_succ]
  refine wpAnyH_ready (rs := [6]) (by kernel_rfl) (by simp) ?_
  refine AllReadyH.consL (o := _) rfl (fun K hK => ?_) AllReadyH.nil
  clear hHeld
  go_simp
  go_at_call 33
  refine Calls.mono (r3equal_any (b := true) Zn.out Zn2.out Nn.out Nn2.out (by simpa using EQn_n2.out)) ?_
  rintro e v9 ⟨rfl, hb⟩
  replace HB := Lib.hid (HB.out.trans (hb.mono HB.out.size))
  replace Zn := Lib.hid (Zn.out.below hb)
  replace Nn := Lib.hid (Nn.out.below hb)
  replace Zn2 := Lib.hid (Zn2.out.below hb)
  replace Nn2 := Lib.hid (Nn2.out.below hb)
  clear hb
  refine hK.out _ _ HB.out (fun hHeld => ?_)
  clear hK K
  try simp only [Act.put, List.setIfInBounds_toArray, List.set_cons_zero, List.set_cons_succ]
  refine wpAnyH_takeL (i := 7) (oi := _) (v := ?_) rfl (by kernel_rfl) (by kernel_rfl) (by kernel_rfl) (fun _ _ _ h => h) (Or.inl ⟨by rfl, ?_⟩) hHeld ?_
  rotate_left
  · (intro w' hSw; (try dsimp only at hSw); go_simp; try (with_reducible rfl))
  try simp only [Act.put, List.setIfInBounds_toArray, List.set_cons_zero, List.set_cons_succ]
  refine wpAnyH_takeL (i := 8) (oi := _) (v := ?_) rfl (by kernel_rfl) (by kernel_rfl) (by kernel_rfl) (fun _ _ _ h => h) (Or.inl ⟨by rfl, ?_⟩) hHeld ?_
  rotate_left
  · (intro w' hSw; (try dsimp only at hSw); go_simp; try (with_reducible rfl))
  try simp only [Act.put, List.setIfInBounds_toArray, List.set_cons_zero, List.set_cons_succ]
  refine wpAnyH_takeL (i := 9) (oi := _) rfl (by kernel_rfl) (by kernel_rfl) (by kernel_rfl) (fun _ _ _ h => h) (yields_ldR (by rfl) _ rfl (by rfl) (fun _ hb => V0.out.below hb V0.out.lt)) hHeld ?_
  try simp only [Act.put, List.setIfInBounds_toArray, List.set_cons_zero, List.set_cons_succ]
  refine wpAnyH_takeL (i := 10) (oi := _) rfl (by kernel_rfl) (by kernel_rfl) (by kernel_rfl) (fun _ _ _ h => h) (yields_ldR (by rfl) _ rfl (by rfl) (fun _ hb => V1.out.below hb V1.out.lt)) hHeld ?_
  try simp only [Act.put, List.setIfInBounds_toArray, List.set_cons_zero, List.set_cons_succ]
  refine wpAnyH_takeL (i := 12) (oi := _) rfl (by kernel_rfl) (by kernel_rfl) (by kernel_rfl) (fun _ _ _ h => h) (yields_ldR (by rfl) _ rfl (by rfl) (fun _ hb => V0.out.below hb V0.out.lt)) hHeld ?_
  try simp only [Act.put, List.setIfInBounds_toArray, List.set_cons_zero, List.set_cons_succ]
  refine wpAnyH_takeL (i := 13) (oi := _) rfl (by kernel_rfl) (by kernel_rfl) (by kernel_rfl) (fun _ _ _ h => h) (yields_ldR (by rfl) _ rfl (by rfl) (fun _ hb => V1.out.below hb V1.out.lt)) hHeld ?_
  try simp only [Act.put, List.setIfInBounds_toArray, List.set_cons_zero, List.set_cons_succ]
  refine wpAnyH_ready (rs := [11]) (by kernel_rfl) (by simp) ?_
  refine AllReadyH.consL (o := _) rfl (fun K hK => ?_) AllReadyH.nil
  clear hHeld
  go_simp
  go_at_call 37
  refine Calls.mono (qadd_any (L := 100000000) (z := xs) (d := ds) (X0.out.below HB.out) (Y0.out.below HB.out) (X1.out.below HB.out) (Y1.out.below HB.out) LZ0.out LD0.out LZ1.out LD1.out LL.out HZs.out HDs.out) ?_
  rintro e v10 ⟨Ps, cs, Qs, ks, rfl, ho, ho2, hb⟩
  replace HB := Lib.hid (HB.out.trans (hb.mono HB.out.size))
  replace Zn := Lib.hid (Zn.out.below hb)
  replace Nn := Lib.hid (Nn.out.below hb)
  replace Zn2 := Lib.hid (Zn2.out.below hb)
  replace Nn2 := Lib.hid (Nn2.out.below hb)
  have Zs := Lib.hid (Zo.of_own ho)
  have Ns := Lib.hid ho2.rd
  clear ho ho2
  clear hb
  refine hK.out _ _ HB.out (fun hHeld => ?_)
  clear hK K
  try simp only [Act.put, List.setIfInBounds_toArray, List.set_cons_zero, List.set_cons_succ]
  refine wpAnyH_ready (rs := [14]) (by kernel_rfl) (by simp) ?_
  refine AllReadyH.consL (o := _) rfl (fun K hK => ?_) AllReadyH.nil
  clear hHeld
  go_simp
  go_at_call 38
  refine Calls.mono (r3add_any (z := xs2) (d := ds2) (X0.out.below HB.out) (Y0.out.below HB.out) (X1.out.below HB.out) (Y1.out.below HB.out) (Nat.le_trans LZ0.out (by decide)) (Nat.le_trans LD0.out (by decide)) (Nat.le_trans LZ1.out (by decide)) (Nat.le_trans LD1.out (by decide)) HZs2.out HDs2.out) ?_
  rintro e v11 ⟨Ps2, cs2, Qs2, ks2, rfl, ho, ho2, hb⟩
  replace HB := Lib.hid (HB.out.trans (hb.mono HB.out.size))
  replace Zn := Lib.hid (Zn.out.below hb)
  replace Nn := Lib.hid (Nn.out.below hb)
  replace Zn2 := Lib.hid (Zn2.out.below hb)
  replace Nn2 := Lib.hid (Nn2.out.below hb)
  replace Zs := Lib.hid (Zs.out.below hb)
  replace Ns := Lib.hid (Ns.out.below hb)
  have Zs2 := Lib.hid (Zo.of_own ho)
  have Ns2 := Lib.hid ho2.rd
  clear ho ho2
  clear hb
  refine hK.out _ _ HB.out (fun hHeld => ?_)
  clear hK K
  try simp only [Act.put, List.setIfInBounds_toArray, List.set_cons_zero, List.set_cons_succ]
  refine wpAnyH_ready (rs := [15]) (by kernel_rfl) (by simp) ?_
  refine AllReadyH.consL (o := _) rfl (fun K hK => ?_) AllReadyH.nil
  clear hHeld
  go_simp
  go_at_call 33
  refine Calls.mono (r3equal_any (b := true) Zs.out Zs2.out Ns.out Ns2.out (by simpa using EQs_s2.out)) ?_
  rintro e v12 ⟨rfl, hb⟩
  replace HB := Lib.hid (HB.out.trans (hb.mono HB.out.size))
  replace Zn := Lib.hid (Zn.out.below hb)
  replace Nn := Lib.hid (Nn.out.below hb)
  replace Zn2 := Lib.hid (Zn2.out.below hb)
  replace Nn2 := Lib.hid (Nn2.out.below hb)
  replace Zs := Lib.hid (Zs.out.below hb)
  replace Ns := Lib.hid (Ns.out.below hb)
  replace Zs2 := Lib.hid (Zs2.out.below hb)
  replace Ns2 := Lib.hid (Ns2.out.below hb)
  clear hb
  refine hK.out _ _ HB.out (fun hHeld => ?_)
  clear hK K
  try simp only [Act.put, List.setIfInBounds_toArray, List.set_cons_zero, List.set_cons_succ]
  refine wpAnyH_takeL (i := 16) (oi := _) (v := ?_) rfl (by kernel_rfl) (by kernel_rfl) (by kernel_rfl) (fun _ _ _ h => h) (Or.inl ⟨by rfl, ?_⟩) hHeld ?_
  rotate_left
  · (intro w' hSw; (try dsimp only at hSw); go_simp; try (with_reducible rfl))
  try simp only [Act.put, List.setIfInBounds_toArray, List.set_cons_zero, List.set_cons_succ]
  refine wpAnyH_takeL (i := 17) (oi := _) (v := ?_) rfl (by kernel_rfl) (by kernel_rfl) (by kernel_rfl) (fun _ _ _ h => h) (Or.inl ⟨by rfl, ?_⟩) hHeld ?_
  rotate_left
  · (intro w' hSw; (try dsimp only at hSw); go_simp; try (with_reducible rfl))
  try simp only [Act.put, List.setIfInBounds_toArray, List.set_cons_zero, List.set_cons_succ]
  refine wpAnyH_takeL (i := 18) (oi := _) rfl (by kernel_rfl) (by kernel_rfl) (by kernel_rfl) (fun _ _ _ h => h) (yields_ldR (by rfl) _ rfl (by rfl) (fun _ hb => V0.out.below hb V0.out.lt)) hHeld ?_
  try simp only [Act.put, List.setIfInBounds_toArray, List.set_cons_zero, List.set_cons_succ]
  refine wpAnyH_takeL (i := 19) (oi := _) rfl (by kernel_rfl) (by kernel_rfl) (by kernel_rfl) (fun _ _ _ h => h) (yields_ldR (by rfl) _ rfl (by rfl) (fun _ hb => V1.out.below hb V1.out.lt)) hHeld ?_
  try simp only [Act.put, List.setIfInBounds_toArray, List.set_cons_zero, List.set_cons_succ]
  refine wpAnyH_takeL (i := 21) (oi := _) rfl (by kernel_rfl) (by kernel_rfl) (by kernel_rfl) (fun _ _ _ h => h) (yields_ldR (by rfl) _ rfl (by rfl) (fun _ hb => V0.out.below hb V0.out.lt)) hHeld ?_
  try simp only [Act.put, List.setIfInBounds_toArray, List.set_cons_zero, List.set_cons_succ]
  refine wpAnyH_takeL (i := 22) (oi := _) rfl (by kernel_rfl) (by kernel_rfl) (by kernel_rfl) (fun _ _ _ h => h) (yields_ldR (by rfl) _ rfl (by rfl) (fun _ hb => V1.out.below hb V1.out.lt)) hHeld ?_
  try simp only [Act.put, List.setIfInBounds_toArray, List.set_cons_zero, List.set_cons_succ]
  refine wpAnyH_ready (rs := [20]) (by kernel_rfl) (by simp) ?_
  refine AllReadyH.consL (o := _) rfl (fun K hK => ?_) AllReadyH.nil
  clear hHeld
  go_simp
  go_at_call 39
  refine Calls.mono (qsub_any (L := 100000000) (z := xt) (d := dt) (X0.out.below HB.out) (Y0.out.below HB.out) (X1.out.below HB.out) (Y1.out.below HB.out) LZ0.out LD0.out LZ1.out LD1.out LL.out HZt.out HDt.out) ?_
  rintro e v13 ⟨Pt, ct, Qt, kt, rfl, ho, ho2, hb⟩
  replace HB := Lib.hid (HB.out.trans (hb.mono HB.out.size))
  replace Zn := Lib.hid (Zn.out.below hb)
  replace Nn := Lib.hid (Nn.out.below hb)
  replace Zn2 := Lib.hid (Zn2.out.below hb)
  replace Nn2 := Lib.hid (Nn2.out.below hb)
  replace Zs := Lib.hid (Zs.out.below hb)
  replace Ns := Lib.hid (Ns.out.below hb)
  replace Zs2 := Lib.hid (Zs2.out.below hb)
  replace Ns2 := Lib.hid (Ns2.out.below hb)
  have Zt := Lib.hid (Zo.of_own ho)
  have Nt := Lib.hid ho2.rd
  clear ho ho2
  clear hb
  refine hK.out _ _ HB.out (fun hHeld => ?_)
  clear hK K
  try simp only [Act.put, List.setIfInBounds_toArray, List.set_cons_zero, List.set_cons_succ]
  refine wpAnyH_ready (rs := [23]) (by kernel_rfl) (by simp) ?_
  refine AllReadyH.consL (o := _) rfl (fun K hK => ?_) AllReadyH.nil
  clear hHeld
  go_simp
  go_at_call 40
  refine Calls.mono (r3sub_any (z := xt2) (d := dt2) (X0.out.below HB.out) (Y0.out.below HB.out) (X1.out.below HB.out) (Y1.out.below HB.out) (Nat.le_trans LZ0.out (by decide)) (Nat.le_trans LD0.out (by decide)) (Nat.le_trans LZ1.out (by decide)) (Nat.le_trans LD1.out (by decide)) HZt2.out HDt2.out) ?_
  rintro e v14 ⟨Pt2, ct2, Qt2, kt2, rfl, ho, ho2, hb⟩
  replace HB := Lib.hid (HB.out.trans (hb.mono HB.out.size))
  replace Zn := Lib.hid (Zn.out.below hb)
  replace Nn := Lib.hid (Nn.out.below hb)
  replace Zn2 := Lib.hid (Zn2.out.below hb)
  replace Nn2 := Lib.hid (Nn2.out.below hb)
  replace Zs := Lib.hid (Zs.out.below hb)
  replace Ns := Lib.hid (Ns.out.below hb)
  replace Zs2 := Lib.hid (Zs2.out.below hb)
  replace Ns2 := Lib.hid (Ns2.out.below hb)
  replace Zt := Lib.hid (Zt.out.below hb)
  replace Nt := Lib.hid (Nt.out.below hb)
  have Zt2 := Lib.hid (Zo.of_own ho)
  have Nt2 := Lib.hid ho2.rd
  clear ho ho2
  clear hb
  refine hK.out _ _ HB.out (fun hHeld => ?_)
  clear hK K
  try simp only [Act.put, List.setIfInBounds_toArray, List.set_cons_zero, List.set_cons_succ]
  refine wpAnyH_ready (rs := [24]) (by kernel_rfl) (by simp) ?_
  refine AllReadyH.consL (o := _) rfl (fun K hK => ?_) AllReadyH.nil
  clear hHeld
  go_simp
  go_at_call 33
  refine Calls.mono (r3equal_any (b := true) Zt.out Zt2.out Nt.out Nt2.out (by simpa using EQt_t2.out)) ?_
  rintro e v15 ⟨rfl, hb⟩
  replace HB := Lib.hid (HB.out.trans (hb.mono HB.out.size))
  replace Zn := Lib.hid (Zn.out.below hb)
  replace Nn := Lib.hid (Nn.out.below hb)
  replace Zn2 := Lib.hid (Zn2.out.below hb)
  replace Nn2 := Lib.hid (Nn2.out.below hb)
  replace Zs := Lib.hid (Zs.out.below hb)
  replace Ns := Lib.hid (Ns.out.below hb)
  replace Zs2 := Lib.hid (Zs2.out.below hb)
  replace Ns2 := Lib.hid (Ns2.out.below hb)
  replace Zt := Lib.hid (Zt.out.below hb)
  replace Nt := Lib.hid (Nt.out.below hb)
  replace Zt2 := Lib.hid (Zt2.out.below hb)
  replace Nt2 := Lib.hid (Nt2.out.below hb)
  clear hb
  refine hK.out _ _ HB.out (fun hHeld => ?_)
  clear hK K
  try simp only [Act.put, List.setIfInBounds_toArray, List.set_cons_zero, List.set_cons_succ]
  refine wpAnyH_takeL (i := 25) (oi := _) (v := ?_) rfl (by kernel_rfl) (by kernel_rfl) (by kernel_rfl) (fun _ _ _ h => h) (Or.inl ⟨by rfl, ?_⟩) hHeld ?_
  rotate_left
  · (intro w' hSw; (try dsimp only at hSw); go_simp; try (with_reducible rfl))
  try simp only [Act.put, List.setIfInBounds_toArray, List.set_cons_zero, List.set_cons_succ]
  refine wpAnyH_takeL (i := 26) (oi := _) (v := ?_) rfl (by kernel_rfl) (by kernel_rfl) (by kernel_rfl) (fun _ _ _ h => h) (Or.inl ⟨by rfl, ?_⟩) hHeld ?_
  rotate_left
  · (intro w' hSw; (try dsimp only at hSw); go_simp; try (with_reducible rfl))
  try simp only [Act.put, List.setIfInBounds_toArray, List.set_cons_zero, List.set_cons_succ]
  refine wpAnyH_takeL (i := 27) (oi := _) rfl (by kernel_rfl) (by kernel_rfl) (by kernel_rfl) (fun _ _ _ h => h) (yields_ldR (by rfl) _ rfl (by rfl) (fun _ hb => V0.out.below hb V0.out.lt)) hHeld ?_
  try simp only [Act.put, List.setIfInBounds_toArray, List.set_cons_zero, List.set_cons_succ]
  refine wpAnyH_takeL (i := 28) (oi := _) rfl (by kernel_rfl) (by kernel_rfl) (by kernel_rfl) (fun _ _ _ h => h) (yields_ldR (by rfl) _ rfl (by rfl) (fun _ hb => V1.out.below hb V1.out.lt)) hHeld ?_
  try simp only [Act.put, List.setIfInBounds_toArray, List.set_cons_zero, List.set_cons_succ]
  refine wpAnyH_takeL (i := 30) (oi := _) rfl (by kernel_rfl) (by kernel_rfl) (by kernel_rfl) (fun _ _ _ h => h) (yields_ldR (by rfl) _ rfl (by rfl) (fun _ hb => V0.out.below hb V0.out.lt)) hHeld ?_
  try simp only [Act.put, List.setIfInBounds_toArray, List.set_cons_zero, List.set_cons_succ]
  refine wpAnyH_takeL (i := 31) (oi := _) rfl (by kernel_rfl) (by kernel_rfl) (by kernel_rfl) (fun _ _ _ h => h) (yields_ldR (by rfl) _ rfl (by rfl) (fun _ hb => V1.out.below hb V1.out.lt)) hHeld ?_
  try simp only [Act.put, List.setIfInBounds_toArray, List.set_cons_zero, List.set_cons_succ]
  refine wpAnyH_ready (rs := [29]) (by kernel_rfl) (by simp) ?_
  refine AllReadyH.consL (o := _) rfl (fun K hK => ?_) AllReadyH.nil
  clear hHeld
  go_simp
  go_at_call 41
  refine Calls.mono (qmul_any (L := 100000000) (z := xv) (d := dv) (X0.out.below HB.out) (Y0.out.below HB.out) (X1.out.below HB.out) (Y1.out.below HB.out) LZ0.out LD0.out LZ1.out LD1.out LL.out HZv.out HDv.out) ?_
  rintro e v16 ⟨Pv, cv, Qv, kv, rfl, ho, ho2, hb⟩
  replace HB := Lib.hid (HB.out.trans (hb.mono HB.out.size))
  replace Zn := Lib.hid (Zn.out.below hb)
  replace Nn := Lib.hid (Nn.out.below hb)
  replace Zn2 := Lib.hid (Zn2.out.below hb)
  replace Nn2 := Lib.hid (Nn2.out.below hb)
  replace Zs := Lib.hid (Zs.out.below hb)
  replace Ns := Lib.hid (Ns.out.below hb)
  replace Zs2 := Lib.hid (Zs2.out.below hb)
  replace Ns2 := Lib.hid (Ns2.out.below hb)
  replace Zt := Lib.hid (Zt.out.below hb)
  replace Nt := Lib.hid (Nt.out.below hb)
  replace Zt2 := Lib.hid (Zt2.out.below hb)
  replace Nt2 := Lib.hid (Nt2.out.below hb)
  have Zv := Lib.hid (Zo.of_own ho)
  have Nv := Lib.hid ho2.rd
  clear ho ho2
  clear hb
  refine hK.out _ _ HB.out (fun hHeld => ?_)
  clear hK K
  try simp only [Act.put, List.setIfInBounds_toArray, List.set_cons_zero, List.set_cons_succ]
  refine wpAnyH_ready (rs := [32]) (by kernel_rfl) (by simp) ?_
  refine AllReadyH.consL (o := _) rfl (fun K hK => ?_) AllReadyH.nil
  clear hHeld
  go_simp
  go_at_call 42
  refine Calls.mono (r3mul_any (z := xv2) (d := dv2) (X0.out.below HB.out) (Y0.out.below HB.out) (X1.out.below HB.out) (Y1.out.below HB.out) (Nat.le_trans LZ0.out (by decide)) (Nat.le_trans LD0.out (by decide)) (Nat.le_trans LZ1.out (by decide)) (Nat.le_trans LD1.out (by decide)) HZv2.out HDv2.out) ?_
  rintro e v17 ⟨Pv2, cv2, Qv2, kv2, rfl, ho, ho2, hb⟩
  replace HB := Lib.hid (HB.out.trans (hb.mono HB.out.size))
  replace Zn := Lib.hid (Zn.out.below hb)
  replace Nn := Lib.hid (Nn.out.below hb)
  replace Zn2 := Lib.hid (Zn2.out.below hb)
  replace Nn2 := Lib.hid (Nn2.out.below hb)
  replace Zs := Lib.hid (Zs.out.below hb)
  replace Ns := Lib.hid (Ns.out.below hb)
  replace Zs2 := Lib.hid (Zs2.out.below hb)
  replace Ns2 := Lib.hid (Ns2.out.below hb)
  replace Zt := Lib.hid (Zt.out.below hb)
  replace Nt := Lib.hid (Nt.out.below hb)
  replace Zt2 := Lib.hid (Zt2.out.below hb)
  replace Nt2 := Lib.hid (Nt2.out.below hb)
  replace Zv := Lib.hid (Zv.out.below hb)
  replace Nv := Lib.hid (Nv.out.below hb)
  have Zv2 := Lib.hid (Zo.of_own ho)
  have Nv2 := Lib.hid ho2.rd
  clear ho ho2
  clear hb
  refine hK.out _ _ HB.out (fun hHeld => ?_)
  clear hK K
  try simp only [Act.put, List.setIfInBounds_toArray, List.set_cons_zero, List.set_cons_succ]
  refine wpAnyH_ready (rs := [33]) (by kernel_rfl) (by simp) ?_
  refine AllReadyH.consL (o := _) rfl (fun K hK => ?_) AllReadyH.nil
  clear hHeld
  go_simp
  go_at_call 33
  refine Calls.mono (r3equal_any (b := true) Zv.out Zv2.out Nv.out Nv2.out (by simpa using EQv_v2.out)) ?_
  rintro e v18 ⟨rfl, hb⟩
  replace HB := Lib.hid (HB.out.trans (hb.mono HB.out.size))
  replace Zn := Lib.hid (Zn.out.below hb)
  replace Nn := Lib.hid (Nn.out.below hb)
  replace Zn2 := Lib.hid (Zn2.out.below hb)
  replace Nn2 := Lib.hid (Nn2.out.below hb)
  replace Zs := Lib.hid (Zs.out.below hb)
  replace Ns := Lib.hid (Ns.out.below hb)
  replace Zs2 := Lib.hid (Zs2.out.below hb)
  replace Ns2 := Lib.hid (Ns2.out.below hb)
  replace Zt := Lib.hid (Zt.out.below hb)
  replace Nt := Lib.hid (Nt.out.below hb)
  replace Zt2 := Lib.hid (Zt2.out.below hb)
  replace Nt2 := Lib.hid (Nt2.out.below hb)
  replace Zv := Lib.hid (Zv.out.below hb)
  replace Nv := Lib.hid (Nv.out.below hb)
  replace Zv2 := Lib.hid (Zv2.out.below hb)
  replace Nv2 := Lib.hid (Nv2.out.below hb)
  clear hb
  refine hK.out _ _ HB.out (fun hHeld => ?_)
  clear hK K
  try simp only [Act.put, List.setIfInBounds_toArray, List.set_cons_zero, List.set_cons_succ]
  refine wpAnyH_takeL (i := 34) (oi := _) (v := ?_) rfl (by kernel_rfl) (by kernel_rfl) (by kernel_rfl) (fun _ _ _ h => h) (Or.inl ⟨by rfl, ?_⟩) hHeld ?_
  rotate_left
  · (intro w' hSw; (try dsimp only at hSw); go_simp; try (with_reducible rfl))
  try simp only [Act.put, List.setIfInBounds_toArray, List.set_cons_zero, List.set_cons_succ]
  refine wpAnyH_takeL (i := 35) (oi := _) (v := ?_) rfl (by kernel_rfl) (by kernel_rfl) (by kernel_rfl) (fun _ _ _ h => h) (Or.inl ⟨by rfl, ?_⟩) hHeld ?_
  rotate_left
  · (intro w' hSw; (try dsimp only at hSw); go_simp; try (with_reducible rfl))
  try simp only [Act.put, List.setIfInBounds_toArray, List.set_cons_zero, List.set_cons_succ]
  skip
  refine wpAnyH_done (by kernel_rfl) ?_ _
  have hb := HB.out
  replace V0 := Lib.hid (V0.out.below hb V0.out.lt)
  replace X0 := Lib.hid (X0.out.below hb)
  replace Y0 := Lib.hid (Y0.out.below hb)
  replace V1 := Lib.hid (V1.out.below hb V1.out.lt)
  replace X1 := Lib.hid (X1.out.below hb)
  replace Y1 := Lib.hid (Y1.out.below hb)
  replace Zp := Lib.hid (Zp.out.below hb)
  replace Np := Lib.hid (Np.out.below hb)
  replace G1 := Lib.hid (G1.out.below hb G1.out.lt)
  replace Zp2 := Lib.hid (Zp2.out.below hb)
  replace Np2 := Lib.hid (Np2.out.below hb)
  replace G2 := Lib.hid (G2.out.below hb G2.out.lt)
  replace G3 := Lib.hid (G3.out.below hb G3.out.lt)
  replace G4 := Lib.hid (G4.out.below hb G4.out.lt)
  replace B1 := Lib.hid (B1.out.trans (hb.mono B1.out.size))
  clear hHeld hb HB Zn Nn Zn2 Nn2 Zs Ns Zs2 Ns2 Zt Nt Zt2 Nt2 Zv Nv Zv2 Nv2
  go_wp2
  go_ret
  exact ⟨rfl, B1.out⟩
set_option maxRecDepth 100000 in
set_option maxHeartbeats 16000000 in
theorem arith_b_a (b0 : Bool) (a0 : Option Addr) (len0 cap0 : Nat) (z0 : Int) (e0 : Option Addr) (n0 c0 q0 : Nat) (b1 : Bool) (a1 : Option Addr) (len1 cap1 : Nat) (z1 : Int) (e1 : Option Addr) (n1 c1 q1 : Nat) (hb : mkRat z1 q1 ≠ 0) (ha : mkRat z0 q0 ≠ 0) (w : World) (hx0 : Zin w b0 a0 len0 cap0 z0) (hl0 : len0 ≤ 1048576) (hp0 : Nin w e0 n0 c0 q0) (hn0 : n0 ≤ 1048576) (hx1 : Zin w b1 a1 len1 cap1 z1) (hl1 : len1 ≤ 1048576) (hp1 : Nin w e1 n1 c1 q1) (hn1 : n1 ≤ 1048576) :
    Calls Try.prog 6 #[.agg #[.bool b0, .slice a0 len0 cap0, .slice e0 n0 c0], .agg #[.bool b1, .slice a1 len1 cap1, .slice e1 n1 c1]] w fun e w' => e = .returned (.bool true) ∧ Below w.heap.size w w' := by
  obtain ⟨B1, V0, V1⟩ := start_R2 w b0 a0 len0 cap0 e0 n0 c0 b1 a1 len1 cap1 e1 n1 c1
  have X0 := Lib.hid (hx0.below B1.out)
  have Y0 := Lib.hid (hp0.below B1.out)
  have LZ0 : Hid (len0 ≤ 100000000) := Nat.le_trans hl0 (by decide)
  have LD0 : Hid (n0 ≤ 100000000) := Nat.le_trans hn0 (by decide)
  have r0 : RL (mkRat z0 q0) 1048576 := rl_mk (Nat.le_trans hx0.len hl0) (Nat.le_trans hp0.len hn0) (by decide)
  have X1 := Lib.hid (hx1.below B1.out)
  have Y1 := Lib.hid (hp1.below B1.out)
  have LZ1 : Hid (len1 ≤ 100000000) := Nat.le_trans hl1 (by decide)
  have LD1 : Hid (n1 ≤ 100000000) := Nat.le_trans hn1 (by decide)
  have r1 : RL (mkRat z1 q1) 1048576 := rl_mk (Nat.le_trans hx1.len hl1) (Nat.le_trans hp1.len hn1) (by decide)
  have LL : Hid (1 ≤ 100000000 ∧ 100000000 ≤ 35184372088829) := by show _ ∧ _; omega
  have LL2 : Hid (1 ≤ 100000000 ∧ 100000000 ≤ 70368744177660) := by show _ ∧ _; omega
  have HB0 := Lib.hid hb
  have HA0 := Lib.hid ha
  obtain ⟨xz, exz⟩ : ∃ z : Int, 0 = z := ⟨_, rfl⟩
  obtain ⟨dz, edz⟩ : ∃ z : Nat, 0 = z := ⟨_, rfl⟩
  have HXZ := Lib.hid exz
  have HDZ := Lib.hid edz
  obtain ⟨xk, exk⟩ : ∃ z : Int, (Rat.divInt 1 1).num = z := ⟨_, rfl⟩
  obtain ⟨dk, edk⟩ : ∃ z : Nat, (Rat.divInt 1 1).den = z := ⟨_, rfl⟩
  have Mk : mkRat xk dk = Rat.divInt 1 1 := by rw [← exk, ← edk, mk_self]
  have rk : RL (mkRat xk dk) 1 := by rw [Mk]; exact ⟨len_small (by decide +kernel), len_small (by decide +kernel)⟩
  have LZk : Hid ((ofv xk.natAbs).length ≤ 100000000) := by show _ ≤ _; rw [← exk]; exact Nat.le_trans (len_small (by decide +kernel)) (by decide)
  have LDk : Hid ((ofv dk).length ≤ 100000000) := by show _ ≤ _; rw [← edk]; exact Nat.le_trans (len_small (by decide +kernel)) (by decide)
  have HZk := Lib.hid exk
  have HDk := Lib.hid edk
  have I1 : Hid (-9223372036854775808 ≤ (1 : Int) ∧ (1 : Int) ≤ 9223372036854775807) := by show _ ∧ _; omega
  obtain ⟨xn, exn⟩ : ∃ z : Int, (-mkRat z0 q0).num = z := ⟨_, rfl⟩
  obtain ⟨dn, edn⟩ : ∃ z : Nat, (-mkRat z0 q0).den = z := ⟨_, rfl⟩
  have Mn : mkRat xn dn = -mkRat z0 q0 := by rw [← exn, ← edn, mk_self]
  have rn : RL (mkRat xn dn) 1048576 := by rw [Mn]; exact (rl_neg r0).le (by decide)
  have LZn : Hid ((ofv xn.natAbs).length ≤ 100000000) := by show _ ≤ _; have h := rn.1; rw [Mn, exn] at h; exact Nat.le_trans h (by decide)
  have LDn : Hid ((ofv dn).length ≤ 100000000) := by show _ ≤ _; have h := rn.2; rw [Mn, edn] at h; exact Nat.le_trans h (by decide)
  have HZn := Lib.hid exn
  have HDn := Lib.hid edn
  obtain ⟨xn2, exn2⟩ : ∃ z : Int, (-mkRat z0 q0).num = z := ⟨_, rfl⟩
  obtain ⟨dn2, edn2⟩ : ∃ z : Nat, (-mkRat z0 q0).den = z := ⟨_, rfl⟩
  have Mn2 : mkRat xn2 dn2 = -mkRat z0 q0 := by rw [← exn2, ← edn2, mk_self]
  have rn2 : RL (mkRat xn2 dn2) 1048576 := by rw [Mn2]; exact (rl_neg r0).le (by decide)
  have LZn2 : Hid ((ofv xn2.natAbs).length ≤ 100000000) := by show _ ≤ _; have h := rn2.1; rw [Mn2, exn2] at h; exact Nat.le_trans h (by decide)
  have LDn2 : Hid ((ofv dn2).length ≤ 100000000) := by show _ ≤ _; have h := rn2.2; rw [Mn2, edn2] at h; exact Nat.le_trans h (by decide)
  have HZn2 := Lib.hid exn2
  have HDn2 := Lib.hid edn2
  have EE : -mkRat z0 q0 = -mkRat z0 q0 := by rfl
  have EQn_n2 : Hid (xn = xn2 ∧ dn = dn2) := by show _ ∧ _; rw [← exn, ← exn2, ← edn, ← edn2]; exact ⟨congrArg Rat.num EE, congrArg Rat.den EE⟩
  clear EE
  obtain ⟨xs, exs⟩ : ∃ z : Int, (mkRat z0 q0 + mkRat z1 q1).num = z := ⟨_, rfl⟩
  obtain ⟨ds, eds⟩ : ∃ z : Nat, (mkRat z0 q0 + mkRat z1 q1).den = z := ⟨_, rfl⟩
  have Ms : mkRat xs ds = mkRat z0 q0 + mkRat z1 q1 := by rw [← exs, ← eds, mk_self]
  have rs : RL (mkRat xs ds) 2097153 := by rw [Ms]; exact (rl_add r0 r1).le (by decide)
  have LZs : Hid ((ofv xs.natAbs).length ≤ 100000000) := by show _ ≤ _; have h := rs.1; rw [Ms, exs] at h; exact Nat.le_trans h (by decide)
  have LDs : Hid ((ofv ds).length ≤ 100000000) := by show _ ≤ _; have h := rs.2; rw [Ms, eds] at h; exact Nat.le_trans h (by decide)
  have HZs := Lib.hid exs
  have HDs := Lib.hid eds
  obtain ⟨xs2, exs2⟩ : ∃ z : Int, (mkRat z0 q0 + mkRat z1 q1).num = z := ⟨_, rfl⟩
  obtain ⟨ds2, eds2⟩ : ∃ z : Nat, (mkRat z0 q0 + mkRat z1 q1).den = z := ⟨_, rfl⟩
  have Ms2 : mkRat xs2 ds2 = mkRat z0 q0 + mkRat z1 q1 := by rw [← exs2, ← eds2, mk_self]
  have rs2 : RL (mkRat xs2 ds2) 2097153 := by rw [Ms2]; exact (rl_add r0 r1).le (by decide)
  have LZs2 : Hid ((ofv xs2.natAbs).length ≤ 100000000) := by show _ ≤ _; have h := rs2.1; rw [Ms2, exs2] at h; exact Nat.le_trans h (by decide)
  have LDs2 : Hid ((ofv ds2).length ≤ 100000000) := by show _ ≤ _; have h := rs2.2; rw [Ms2, eds2] at h; exact Nat.le_trans h (by decide)
  have HZs2 := Lib.hid exs2
  have HDs2 := Lib.hid eds2
  have EE : mkRat z0 q0 + mkRat z1 q1 = mkRat z0 q0 + mkRat z1 q1 := by rfl
  have EQs_s2 : Hid (xs = xs2 ∧ ds = ds2) := by show _ ∧ _; rw [← exs, ← exs2, ← eds, ← eds2]; exact ⟨congrArg Rat.num EE, congrArg Rat.den EE⟩
  clear EE
  obtain ⟨xt, ext⟩ : ∃ z : Int, (mkRat z0 q0 - mkRat z1 q1).num = z := ⟨_, rfl⟩
  obtain ⟨dt, edt⟩ : ∃ z : Nat, (mkRat z0 q0 - mkRat z1 q1).den = z := ⟨_, rfl⟩
  have Mt : mkRat xt dt = mkRat z0 q0 - mkRat z1 q1 := by rw [← ext, ← edt, mk_self]
  have rt : RL (mkRat xt dt) 2097153 := by rw [Mt]; exact (rl_sub r0 r1).le (by decide)
  have LZt : Hid ((ofv xt.natAbs).length ≤ 100000000) := by show _ ≤ _; have h := rt.1; rw [Mt, ext] at h; exact Nat.le_trans h (by decide)
  have LDt : Hid ((ofv dt).length ≤ 100000000) := by show _ ≤ _; have h := rt.2; rw [Mt, edt] at h; exact Nat.le_trans h (by decide)
  have HZt := Lib.hid ext
  have HDt := Lib.hid edt
  obtain ⟨xt2, ext2⟩ : ∃ z : Int, (mkRat z0 q0 - mkRat z1 q1).num = z := ⟨_, rfl⟩
  obtain ⟨dt2, edt2⟩ : ∃ z : Nat, (mkRat z0 q0 - mkRat z1 q1).den = z := ⟨_, rfl⟩
  have Mt2 : mkRat xt2 dt2 = mkRat z0 q0 - mkRat z1 q1 := by rw [← ext2, ← edt2, mk_self]
  have rt2 : RL (mkRat xt2 dt2) 2097153 := by rw [Mt2]; exact (rl_sub r0 r1).le (by decide)
  have LZt2 : Hid ((ofv xt2.natAbs).length ≤ 100000000) := by show _ ≤ _; have h := rt2.1; rw [Mt2, ext2] at h; exact Nat.le_trans h (by decide)
  have LDt2 : Hid ((ofv dt2).length ≤ 100000000) := by show _ ≤ _; have h := rt2.2; rw [Mt2, edt2] at h; exact Nat.le_trans h (by decide)
  have HZt2 := Lib.hid ext2
  have HDt2 := Lib.hid edt2
  have EE : mkRat z0 q0 - mkRat z1 q1 = mkRat z0 q0 - mkRat z1 q1 := by rfl
  have EQt_t2 : Hid (xt = xt2 ∧ dt = dt2) := by show _ ∧ _; rw [← ext, ← ext2, ← edt, ← edt2]; exact ⟨congrArg Rat.num EE, congrArg Rat.den EE⟩
  clear EE
  obtain ⟨xv, exv⟩ : ∃ z : Int, (mkRat z0 q0 * mkRat z1 q1).num = z := ⟨_, rfl⟩
  obtain ⟨dv, edv⟩ : ∃ z : Nat, (mkRat z0 q0 * mkRat z1 q1).den = z := ⟨_, rfl⟩
  have Mv : mkRat xv dv = mkRat z0 q0 * mkRat z1 q1 := by rw [← exv, ← edv, mk_self]
  have rv : RL (mkRat xv dv) 2097152 := by rw [Mv]; exact (rl_mul r0 r1).le (by decide)
  have LZv : Hid ((ofv xv.natAbs).length ≤ 100000000) := by show _ ≤ _; have h := rv.1; rw [Mv, exv] at h; exact Nat.le_trans h (by decide)
  have LDv : Hid ((ofv dv).length ≤ 100000000) := by show _ ≤ _; have h := rv.2; rw [Mv, edv] at h; exact Nat.le_trans h (by decide)
  have HZv := Lib.hid exv
  have HDv := Lib.hid edv
  obtain ⟨xv2, exv2⟩ : ∃ z : Int, (mkRat z0 q0 * mkRat z1 q1).num = z := ⟨_, rfl⟩
  obtain ⟨dv2, edv2⟩ : ∃ z : Nat, (mkRat z0 q0 * mkRat z1 q1).den = z := ⟨_, rfl⟩
  have Mv2 : mkRat xv2 dv2 = mkRat z0 q0 * mkRat z1 q1 := by rw [← exv2, ← edv2, mk_self]
  have rv2 : RL (mkRat xv2 dv2) 2097152 := by rw [Mv2]; exact (rl_mul r0 r1).le (by decide)
  have LZv2 : Hid ((ofv xv2.natAbs).length ≤ 100000000) := by show _ ≤ _; have h := rv2.1; rw [Mv2, exv2] at h; exact Nat.le_trans h (by decide)
  have LDv2 : Hid ((ofv dv2).length ≤ 100000000) := by show _ ≤ _; have h := rv2.2; rw [Mv2, edv2] at h; exact Nat.le_trans h (by decide)
  have HZv2 := Lib.hid exv2
  have HDv2 := Lib.hid edv2
  have EE : mkRat z0 q0 * mkRat z1 q1 = mkRat z0 q0 * mkRat z1 q1 := by rfl
  have EQv_v2 : Hid (xv = xv2 ∧ dv = dv2) := by show _ ∧ _; rw [← exv, ← exv2, ← edv, ← edv2]; exact ⟨congrArg Rat.num EE, congrArg Rat.den EE⟩
  clear EE
  have NZ1 := hb
  obtain ⟨xp, exp⟩ : ∃ z : Int, (mkRat z0 q0 * (mkRat z1 q1)⁻¹).num = z := ⟨_, rfl⟩
  obtain ⟨dp, edp⟩ : ∃ z : Nat, (mkRat z0 q0 * (mkRat z1 q1)⁻¹).den = z := ⟨_, rfl⟩
  have Mp : mkRat xp dp = mkRat z0 q0 * (mkRat z1 q1)⁻¹ := by rw [← exp, ← edp, mk_self]
  have rp : RL (mkRat xp dp) 2097152 := by rw [Mp]; exact (rl_mul r0 (rl_inv r1 NZ1)).le (by decide)
  have LZp : Hid ((ofv xp.natAbs).length ≤ 100000000) := by show _ ≤ _; have h := rp.1; rw [Mp, exp] at h; exact Nat.le_trans h (by decide)
  have LDp : Hid ((ofv dp).length ≤ 100000000) := by show _ ≤ _; have h := rp.2; rw [Mp, edp] at h; exact Nat.le_trans h (by decide)
  have HZp := Lib.hid exp
  have HDp := Lib.hid edp
  obtain ⟨xp2, exp2⟩ : ∃ z : Int, (mkRat z0 q0 * (mkRat z1 q1)⁻¹).num = z := ⟨_, rfl⟩
  obtain ⟨dp2, edp2⟩ : ∃ z : Nat, (mkRat z0 q0 * (mkRat z1 q1)⁻¹).den = z := ⟨_, rfl⟩
  have Mp2 : mkRat xp2 dp2 = mkRat z0 q0 * (mkRat z1 q1)⁻¹ := by rw [← exp2, ← edp2, mk_self]
  have rp2 : RL (mkRat xp2 dp2) 2097152 := by rw [Mp2]; exact (rl_mul r0 (rl_inv r1 NZ1)).le (by decide)
  have LZp2 : Hid ((ofv xp2.natAbs).length ≤ 100000000) := by show _ ≤ _; have h := rp2.1; rw [Mp2, exp2] at h; exact Nat.le_trans h (by decide)
  have LDp2 : Hid ((ofv dp2).length ≤ 100000000) := by show _ ≤ _; have h := rp2.2; rw [Mp2, edp2] at h; exact Nat.le_trans h (by decide)
  have HZp2 := Lib.hid exp2
  have HDp2 := Lib.hid edp2
  have EE : mkRat z0 q0 * (mkRat z1 q1)⁻¹ = mkRat z0 q0 * (mkRat z1 q1)⁻¹ := by rfl
  have EQp_p2 : Hid (xp = xp2 ∧ dp = dp2) := by show _ ∧ _; rw [← exp, ← exp2, ← edp, ← edp2]; exact ⟨congrArg Rat.num EE, congrArg Rat.den EE⟩
  clear EE
  have NZ0 := ha
  obtain ⟨xi, exi⟩ : ∃ z : Int, ((mkRat z0 q0)⁻¹).num = z := ⟨_, rfl⟩
  obtain ⟨di, edi⟩ : ∃ z : Nat, ((mkRat z0 q0)⁻¹).den = z := ⟨_, rfl⟩
  have Mi : mkRat xi di = (mkRat z0 q0)⁻¹ := by rw [← exi, ← edi, mk_self]
  have ri : RL (mkRat xi di) 1048576 := by rw [Mi]; exact (rl_inv r0 NZ0).le (by decide)
  have LZi : Hid ((ofv xi.natAbs).length ≤ 100000000) := by show _ ≤ _; have h := ri.1; rw [Mi, exi] at h; exact Nat.le_trans h (by decide)
  have LDi : Hid ((ofv di).length ≤ 100000000) := by show _ ≤ _; have h := ri.2; rw [Mi, edi] at h; exact Nat.le_trans h (by decide)
  have HZi := Lib.hid exi
  have HDi := Lib.hid edi
  obtain ⟨xj, exj⟩ : ∃ z : Int, (mkRat xk dk * (mkRat z0 q0)⁻¹).num = z := ⟨_, rfl⟩
  obtain ⟨dj, edj⟩ : ∃ z : Nat, (mkRat xk dk * (mkRat z0 q0)⁻¹).den = z := ⟨_, rfl⟩
  have Mj : mkRat xj dj = mkRat xk dk * (mkRat z0 q0)⁻¹ := by rw [← exj, ← edj, mk_self]
  have rj : RL (mkRat xj dj) 1048577 := by rw [Mj]; exact (rl_mul rk (rl_inv r0 NZ0)).le (by decide)
  have LZj : Hid ((ofv xj.natAbs).length ≤ 100000000) := by show _ ≤ _; have h := rj.1; rw [Mj, exj] at h; exact Nat.le_trans h (by decide)
  have LDj : Hid ((ofv dj).length ≤ 100000000) := by show _ ≤ _; have h := rj.2; rw [Mj, edj] at h; exact Nat.le_trans h (by decide)
  have HZj := Lib.hid exj
  have HDj := Lib.hid edj
  have EE : (mkRat z0 q0)⁻¹ = mkRat xk dk * (mkRat z0 q0)⁻¹ := by rw [Mk, show Rat.divInt 1 1 = 1 from rfl, Rat.one_mul]
  have EQi_j : Hid (xi = xj ∧ di = dj) := by show _ ∧ _; rw [← exi, ← exj, ← edi, ← edj]; exact ⟨congrArg Rat.num EE, congrArg Rat.den EE⟩
  clear EE
  clear hx0 hl0 hp0 hn0 r0 hx1 hl1 hp1 hn1 r1 hb ha exz edz exk edk Mk rk exn edn Mn rn exn2 edn2 Mn2 rn2 exs eds Ms rs exs2 eds2 Ms2 rs2 ext edt Mt rt ext2 edt2 Mt2 rt2 exv edv Mv rv exv2 edv2 Mv2 rv2 NZ1 exp edp Mp rp exp2 edp2 Mp2 rp2 NZ0 exi edi Mi ri exj edj Mj rj
  go_enter Try.func6, Try.ntmps6
  go_wp2_with fail
  generalize ((w.alloc (.cells #[.bool b0, .slice a0 len0 cap0, .slice e0 n0 c0] 42)).alloc (.cells #[.bool b1, .slice a1 len1 cap1, .slice e1 n1 c1] 42)) = w2 at *
  have pc0 := Lib.hid trivial
  go_wp2_with (first
    | (clear pc0; go_at_call 29; refine Calls.mono (qdiv_any (L := 100000000) (z := xp) (d := dp) X0.out Y0.out X1.out Y1.out LZ0.out LD0.out LZ1.out LD1.out LL.out HB0.out HZp.out HDp.out) ?_; rintro e v1 ⟨Pp, cp, Qp, kp, rfl, ho, ho2, hb⟩; replace V0 := Lib.hid (V0.out.below hb V0.out.lt); replace X0 := Lib.hid (X0.out.below hb); replace Y0 := Lib.hid (Y0.out.below hb); replace V1 := Lib.hid (V1.out.below hb V1.out.lt); replace X1 := Lib.hid (X1.out.below hb); replace Y1 := Lib.hid (Y1.out.below hb); replace B1 := Lib.hid (B1.out.trans (hb.mono B1.out.size)); have Zp := Lib.hid (Zo.of_own ho); have Np := Lib.hid ho2.rd; clear ho ho2; clear hb; have pc1 := Lib.hid trivial)
    | (clear pc1; have LTG1 : Hid (w.heap.size + 1 < v1.heap.size) := V1.out.lt; have hb : Below v1.heap.size v1 (v1.alloc (.cells #[.bool false, .slice none 0 0, .slice none 0 0] 42)) := (Below.refl _ _).alloc (Nat.le_refl _) _; replace V0 := Lib.hid (V0.out.below hb V0.out.lt); replace X0 := Lib.hid (X0.out.below hb); replace Y0 := Lib.hid (Y0.out.below hb); replace V1 := Lib.hid (V1.out.below hb V1.out.lt); replace X1 := Lib.hid (X1.out.below hb); replace Y1 := Lib.hid (Y1.out.below hb); replace Zp := Lib.hid (Zp.out.below hb); replace Np := Lib.hid (Np.out.below hb); replace B1 := Lib.hid (B1.out.trans (hb.mono B1.out.size)); clear hb; have G1 := Lib.hid (Rb.new v1 false none 0 0 none 0 0); refine wpList_stR (by rfl) _ _ rfl (by rfl) (by rfl) G1.out ?_; intro wsA hz hg; replace V0 := Lib.hid (V0.out.gro hg (by have := LTG1.out; omega)); replace X0 := Lib.hid (X0.out.grR G1.out hg); replace Y0 := Lib.hid (Y0.out.grR G1.out hg); replace V1 := Lib.hid (V1.out.gro hg (by have := LTG1.out; omega)); replace X1 := Lib.hid (X1.out.grR G1.out hg); replace Y1 := Lib.hid (Y1.out.grR G1.out hg); replace Zp := Lib.hid (Zp.out.grR G1.out hg); replace Np := Lib.hid (Np.out.grR G1.out hg); replace B1 := Lib.hid (Below.gr B1.out (by have := LTG1.out; omega) hg B1.out.size); replace G1 := Lib.hid hz; clear hz hg; have pc2 := Lib.hid trivial)
    | (clear pc2; refine wpList_ldR (by rfl) _ rfl (by rfl) V0.out ?_; have pc3 := Lib.hid trivial)
    | (clear pc3; refine wpList_ldR (by rfl) _ rfl (by rfl) V1.out ?_; have pc4 := Lib.hid trivial)
    | (clear pc4; go_at_call 30; refine Calls.mono (r3div_any (z := xp2) (d := dp2) X0.out Y0.out X1.out Y1.out (Nat.le_trans LZ0.out (by decide)) (Nat.le_trans LD0.out (by decide)) (Nat.le_trans LZ1.out (by decide)) (Nat.le_trans LD1.out (by decide)) HB0.out HZp2.out HDp2.out) ?_; rintro e v2 ⟨Pp2, cp2, Qp2, kp2, rfl, ho, ho2, hb⟩; replace V0 := Lib.hid (V0.out.below hb V0.out.lt); replace X0 := Lib.hid (X0.out.below hb); replace Y0 := Lib.hid (Y0.out.below hb); replace V1 := Lib.hid (V1.out.below hb V1.out.lt); replace X1 := Lib.hid (X1.out.below hb); replace Y1 := Lib.hid (Y1.out.below hb); replace Zp := Lib.hid (Zp.out.below hb); replace Np := Lib.hid (Np.out.below hb); replace G1 := Lib.hid (G1.out.below hb G1.out.lt); replace B1 := Lib.hid (B1.out.trans (hb.mono B1.out.size)); have Zp2 := Lib.hid (Zo.of_own ho); have Np2 := Lib.hid ho2.rd; clear ho ho2; clear hb; have pc5 := Lib.hid trivial)
    | (clear pc5; have LTG2 : Hid (w.heap.size + 1 < v2.heap.size ∧ v1.heap.size < v2.heap.size) := ⟨V1.out.lt, G1.out.lt⟩; have hb : Below v2.heap.size v2 (v2.alloc (.cells #[.bool false, .slice none 0 0, .slice none 0 0] 42)) := (Below.refl _ _).alloc (Nat.le_refl _) _; replace V0 := Lib.hid (V0.out.below hb V0.out.lt); replace X0 := Lib.hid (X0.out.below hb); replace Y0 := Lib.hid (Y0.out.below hb); replace V1 := Lib.hid (V1.out.below hb V1.out.lt); replace X1 := Lib.hid (X1.out.below hb); replace Y1 := Lib.hid (Y1.out.below hb); replace Zp := Lib.hid (Zp.out.below hb); replace Np := Lib.hid (Np.out.below hb); replace G1 := Lib.hid (G1.out.below hb G1.out.lt); replace Zp2 := Lib.hid (Zp2.out.below hb); replace Np2 := Lib.hid (Np2.out.below hb); replace B1 := Lib.hid (B1.out.trans (hb.mono B1.out.size)); clear hb; have G2 := Lib.hid (Rb.new v2 false none 0 0 none 0 0); refine wpList_stR (by rfl) _ _ rfl (by rfl) (by rfl) G2.out ?_; intro wsB hz hg; replace V0 := Lib.hid (V0.out.gro hg (by have := LTG1.out; have := LTG2.out; omega)); replace X0 := Lib.hid (X0.out.grR G2.out hg); replace Y0 := Lib.hid (Y0.out.grR G2.out hg); replace V1 := Lib.hid (V1.out.gro hg (by have := LTG1.out; have := LTG2.out; omega)); replace X1 := Lib.hid (X1.out.grR G2.out hg); replace Y1 := Lib.hid (Y1.out.grR G2.out hg); replace Zp := Lib.hid (Zp.out.grR G2.out hg); replace Np := Lib.hid (Np.out.grR G2.out hg); replace G1 := Lib.hid (G1.out.gro hg (by have := LTG1.out; have := LTG2.out; omega)); replace Zp2 := Lib.hid (Zp2.out.grR G2.out hg); replace Np2 := Lib.hid (Np2.out.grR G2.out hg); replace B1 := Lib.hid (Below.gr B1.out (by have := LTG1.out; have := LTG2.out; omega) hg B1.out.size); replace G2 := Lib.hid hz; clear hz hg; have pc6 := Lib.hid trivial)
    | (clear pc6; refine wpList_ldR (by rfl) _ rfl (by rfl) V0.out ?_; have pc7 := Lib.hid trivial)
    | (clear pc7; go_at_call 31; refine Calls.mono (qinv_any (L := 100000000) (z := xi) (d := di) X0.out Y0.out LZ0.out LD0.out LL2.out HA0.out HZi.out HDi.out) ?_; rintro e v3 ⟨Pi, ci, Qi, ki, rfl, ho, ho2, hb⟩; replace V0 := Lib.hid (V0.out.below hb V0.out.lt); replace X0 := Lib.hid (X0.out.below hb); replace Y0 := Lib.hid (Y0.out.below hb); replace V1 := Lib.hid (V1.out.below hb V1.out.lt); replace X1 := Lib.hid (X1.out.below hb); replace Y1 := Lib.hid (Y1.out.below hb); replace Zp := Lib.hid (Zp.out.below hb); replace Np := Lib.hid (Np.out.below hb); replace G1 := Lib.hid (G1.out.below hb G1.out.lt); replace Zp2 := Lib.hid (Zp2.out.below hb); replace Np2 := Lib.hid (Np2.out.below hb); replace G2 := Lib.hid (G2.out.below hb G2.out.lt); replace B1 := Lib.hid (B1.out.trans (hb.mono B1.out.size)); have Zi := Lib.hid (Zo.of_own ho); have Ni := Lib.hid ho2.rd; clear ho ho2; clear hb; have pc8 := Lib.hid trivial)
    | (clear pc8; have LTG3 : Hid (w.heap.size + 1 < v3.heap.size ∧ v1.heap.size < v3.heap.size ∧ v2.heap.size < v3.heap.size) := ⟨V1.out.lt, G1.out.lt, G2.out.lt⟩; have hb : Below v3.heap.size v3 (v3.alloc (.cells #[.bool false, .slice none 0 0, .slice none 0 0] 42)) := (Below.refl _ _).alloc (Nat.le_refl _) _; replace V0 := Lib.hid (V0.out.below hb V0.out.lt); replace X0 := Lib.hid (X0.out.below hb); replace Y0 := Lib.hid (Y0.out.below hb); replace V1 := Lib.hid (V1.out.below hb V1.out.lt); replace X1 := Lib.hid (X1.out.below hb); replace Y1 := Lib.hid (Y1.out.below hb); replace Zp := Lib.hid (Zp.out.below hb); replace Np := Lib.hid (Np.out.below hb); replace G1 := Lib.hid (G1.out.below hb G1.out.lt); replace Zp2 := Lib.hid (Zp2.out.below hb); replace Np2 := Lib.hid (Np2.out.below hb); replace G2 := Lib.hid (G2.out.below hb G2.out.lt); replace Zi := Lib.hid (Zi.out.below hb); replace Ni := Lib.hid (Ni.out.below hb); replace B1 := Lib.hid (B1.out.trans (hb.mono B1.out.size)); clear hb; have G3 := Lib.hid (Rb.new v3 false none 0 0 none 0 0); refine wpList_stR (by rfl) _ _ rfl (by rfl) (by rfl) G3.out ?_; intro wsC hz hg; replace V0 := Lib.hid (V0.out.gro hg (by have := LTG1.out; have := LTG2.out; have := LTG3.out; omega)); replace X0 := Lib.hid (X0.out.grR G3.out hg); replace Y0 := Lib.hid (Y0.out.grR G3.out hg); replace V1 := Lib.hid (V1.out.gro hg (by have := LTG1.out; have := LTG2.out; have := LTG3.out; omega)); replace X1 := Lib.hid (X1.out.grR G3.out hg); replace Y1 := Lib.hid (Y1.out.grR G3.out hg); replace Zp := Lib.hid (Zp.out.grR G3.out hg); replace Np := Lib.hid (Np.out.grR G3.out hg); replace G1 := Lib.hid (G1.out.gro hg (by have := LTG1.out; have := LTG2.out; have := LTG3.out; omega)); replace Zp2 := Lib.hid (Zp2.out.grR G3.out hg); replace Np2 := Lib.hid (Np2.out.grR G3.out hg); replace G2 := Lib.hid (G2.out.gro hg (by have := LTG1.out; have := LTG2.out; have := LTG3.out; omega)); replace Zi := Lib.hid (Zi.out.grR G3.out hg); replace Ni := Lib.hid (Ni.out.grR G3.out hg); replace B1 := Lib.hid (Below.gr B1.out (by have := LTG1.out; have := LTG2.out; have := LTG3.out; omega) hg B1.out.size); replace G3 := Lib.hid hz; clear hz hg; have pc9 := Lib.hid trivial))
  clear pc9
  have LT4 : Hid (w.heap.size + 1 < wsC.heap.size ∧ v1.heap.size < wsC.heap.size ∧ v2.heap.size < wsC.heap.size ∧ v3.heap.size < wsC.heap.size) := ⟨V1.out.lt, G1.out.lt, G2.out.lt, G3.out.lt⟩
  have HB : Hid (Below wsC.heap.size wsC wsC.drew) := below_drewN _ wsC 1
  refine wp_region_held_drew (S := fun w' => Below wsC.heap.size wsC w') (by kernel_rfl) (HB.out) (fun hHeld => ?_)
  refine wpAnyH_takeL (i := 1) (oi := _) rfl (by kernel_rfl) (by kernel_rfl) (by kernel_rfl) (fun _ _ _ h => h) (yields_ldR (by rfl) _ rfl (by rfl) (fun _ hb => V0.out.below hb V0.out.lt)) hHeld ?_
  try simp only [Act.put, List.setIfInBounds_toArray, List.set_cons_zero, List.set_cons_succ]
  refine wpAnyH_rgt [(0, some 31), (2, some 33), (3, some 30), (4, some 34), (5, some 35), (6, some 11)] [3, 4, 5] (isNewR wsC.heap.size) [(0, isR xk dk wsC.heap.size), (2, isRT xj dj wsC.heap.size), (3, isRT xj dj wsC.heap.size), (4, isR xj dj wsC.heap.size), (5, isV (.bool true))] wsC (f0 := 2) (by kernel_rfl) (by kernel_rfl) (by rfl) HB.out (fun _ h => h) (fun _ _ _ _ _ h => h) (isNewR_good _) ⟨isR_good _ _ _, isRT_good _ _ _, isRT_good _ _ _, isR_good _ _ _, isV_good _, trivial⟩ ?_ ?_ ?_
  · clear hHeld HB
    show RgOps _ _ _ _ _ _ _ _ _ [0, 2, 6]
    refine RgOps.consL (o := _) (ds := []) rfl rfl (by kernel_rfl) (fun vals wr hbr hC hdep K hK => ?_) ?_
    · have BB := Lib.hid hbr
      clear hdep
      clear hbr hC
      simp only [Upd2, Act.put, List.setIfInBounds_toArray, List.set_cons_zero, List.set_cons_succ] at hK ⊢
      go_simp
      go_at_call 32
      refine Calls.mono (r3fromInt_any (a := 1) (z := xk) (d := dk) I1.out HZk.out HDk.out _) ?_
      rintro e wq ⟨R, cR, R2, cR2, rfl, ho, ho2, hb⟩
      exact hK.out _ _ (LeavesB.giveR BB.out.size ho ho2 hb)
    refine RgOps.consL (o := _) (ds := [0]) rfl rfl (by kernel_rfl) (fun vals wr hbr hC hdep K hK => ?_) ?_
    · have BB := Lib.hid hbr
      obtain ⟨⟨P0, c0, Q0, k0, e0, o0, u0⟩, -⟩ := hdep
      clear hbr hC
      simp only [e0, Upd2, Act.put, List.setIfInBounds_toArray, List.set_cons_zero, List.set_cons_succ] at hK ⊢
      clear e0
      go_simp
      go_at_call 30
      refine Calls.mono (r3div_any (z := xj) (d := dj) (Zo.of_own o0).in_ (Nin.of_rd u0.rd) (X0.out.below BB.out) (Y0.out.below BB.out) (Nat.le_trans LZk.out (by decide)) (Nat.le_trans LDk.out (by decide)) (Nat.le_trans LZ0.out (by decide)) (Nat.le_trans LD0.out (by decide)) HA0.out HZj.out HDj.out) ?_
      rintro e wq ⟨R, cR, R2, cR2, rfl, ho, ho2, hb⟩
      exact hK.out _ _ (LeavesB.behind hb ⟨_, _, _, _, rfl, ho.mono BB.out.size, ho2.mono BB.out.size⟩ rfl)
    refine RgOps.consL (o := _) (ds := []) rfl rfl (by kernel_rfl) (fun vals wr hbr hC hdep K hK => ?_) RgOps.nil
    · have BB := Lib.hid hbr
      clear hdep
      clear hbr hC
      simp only [Upd2, Act.put, List.setIfInBounds_toArray, List.set_cons_zero, List.set_cons_succ] at hK ⊢
      go_simp
      exact hK.out _ _ (LeavesB.newR BB.out.size)
  · clear hHeld HB
    show TaAll _ _ _ _ _ [3, 4, 5]
    refine TaAll.cons (o := _) (ds := [2]) rfl rfl (by kernel_rfl) (fun vals wr hdep => ?_) ?_
    · obtain ⟨⟨P2, c2, Q2, k2, e2, o2, u2⟩, -⟩ := hdep
      refine ⟨_, fun S => Or.inl ⟨by rfl, ?_⟩, ⟨_, _, _, _, rfl, o2, u2⟩, rfl⟩
      intro w' _
      simp only [e2, Upd2, Act.put, List.setIfInBounds_toArray, List.set_cons_zero, List.set_cons_succ]
      go_simp
    refine TaAll.cons (o := _) (ds := [3]) rfl rfl (by kernel_rfl) (fun vals wr hdep => ?_) ?_
    · obtain ⟨⟨P3, c3, Q3, k3, e3, o3, u3⟩, -⟩ := hdep
      refine ⟨_, fun S => Or.inl ⟨by rfl, ?_⟩, ⟨_, _, _, _, rfl, o3, u3⟩, rfl⟩
      intro w' _
      simp only [e3, Upd2, Act.put, List.setIfInBounds_toArray, List.set_cons_zero, List.set_cons_succ]
      go_simp
    refine TaAll.cons (o := _) (ds := [3]) rfl rfl (by kernel_rfl) (fun vals wr hdep => ?_) TaAll.nil
    · obtain ⟨⟨P3, c3, Q3, k3, e3, o3, u3⟩, -⟩ := hdep
      refine ⟨_, fun S => Or.inl ⟨by rfl, ?_⟩, ⟨rfl, rfl⟩, rfl⟩
      intro w' _
      simp only [e3, Upd2, Act.put, List.setIfInBounds_toArray, List.set_cons_zero, List.set_cons_succ]
      go_simp
  clear hHeld HB
  intro vals wr hb hdep hD
  obtain ⟨⟨P0, c0, Q0, k0, e0, o0, u0⟩, ⟨P2, c2, Q2, k2, e2, o2, u2⟩, ⟨P3, c3, Q3, k3, e3, o3, u3⟩, ⟨P4, c4, Q4, k4, e4, o4, u4⟩, ⟨e5, -⟩, ⟨g6, e6, l6, z6⟩, -⟩ := hdep
  simp only [Upd2, e0, e2, e3, e4, e5, e6, Act.put, List.setIfInBounds_toArray, List.set_cons_zero, List.set_cons_succ]
  clear e0 e2 e3 e4 e5 e6
  clear hD vals
  replace V0 := Lib.hid (V0.out.below hb V0.out.lt)
  replace X0 := Lib.hid (X0.out.below hb)
  replace Y0 := Lib.hid (Y0.out.below hb)
  replace V1 := Lib.hid (V1.out.below hb V1.out.lt)
  replace X1 := Lib.hid (X1.out.below hb)
  replace Y1 := Lib.hid (Y1.out.below hb)
  replace Zp := Lib.hid (Zp.out.below hb)
  replace Np := Lib.hid (Np.out.below hb)
  replace G1 := Lib.hid (G1.out.below hb G1.out.lt)
  replace Zp2 := Lib.hid (Zp2.out.below hb)
  replace Np2 := Lib.hid (Np2.out.below hb)
  replace G2 := Lib.hid (G2.out.below hb G2.out.lt)
  replace Zi := Lib.hid (Zi.out.below hb)
  replace Ni := Lib.hid (Ni.out.below hb)
  replace G3 := Lib.hid (G3.out.below hb G3.out.lt)
  replace B1 := Lib.hid (B1.out.trans (hb.mono B1.out.size))
  have HB := Lib.hid hb
  clear hb
  have Zj := Lib.hid (Zo.of_own o4); have Nj := Lib.hid u4.rd; have G4 := Lib.hid z6; have L6 := Lib.hid l6
  clear o0 u0 o2 u2 o3 u3 o4 u4 z6 l6
  refine wpAnyH_ready (rs := [7]) (by kernel_rfl) (by simp) ?_
  refine AllReadyH.consL (o := _) rfl (fun K hK => ?_) AllReadyH.nil
  rw [if_pos (by rfl)]
  refine wp_stR _ _ rfl (by rfl) (by rfl) G4.out ?_
  intro ws0 hz hg
  replace HB := Lib.hid (Below.gr HB.out (by have := L6.out; omega) hg HB.out.size)
  replace V0 := Lib.hid (V0.out.gro hg (by have := LTG1.out; have := LTG2.out; have := LTG3.out; have := LT4.out; have := L6.out; omega))
  replace X0 := Lib.hid (X0.out.grR G4.out hg)
  replace Y0 := Lib.hid (Y0.out.grR G4.out hg)
  replace V1 := Lib.hid (V1.out.gro hg (by have := LTG1.out; have := LTG2.out; have := LTG3.out; have := LT4.out; have := L6.out; omega))
  replace X1 := Lib.hid (X1.out.grR G4.out hg)
  replace Y1 := Lib.hid (Y1.out.grR G4.out hg)
  replace Zp := Lib.hid (Zp.out.grR G4.out hg)
  replace Np := Lib.hid (Np.out.grR G4.out hg)
  replace G1 := Lib.hid (G1.out.gro hg (by have := LTG1.out; have := LTG2.out; have := LTG3.out; have := LT4.out; have := L6.out; omega))
  replace Zp2 := Lib.hid (Zp2.out.grR G4.out hg)
  replace Np2 := Lib.hid (Np2.out.grR G4.out hg)
  replace G2 := Lib.hid (G2.out.gro hg (by have := LTG1.out; have := LTG2.out; have := LTG3.out; have := LT4.out; have := L6.out; omega))
  replace Zi := Lib.hid (Zi.out.grR G4.out hg)
  replace Ni := Lib.hid (Ni.out.grR G4.out hg)
  replace G3 := Lib.hid (G3.out.gro hg (by have := LTG1.out; have := LTG2.out; have := LTG3.out; have := LT4.out; have := L6.out; omega))
  replace Zj := Lib.hid (Zj.out.grR G4.out hg)
  replace Nj := Lib.hid (Nj.out.grR G4.out hg)
  replace B1 := Lib.hid (Below.gr B1.out (by have := LTG1.out; have := LTG2.out; have := LTG3.out; have := LT4.out; have := L6.out; omega) hg B1.out.size)
  replace G4 := Lib.hid hz
  refine hK.out _ _ ⟨HB.out, HB.out⟩ (fun _ => ?_)
  clear hK K hg hz
  try simp only [Act.put]
  have hHeld : Below wsC.heap.size wsC _ ∧ Below wsC.heap.size wsC _ := ⟨HB.out, HB.out⟩
  refine wpAnyH_takeL (i := 8) (oi := _) (v := ?_) rfl (by kernel_rfl) (by kernel_rfl) (by kernel_rfl) (fun _ _ _ h => h) (Or.inl ⟨by rfl, ?_⟩) hHeld ?_
  rotate_left
  · (intro w' hSw; (try dsimp only at hSw); go_simp; try (with_reducible rfl))
  try simp only [Act.put, List.setIfInBounds_toArray, List.set_cons_zero, List.set_cons_succ]
  clear hHeld
  refine wpAnyH_done (by kernel_rfl) ?_ _
  clear HB
  have pc0 := Lib.hid trivial
  go_wp2_with (first
    | (clear pc0; refine wpList_ldR (by rfl) _ rfl (by rfl) G1.out ?_; have pc1 := Lib.hid trivial)
    | (clear pc1; refine wpList_ldR (by rfl) _ rfl (by rfl) G2.out ?_; have pc2 := Lib.hid trivial)
    | (clear pc2; go_at_call 33; refine Calls.mono (r3equal_any (b := true) Zp.out Zp2.out Np.out Np2.out (by simpa using EQp_p2.out)) ?_; rintro e v4 ⟨rfl, hb⟩; replace V0 := Lib.hid (V0.out.below hb V0.out.lt); replace X0 := Lib.hid (X0.out.below hb); replace Y0 := Lib.hid (Y0.out.below hb); replace V1 := Lib.hid (V1.out.below hb V1.out.lt); replace X1 := Lib.hid (X1.out.below hb); replace Y1 := Lib.hid (Y1.out.below hb); replace Zp := Lib.hid (Zp.out.below hb); replace Np := Lib.hid (Np.out.below hb); replace G1 := Lib.hid (G1.out.below hb G1.out.lt); replace Zp2 := Lib.hid (Zp2.out.below hb); replace Np2 := Lib.hid (Np2.out.below hb); replace G2 := Lib.hid (G2.out.below hb G2.out.lt); replace Zi := Lib.hid (Zi.out.below hb); replace Ni := Lib.hid (Ni.out.below hb); replace G3 := Lib.hid (G3.out.below hb G3.out.lt); replace G4 := Lib.hid (G4.out.below hb G4.out.lt); replace Zj := Lib.hid (Zj.out.below hb); replace Nj := Lib.hid (Nj.out.below hb); replace B1 := Lib.hid (B1.out.trans (hb.mono B1.out.size)); clear hb; have pc3 := Lib.hid trivial)
    | (clear pc3; refine wpList_ldR (by rfl) _ rfl (by rfl) G3.out ?_; have pc4 := Lib.hid trivial)
    | (clear pc4; refine wpList_ldR (by rfl) _ rfl (by rfl) G4.out ?_; have pc5 := Lib.hid trivial)
    | (clear pc5; go_at_call 33; refine Calls.mono (r3equal_any (b := true) Zi.out Zj.out Ni.out Nj.out (by simpa using EQi_j.out)) ?_; rintro e v5 ⟨rfl, hb⟩; replace V0 := Lib.hid (V0.out.below hb V0.out.lt); replace X0 := Lib.hid (X0.out.below hb); replace Y0 := Lib.hid (Y0.out.below hb); replace V1 := Lib.hid (V1.out.below hb V1.out.lt); replace X1 := Lib.hid (X1.out.below hb); replace Y1 := Lib.hid (Y1.out.below hb); replace Zp := Lib.hid (Zp.out.below hb); replace Np := Lib.hid (Np.out.below hb); replace G1 := Lib.hid (G1.out.below hb G1.out.lt); replace Zp2 := Lib.hid (Zp2.out.below hb); replace Np2 := Lib.hid (Np2.out.below hb); replace G2 := Lib.hid (G2.out.below hb G2.out.lt); replace Zi := Lib.hid (Zi.out.below hb); replace Ni := Lib.hid (Ni.out.below hb); replace G3 := Lib.hid (G3.out.below hb G3.out.lt); replace G4 := Lib.hid (G4.out.below hb G4.out.lt); replace Zj := Lib.hid (Zj.out.below hb); replace Nj := Lib.hid (Nj.out.below hb); replace B1 := Lib.hid (B1.out.trans (hb.mono B1.out.size)); clear hb; have pc6 := Lib.hid trivial))
  clear pc6
  have HB : Hid (Below v5.heap.size v5 v5.drew) := below_drewN _ v5 1
  refine wp_region_held_drew (S := fun w' => Below v5.heap.size v5 w') (by kernel_rfl) (HB.out) (fun hHeld => ?_)
  refine wpAnyH_ready (rs := [0]) (by kernel_rfl) (by simp) ?_
  refine AllReadyH.consL (o := _) rfl (fun K hK => ?_) AllReadyH.nil
  clear hHeld
  go_simp
  go_at_call 34
  refine Calls.mono (rawake_any _) ?_
  rintro e v6 ⟨rfl, hb⟩
  replace HB := Lib.hid (HB.out.trans (hb.mono HB.out.size))
  clear hb
  refine hK.out _ _ HB.out (fun hHeld => ?_)
  clear hK K
  try simp only [Act.put, List.setIfInBounds_toArray, List.set_cons_zero, List.set_cons_succ]
  refine wpAnyH_takeL (i := 1) (oi := _) (v := ?_) rfl (by kernel_rfl) (by kernel_rfl) (by kernel_rfl) (fun _ _ _ h => h) (Or.inl ⟨by rfl, ?_⟩) hHeld ?_
  rotate_left
  · (intro w' hSw; (try dsimp only at hSw); go_simp; try (with_reducible rfl))
  try simp only [Act.put, List.setIfInBounds_toArray, List.set_cons_zero, List.set_cons_succ]
  refine wpAnyH_takeL (i := 2) (oi := _) rfl (by kernel_rfl) (by kernel_rfl) (by kernel_rfl) (fun _ _ _ h => h) (yields_ldR (by rfl) _ rfl (by rfl) (fun _ hb => V0.out.below hb V0.out.lt)) hHeld ?_
  try simp only [Act.put, List.setIfInBounds_toArray, List.set_cons_zero, List.set_cons_succ]
  refine wpAnyH_takeL (i := 4) (oi := _) rfl (by kernel_rfl) (by kernel_rfl) (by kernel_rfl) (fun _ _ _ h => h) (yields_ldR (by rfl) _ rfl (by rfl) (fun _ hb => V0.out.below hb V0.out.lt)) hHeld ?_
  try simp only [Act.put, List.setIfInBounds_toArray, List.set_cons_zero, List.set_cons_succ]
  refine wpAnyH_ready (rs := [3]) (by kernel_rfl) (by simp) ?_
  refine AllReadyH.consL (o := _) rfl (fun K hK => ?_) AllReadyH.nil
  clear hHeld
  go_simp
  go_at_call 35
  refine Calls.mono (qneg_any (L := 100000000) (z := xn) (d := dn) (X0.out.below HB.out) (Y0.out.below HB.out) LZ0.out LD0.out LL2.out HZn.out HDn.out) ?_
  rintro e v7 ⟨Pn, cn, Qn, kn, rfl, ho, ho2, hb⟩
  replace HB := Lib.hid (HB.out.trans (hb.mono HB.out.size))
  have Zn := Lib.hid (Zo.of_own ho)
  have Nn := Lib.hid ho2.rd
  clear ho ho2
  clear hb
  refine hK.out _ _ HB.out (fun hHeld => ?_)
  clear hK K
  try simp only [Act.put, List.setIfInBounds_toArray, List.set_cons_zero, List.set_cons_succ]
  refine wpAnyH_ready (rs := [5]) (by kernel_rfl) (by simp) ?_
  refine AllReadyH.consL (o := _) rfl (fun K hK => ?_) AllReadyH.nil
  clear hHeld
  go_simp
  go_at_call 36
  refine Calls.mono (r3neg_any (z2 := xn2) (d2 := dn2) (X0.out.below HB.out) (Y0.out.below HB.out) (Nat.le_trans LZ0.out (by decide)) (Nat.le_trans LD0.out (by decide)) HZn2.out HDn2.out) ?_
  rintro e v8 ⟨Pn2, cn2, Qn2, kn2, rfl, ho, ho2, hb⟩
  replace HB := Lib.hid (HB.out.trans (hb.mono HB.out.size))
  replace Zn := Lib.hid (Zn.out.below hb)
  replace Nn := Lib.hid (Nn.out.below hb)
  have Zn2 := Lib.hid (Zo.of_own ho)
  have Nn2 := Lib.hid ho2.rd
  clear ho ho2
  clear hb
  refine hK.out _ _ HB.out (fun hHeld => ?_)
  clear hK K
  try simp only [Act.put, List.setIfInBounds_toArray, List.set_cons_zero, List.set_cons_succ]
  refine wpAnyH_ready (rs := [6]) (by kernel_rfl) (by simp) ?_
  refine AllReadyH.consL (o := _) rfl (fun K hK => ?_) AllReadyH.nil
  clear hHeld
  go_simp
  go_at_call 33
  refine Calls.mono (r3equal_any (b := true) Zn.out Zn2.out Nn.out Nn2.out (by simpa using EQn_n2.out)) ?_
  rintro e v9 ⟨rfl, hb⟩
  replace HB := Lib.hid (HB.out.trans (hb.mono HB.out.size))
  replace Zn := Lib.hid (Zn.out.below hb)
  replace Nn := Lib.hid (Nn.out.below hb)
  replace Zn2 := Lib.hid (Zn2.out.below hb)
  replace Nn2 := Lib.hid (Nn2.out.below hb)
  clear hb
  refine hK.out _ _ HB.out (fun hHeld => ?_)
  clear hK K
  try simp only [Act.put, List.setIfInBounds_toArray, List.set_cons_zero, List.set_cons_succ]
  refine wpAnyH_takeL (i := 7) (oi := _) (v := ?_) rfl (by kernel_rfl) (by kernel_rfl) (by kernel_rfl) (fun _ _ _ h => h) (Or.inl ⟨by rfl, ?_⟩) hHeld ?_
  rotate_left
  · (intro w' hSw; (try dsimp only at hSw); go_simp; try (with_reducible rfl))
  try simp only [Act.put, List.setIfInBounds_toArray, List.set_cons_zero, List.set_cons_succ]
  refine wpAnyH_takeL (i := 8) (oi := _) (v := ?_) rfl (by kernel_rfl) (by kernel_rfl) (by kernel_rfl) (fun _ _ _ h => h) (Or.inl ⟨by rfl, ?_⟩) hHeld ?_
  rotate_left
  · (intro w' hSw; (try dsimp only at hSw); go_simp; try (with_reducible rfl))
  try simp only [Act.put, List.setIfInBounds_toArray, List.set_cons_zero, List.set_cons_succ]
  refine wpAnyH_takeL (i := 9) (oi := _) rfl (by kernel_rfl) (by kernel_rfl) (by kernel_rfl) (fun _ _ _ h => h) (yields_ldR (by rfl) _ rfl (by rfl) (fun _ hb => V0.out.below hb V0.out.lt)) hHeld ?_
  try simp only [Act.put, List.setIfInBounds_toArray, List.set_cons_zero, List.set_cons_succ]
  refine wpAnyH_takeL (i := 10) (oi := _) rfl (by kernel_rfl) (by kernel_rfl) (by kernel_rfl) (fun _ _ _ h => h) (yields_ldR (by rfl) _ rfl (by rfl) (fun _ hb => V1.out.below hb V1.out.lt)) hHeld ?_
  try simp only [Act.put, List.setIfInBounds_toArray, List.set_cons_zero, List.set_cons_succ]
  refine wpAnyH_takeL (i := 12) (oi := _) rfl (by kernel_rfl) (by kernel_rfl) (by kernel_rfl) (fun _ _ _ h => h) (yields_ldR (by rfl) _ rfl (by rfl) (fun _ hb => V0.out.below hb V0.out.lt)) hHeld ?_
  try simp only [Act.put, List.setIfInBounds_toArray, List.set_cons_zero, List.set_cons_succ]
  refine wpAnyH_takeL (i := 13) (oi := _) rfl (by kernel_rfl) (by kernel_rfl) (by kernel_rfl) (fun _ _ _ h => h) (yields_ldR (by rfl) _ rfl (by rfl) (fun _ hb => V1.out.below hb V1.out.lt)) hHeld ?_
  try simp only [Act.put, List.setIfInBounds_toArray, List.set_cons_zero, List.set_cons_succ]
  refine wpAnyH_ready (rs := [11]) (by kernel_rfl) (by simp) ?_
  refine AllReadyH.consL (o := _) rfl (fun K hK => ?_) AllReadyH.nil
  clear hHeld
  go_simp
  go_at_call 37
  refine Calls.mono (qadd_any (L := 100000000) (z := xs) (d := ds) (X0.out.below HB.out) (Y0.out.below HB.out) (X1.out.below HB.out) (Y1.out.below HB.out) LZ0.out LD0.out LZ1.out LD1.out LL.out HZs.out HDs.out) ?_
  rintro e v10 ⟨Ps, cs, Qs, ks, rfl, ho, ho2, hb⟩
  replace HB := Lib.hid (HB.out.trans (hb.mono HB.out.size))
  replace Zn := Lib.hid (Zn.out.below hb)
  replace Nn := Lib.hid (Nn.out.below hb)
  replace Zn2 := Lib.hid (Zn2.out.below hb)
  replace Nn2 := Lib.hid (Nn2.out.below hb)
  have Zs := Lib.hid (Zo.of_own ho)
  have Ns := Lib.hid ho2.rd
  clear ho ho2
  clear hb
  refine hK.out _ _ HB.out (fun hHeld => ?_)
  clear hK K
  try simp only [Act.put, List.setIfInBounds_toArray, List.set_cons_zero, List.set_cons_succ]
  refine wpAnyH_ready (rs := [14]) (by kernel_rfl) (by simp) ?_
  refine AllReadyH.consL (o := _) rfl (fun K hK => ?_) AllReadyH.nil
  clear hHeld
  go_simp
  go_at_call 38
  refine Calls.mono (r3add_any (z := xs2) (d := ds2) (X0.out.below HB.out) (Y0.out.below HB.out) (X1.out.below HB.out) (Y1.out.below HB.out) (Nat.le_trans LZ0.out (by decide)) (Nat.le_trans LD0.out (by decide)) (Nat.le_trans LZ1.out (by decide)) (Nat.le_trans LD1.out (by decide)) HZs2.out HDs2.out) ?_
  rintro e v11 ⟨Ps2, cs2, Qs2, ks2, rfl, ho, ho2, hb⟩
  replace HB := Lib.hid (HB.out.trans (hb.mono HB.out.size))
  replace Zn := Lib.hid (Zn.out.below hb)
  replace Nn := Lib.hid (Nn.out.below hb)
  replace Zn2 := Lib.hid (Zn2.out.below hb)
  replace Nn2 := Lib.hid (Nn2.out.below hb)
  replace Zs := Lib.hid (Zs.out.below hb)
  replace Ns := Lib.hid (Ns.out.below hb)
  have Zs2 := Lib.hid (Zo.of_own ho)
  have Ns2 := Lib.hid ho2.rd
  clear ho ho2
  clear hb
  refine hK.out _ _ HB.out (fun hHeld => ?_)
  clear hK K
  try simp only [Act.put, List.setIfInBounds_toArray, List.set_cons_zero, List.set_cons_succ]
  refine wpAnyH_ready (rs := [15]) (by kernel_rfl) (by simp) ?_
  refine AllReadyH.consL (o := _) rfl (fun K hK => ?_) AllReadyH.nil
  clear hHeld
  go_simp
  go_at_call 33
  refine Calls.mono (r3equal_any (b := true) Zs.out Zs2.out Ns.out Ns2.out (by simpa using EQs_s2.out)) ?_
  rintro e v12 ⟨rfl, hb⟩
  replace HB := Lib.hid (HB.out.trans (hb.mono HB.out.size))
  replace Zn := Lib.hid (Zn.out.below hb)
  replace Nn := Lib.hid (Nn.out.below hb)
  replace Zn2 := Lib.hid (Zn2.out.below hb)
  replace Nn2 := Lib.hid (Nn2.out.below hb)
  replace Zs := Lib.hid (Zs.out.below hb)
  replace Ns := Lib.hid (Ns.out.below hb)
  replace Zs2 := Lib.hid (Zs2.out.below hb)
  replace Ns2 := Lib.hid (Ns2.out.below hb)
  clear hb
  refine hK.out _ _ HB.out (fun hHeld => ?_)
  clear hK K
  try simp only [Act.put, List.setIfInBounds_toArray, List.set_cons_zero, List.set_cons_succ]
  refine wpAnyH_takeL (i := 16) (oi := _) (v := ?_) rfl (by kernel_rfl) (by kernel_rfl) (by kernel_rfl) (fun _ _ _ h => h) (Or.inl ⟨by rfl, ?_⟩) hHeld ?_
  rotate_left
  · (intro w' hSw; (try dsimp only at hSw); go_simp; try (with_reducible rfl))
  try simp only [Act.put, List.setIfInBounds_toArray, List.set_cons_zero, List.set_cons_succ]
  refine wpAnyH_takeL (i := 17) (oi := _) (v := ?_) rfl (by kernel_rfl) (by kernel_rfl) (by kernel_rfl) (fun _ _ _ h => h) (Or.inl ⟨by rfl, ?_⟩) hHeld ?_
  rotate_left
  · (intro w' hSw; (try dsimp only at hSw); go_simp; try (with_reducible rfl))
  try simp only [Act.put, List.setIfInBounds_toArray, List.set_cons_zero, List.set_cons_succ]
  refine wpAnyH_takeL (i := 18) (oi := _) rfl (by kernel_rfl) (by kernel_rfl) (by kernel_rfl) (fun _ _ _ h => h) (yields_ldR (by rfl) _ rfl (by rfl) (fun _ hb => V0.out.below hb V0.out.lt)) hHeld ?_
  try simp only [Act.put, List.setIfInBounds_toArray, List.set_cons_zero, List.set_cons_succ]
  refine wpAnyH_takeL (i := 19) (oi := _) rfl (by kernel_rfl) (by kernel_rfl) (by kernel_rfl) (fun _ _ _ h => h) (yields_ldR (by rfl) _ rfl (by rfl) (fun _ hb => V1.out.below hb V1.out.lt)) hHeld ?_
  try simp only [Act.put, List.setIfInBounds_toArray, List.set_cons_zero, List.set_cons_succ]
  refine wpAnyH_takeL (i := 21) (oi := _) rfl (by kernel_rfl) (by kernel_rfl) (by kernel_rfl) (fun _ _ _ h => h) (yields_ldR (by rfl) _ rfl (by rfl) (fun _ hb => V0.out.below hb V0.out.lt)) hHeld ?_
  try simp only [Act.put, List.setIfInBounds_toArray, List.set_cons_zero, List.set_cons_succ]
  refine wpAnyH_takeL (i := 22) (oi := _) rfl (by kernel_rfl) (by kernel_rfl) (by kernel_rfl) (fun _ _ _ h => h) (yields_ldR (by rfl) _ rfl (by rfl) (fun _ hb => V1.out.below hb V1.out.lt)) hHeld ?_
  try simp only [Act.put, List.setIfInBounds_toArray, List.set_cons_zero, List.set_cons_succ]
  refine wpAnyH_ready (rs := [20]) (by kernel_rfl) (by simp) ?_
  refine AllReadyH.consL (o := _) rfl (fun K hK => ?_) AllReadyH.nil
  clear hHeld
  go_simp
  go_at_call 39
  refine Calls.mono (qsub_any (L := 100000000) (z := xt) (d := dt) (X0.out.below HB.out) (Y0.out.below HB.out) (X1.out.below HB.out) (Y1.out.below HB.out) LZ0.out LD0.out LZ1.out LD1.out LL.out HZt.out HDt.out) ?_
  rintro e v13 ⟨Pt, ct, Qt, kt, rfl, ho, ho2, hb⟩
  replace HB := Lib.hid (HB.out.trans (hb.mono HB.out.size))
  replace Zn := Lib.hid (Zn.out.below hb)
  replace Nn := Lib.hid (Nn.out.below hb)
  replace Zn2 := Lib.hid (Zn2.out.below hb)
  replace Nn2 := Lib.hid (Nn2.out.below hb)
  replace Zs := Lib.hid (Zs.out.below hb)
  replace Ns := Lib.hid (Ns.out.below hb)
  replace Zs2 := Lib.hid (Zs2.out.below hb)
  replace Ns2 := Lib.hid (Ns2.out.below hb)
  have Zt := Lib.hid (Zo.of_own ho)
  have Nt := Lib.hid ho2.rd
  clear ho ho2
  clear hb
  refine hK.out _ _ HB.out (fun hHeld => ?_)
  clear hK K
  try simp only [Act.put, List.setIfInBounds_toArray, List.set_cons_zero, List.set_cons_succ]
  refine wpAnyH_ready (rs := [23]) (by kernel_rfl) (by simp) ?_
  refine AllReadyH.consL (o := _) rfl (fun K hK => ?_) AllReadyH.nil
  clear hHeld
  go_simp
  go_at_call 40
  refine Calls.mono (r3sub_any (z := xt2) (d := dt2) (X0.out.below HB.out) (Y0.out.below HB.out) (X1.out.below HB.out) (Y1.out.below HB.out) (Nat.le_trans LZ0.out (by decide)) (Nat.le_trans LD0.out (by decide)) (Nat.le_trans LZ1.out (by decide)) (Nat.le_trans LD1.out (by decide)) HZt2.out HDt2.out) ?_
  rintro e v14 ⟨Pt2, ct2, Qt2, kt2, rfl, ho, ho2, hb⟩
  replace HB := Lib.hid (HB.out.trans (hb.mono HB.out.size))
  replace Zn := Lib.hid (Zn.out.below hb)
  replace Nn := Lib.hid (Nn.out.below hb)
  replace Zn2 := Lib.hid (Zn2.out.below hb)
  replace Nn2 := Lib.hid (Nn2.out.below hb)
  replace Zs := Lib.hid (Zs.out.below hb)
  replace Ns := Lib.hid (Ns.out.below hb)
  replace Zs2 := Lib.hid (Zs2.out.below hb)
  replace Ns2 := Lib.hid (Ns2.out.below hb)
  replace Zt := Lib.hid (Zt.out.below hb)
  replace Nt := Lib.hid (Nt.out.below hb)
  have Zt2 := Lib.hid (Zo.of_own ho)
  have Nt2 := Lib.hid ho2.rd
  clear ho ho2
  clear hb
  refine hK.out _ _ HB.out (fun hHeld => ?_)
  clear hK K
  try simp only [Act.put, List.setIfInBounds_toArray, List.set_cons_zero, List.set_cons_succ]
  refine wpAnyH_ready (rs := [24]) (by kernel_rfl) (by simp) ?_
  refine AllReadyH.consL (o := _) rfl (fun K hK => ?_) AllReadyH.nil
  clear hHeld
  go_simp
  go_at_call 33
  refine Calls.mono (r3equal_any (b := true) Zt.out Zt2.out Nt.out Nt2.out (by simpa using EQt_t2.out)) ?_
  rintro e v15 ⟨rfl, hb⟩
  replace HB := Lib.hid (HB.out.trans (hb.mono HB.out.size))
  replace Zn := Lib.hid (Zn.out.below hb)
  replace Nn := Lib.hid (Nn.out.below hb)
  replace Zn2 := Lib.hid (Zn2.out.below hb)
  replace Nn2 := Lib.hid (Nn2.out.below hb)
  replace Zs := Lib.hid (Zs.out.below hb)
  replace Ns := Lib.hid (Ns.out.below hb)
  replace Zs2 := Lib.hid (Zs2.out.below hb)
  replace Ns2 := Lib.hid (Ns2.out.below hb)
  replace Zt := Lib.hid (Zt.out.below hb)
  replace Nt := Lib.hid (Nt.out.below hb)
  replace Zt2 := Lib.hid (Zt2.out.below hb)
  replace Nt2 := Lib.hid (Nt2.out.below hb)
  clear hb
  refine hK.out _ _ HB.out (fun hHeld => ?_)
  clear hK K
  try simp only [Act.put, List.setIfInBounds_toArray, List.set_cons_zero, List.set_cons_succ]
  refine wpAnyH_takeL (i := 25) (oi := _) (v := ?_) rfl (by kernel_rfl) (by kernel_rfl) (by kernel_rfl) (fun _ _ _ h => h) (Or.inl ⟨by rfl, ?_⟩) hHeld ?_
  rotate_left
  · (intro w' hSw; (try dsimp only at hSw); go_simp; try (with_reducible rfl))
  try simp only [Act.put, List.setIfInBounds_toArray, List.set_cons_zero, List.set_cons_succ]
  refine wpAnyH_takeL (i := 26) (oi := _) (v := ?_) rfl (by kernel_rfl) (by kernel_rfl) (by kernel_rfl) (fun _ _ _ h => h) (Or.inl ⟨by rfl, ?_⟩) hHeld ?_
  rotate_left
  · (intro w' hSw; (try dsimp only at hSw); go_simp; try (with_reducible rfl))
  try simp only [Act.put, List.setIfInBounds_toArray, List.set_cons_zero, List.set_cons_succ]
  refine wpAnyH_takeL (i := 27) (oi := _) rfl (by kernel_rfl) (by kernel_rfl) (by kernel_rfl) (fun _ _ _ h => h) (yields_ldR (by rfl) _ rfl (by rfl) (fun _ hb => V0.out.below hb V0.out.lt)) hHeld ?_
  try simp only [Act.put, List.setIfInBounds_toArray, List.set_cons_zero, List.set_cons_succ]
  refine wpAnyH_takeL (i := 28) (oi := _) rfl (by kernel_rfl) (by kernel_rfl) (by kernel_rfl) (fun _ _ _ h => h) (yields_ldR (by rfl) _ rfl (by rfl) (fun _ hb => V1.out.below hb V1.out.lt)) hHeld ?_
  try simp only [Act.put, List.setIfInBounds_toArray, List.set_cons_zero, List.set_cons_succ]
  refine wpAnyH_takeL (i := 30) (oi := _) rfl (by kernel_rfl) (by kernel_rfl) (by kernel_rfl) (fun _ _ _ h => h) (yields_ldR (by rfl) _ rfl (by rfl) (fun _ hb => V0.out.below hb V0.out.lt)) hHeld ?_
  try simp only [Act.put, List.setIfInBounds_toArray, List.set_cons_zero, List.set_cons_succ]
  refine wpAnyH_takeL (i := 31) (oi := _) rfl (by kernel_rfl) (by kernel_rfl) (by kernel_rfl) (fun _ _ _ h => h) (yields_ldR (by rfl) _ rfl (by rfl) (fun _ hb => V1.out.below hb V1.out.lt)) hHeld ?_
  try simp only [Act.put, List.setIfInBounds_toArray, List.set_cons_zero, List.set_cons_succ]
  refine wpAnyH_ready (rs := [29]) (by kernel_rfl) (by simp) ?_
  refine AllReadyH.consL (o := _) rfl (fun K hK => ?_) AllReadyH.nil
  clear hHeld
  go_simp
  go_at_call 41
  refine Calls.mono (qmul_any (L := 100000000) (z := xv) (d := dv) (X0.out.below HB.out) (Y0.out.below HB.out) (X1.out.below HB.out) (Y1.out.below HB.out) LZ0.out LD0.out LZ1.out LD1.out LL.out HZv.out HDv.out) ?_
  rintro e v16 ⟨Pv, cv, Qv, kv, rfl, ho, ho2, hb⟩
  replace HB := Lib.hid (HB.out.trans (hb.mono HB.out.size))
  replace Zn := Lib.hid (Zn.out.below hb)
  replace Nn := Lib.hid (Nn.out.below hb)
  replace Zn2 := Lib.hid (Zn2.out.below hb)
  replace Nn2 := Lib.hid (Nn2.out.below hb)
  replace Zs := Lib.hid (Zs.out.below hb)
  replace Ns := Lib.hid (Ns.out.below hb)
  replace Zs2 := Lib.hid (Zs2.out.below hb)
  replace Ns2 := Lib.hid (Ns2.out.below hb)
  replace Zt := Lib.hid (Zt.out.below hb)
  replace Nt := Lib.hid (Nt.out.below hb)
  replace Zt2 := Lib.hid (Zt2.out.below hb)
  replace Nt2 := Lib.hid (Nt2.out.below hb)
  have Zv := Lib.hid (Zo.of_own ho)
  have Nv := Lib.hid ho2.rd
  clear ho ho2
  clear hb
  refine hK.out _ _ HB.out (fun hHeld => ?_)
  clear hK K
  try simp only [Act.put, List.setIfInBounds_toArray, List.set_cons_zero, List.set_cons_succ]
  refine wpAnyH_ready (rs := [32]) (by kernel_rfl) (by simp) ?_
  refine AllReadyH.consL (o := _) rfl (fun K hK => ?_) AllReadyH.nil
  clear hHeld
  go_simp
  go_at_call 42
  refine Calls.mono (r3mul_any (z := xv2) (d := dv2) (X0.out.below HB.out) (Y0.out.below HB.out) (X1.out.below HB.out) (Y1.out.below HB.out) (Nat.le_trans LZ0.out (by decide)) (Nat.le_trans LD0.out (by decide)) (Nat.le_trans LZ1.out (by decide)) (Nat.le_trans LD1.out (by decide)) HZv2.out HDv2.out) ?_
  rintro e v17 ⟨Pv2, cv2, Qv2, kv2, rfl, ho, ho2, hb⟩
  replace HB := Lib.hid (HB.out.trans (hb.mono HB.out.size))
  replace Zn := Lib.hid (Zn.out.below hb)
  replace Nn := Lib.hid (Nn.out.below hb)
  replace Zn2 := Lib.hid (Zn2.out.below hb)
  replace Nn2 := Lib.hid (Nn2.out.below hb)
  replace Zs := Lib.hid (Zs.out.below hb)
  replace Ns := Lib.hid (Ns.out.below hb)
  replace Zs2 := Lib.hid (Zs2.out.below hb)
  replace Ns2 := Lib.hid (Ns2.out.below hb)
  replace Zt := Lib.hid (Zt.out.below hb)
  replace Nt := Lib.hid (Nt.out.below hb)
  replace Zt2 := Lib.hid (Zt2.out.below hb)
  replace Nt2 := Lib.hid (Nt2.out.below hb)
  replace Zv := Lib.hid (Zv.out.below hb)
  replace Nv := Lib.hid (Nv.out.below hb)
  have Zv2 := Lib.hid (Zo.of_own ho)
  have Nv2 := Lib.hid ho2.rd
  clear ho ho2
  clear hb
  refine hK.out _ _ HB.out (fun hHeld => ?_)
  clear hK K
  try simp only [Act.put, List.setIfInBounds_toArray, List.set_cons_zero, List.set_cons_succ]
  refine wpAnyH_ready (rs := [33]) (by kernel_rfl) (by simp) ?_
  refine AllReadyH.consL (o := _) rfl (fun K hK => ?_) AllReadyH.nil
  clear hHeld
  go_simp
  go_at_call 33
  refine Calls.mono (r3equal_any (b := true) Zv.out Zv2.out Nv.out Nv2.out (by simpa using EQv_v2.out)) ?_
  rintro e v18 ⟨rfl, hb⟩
  replace HB := Lib.hid (HB.out.trans (hb.mono HB.out.size))
  replace Zn := Lib.hid (Zn.out.below hb)
  replace Nn := Lib.hid (Nn.out.below hb)
  replace Zn2 := Lib.hid (Zn2.out.below hb)
  replace Nn2 := Lib.hid (Nn2.out.below hb)
  replace Zs := Lib.hid (Zs.out.below hb)
  replace Ns := Lib.hid (Ns.out.below hb)
  replace Zs2 := Lib.hid (Zs2.out.below hb)
  replace Ns2 := Lib.hid (Ns2.out.below hb)
  replace Zt := Lib.hid (Zt.out.below hb)
  replace Nt := Lib.hid (Nt.out.below hb)
  replace Zt2 := Lib.hid (Zt2.out.below hb)
  replace Nt2 := Lib.hid (Nt2.out.below hb)
  replace Zv := Lib.hid (Zv.out.below hb)
  replace Nv := Lib.hid (Nv.out.below hb)
  replace Zv2 := Lib.hid (Zv2.out.below hb)
  replace Nv2 := Lib.hid (Nv2.out.below hb)
  clear hb
  refine hK.out _ _ HB.out (fun hHeld => ?_)
  clear hK K
  try simp only [Act.put, List.setIfInBounds_toArray, List.set_cons_zero, List.set_cons_succ]
  refine wpAnyH_takeL (i := 34) (oi := _) (v := ?_) rfl (by kernel_rfl) (by kernel_rfl) (by kernel_rfl) (fun _ _ _ h => h) (Or.inl ⟨by rfl, ?_⟩) hHeld ?_
  rotate_left
  · (intro w' hSw; (try dsimp only at hSw); go_simp; try (with_reducible rfl))
  try simp only [Act.put, List.setIfInBounds_toArray, List.set_cons_zero, List.set_cons_succ]
  refine wpAnyH_takeL (i := 35) (oi := _) (v := ?_) rfl (by kernel_rfl) (by kernel_rfl) (by kernel_rfl) (fun _ _ _ h => h) (Or.inl ⟨by rfl, ?_⟩) hHeld ?_
  rotate_left
  · (intro w' hSw; (try dsimp only at hSw); go_simp; try (with_reducible rfl))
  try simp only [Act.put, List.setIfInBounds_toArray, List.set_cons_zero, List.set_cons_succ]
  skip
  refine wpAnyH_done (by kernel_rfl) ?_ _
  have hb := HB.out
  replace V0 := Lib.hid (V0.out.below hb V0.out.lt)
  replace X0 := Lib.hid (X0.out.below hb)
  replace Y0 := Lib.hid (Y0.out.below hb)
  replace V1 := Lib.hid (V1.out.below hb V1.out.lt)
  replace X1 := Lib.hid (X1.out.below hb)
  replace Y1 := Lib.hid (Y1.out.below hb)
  replace Zp := Lib.hid (Zp.out.below hb)
  replace Np := Lib.hid (Np.out.below hb)
  replace G1 := Lib.hid (G1.out.below hb G1.out.lt)
  replace Zp2 := Lib.hid (Zp2.out.below hb)
  replace Np2 := Lib.hid (Np2.out.below hb)
  replace G2 := Lib.hid (G2.out.below hb G2.out.lt)
  replace Zi := Lib.hid (Zi.out.below hb)
  replace Ni := Lib.hid (Ni.out.below hb)
  replace G3 := Lib.hid (G3.out.below hb G3.out.lt)
  replace G4 := Lib.hid (G4.out.below hb G4.out.lt)
  replace Zj := Lib.hid (Zj.out.below hb)
  replace Nj := Lib.hid (Nj.out.below hb)
  replace B1 := Lib.hid (B1.out.trans (hb.mono B1.out.size))
  clear hHeld hb HB Zn Nn Zn2 Nn2 Zs Ns Zs2 Ns2 Zt Nt Zt2 Nt2 Zv Nv Zv2 Nv2
  go_wp2
  go_ret
  exact ⟨rfl, B1.out⟩
set_option maxRecDepth 100000 in
set_option maxHeartbeats 16000000 in
theorem rationalArithmetic_walk (b0 : Bool) (a0 : Option Addr) (len0 cap0 : Nat) (z0 : Int) (e0 : Option Addr) (n0 c0 q0 : Nat) (b1 : Bool) (a1 : Option Addr) (len1 cap1 : Nat) (z1 : Int) (e1 : Option Addr) (n1 c1 q1 : Nat) (w : World) (hx0 : Zin w b0 a0 len0 cap0 z0) (hl0 : len0 ≤ 1048576) (hp0 : Nin w e0 n0 c0 q0) (hn0 : n0 ≤ 1048576) (hx1 : Zin w b1 a1 len1 cap1 z1) (hl1 : len1 ≤ 1048576) (hp1 : Nin w e1 n1 c1 q1) (hn1 : n1 ≤ 1048576) :
    Calls Try.prog 6 #[.agg #[.bool b0, .slice a0 len0 cap0, .slice e0 n0 c0], .agg #[.bool b1, .slice a1 len1 cap1, .slice e1 n1 c1]] w fun e w' => e = .returned (.bool true) ∧ Below w.heap.size w w' := by
  by_cases hb : mkRat z1 q1 = 0 <;> by_cases ha : mkRat z0 q0 = 0
  · exact arith_b0_a0 b0 a0 len0 cap0 z0 e0 n0 c0 q0 b1 a1 len1 cap1 z1 e1 n1 c1 q1 hb ha w hx0 hl0 hp0 hn0 hx1 hl1 hp1 hn1
  · exact arith_b0_a b0 a0 len0 cap0 z0 e0 n0 c0 q0 b1 a1 len1 cap1 z1 e1 n1 c1 q1 hb ha w hx0 hl0 hp0 hn0 hx1 hl1 hp1 hn1
  · exact arith_b_a0 b0 a0 len0 cap0 z0 e0 n0 c0 q0 b1 a1 len1 cap1 z1 e1 n1 c1 q1 hb ha w hx0 hl0 hp0 hn0 hx1 hl1 hp1 hn1
  · exact arith_b_a b0 a0 len0 cap0 z0 e0 n0 c0 q0 b1 a1 len1 cap1 z1 e1 n1 c1 q1 hb ha w hx0 hl0 hp0 hn0 hx1 hl1 hp1 hn1
end Go.Proofs.Ytgleknejogbomaa
