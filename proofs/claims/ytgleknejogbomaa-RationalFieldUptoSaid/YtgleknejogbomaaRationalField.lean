/-
  The statement RationalField: its walk.
-/
import Derived.Test.YtgleknejogbomaaRlen
namespace Go.Proofs.Ytgleknejogbomaa
open Go.RowKit
set_option linter.unusedVariables false

set_option maxRecDepth 100000 in
set_option maxHeartbeats 16000000 in
theorem rationalField_walk (b0 : Bool) (a0 : Option Addr) (len0 cap0 : Nat) (z0 : Int) (e0 : Option Addr) (n0 c0 q0 : Nat) (b1 : Bool) (a1 : Option Addr) (len1 cap1 : Nat) (z1 : Int) (e1 : Option Addr) (n1 c1 q1 : Nat) (b2 : Bool) (a2 : Option Addr) (len2 cap2 : Nat) (z2 : Int) (e2 : Option Addr) (n2 c2 q2 : Nat) (w : World) (hx0 : Zin w b0 a0 len0 cap0 z0) (hl0 : len0 ≤ 1048576) (hp0 : Nin w e0 n0 c0 q0) (hn0 : n0 ≤ 1048576) (hx1 : Zin w b1 a1 len1 cap1 z1) (hl1 : len1 ≤ 1048576) (hp1 : Nin w e1 n1 c1 q1) (hn1 : n1 ≤ 1048576) (hx2 : Zin w b2 a2 len2 cap2 z2) (hl2 : len2 ≤ 1048576) (hp2 : Nin w e2 n2 c2 q2) (hn2 : n2 ≤ 1048576) :
    Calls Try.prog 7 #[.agg #[.bool b0, .slice a0 len0 cap0, .slice e0 n0 c0], .agg #[.bool b1, .slice a1 len1 cap1, .slice e1 n1 c1], .agg #[.bool b2, .slice a2 len2 cap2, .slice e2 n2 c2]] w fun e w' => e = .returned (.bool true) ∧ Below w.heap.size w w' := by
  obtain ⟨B1, V0, V1, V2⟩ := start_R3 w b0 a0 len0 cap0 e0 n0 c0 b1 a1 len1 cap1 e1 n1 c1 b2 a2 len2 cap2 e2 n2 c2
  have X0 := Lib.hid (hx0.below B1.out)
  have P0 := Lib.hid (hp0.below B1.out)
  have LZ0 : Hid (len0 ≤ 100000000) := Nat.le_trans hl0 (by decide)
  have LD0 : Hid (n0 ≤ 100000000) := Nat.le_trans hn0 (by decide)
  have r0 : RL (mkRat z0 q0) 1048576 := rl_mk (Nat.le_trans hx0.len hl0) (Nat.le_trans hp0.len hn0) (by decide)
  have X1 := Lib.hid (hx1.below B1.out)
  have P1 := Lib.hid (hp1.below B1.out)
  have LZ1 : Hid (len1 ≤ 100000000) := Nat.le_trans hl1 (by decide)
  have LD1 : Hid (n1 ≤ 100000000) := Nat.le_trans hn1 (by decide)
  have r1 : RL (mkRat z1 q1) 1048576 := rl_mk (Nat.le_trans hx1.len hl1) (Nat.le_trans hp1.len hn1) (by decide)
  have X2 := Lib.hid (hx2.below B1.out)
  have P2 := Lib.hid (hp2.below B1.out)
  have LZ2 : Hid (len2 ≤ 100000000) := Nat.le_trans hl2 (by decide)
  have LD2 : Hid (n2 ≤ 100000000) := Nat.le_trans hn2 (by decide)
  have r2 : RL (mkRat z2 q2) 1048576 := rl_mk (Nat.le_trans hx2.len hl2) (Nat.le_trans hp2.len hn2) (by decide)
  have LL : Hid (1 ≤ 100000000 ∧ 100000000 ≤ 35184372088829) := by show _ ∧ _; omega
  have LL2 : Hid (1 ≤ 100000000 ∧ 100000000 ≤ 70368744177660) := by show _ ∧ _; omega
  obtain ⟨xa, exa⟩ : ∃ z : Int, (mkRat z0 q0 + mkRat z1 q1).num = z := ⟨_, rfl⟩
  obtain ⟨da, eda⟩ : ∃ z : Nat, (mkRat z0 q0 + mkRat z1 q1).den = z := ⟨_, rfl⟩
  have Ma : mkRat xa da = mkRat z0 q0 + mkRat z1 q1 := by rw [← exa, ← eda, mk_self]
  have ra : RL (mkRat xa da) 2097153 := by rw [Ma]; exact (rl_add r0 r1).le (by decide)
  have LZa : Hid ((ofv xa.natAbs).length ≤ 100000000) := by show _ ≤ _; have h := ra.1; rw [Ma, exa] at h; exact Nat.le_trans h (by decide)
  have LDa : Hid ((ofv da).length ≤ 100000000) := by show _ ≤ _; have h := ra.2; rw [Ma, eda] at h; exact Nat.le_trans h (by decide)
  have HZa := Lib.hid exa
  have HDa := Lib.hid eda
  obtain ⟨xb, exb⟩ : ∃ z : Int, (mkRat xa da + mkRat z2 q2).num = z := ⟨_, rfl⟩
  obtain ⟨db, edb⟩ : ∃ z : Nat, (mkRat xa da + mkRat z2 q2).den = z := ⟨_, rfl⟩
  have Mb : mkRat xb db = mkRat xa da + mkRat z2 q2 := by rw [← exb, ← edb, mk_self]
  have rb : RL (mkRat xb db) 3145730 := by rw [Mb]; exact (rl_add ra r2).le (by decide)
  have LZb : Hid ((ofv xb.natAbs).length ≤ 100000000) := by show _ ≤ _; have h := rb.1; rw [Mb, exb] at h; exact Nat.le_trans h (by decide)
  have LDb : Hid ((ofv db).length ≤ 100000000) := by show _ ≤ _; have h := rb.2; rw [Mb, edb] at h; exact Nat.le_trans h (by decide)
  have HZb := Lib.hid exb
  have HDb := Lib.hid edb
  obtain ⟨xc, exc⟩ : ∃ z : Int, (mkRat z1 q1 + mkRat z2 q2).num = z := ⟨_, rfl⟩
  obtain ⟨dc, edc⟩ : ∃ z : Nat, (mkRat z1 q1 + mkRat z2 q2).den = z := ⟨_, rfl⟩
  have Mc : mkRat xc dc = mkRat z1 q1 + mkRat z2 q2 := by rw [← exc, ← edc, mk_self]
  have rc : RL (mkRat xc dc) 2097153 := by rw [Mc]; exact (rl_add r1 r2).le (by decide)
  have LZc : Hid ((ofv xc.natAbs).length ≤ 100000000) := by show _ ≤ _; have h := rc.1; rw [Mc, exc] at h; exact Nat.le_trans h (by decide)
  have LDc : Hid ((ofv dc).length ≤ 100000000) := by show _ ≤ _; have h := rc.2; rw [Mc, edc] at h; exact Nat.le_trans h (by decide)
  have HZc := Lib.hid exc
  have HDc := Lib.hid edc
  obtain ⟨xd, exd⟩ : ∃ z : Int, (mkRat z0 q0 + mkRat xc dc).num = z := ⟨_, rfl⟩
  obtain ⟨dd, edd⟩ : ∃ z : Nat, (mkRat z0 q0 + mkRat xc dc).den = z := ⟨_, rfl⟩
  have Md : mkRat xd dd = mkRat z0 q0 + mkRat xc dc := by rw [← exd, ← edd, mk_self]
  have rd : RL (mkRat xd dd) 3145730 := by rw [Md]; exact (rl_add r0 rc).le (by decide)
  have LZd : Hid ((ofv xd.natAbs).length ≤ 100000000) := by show _ ≤ _; have h := rd.1; rw [Md, exd] at h; exact Nat.le_trans h (by decide)
  have LDd : Hid ((ofv dd).length ≤ 100000000) := by show _ ≤ _; have h := rd.2; rw [Md, edd] at h; exact Nat.le_trans h (by decide)
  have HZd := Lib.hid exd
  have HDd := Lib.hid edd
  obtain ⟨xe, exe⟩ : ∃ z : Int, (mkRat z0 q0 * mkRat z1 q1).num = z := ⟨_, rfl⟩
  obtain ⟨de, ede⟩ : ∃ z : Nat, (mkRat z0 q0 * mkRat z1 q1).den = z := ⟨_, rfl⟩
  have Me : mkRat xe de = mkRat z0 q0 * mkRat z1 q1 := by rw [← exe, ← ede, mk_self]
  have re : RL (mkRat xe de) 2097152 := by rw [Me]; exact (rl_mul r0 r1).le (by decide)
  have LZe : Hid ((ofv xe.natAbs).length ≤ 100000000) := by show _ ≤ _; have h := re.1; rw [Me, exe] at h; exact Nat.le_trans h (by decide)
  have LDe : Hid ((ofv de).length ≤ 100000000) := by show _ ≤ _; have h := re.2; rw [Me, ede] at h; exact Nat.le_trans h (by decide)
  have HZe := Lib.hid exe
  have HDe := Lib.hid ede
  obtain ⟨xf, exf⟩ : ∃ z : Int, (mkRat xe de * mkRat z2 q2).num = z := ⟨_, rfl⟩
  obtain ⟨df, edf⟩ : ∃ z : Nat, (mkRat xe de * mkRat z2 q2).den = z := ⟨_, rfl⟩
  have Mf : mkRat xf df = mkRat xe de * mkRat z2 q2 := by rw [← exf, ← edf, mk_self]
  have rf : RL (mkRat xf df) 3145728 := by rw [Mf]; exact (rl_mul re r2).le (by decide)
  have LZf : Hid ((ofv xf.natAbs).length ≤ 100000000) := by show _ ≤ _; have h := rf.1; rw [Mf, exf] at h; exact Nat.le_trans h (by decide)
  have LDf : Hid ((ofv df).length ≤ 100000000) := by show _ ≤ _; have h := rf.2; rw [Mf, edf] at h; exact Nat.le_trans h (by decide)
  have HZf := Lib.hid exf
  have HDf := Lib.hid edf
  obtain ⟨xg, exg⟩ : ∃ z : Int, (mkRat z1 q1 * mkRat z2 q2).num = z := ⟨_, rfl⟩
  obtain ⟨dg, edg⟩ : ∃ z : Nat, (mkRat z1 q1 * mkRat z2 q2).den = z := ⟨_, rfl⟩
  have Mg : mkRat xg dg = mkRat z1 q1 * mkRat z2 q2 := by rw [← exg, ← edg, mk_self]
  have rg : RL (mkRat xg dg) 2097152 := by rw [Mg]; exact (rl_mul r1 r2).le (by decide)
  have LZg : Hid ((ofv xg.natAbs).length ≤ 100000000) := by show _ ≤ _; have h := rg.1; rw [Mg, exg] at h; exact Nat.le_trans h (by decide)
  have LDg : Hid ((ofv dg).length ≤ 100000000) := by show _ ≤ _; have h := rg.2; rw [Mg, edg] at h; exact Nat.le_trans h (by decide)
  have HZg := Lib.hid exg
  have HDg := Lib.hid edg
  obtain ⟨xh, exh⟩ : ∃ z : Int, (mkRat z0 q0 * mkRat xg dg).num = z := ⟨_, rfl⟩
  obtain ⟨dh, edh⟩ : ∃ z : Nat, (mkRat z0 q0 * mkRat xg dg).den = z := ⟨_, rfl⟩
  have Mh : mkRat xh dh = mkRat z0 q0 * mkRat xg dg := by rw [← exh, ← edh, mk_self]
  have rh : RL (mkRat xh dh) 3145728 := by rw [Mh]; exact (rl_mul r0 rg).le (by decide)
  have LZh : Hid ((ofv xh.natAbs).length ≤ 100000000) := by show _ ≤ _; have h := rh.1; rw [Mh, exh] at h; exact Nat.le_trans h (by decide)
  have LDh : Hid ((ofv dh).length ≤ 100000000) := by show _ ≤ _; have h := rh.2; rw [Mh, edh] at h; exact Nat.le_trans h (by decide)
  have HZh := Lib.hid exh
  have HDh := Lib.hid edh
  obtain ⟨xi, exi⟩ : ∃ z : Int, (mkRat z0 q0 * mkRat xc dc).num = z := ⟨_, rfl⟩
  obtain ⟨di, edi⟩ : ∃ z : Nat, (mkRat z0 q0 * mkRat xc dc).den = z := ⟨_, rfl⟩
  have Mi : mkRat xi di = mkRat z0 q0 * mkRat xc dc := by rw [← exi, ← edi, mk_self]
  have ri : RL (mkRat xi di) 3145729 := by rw [Mi]; exact (rl_mul r0 rc).le (by decide)
  have LZi : Hid ((ofv xi.natAbs).length ≤ 100000000) := by show _ ≤ _; have h := ri.1; rw [Mi, exi] at h; exact Nat.le_trans h (by decide)
  have LDi : Hid ((ofv di).length ≤ 100000000) := by show _ ≤ _; have h := ri.2; rw [Mi, edi] at h; exact Nat.le_trans h (by decide)
  have HZi := Lib.hid exi
  have HDi := Lib.hid edi
  obtain ⟨xj, exj⟩ : ∃ z : Int, (mkRat z0 q0 * mkRat z2 q2).num = z := ⟨_, rfl⟩
  obtain ⟨dj, edj⟩ : ∃ z : Nat, (mkRat z0 q0 * mkRat z2 q2).den = z := ⟨_, rfl⟩
  have Mj : mkRat xj dj = mkRat z0 q0 * mkRat z2 q2 := by rw [← exj, ← edj, mk_self]
  have rj : RL (mkRat xj dj) 2097152 := by rw [Mj]; exact (rl_mul r0 r2).le (by decide)
  have LZj : Hid ((ofv xj.natAbs).length ≤ 100000000) := by show _ ≤ _; have h := rj.1; rw [Mj, exj] at h; exact Nat.le_trans h (by decide)
  have LDj : Hid ((ofv dj).length ≤ 100000000) := by show _ ≤ _; have h := rj.2; rw [Mj, edj] at h; exact Nat.le_trans h (by decide)
  have HZj := Lib.hid exj
  have HDj := Lib.hid edj
  obtain ⟨xk, exk⟩ : ∃ z : Int, (mkRat xe de + mkRat xj dj).num = z := ⟨_, rfl⟩
  obtain ⟨dk, edk⟩ : ∃ z : Nat, (mkRat xe de + mkRat xj dj).den = z := ⟨_, rfl⟩
  have Mk : mkRat xk dk = mkRat xe de + mkRat xj dj := by rw [← exk, ← edk, mk_self]
  have rk : RL (mkRat xk dk) 4194305 := by rw [Mk]; exact (rl_add re rj).le (by decide)
  have LZk : Hid ((ofv xk.natAbs).length ≤ 100000000) := by show _ ≤ _; have h := rk.1; rw [Mk, exk] at h; exact Nat.le_trans h (by decide)
  have LDk : Hid ((ofv dk).length ≤ 100000000) := by show _ ≤ _; have h := rk.2; rw [Mk, edk] at h; exact Nat.le_trans h (by decide)
  have HZk := Lib.hid exk
  have HDk := Lib.hid edk
  obtain ⟨xl, exl⟩ : ∃ z : Int, (-mkRat z0 q0).num = z := ⟨_, rfl⟩
  obtain ⟨dl, edl⟩ : ∃ z : Nat, (-mkRat z0 q0).den = z := ⟨_, rfl⟩
  have Ml : mkRat xl dl = -mkRat z0 q0 := by rw [← exl, ← edl, mk_self]
  have rl : RL (mkRat xl dl) 1048576 := by rw [Ml]; exact (rl_neg r0).le (by decide)
  have LZl : Hid ((ofv xl.natAbs).length ≤ 100000000) := by show _ ≤ _; have h := rl.1; rw [Ml, exl] at h; exact Nat.le_trans h (by decide)
  have LDl : Hid ((ofv dl).length ≤ 100000000) := by show _ ≤ _; have h := rl.2; rw [Ml, edl] at h; exact Nat.le_trans h (by decide)
  have HZl := Lib.hid exl
  have HDl := Lib.hid edl
  obtain ⟨xm, exm⟩ : ∃ z : Int, (mkRat z0 q0 + mkRat xl dl).num = z := ⟨_, rfl⟩
  obtain ⟨dm, edm⟩ : ∃ z : Nat, (mkRat z0 q0 + mkRat xl dl).den = z := ⟨_, rfl⟩
  have Mm : mkRat xm dm = mkRat z0 q0 + mkRat xl dl := by rw [← exm, ← edm, mk_self]
  have rm : RL (mkRat xm dm) 2097153 := by rw [Mm]; exact (rl_add r0 rl).le (by decide)
  have LZm : Hid ((ofv xm.natAbs).length ≤ 100000000) := by show _ ≤ _; have h := rm.1; rw [Mm, exm] at h; exact Nat.le_trans h (by decide)
  have LDm : Hid ((ofv dm).length ≤ 100000000) := by show _ ≤ _; have h := rm.2; rw [Mm, edm] at h; exact Nat.le_trans h (by decide)
  have HZm := Lib.hid exm
  have HDm := Lib.hid edm
  have EE : mkRat xa da + mkRat z2 q2 = mkRat z0 q0 + mkRat xc dc := by rw [Ma, Mc]; exact Rat.add_assoc _ _ _
  have EQb_d : Hid (xb = xd ∧ db = dd) := by show _ ∧ _; rw [← exb, ← exd, ← edb, ← edd, EE]; exact ⟨rfl, rfl⟩
  clear EE
  have EE : mkRat xe de * mkRat z2 q2 = mkRat z0 q0 * mkRat xg dg := by rw [Me, Mg]; exact Rat.mul_assoc _ _ _
  have EQf_h : Hid (xf = xh ∧ df = dh) := by show _ ∧ _; rw [← exf, ← exh, ← edf, ← edh, EE]; exact ⟨rfl, rfl⟩
  clear EE
  have EE : mkRat z0 q0 * mkRat xc dc = mkRat xe de + mkRat xj dj := by rw [Mc, Me, Mj]; exact Rat.mul_add _ _ _
  have EQi_k : Hid (xi = xk ∧ di = dk) := by show _ ∧ _; rw [← exi, ← exk, ← edi, ← edk, EE]; exact ⟨rfl, rfl⟩
  clear EE
  have E0 : mkRat z0 q0 + mkRat xl dl = 0 := by rw [Ml]; exact Rat.add_neg_cancel _
  have EM0 : Hid (xm = 0 ∧ dm = 1) := by show _ ∧ _; rw [← exm, ← edm, E0]; exact ⟨rfl, rfl⟩
  obtain ⟨xn, exn⟩ : ∃ z : Int, 0 = z := ⟨_, rfl⟩
  have HZn := Lib.hid exn
  obtain ⟨r, er⟩ : ∃ r : Int, sgR (mkRat z0 q0) = r := ⟨_, rfl⟩
  have SR := Lib.hid er
  have CR : Hid (r = -1 ∨ r = 0 ∨ r = 1) := by
    show _ ∨ _
    rw [← er]
    unfold sgR
    rcases sg_cases (mkRat z0 q0).num with ⟨h, _⟩ | ⟨h, _⟩ | ⟨h, _⟩ <;> simp [h]
  have R0 := Lib.hid r0
  obtain ⟨xu, exu⟩ : ∃ z : Int, (Rat.divInt 1 1).num = z := ⟨_, rfl⟩
  obtain ⟨du, edu⟩ : ∃ z : Nat, (Rat.divInt 1 1).den = z := ⟨_, rfl⟩
  have HZu := Lib.hid exu
  have HDu := Lib.hid edu
  have I1 : Hid (-9223372036854775808 ≤ (1 : Int) ∧ (1 : Int) ≤ 9223372036854775807) := by show _ ∧ _; omega
  have EMN : Hid (xm = xn ∧ dm = 1) := by show _ ∧ _; rw [← exn]; exact EM0.out
  clear hx0 hl0 hp0 hn0 r0 hx1 hl1 hp1 hn1 r1 hx2 hl2 hp2 hn2 r2 exa eda Ma ra exb edb Mb rb exc edc Mc rc exd edd Md rd exe ede Me re exf edf Mf rf exg edg Mg rg exh edh Mh rh exi edi Mi ri exj edj Mj rj exk edk Mk rk exl edl Ml rl exm edm Mm rm exn E0 er exu edu EM0
  go_enter Try.func7, Try.ntmps7
  go_wp2_with fail
  generalize (((w.alloc (.cells #[.bool b0, .slice a0 len0 cap0, .slice e0 n0 c0] 42)).alloc (.cells #[.bool b1, .slice a1 len1 cap1, .slice e1 n1 c1] 42)).alloc (.cells #[.bool b2, .slice a2 len2 cap2, .slice e2 n2 c2] 42)) = w2 at *
  have HB : Hid (Below w2.heap.size w2 w2.drew) := below_drewN _ w2 1
  refine wp_region_held_drew (S := fun w' => Below w2.heap.size w2 w') (by kernel_rfl) (HB.out) (fun hHeld => ?_)
  refine wpAnyH_ready (rs := [0]) (by kernel_rfl) (by simp) ?_
  refine AllReadyH.consL (o := _) rfl (fun K hK => ?_) AllReadyH.nil
  clear hHeld
  go_simp
  go_at_call 34
  refine Calls.mono (rawake_any _) ?_
  rintro e v1 ⟨rfl, hb⟩
  replace HB := Lib.hid (HB.out.trans (hb.mono HB.out.size))
  clear hb
  refine hK.out _ _ HB.out (fun hHeld => ?_)
  clear hK K
  try simp only [Act.put, List.setIfInBounds_toArray, List.set_cons_zero, List.set_cons_succ]
  refine wpAnyH_takeL (i := 1) (oi := _) (v := ?_) rfl (by kernel_rfl) (by kernel_rfl) (by kernel_rfl) (fun _ _ _ h => h) (Or.inl ⟨by rfl, ?_⟩) hHeld ?_
  rotate_left
  · (intro w' hSw; (try dsimp only at hSw); go_simp; try (with_reducible rfl))
  try simp only [Act.put, List.setIfInBounds_toArray, List.set_cons_zero, List.set_cons_succ]
  refine wpAnyH_takeL (i := 2) (oi := _) (v := ?_) rfl (by kernel_rfl) (by kernel_rfl) (by kernel_rfl) (fun _ _ _ h => h) (Or.inl ⟨by rfl, ?_⟩) hHeld ?_
  rotate_left
  · (intro w' hSw; (try dsimp only at hSw); go_simp; try (with_reducible rfl))
  try simp only [Act.put, List.setIfInBounds_toArray, List.set_cons_zero, List.set_cons_succ]
  refine wpAnyH_takeL (i := 3) (oi := _) rfl (by kernel_rfl) (by kernel_rfl) (by kernel_rfl) (fun _ _ _ h => h) (yields_ldR (by rfl) _ rfl (by rfl) (fun _ hb => V0.out.below hb V0.out.lt)) hHeld ?_
  try simp only [Act.put, List.setIfInBounds_toArray, List.set_cons_zero, List.set_cons_succ]
  refine wpAnyH_takeL (i := 4) (oi := _) rfl (by kernel_rfl) (by kernel_rfl) (by kernel_rfl) (fun _ _ _ h => h) (yields_ldR (by rfl) _ rfl (by rfl) (fun _ hb => V1.out.below hb V1.out.lt)) hHeld ?_
  try simp only [Act.put, List.setIfInBounds_toArray, List.set_cons_zero, List.set_cons_succ]
  refine wpAnyH_takeL (i := 6) (oi := _) rfl (by kernel_rfl) (by kernel_rfl) (by kernel_rfl) (fun _ _ _ h => h) (yields_ldR (by rfl) _ rfl (by rfl) (fun _ hb => V2.out.below hb V2.out.lt)) hHeld ?_
  try simp only [Act.put, List.setIfInBounds_toArray, List.set_cons_zero, List.set_cons_succ]
  refine wpAnyH_takeL (i := 8) (oi := _) rfl (by kernel_rfl) (by kernel_rfl) (by kernel_rfl) (fun _ _ _ h => h) (yields_ldR (by rfl) _ rfl (by rfl) (fun _ hb => V0.out.below hb V0.out.lt)) hHeld ?_
  try simp only [Act.put, List.setIfInBounds_toArray, List.set_cons_zero, List.set_cons_succ]
  refine wpAnyH_takeL (i := 9) (oi := _) rfl (by kernel_rfl) (by kernel_rfl) (by kernel_rfl) (fun _ _ _ h => h) (yields_ldR (by rfl) _ rfl (by rfl) (fun _ hb => V1.out.below hb V1.out.lt)) hHeld ?_
  try simp only [Act.put, List.setIfInBounds_toArray, List.set_cons_zero, List.set_cons_succ]
  refine wpAnyH_takeL (i := 10) (oi := _) rfl (by kernel_rfl) (by kernel_rfl) (by kernel_rfl) (fun _ _ _ h => h) (yields_ldR (by rfl) _ rfl (by rfl) (fun _ hb => V2.out.below hb V2.out.lt)) hHeld ?_
  try simp only [Act.put, List.setIfInBounds_toArray, List.set_cons_zero, List.set_cons_succ]
  refine wpAnyH_ready (rs := [5]) (by kernel_rfl) (by simp) ?_
  refine AllReadyH.consL (o := _) rfl (fun K hK => ?_) AllReadyH.nil
  clear hHeld
  go_simp
  go_at_call 37
  refine Calls.mono (qadd_any (L := 100000000) (z := xa) (d := da) (X0.out.below HB.out) (P0.out.below HB.out) (X1.out.below HB.out) (P1.out.below HB.out) LZ0.out LD0.out LZ1.out LD1.out LL.out HZa.out HDa.out) ?_
  rintro e v2 ⟨Pa, ca, Qa, ka, rfl, ho, ho2, hb⟩
  replace HB := Lib.hid (HB.out.trans (hb.mono HB.out.size))
  have Za := Lib.hid (Zo.of_own ho)
  have Na := Lib.hid ho2.rd
  clear ho ho2
  clear hb
  refine hK.out _ _ HB.out (fun hHeld => ?_)
  clear hK K
  try simp only [Act.put, List.setIfInBounds_toArray, List.set_cons_zero, List.set_cons_succ]
  refine wpAnyH_ready (rs := [7]) (by kernel_rfl) (by simp) ?_
  refine AllReadyH.consL (o := _) rfl (fun K hK => ?_) AllReadyH.nil
  clear hHeld
  go_simp
  go_at_call 37
  refine Calls.mono (qadd_any (L := 100000000) (z := xb) (d := db) Za.out.in_ (Nin.of_rd Na.out) (X2.out.below HB.out) (P2.out.below HB.out) LZa.out LDa.out LZ2.out LD2.out LL.out HZb.out HDb.out) ?_
  rintro e v3 ⟨Pb, cb, Qb, kb, rfl, ho, ho2, hb⟩
  replace HB := Lib.hid (HB.out.trans (hb.mono HB.out.size))
  replace Za := Lib.hid (Za.out.below hb)
  replace Na := Lib.hid (Na.out.below hb)
  have Zb := Lib.hid (Zo.of_own ho)
  have Nb := Lib.hid ho2.rd
  clear ho ho2
  clear hb
  refine hK.out _ _ HB.out (fun hHeld => ?_)
  clear hK K
  try simp only [Act.put, List.setIfInBounds_toArray, List.set_cons_zero, List.set_cons_succ]
  refine wpAnyH_ready (rs := [11]) (by kernel_rfl) (by simp) ?_
  refine AllReadyH.consL (o := _) rfl (fun K hK => ?_) AllReadyH.nil
  clear hHeld
  go_simp
  go_at_call 37
  refine Calls.mono (qadd_any (L := 100000000) (z := xc) (d := dc) (X1.out.below HB.out) (P1.out.below HB.out) (X2.out.below HB.out) (P2.out.below HB.out) LZ1.out LD1.out LZ2.out LD2.out LL.out HZc.out HDc.out) ?_
  rintro e v4 ⟨Pc, cc, Qc, kc, rfl, ho, ho2, hb⟩
  replace HB := Lib.hid (HB.out.trans (hb.mono HB.out.size))
  replace Za := Lib.hid (Za.out.below hb)
  replace Na := Lib.hid (Na.out.below hb)
  replace Zb := Lib.hid (Zb.out.below hb)
  replace Nb := Lib.hid (Nb.out.below hb)
  have Zc := Lib.hid (Zo.of_own ho)
  have Nc := Lib.hid ho2.rd
  clear ho ho2
  clear hb
  refine hK.out _ _ HB.out (fun hHeld => ?_)
  clear hK K
  try simp only [Act.put, List.setIfInBounds_toArray, List.set_cons_zero, List.set_cons_succ]
  refine wpAnyH_ready (rs := [12]) (by kernel_rfl) (by simp) ?_
  refine AllReadyH.consL (o := _) rfl (fun K hK => ?_) AllReadyH.nil
  clear hHeld
  go_simp
  go_at_call 37
  refine Calls.mono (qadd_any (L := 100000000) (z := xd) (d := dd) (X0.out.below HB.out) (P0.out.below HB.out) Zc.out.in_ (Nin.of_rd Nc.out) LZ0.out LD0.out LZc.out LDc.out LL.out HZd.out HDd.out) ?_
  rintro e v5 ⟨Pd, cd, Qd, kd, rfl, ho, ho2, hb⟩
  replace HB := Lib.hid (HB.out.trans (hb.mono HB.out.size))
  replace Za := Lib.hid (Za.out.below hb)
  replace Na := Lib.hid (Na.out.below hb)
  replace Zb := Lib.hid (Zb.out.below hb)
  replace Nb := Lib.hid (Nb.out.below hb)
  replace Zc := Lib.hid (Zc.out.below hb)
  replace Nc := Lib.hid (Nc.out.below hb)
  have Zd := Lib.hid (Zo.of_own ho)
  have Nd := Lib.hid ho2.rd
  clear ho ho2
  clear hb
  refine hK.out _ _ HB.out (fun hHeld => ?_)
  clear hK K
  try simp only [Act.put, List.setIfInBounds_toArray, List.set_cons_zero, List.set_cons_succ]
  refine wpAnyH_ready (rs := [13]) (by kernel_rfl) (by simp) ?_
  refine AllReadyH.consL (o := _) rfl (fun K hK => ?_) AllReadyH.nil
  clear hHeld
  go_simp
  go_at_call 33
  refine Calls.mono (r3equal_any (b := true) Zb.out Zd.out Nb.out Nd.out (by simpa using EQb_d.out)) ?_
  rintro e v6 ⟨rfl, hb⟩
  replace HB := Lib.hid (HB.out.trans (hb.mono HB.out.size))
  replace Za := Lib.hid (Za.out.below hb)
  replace Na := Lib.hid (Na.out.below hb)
  replace Zb := Lib.hid (Zb.out.below hb)
  replace Nb := Lib.hid (Nb.out.below hb)
  replace Zc := Lib.hid (Zc.out.below hb)
  replace Nc := Lib.hid (Nc.out.below hb)
  replace Zd := Lib.hid (Zd.out.below hb)
  replace Nd := Lib.hid (Nd.out.below hb)
  clear hb
  refine hK.out _ _ HB.out (fun hHeld => ?_)
  clear hK K
  try simp only [Act.put, List.setIfInBounds_toArray, List.set_cons_zero, List.set_cons_succ]
  refine wpAnyH_takeL (i := 14) (oi := _) (v := ?_) rfl (by kernel_rfl) (by kernel_rfl) (by kernel_rfl) (fun _ _ _ h => h) (Or.inl ⟨by rfl, ?_⟩) hHeld ?_
  rotate_left
  · (intro w' hSw; (try dsimp only at hSw); go_simp; try (with_reducible rfl))
  try simp only [Act.put, List.setIfInBounds_toArray, List.set_cons_zero, List.set_cons_succ]
  refine wpAnyH_takeL (i := 15) (oi := _) (v := ?_) rfl (by kernel_rfl) (by kernel_rfl) (by kernel_rfl) (fun _ _ _ h => h) (Or.inl ⟨by rfl, ?_⟩) hHeld ?_
  rotate_left
  · (intro w' hSw; (try dsimp only at hSw); go_simp; try (with_reducible rfl))
  try simp only [Act.put, List.setIfInBounds_toArray, List.set_cons_zero, List.set_cons_succ]
  refine wpAnyH_takeL (i := 16) (oi := _) (v := ?_) rfl (by kernel_rfl) (by kernel_rfl) (by kernel_rfl) (fun _ _ _ h => h) (Or.inl ⟨by rfl, ?_⟩) hHeld ?_
  rotate_left
  · (intro w' hSw; (try dsimp only at hSw); go_simp; try (with_reducible rfl))
  try simp only [Act.put, List.setIfInBounds_toArray, List.set_cons_zero, List.set_cons_succ]
  refine wpAnyH_takeL (i := 17) (oi := _) rfl (by kernel_rfl) (by kernel_rfl) (by kernel_rfl) (fun _ _ _ h => h) (yields_ldR (by rfl) _ rfl (by rfl) (fun _ hb => V0.out.below hb V0.out.lt)) hHeld ?_
  try simp only [Act.put, List.setIfInBounds_toArray, List.set_cons_zero, List.set_cons_succ]
  refine wpAnyH_takeL (i := 18) (oi := _) rfl (by kernel_rfl) (by kernel_rfl) (by kernel_rfl) (fun _ _ _ h => h) (yields_ldR (by rfl) _ rfl (by rfl) (fun _ hb => V1.out.below hb V1.out.lt)) hHeld ?_
  try simp only [Act.put, List.setIfInBounds_toArray, List.set_cons_zero, List.set_cons_succ]
  refine wpAnyH_takeL (i := 20) (oi := _) rfl (by kernel_rfl) (by kernel_rfl) (by kernel_rfl) (fun _ _ _ h => h) (yields_ldR (by rfl) _ rfl (by rfl) (fun _ hb => V2.out.below hb V2.out.lt)) hHeld ?_
  try simp only [Act.put, List.setIfInBounds_toArray, List.set_cons_zero, List.set_cons_succ]
  refine wpAnyH_takeL (i := 22) (oi := _) rfl (by kernel_rfl) (by kernel_rfl) (by kernel_rfl) (fun _ _ _ h => h) (yields_ldR (by rfl) _ rfl (by rfl) (fun _ hb => V0.out.below hb V0.out.lt)) hHeld ?_
  try simp only [Act.put, List.setIfInBounds_toArray, List.set_cons_zero, List.set_cons_succ]
  refine wpAnyH_takeL (i := 23) (oi := _) rfl (by kernel_rfl) (by kernel_rfl) (by kernel_rfl) (fun _ _ _ h => h) (yields_ldR (by rfl) _ rfl (by rfl) (fun _ hb => V1.out.below hb V1.out.lt)) hHeld ?_
  try simp only [Act.put, List.setIfInBounds_toArray, List.set_cons_zero, List.set_cons_succ]
  refine wpAnyH_takeL (i := 24) (oi := _) rfl (by kernel_rfl) (by kernel_rfl) (by kernel_rfl) (fun _ _ _ h => h) (yields_ldR (by rfl) _ rfl (by rfl) (fun _ hb => V2.out.below hb V2.out.lt)) hHeld ?_
  try simp only [Act.put, List.setIfInBounds_toArray, List.set_cons_zero, List.set_cons_succ]
  refine wpAnyH_ready (rs := [19]) (by kernel_rfl) (by simp) ?_
  refine AllReadyH.consL (o := _) rfl (fun K hK => ?_) AllReadyH.nil
  clear hHeld
  go_simp
  go_at_call 41
  refine Calls.mono (qmul_any (L := 100000000) (z := xe) (d := de) (X0.out.below HB.out) (P0.out.below HB.out) (X1.out.below HB.out) (P1.out.below HB.out) LZ0.out LD0.out LZ1.out LD1.out LL.out HZe.out HDe.out) ?_
  rintro e v7 ⟨Pe, ce, Qe, ke, rfl, ho, ho2, hb⟩
  replace HB := Lib.hid (HB.out.trans (hb.mono HB.out.size))
  replace Za := Lib.hid (Za.out.below hb)
  replace Na := Lib.hid (Na.out.below hb)
  replace Zb := Lib.hid (Zb.out.below hb)
  replace Nb := Lib.hid (Nb.out.below hb)
  replace Zc := Lib.hid (Zc.out.below hb)
  replace Nc := Lib.hid (Nc.out.below hb)
  replace Zd := Lib.hid (Zd.out.below hb)
  replace Nd := Lib.hid (Nd.out.below hb)
  have Ze := Lib.hid (Zo.of_own ho)
  have Ne := Lib.hid ho2.rd
  clear ho ho2
  clear hb
  refine hK.out _ _ HB.out (fun hHeld => ?_)
  clear hK K
  try simp only [Act.put, List.setIfInBounds_toArray, List.set_cons_zero, List.set_cons_succ]
  refine wpAnyH_ready (rs := [21]) (by kernel_rfl) (by simp) ?_
  refine AllReadyH.consL (o := _) rfl (fun K hK => ?_) AllReadyH.nil
  clear hHeld
  go_simp
  go_at_call 41
  refine Calls.mono (qmul_any (L := 100000000) (z := xf) (d := df) Ze.out.in_ (Nin.of_rd Ne.out) (X2.out.below HB.out) (P2.out.below HB.out) LZe.out LDe.out LZ2.out LD2.out LL.out HZf.out HDf.out) ?_
  rintro e v8 ⟨Pf, cf, Qf, kf, rfl, ho, ho2, hb⟩
  replace HB := Lib.hid (HB.out.trans (hb.mono HB.out.size))
  replace Za := Lib.hid (Za.out.below hb)
  replace Na := Lib.hid (Na.out.below hb)
  replace Zb := Lib.hid (Zb.out.below hb)
  replace Nb := Lib.hid (Nb.out.below hb)
  replace Zc := Lib.hid (Zc.out.below hb)
  replace Nc := Lib.hid (Nc.out.below hb)
  replace Zd := Lib.hid (Zd.out.below hb)
  replace Nd := Lib.hid (Nd.out.below hb)
  replace Ze := Lib.hid (Ze.out.below hb)
  replace Ne := Lib.hid (Ne.out.below hb)
  have Zf := Lib.hid (Zo.of_own ho)
  have Nf := Lib.hid ho2.rd
  clear ho ho2
  clear hb
  refine hK.out _ _ HB.out (fun hHeld => ?_)
  clear hK K
  try simp only [Act.put, List.setIfInBounds_toArray, List.set_cons_zero, List.set_cons_succ]
  refine wpAnyH_ready (rs := [25]) (by kernel_rfl) (by simp) ?_
  refine AllReadyH.consL (o := _) rfl (fun K hK => ?_) AllReadyH.nil
  clear hHeld
  go_simp
  go_at_call 41
  refine Calls.mono (qmul_any (L := 100000000) (z := xg) (d := dg) (X1.out.below HB.out) (P1.out.below HB.out) (X2.out.below HB.out) (P2.out.below HB.out) LZ1.out LD1.out LZ2.out LD2.out LL.out HZg.out HDg.out) ?_
  rintro e v9 ⟨Pg, cg, Qg, kg, rfl, ho, ho2, hb⟩
  replace HB := Lib.hid (HB.out.trans (hb.mono HB.out.size))
  replace Za := Lib.hid (Za.out.below hb)
  replace Na := Lib.hid (Na.out.below hb)
  replace Zb := Lib.hid (Zb.out.below hb)
  replace Nb := Lib.hid (Nb.out.below hb)
  replace Zc := Lib.hid (Zc.out.below hb)
  replace Nc := Lib.hid (Nc.out.below hb)
  replace Zd := Lib.hid (Zd.out.below hb)
  replace Nd := Lib.hid (Nd.out.below hb)
  replace Ze := Lib.hid (Ze.out.below hb)
  replace Ne := Lib.hid (Ne.out.below hb)
  replace Zf := Lib.hid (Zf.out.below hb)
  replace Nf := Lib.hid (Nf.out.below hb)
  have Zg := Lib.hid (Zo.of_own ho)
  have Ng := Lib.hid ho2.rd
  clear ho ho2
  clear hb
  refine hK.out _ _ HB.out (fun hHeld => ?_)
  clear hK K
  try simp only [Act.put, List.setIfInBounds_toArray, List.set_cons_zero, List.set_cons_succ]
  refine wpAnyH_ready (rs := [26]) (by kernel_rfl) (by simp) ?_
  refine AllReadyH.consL (o := _) rfl (fun K hK => ?_) AllReadyH.nil
  clear hHeld
  go_simp
  go_at_call 41
  refine Calls.mono (qmul_any (L := 100000000) (z := xh) (d := dh) (X0.out.below HB.out) (P0.out.below HB.out) Zg.out.in_ (Nin.of_rd Ng.out) LZ0.out LD0.out LZg.out LDg.out LL.out HZh.out HDh.out) ?_
  rintro e v10 ⟨Ph, ch, Qh, kh, rfl, ho, ho2, hb⟩
  replace HB := Lib.hid (HB.out.trans (hb.mono HB.out.size))
  replace Za := Lib.hid (Za.out.below hb)
  replace Na := Lib.hid (Na.out.below hb)
  replace Zb := Lib.hid (Zb.out.below hb)
  replace Nb := Lib.hid (Nb.out.below hb)
  replace Zc := Lib.hid (Zc.out.below hb)
  replace Nc := Lib.hid (Nc.out.below hb)
  replace Zd := Lib.hid (Zd.out.below hb)
  replace Nd := Lib.hid (Nd.out.below hb)
  replace Ze := Lib.hid (Ze.out.below hb)
  replace Ne := Lib.hid (Ne.out.below hb)
  replace Zf := Lib.hid (Zf.out.below hb)
  replace Nf := Lib.hid (Nf.out.below hb)
  replace Zg := Lib.hid (Zg.out.below hb)
  replace Ng := Lib.hid (Ng.out.below hb)
  have Zh := Lib.hid (Zo.of_own ho)
  have Nh := Lib.hid ho2.rd
  clear ho ho2
  clear hb
  refine hK.out _ _ HB.out (fun hHeld => ?_)
  clear hK K
  try simp only [Act.put, List.setIfInBounds_toArray, List.set_cons_zero, List.set_cons_succ]
  refine wpAnyH_ready (rs := [27]) (by kernel_rfl) (by simp) ?_
  refine AllReadyH.consL (o := _) rfl (fun K hK => ?_) AllReadyH.nil
  clear hHeld
  go_simp
  go_at_call 33
  refine Calls.mono (r3equal_any (b := true) Zf.out Zh.out Nf.out Nh.out (by simpa using EQf_h.out)) ?_
  rintro e v11 ⟨rfl, hb⟩
  replace HB := Lib.hid (HB.out.trans (hb.mono HB.out.size))
  replace Za := Lib.hid (Za.out.below hb)
  replace Na := Lib.hid (Na.out.below hb)
  replace Zb := Lib.hid (Zb.out.below hb)
  replace Nb := Lib.hid (Nb.out.below hb)
  replace Zc := Lib.hid (Zc.out.below hb)
  replace Nc := Lib.hid (Nc.out.below hb)
  replace Zd := Lib.hid (Zd.out.below hb)
  replace Nd := Lib.hid (Nd.out.below hb)
  replace Ze := Lib.hid (Ze.out.below hb)
  replace Ne := Lib.hid (Ne.out.below hb)
  replace Zf := Lib.hid (Zf.out.below hb)
  replace Nf := Lib.hid (Nf.out.below hb)
  replace Zg := Lib.hid (Zg.out.below hb)
  replace Ng := Lib.hid (Ng.out.below hb)
  replace Zh := Lib.hid (Zh.out.below hb)
  replace Nh := Lib.hid (Nh.out.below hb)
  clear hb
  refine hK.out _ _ HB.out (fun hHeld => ?_)
  clear hK K
  try simp only [Act.put, List.setIfInBounds_toArray, List.set_cons_zero, List.set_cons_succ]
  refine wpAnyH_takeL (i := 28) (oi := _) (v := ?_) rfl (by kernel_rfl) (by kernel_rfl) (by kernel_rfl) (fun _ _ _ h => h) (Or.inl ⟨by rfl, ?_⟩) hHeld ?_
  rotate_left
  · (intro w' hSw; (try dsimp only at hSw); go_simp; try (with_reducible rfl))
  try simp only [Act.put, List.setIfInBounds_toArray, List.set_cons_zero, List.set_cons_succ]
  refine wpAnyH_takeL (i := 29) (oi := _) (v := ?_) rfl (by kernel_rfl) (by kernel_rfl) (by kernel_rfl) (fun _ _ _ h => h) (Or.inl ⟨by rfl, ?_⟩) hHeld ?_
  rotate_left
  · (intro w' hSw; (try dsimp only at hSw); go_simp; try (with_reducible rfl))
  try simp only [Act.put, List.setIfInBounds_toArray, List.set_cons_zero, List.set_cons_succ]
  refine wpAnyH_takeL (i := 30) (oi := _) (v := ?_) rfl (by kernel_rfl) (by kernel_rfl) (by kernel_rfl) (fun _ _ _ h => h) (Or.inl ⟨by rfl, ?_⟩) hHeld ?_
  rotate_left
  · (intro w' hSw; (try dsimp only at hSw); go_simp; try (with_reducible rfl))
  try simp only [Act.put, List.setIfInBounds_toArray, List.set_cons_zero, List.set_cons_succ]
  refine wpAnyH_takeL (i := 31) (oi := _) rfl (by kernel_rfl) (by kernel_rfl) (by kernel_rfl) (fun _ _ _ h => h) (yields_ldR (by rfl) _ rfl (by rfl) (fun _ hb => V0.out.below hb V0.out.lt)) hHeld ?_
  try simp only [Act.put, List.setIfInBounds_toArray, List.set_cons_zero, List.set_cons_succ]
  refine wpAnyH_takeL (i := 32) (oi := _) rfl (by kernel_rfl) (by kernel_rfl) (by kernel_rfl) (fun _ _ _ h => h) (yields_ldR (by rfl) _ rfl (by rfl) (fun _ hb => V1.out.below hb V1.out.lt)) hHeld ?_
  try simp only [Act.put, List.setIfInBounds_toArray, List.set_cons_zero, List.set_cons_succ]
  refine wpAnyH_takeL (i := 33) (oi := _) rfl (by kernel_rfl) (by kernel_rfl) (by kernel_rfl) (fun _ _ _ h => h) (yields_ldR (by rfl) _ rfl (by rfl) (fun _ hb => V2.out.below hb V2.out.lt)) hHeld ?_
  try simp only [Act.put, List.setIfInBounds_toArray, List.set_cons_zero, List.set_cons_succ]
  refine wpAnyH_takeL (i := 36) (oi := _) rfl (by kernel_rfl) (by kernel_rfl) (by kernel_rfl) (fun _ _ _ h => h) (yields_ldR (by rfl) _ rfl (by rfl) (fun _ hb => V0.out.below hb V0.out.lt)) hHeld ?_
  try simp only [Act.put, List.setIfInBounds_toArray, List.set_cons_zero, List.set_cons_succ]
  refine wpAnyH_takeL (i := 37) (oi := _) rfl (by kernel_rfl) (by kernel_rfl) (by kernel_rfl) (fun _ _ _ h => h) (yields_ldR (by rfl) _ rfl (by rfl) (fun _ hb => V1.out.below hb V1.out.lt)) hHeld ?_
  try simp only [Act.put, List.setIfInBounds_toArray, List.set_cons_zero, List.set_cons_succ]
  refine wpAnyH_takeL (i := 39) (oi := _) rfl (by kernel_rfl) (by kernel_rfl) (by kernel_rfl) (fun _ _ _ h => h) (yields_ldR (by rfl) _ rfl (by rfl) (fun _ hb => V0.out.below hb V0.out.lt)) hHeld ?_
  try simp only [Act.put, List.setIfInBounds_toArray, List.set_cons_zero, List.set_cons_succ]
  refine wpAnyH_takeL (i := 40) (oi := _) rfl (by kernel_rfl) (by kernel_rfl) (by kernel_rfl) (fun _ _ _ h => h) (yields_ldR (by rfl) _ rfl (by rfl) (fun _ hb => V2.out.below hb V2.out.lt)) hHeld ?_
  try simp only [Act.put, List.setIfInBounds_toArray, List.set_cons_zero, List.set_cons_succ]
  refine wpAnyH_ready (rs := [34]) (by kernel_rfl) (by simp) ?_
  refine AllReadyH.consL (o := _) rfl (fun K hK => ?_) AllReadyH.nil
  clear hHeld
  go_simp
  go_at_call 37
  refine Calls.mono (qadd_any (L := 100000000) (z := xc) (d := dc) (X1.out.below HB.out) (P1.out.below HB.out) (X2.out.below HB.out) (P2.out.below HB.out) LZ1.out LD1.out LZ2.out LD2.out LL.out HZc.out HDc.out) ?_
  rintro e v12 ⟨Pc, cc, Qc, kc, rfl, ho, ho2, hb⟩
  replace HB := Lib.hid (HB.out.trans (hb.mono HB.out.size))
  replace Za := Lib.hid (Za.out.below hb)
  replace Na := Lib.hid (Na.out.below hb)
  replace Zb := Lib.hid (Zb.out.below hb)
  replace Nb := Lib.hid (Nb.out.below hb)
  replace Zc := Lib.hid (Zc.out.below hb)
  replace Nc := Lib.hid (Nc.out.below hb)
  replace Zd := Lib.hid (Zd.out.below hb)
  replace Nd := Lib.hid (Nd.out.below hb)
  replace Ze := Lib.hid (Ze.out.below hb)
  replace Ne := Lib.hid (Ne.out.below hb)
  replace Zf := Lib.hid (Zf.out.below hb)
  replace Nf := Lib.hid (Nf.out.below hb)
  replace Zg := Lib.hid (Zg.out.below hb)
  replace Ng := Lib.hid (Ng.out.below hb)
  replace Zh := Lib.hid (Zh.out.below hb)
  replace Nh := Lib.hid (Nh.out.below hb)
  have Zc := Lib.hid (Zo.of_own ho)
  have Nc := Lib.hid ho2.rd
  clear ho ho2
  clear hb
  refine hK.out _ _ HB.out (fun hHeld => ?_)
  clear hK K
  try simp only [Act.put, List.setIfInBounds_toArray, List.set_cons_zero, List.set_cons_succ]
  refine wpAnyH_ready (rs := [35]) (by kernel_rfl) (by simp) ?_
  refine AllReadyH.consL (o := _) rfl (fun K hK => ?_) AllReadyH.nil
  clear hHeld
  go_simp
  go_at_call 41
  refine Calls.mono (qmul_any (L := 100000000) (z := xi) (d := di) (X0.out.below HB.out) (P0.out.below HB.out) Zc.out.in_ (Nin.of_rd Nc.out) LZ0.out LD0.out LZc.out LDc.out LL.out HZi.out HDi.out) ?_
  rintro e v13 ⟨Pi, ci, Qi, ki, rfl, ho, ho2, hb⟩
  replace HB := Lib.hid (HB.out.trans (hb.mono HB.out.size))
  replace Za := Lib.hid (Za.out.below hb)
  replace Na := Lib.hid (Na.out.below hb)
  replace Zb := Lib.hid (Zb.out.below hb)
  replace Nb := Lib.hid (Nb.out.below hb)
  replace Zc := Lib.hid (Zc.out.below hb)
  replace Nc := Lib.hid (Nc.out.below hb)
  replace Zd := Lib.hid (Zd.out.below hb)
  replace Nd := Lib.hid (Nd.out.below hb)
  replace Ze := Lib.hid (Ze.out.below hb)
  replace Ne := Lib.hid (Ne.out.below hb)
  replace Zf := Lib.hid (Zf.out.below hb)
  replace Nf := Lib.hid (Nf.out.below hb)
  replace Zg := Lib.hid (Zg.out.below hb)
  replace Ng := Lib.hid (Ng.out.below hb)
  replace Zh := Lib.hid (Zh.out.below hb)
  replace Nh := Lib.hid (Nh.out.below hb)
  have Zi := Lib.hid (Zo.of_own ho)
  have Ni := Lib.hid ho2.rd
  clear ho ho2
  clear hb
  refine hK.out _ _ HB.out (fun hHeld => ?_)
  clear hK K
  try simp only [Act.put, List.setIfInBounds_toArray, List.set_cons_zero, List.set_cons_succ]
  refine wpAnyH_ready (rs := [38]) (by kernel_rfl) (by simp) ?_
  refine AllReadyH.consL (o := _) rfl (fun K hK => ?_) AllReadyH.nil
  clear hHeld
  go_simp
  go_at_call 41
  refine Calls.mono (qmul_any (L := 100000000) (z := xe) (d := de) (X0.out.below HB.out) (P0.out.below HB.out) (X1.out.below HB.out) (P1.out.below HB.out) LZ0.out LD0.out LZ1.out LD1.out LL.out HZe.out HDe.out) ?_
  rintro e v14 ⟨Pe, ce, Qe, ke, rfl, ho, ho2, hb⟩
  replace HB := Lib.hid (HB.out.trans (hb.mono HB.out.size))
  replace Za := Lib.hid (Za.out.below hb)
  replace Na := Lib.hid (Na.out.below hb)
  replace Zb := Lib.hid (Zb.out.below hb)
  replace Nb := Lib.hid (Nb.out.below hb)
  replace Zc := Lib.hid (Zc.out.below hb)
  replace Nc := Lib.hid (Nc.out.below hb)
  replace Zd := Lib.hid (Zd.out.below hb)
  replace Nd := Lib.hid (Nd.out.below hb)
  replace Ze := Lib.hid (Ze.out.below hb)
  replace Ne := Lib.hid (Ne.out.below hb)
  replace Zf := Lib.hid (Zf.out.below hb)
  replace Nf := Lib.hid (Nf.out.below hb)
  replace Zg := Lib.hid (Zg.out.below hb)
  replace Ng := Lib.hid (Ng.out.below hb)
  replace Zh := Lib.hid (Zh.out.below hb)
  replace Nh := Lib.hid (Nh.out.below hb)
  replace Zi := Lib.hid (Zi.out.below hb)
  replace Ni := Lib.hid (Ni.out.below hb)
  have Ze := Lib.hid (Zo.of_own ho)
  have Ne := Lib.hid ho2.rd
  clear ho ho2
  clear hb
  refine hK.out _ _ HB.out (fun hHeld => ?_)
  clear hK K
  try simp only [Act.put, List.setIfInBounds_toArray, List.set_cons_zero, List.set_cons_succ]
  refine wpAnyH_ready (rs := [41]) (by kernel_rfl) (by simp) ?_
  refine AllReadyH.consL (o := _) rfl (fun K hK => ?_) AllReadyH.nil
  clear hHeld
  go_simp
  go_at_call 41
  refine Calls.mono (qmul_any (L := 100000000) (z := xj) (d := dj) (X0.out.below HB.out) (P0.out.below HB.out) (X2.out.below HB.out) (P2.out.below HB.out) LZ0.out LD0.out LZ2.out LD2.out LL.out HZj.out HDj.out) ?_
  rintro e v15 ⟨Pj, cj, Qj, kj, rfl, ho, ho2, hb⟩
  replace HB := Lib.hid (HB.out.trans (hb.mono HB.out.size))
  replace Za := Lib.hid (Za.out.below hb)
  replace Na := Lib.hid (Na.out.below hb)
  replace Zb := Lib.hid (Zb.out.below hb)
  replace Nb := Lib.hid (Nb.out.below hb)
  replace Zc := Lib.hid (Zc.out.below hb)
  replace Nc := Lib.hid (Nc.out.below hb)
  replace Zd := Lib.hid (Zd.out.below hb)
  replace Nd := Lib.hid (Nd.out.below hb)
  replace Ze := Lib.hid (Ze.out.below hb)
  replace Ne := Lib.hid (Ne.out.below hb)
  replace Zf := Lib.hid (Zf.out.below hb)
  replace Nf := Lib.hid (Nf.out.below hb)
  replace Zg := Lib.hid (Zg.out.below hb)
  replace Ng := Lib.hid (Ng.out.below hb)
  replace Zh := Lib.hid (Zh.out.below hb)
  replace Nh := Lib.hid (Nh.out.below hb)
  replace Zi := Lib.hid (Zi.out.below hb)
  replace Ni := Lib.hid (Ni.out.below hb)
  have Zj := Lib.hid (Zo.of_own ho)
  have Nj := Lib.hid ho2.rd
  clear ho ho2
  clear hb
  refine hK.out _ _ HB.out (fun hHeld => ?_)
  clear hK K
  try simp only [Act.put, List.setIfInBounds_toArray, List.set_cons_zero, List.set_cons_succ]
  refine wpAnyH_ready (rs := [42]) (by kernel_rfl) (by simp) ?_
  refine AllReadyH.consL (o := _) rfl (fun K hK => ?_) AllReadyH.nil
  clear hHeld
  go_simp
  go_at_call 37
  refine Calls.mono (qadd_any (L := 100000000) (z := xk) (d := dk) Ze.out.in_ (Nin.of_rd Ne.out) Zj.out.in_ (Nin.of_rd Nj.out) LZe.out LDe.out LZj.out LDj.out LL.out HZk.out HDk.out) ?_
  rintro e v16 ⟨Pk, ck, Qk, kk, rfl, ho, ho2, hb⟩
  replace HB := Lib.hid (HB.out.trans (hb.mono HB.out.size))
  replace Za := Lib.hid (Za.out.below hb)
  replace Na := Lib.hid (Na.out.below hb)
  replace Zb := Lib.hid (Zb.out.below hb)
  replace Nb := Lib.hid (Nb.out.below hb)
  replace Zc := Lib.hid (Zc.out.below hb)
  replace Nc := Lib.hid (Nc.out.below hb)
  replace Zd := Lib.hid (Zd.out.below hb)
  replace Nd := Lib.hid (Nd.out.below hb)
  replace Ze := Lib.hid (Ze.out.below hb)
  replace Ne := Lib.hid (Ne.out.below hb)
  replace Zf := Lib.hid (Zf.out.below hb)
  replace Nf := Lib.hid (Nf.out.below hb)
  replace Zg := Lib.hid (Zg.out.below hb)
  replace Ng := Lib.hid (Ng.out.below hb)
  replace Zh := Lib.hid (Zh.out.below hb)
  replace Nh := Lib.hid (Nh.out.below hb)
  replace Zi := Lib.hid (Zi.out.below hb)
  replace Ni := Lib.hid (Ni.out.below hb)
  replace Zj := Lib.hid (Zj.out.below hb)
  replace Nj := Lib.hid (Nj.out.below hb)
  have Zk := Lib.hid (Zo.of_own ho)
  have Nk := Lib.hid ho2.rd
  clear ho ho2
  clear hb
  refine hK.out _ _ HB.out (fun hHeld => ?_)
  clear hK K
  try simp only [Act.put, List.setIfInBounds_toArray, List.set_cons_zero, List.set_cons_succ]
  refine wpAnyH_ready (rs := [43]) (by kernel_rfl) (by simp) ?_
  refine AllReadyH.consL (o := _) rfl (fun K hK => ?_) AllReadyH.nil
  clear hHeld
  go_simp
  go_at_call 33
  refine Calls.mono (r3equal_any (b := true) Zi.out Zk.out Ni.out Nk.out (by simpa using EQi_k.out)) ?_
  rintro e v17 ⟨rfl, hb⟩
  replace HB := Lib.hid (HB.out.trans (hb.mono HB.out.size))
  replace Za := Lib.hid (Za.out.below hb)
  replace Na := Lib.hid (Na.out.below hb)
  replace Zb := Lib.hid (Zb.out.below hb)
  replace Nb := Lib.hid (Nb.out.below hb)
  replace Zc := Lib.hid (Zc.out.below hb)
  replace Nc := Lib.hid (Nc.out.below hb)
  replace Zd := Lib.hid (Zd.out.below hb)
  replace Nd := Lib.hid (Nd.out.below hb)
  replace Ze := Lib.hid (Ze.out.below hb)
  replace Ne := Lib.hid (Ne.out.below hb)
  replace Zf := Lib.hid (Zf.out.below hb)
  replace Nf := Lib.hid (Nf.out.below hb)
  replace Zg := Lib.hid (Zg.out.below hb)
  replace Ng := Lib.hid (Ng.out.below hb)
  replace Zh := Lib.hid (Zh.out.below hb)
  replace Nh := Lib.hid (Nh.out.below hb)
  replace Zi := Lib.hid (Zi.out.below hb)
  replace Ni := Lib.hid (Ni.out.below hb)
  replace Zj := Lib.hid (Zj.out.below hb)
  replace Nj := Lib.hid (Nj.out.below hb)
  replace Zk := Lib.hid (Zk.out.below hb)
  replace Nk := Lib.hid (Nk.out.below hb)
  clear hb
  refine hK.out _ _ HB.out (fun hHeld => ?_)
  clear hK K
  try simp only [Act.put, List.setIfInBounds_toArray, List.set_cons_zero, List.set_cons_succ]
  refine wpAnyH_takeL (i := 44) (oi := _) (v := ?_) rfl (by kernel_rfl) (by kernel_rfl) (by kernel_rfl) (fun _ _ _ h => h) (Or.inl ⟨by rfl, ?_⟩) hHeld ?_
  rotate_left
  · (intro w' hSw; (try dsimp only at hSw); go_simp; try (with_reducible rfl))
  try simp only [Act.put, List.setIfInBounds_toArray, List.set_cons_zero, List.set_cons_succ]
  refine wpAnyH_takeL (i := 45) (oi := _) (v := ?_) rfl (by kernel_rfl) (by kernel_rfl) (by kernel_rfl) (fun _ _ _ h => h) (Or.inl ⟨by rfl, ?_⟩) hHeld ?_
  rotate_left
  · (intro w' hSw; (try dsimp only at hSw); go_simp; try (with_reducible rfl))
  try simp only [Act.put, List.setIfInBounds_toArray, List.set_cons_zero, List.set_cons_succ]
  skip
  refine wpAnyH_done (by kernel_rfl) ?_ _
  have hb := HB.out
  replace V0 := Lib.hid (V0.out.below hb V0.out.lt)
  replace X0 := Lib.hid (X0.out.below hb)
  replace P0 := Lib.hid (P0.out.below hb)
  replace V1 := Lib.hid (V1.out.below hb V1.out.lt)
  replace X1 := Lib.hid (X1.out.below hb)
  replace P1 := Lib.hid (P1.out.below hb)
  replace V2 := Lib.hid (V2.out.below hb V2.out.lt)
  replace X2 := Lib.hid (X2.out.below hb)
  replace P2 := Lib.hid (P2.out.below hb)
  replace B1 := Lib.hid (B1.out.trans (hb.mono B1.out.size))
  clear hHeld hb HB Za Na Zb Nb Zc Nc Zd Nd Ze Ne Zf Nf Zg Ng Zh Nh Zi Ni Zj Nj Zk Nk
  rcases CR.out with h | h | h
  · subst h
    clear CR
    have NZ0 : mkRat z0 q0 ≠ 0 := fun h => by have h2 := SR.out; rw [sgR_zero.2 h] at h2; cases h2
    have r0 := R0.out
    obtain ⟨xv, exv⟩ : ∃ z : Int, ((mkRat z0 q0)⁻¹).num = z := ⟨_, rfl⟩
    obtain ⟨dv, edv⟩ : ∃ z : Nat, ((mkRat z0 q0)⁻¹).den = z := ⟨_, rfl⟩
    have Mv : mkRat xv dv = (mkRat z0 q0)⁻¹ := by rw [← exv, ← edv, mk_self]
    have rv : RL (mkRat xv dv) 1048576 := by rw [Mv]; exact (rl_inv r0 NZ0).le (by decide)
    have LZv : Hid ((ofv xv.natAbs).length ≤ 100000000) := by show _ ≤ _; have h := rv.1; rw [Mv, exv] at h; exact Nat.le_trans h (by decide)
    have LDv : Hid ((ofv dv).length ≤ 100000000) := by show _ ≤ _; have h := rv.2; rw [Mv, edv] at h; exact Nat.le_trans h (by decide)
    have HZv := Lib.hid exv
    have HDv := Lib.hid edv
    obtain ⟨xp, exp⟩ : ∃ z : Int, (mkRat z0 q0 * mkRat xv dv).num = z := ⟨_, rfl⟩
    obtain ⟨dp, edp⟩ : ∃ z : Nat, (mkRat z0 q0 * mkRat xv dv).den = z := ⟨_, rfl⟩
    have Mp : mkRat xp dp = mkRat z0 q0 * mkRat xv dv := by rw [← exp, ← edp, mk_self]
    have rp : RL (mkRat xp dp) 2097152 := by rw [Mp]; exact (rl_mul r0 rv).le (by decide)
    have LZp : Hid ((ofv xp.natAbs).length ≤ 100000000) := by show _ ≤ _; have h := rp.1; rw [Mp, exp] at h; exact Nat.le_trans h (by decide)
    have LDp : Hid ((ofv dp).length ≤ 100000000) := by show _ ≤ _; have h := rp.2; rw [Mp, edp] at h; exact Nat.le_trans h (by decide)
    have HZp := Lib.hid exp
    have HDp := Lib.hid edp
    have EE : mkRat z0 q0 * mkRat xv dv = Rat.divInt 1 1 := by rw [Mv, Rat.mul_inv_cancel _ NZ0]; rfl
    have EQp_u : Hid (xp = xu ∧ dp = du) := by show _ ∧ _; rw [← exp, ← edp, EE]; exact ⟨HZu.out, HDu.out⟩
    have NZ := Lib.hid NZ0
    clear NZ0 EE r0 exv edv Mv rv exp edp Mp rp
    have pc0 := Lib.hid trivial
    go_wp2_with (first
      | (clear pc0; refine wpList_ldR (by rfl) _ rfl (by rfl) V0.out ?_; have pc1 := Lib.hid trivial)
      | (clear pc1; go_at_call 31; refine Calls.mono (qinv_any (L := 100000000) (z := xv) (d := dv) X0.out P0.out LZ0.out LD0.out LL2.out NZ.out HZv.out HDv.out) ?_; rintro e v18 ⟨Pv, cv, Qv, kv, rfl, ho, ho2, hb⟩; replace V0 := Lib.hid (V0.out.below hb V0.out.lt); replace X0 := Lib.hid (X0.out.below hb); replace P0 := Lib.hid (P0.out.below hb); replace V1 := Lib.hid (V1.out.below hb V1.out.lt); replace X1 := Lib.hid (X1.out.below hb); replace P1 := Lib.hid (P1.out.below hb); replace V2 := Lib.hid (V2.out.below hb V2.out.lt); replace X2 := Lib.hid (X2.out.below hb); replace P2 := Lib.hid (P2.out.below hb); replace B1 := Lib.hid (B1.out.trans (hb.mono B1.out.size)); have Zv := Lib.hid (Zo.of_own ho); have Nv := Lib.hid ho2.rd; clear ho ho2; clear hb; have pc2 := Lib.hid trivial)
      | (clear pc2; have LTV : Hid (w.heap.size + 2 < v18.heap.size) := V2.out.lt; have LI := Lib.hid B1.out.size; have hb : Below v18.heap.size v18 (v18.alloc (.cells #[.bool false, .slice none 0 0, .slice none 0 0] 42)) := (Below.refl _ _).alloc (Nat.le_refl _) _; replace V0 := Lib.hid (V0.out.below hb V0.out.lt); replace X0 := Lib.hid (X0.out.below hb); replace P0 := Lib.hid (P0.out.below hb); replace V1 := Lib.hid (V1.out.below hb V1.out.lt); replace X1 := Lib.hid (X1.out.below hb); replace P1 := Lib.hid (P1.out.below hb); replace V2 := Lib.hid (V2.out.below hb V2.out.lt); replace X2 := Lib.hid (X2.out.below hb); replace P2 := Lib.hid (P2.out.below hb); replace Zv := Lib.hid (Zv.out.below hb); replace Nv := Lib.hid (Nv.out.below hb); replace B1 := Lib.hid (B1.out.trans (hb.mono B1.out.size)); clear hb; have VI := Lib.hid (Rb.new v18 false none 0 0 none 0 0); refine wpList_stR (by rfl) _ _ rfl (by rfl) (by rfl) VI.out ?_; intro ws hz hg; replace V0 := Lib.hid (V0.out.gro hg (by have := LTV.out; omega)); replace X0 := Lib.hid (X0.out.grR VI.out hg); replace P0 := Lib.hid (P0.out.grR VI.out hg); replace V1 := Lib.hid (V1.out.gro hg (by have := LTV.out; omega)); replace X1 := Lib.hid (X1.out.grR VI.out hg); replace P1 := Lib.hid (P1.out.grR VI.out hg); replace V2 := Lib.hid (V2.out.gro hg (by have := LTV.out; omega)); replace X2 := Lib.hid (X2.out.grR VI.out hg); replace P2 := Lib.hid (P2.out.grR VI.out hg); replace Zv := Lib.hid (Zv.out.grR VI.out hg); replace Nv := Lib.hid (Nv.out.grR VI.out hg); replace B1 := Lib.hid (Below.gr B1.out (LI.out) hg B1.out.size); replace VI := Lib.hid hz; clear hz hg; have pc3 := Lib.hid trivial))
    clear pc3
    have HB : Hid (Below ws.heap.size ws ws.drew) := below_drewN _ ws 1
    refine wp_region_held_drew (S := fun w' => Below ws.heap.size ws w') (by kernel_rfl) (HB.out) (fun hHeld => ?_)
    refine wpAnyH_takeL (i := 0) (oi := _) rfl (by kernel_rfl) (by kernel_rfl) (by kernel_rfl) (fun _ _ _ h => h) (yields_ldR (by rfl) _ rfl (by rfl) (fun _ hb => V0.out.below hb V0.out.lt)) hHeld ?_
    try simp only [Act.put, List.setIfInBounds_toArray, List.set_cons_zero, List.set_cons_succ]
    refine wpAnyH_takeL (i := 1) (oi := _) rfl (by kernel_rfl) (by kernel_rfl) (by kernel_rfl) (fun _ _ _ h => h) (yields_ldR (by rfl) _ rfl (by rfl) (fun _ hb => V0.out.below hb V0.out.lt)) hHeld ?_
    try simp only [Act.put, List.setIfInBounds_toArray, List.set_cons_zero, List.set_cons_succ]
    refine wpAnyH_ready (rs := [2]) (by kernel_rfl) (by simp) ?_
    refine AllReadyH.consL (o := _) rfl (fun K hK => ?_) AllReadyH.nil
    clear hHeld
    go_simp
    go_at_call 35
    refine Calls.mono (qneg_any (L := 100000000) (z := xl) (d := dl) (X0.out.below HB.out) (P0.out.below HB.out) LZ0.out LD0.out LL2.out HZl.out HDl.out) ?_
    rintro e v19 ⟨Pl, cl, Ql, kl, rfl, ho, ho2, hb⟩
    replace HB := Lib.hid (HB.out.trans (hb.mono HB.out.size))
    have Zl := Lib.hid (Zo.of_own ho)
    have Nl := Lib.hid ho2.rd
    clear ho ho2
    clear hb
    refine hK.out _ _ HB.out (fun hHeld => ?_)
    clear hK K
    try simp only [Act.put, List.setIfInBounds_toArray, List.set_cons_zero, List.set_cons_succ]
    refine wpAnyH_ready (rs := [3]) (by kernel_rfl) (by simp) ?_
    refine AllReadyH.consL (o := _) rfl (fun K hK => ?_) AllReadyH.nil
    clear hHeld
    go_simp
    go_at_call 37
    refine Calls.mono (qadd_any (L := 100000000) (z := xm) (d := dm) (X0.out.below HB.out) (P0.out.below HB.out) Zl.out.in_ (Nin.of_rd Nl.out) LZ0.out LD0.out LZl.out LDl.out LL.out HZm.out HDm.out) ?_
    rintro e v20 ⟨Pm, cm, Qm, km, rfl, ho, ho2, hb⟩
    replace HB := Lib.hid (HB.out.trans (hb.mono HB.out.size))
    replace Zl := Lib.hid (Zl.out.below hb)
    replace Nl := Lib.hid (Nl.out.below hb)
    have Zm := Lib.hid (Zo.of_own ho)
    have Nm := Lib.hid ho2.rd
    clear ho ho2
    clear hb
    refine hK.out _ _ HB.out (fun hHeld => ?_)
    clear hK K
    try simp only [Act.put, List.setIfInBounds_toArray, List.set_cons_zero, List.set_cons_succ]
    refine wpAnyH_ready (rs := [4]) (by kernel_rfl) (by simp) ?_
    refine AllReadyH.consL (o := _) rfl (fun K hK => ?_) AllReadyH.nil
    clear hHeld
    go_simp
    go_at_call 43
    refine Calls.mono (rzeroR_any HZn.out _) ?_
    rintro e v21 ⟨Pn, cn, Qn, kn, rfl, ho, ho2, hb⟩
    replace HB := Lib.hid (HB.out.trans (hb.mono HB.out.size))
    replace Zl := Lib.hid (Zl.out.below hb)
    replace Nl := Lib.hid (Nl.out.below hb)
    replace Zm := Lib.hid (Zm.out.below hb)
    replace Nm := Lib.hid (Nm.out.below hb)
    have Zn := Lib.hid (Zo.of_own ho)
    have Nn := Lib.hid ho2.rd
    clear ho ho2
    clear hb
    refine hK.out _ _ HB.out (fun hHeld => ?_)
    clear hK K
    try simp only [Act.put, List.setIfInBounds_toArray, List.set_cons_zero, List.set_cons_succ]
    refine wpAnyH_ready (rs := [5]) (by kernel_rfl) (by simp) ?_
    refine AllReadyH.consL (o := _) rfl (fun K hK => ?_) AllReadyH.nil
    clear hHeld
    go_simp
    go_at_call 33
    refine Calls.mono (r3equal_any (b := true) Zm.out Zn.out Nm.out Nn.out (by simpa using EMN.out)) ?_
    rintro e v22 ⟨rfl, hb⟩
    replace HB := Lib.hid (HB.out.trans (hb.mono HB.out.size))
    replace Zl := Lib.hid (Zl.out.below hb)
    replace Nl := Lib.hid (Nl.out.below hb)
    replace Zm := Lib.hid (Zm.out.below hb)
    replace Nm := Lib.hid (Nm.out.below hb)
    replace Zn := Lib.hid (Zn.out.below hb)
    replace Nn := Lib.hid (Nn.out.below hb)
    clear hb
    refine hK.out _ _ HB.out (fun hHeld => ?_)
    clear hK K
    try simp only [Act.put, List.setIfInBounds_toArray, List.set_cons_zero, List.set_cons_succ]
    refine wpAnyH_takeL (i := 6) (oi := _) (v := ?_) rfl (by kernel_rfl) (by kernel_rfl) (by kernel_rfl) (fun _ _ _ h => h) (Or.inl ⟨by rfl, ?_⟩) hHeld ?_
    rotate_left
    · (intro w' hSw; (try dsimp only at hSw); go_simp; try (with_reducible rfl))
    try simp only [Act.put, List.setIfInBounds_toArray, List.set_cons_zero, List.set_cons_succ]
    refine wpAnyH_takeL (i := 7) (oi := _) (v := ?_) rfl (by kernel_rfl) (by kernel_rfl) (by kernel_rfl) (fun _ _ _ h => h) (Or.inl ⟨by rfl, ?_⟩) hHeld ?_
    rotate_left
    · (intro w' hSw; (try dsimp only at hSw); go_simp; try (with_reducible rfl))
    try simp only [Act.put, List.setIfInBounds_toArray, List.set_cons_zero, List.set_cons_succ]
    refine wpAnyH_takeL (i := 8) (oi := _) rfl (by kernel_rfl) (by kernel_rfl) (by kernel_rfl) (fun _ _ _ h => h) (yields_ldR (by rfl) _ rfl (by rfl) (fun _ hb => V0.out.below hb V0.out.lt)) hHeld ?_
    try simp only [Act.put, List.setIfInBounds_toArray, List.set_cons_zero, List.set_cons_succ]
    refine wpAnyH_ready (rs := [9]) (by kernel_rfl) (by simp) ?_
    refine AllReadyH.consL (o := _) rfl (fun K hK => ?_) AllReadyH.nil
    clear hHeld
    go_simp
    go_at_call 44
    refine Calls.mono (qsign_any (L := 100000000) (r := -1) (X0.out.below HB.out) (P0.out.below HB.out) LZ0.out LD0.out LL2.out SR.out) ?_
    rintro e v23 ⟨rfl, hb⟩
    replace HB := Lib.hid (HB.out.trans (hb.mono HB.out.size))
    replace Zl := Lib.hid (Zl.out.below hb)
    replace Nl := Lib.hid (Nl.out.below hb)
    replace Zm := Lib.hid (Zm.out.below hb)
    replace Nm := Lib.hid (Nm.out.below hb)
    replace Zn := Lib.hid (Zn.out.below hb)
    replace Nn := Lib.hid (Nn.out.below hb)
    clear hb
    refine hK.out _ _ HB.out (fun hHeld => ?_)
    clear hK K
    try simp only [Act.put, List.setIfInBounds_toArray, List.set_cons_zero, List.set_cons_succ]
    refine wpAnyH_takeL (i := 10) (oi := _) (v := ?_) rfl (by kernel_rfl) (by kernel_rfl) (by kernel_rfl) (fun _ _ _ h => h) (Or.inl ⟨by rfl, ?_⟩) hHeld ?_
    rotate_left
    · (intro w' hSw; (try dsimp only at hSw); go_simp; try (with_reducible rfl))
    try simp only [Act.put, List.setIfInBounds_toArray, List.set_cons_zero, List.set_cons_succ]
    refine wpAnyH_takeL (i := 11) (oi := _) (v := ?_) rfl (by kernel_rfl) (by kernel_rfl) (by kernel_rfl) (fun _ _ _ h => h) (Or.inl ⟨by rfl, ?_⟩) hHeld ?_
    rotate_left
    · (intro w' hSw; (try dsimp only at hSw); go_simp; try (with_reducible rfl))
    try simp only [Act.put, List.setIfInBounds_toArray, List.set_cons_zero, List.set_cons_succ]
    refine wpAnyH_takeL (i := 12) (oi := _) (v := ?_) rfl (by kernel_rfl) (by kernel_rfl) (by kernel_rfl) (fun _ _ _ h => h) (Or.inl ⟨by rfl, ?_⟩) hHeld ?_
    rotate_left
    · (intro w' hSw; (try dsimp only at hSw); go_simp; try (with_reducible rfl))
    try simp only [Act.put, List.setIfInBounds_toArray, List.set_cons_zero, List.set_cons_succ]
    refine wpAnyH_takeL (i := 13) (oi := _) (v := ?_) rfl (by kernel_rfl) (by kernel_rfl) (by kernel_rfl) (fun _ _ _ h => h) (Or.inl ⟨by rfl, ?_⟩) hHeld ?_
    rotate_left
    · (intro w' hSw; (try dsimp only at hSw); go_simp; try (with_reducible rfl))
    try simp only [Act.put, List.setIfInBounds_toArray, List.set_cons_zero, List.set_cons_succ]
    refine wpAnyH_takeL (i := 14) (oi := _) (v := ?_) rfl (by kernel_rfl) (by kernel_rfl) (by kernel_rfl) (fun _ _ _ h => h) (Or.inl ⟨by rfl, ?_⟩) hHeld ?_
    rotate_left
    · (intro w' hSw; (try dsimp only at hSw); go_simp; try (with_reducible rfl))
    try simp only [Act.put, List.setIfInBounds_toArray, List.set_cons_zero, List.set_cons_succ]
    refine wpAnyH_takeL (i := 15) (oi := _) (v := ?_) rfl (by kernel_rfl) (by kernel_rfl) (by kernel_rfl) (fun _ _ _ h => h) (Or.inl ⟨by rfl, ?_⟩) hHeld ?_
    rotate_left
    · (intro w' hSw; (try dsimp only at hSw); go_simp; try (with_reducible rfl))
    try simp only [Act.put, List.setIfInBounds_toArray, List.set_cons_zero, List.set_cons_succ]
    refine wpAnyH_takeL (i := 16) (oi := _) (v := ?_) rfl (by kernel_rfl) (by kernel_rfl) (by kernel_rfl) (fun _ _ _ h => h) (Or.inl ⟨by rfl, ?_⟩) hHeld ?_
    rotate_left
    · (intro w' hSw; (try dsimp only at hSw); go_simp; try (with_reducible rfl))
    try simp only [Act.put, List.setIfInBounds_toArray, List.set_cons_zero, List.set_cons_succ]
    refine wpAnyH_takeL (i := 17) (oi := _) rfl (by kernel_rfl) (by kernel_rfl) (by kernel_rfl) (fun _ _ _ h => h) (yields_ldR (by rfl) _ rfl (by rfl) (fun _ hb => V0.out.below hb V0.out.lt)) hHeld ?_
    try simp only [Act.put, List.setIfInBounds_toArray, List.set_cons_zero, List.set_cons_succ]
    refine wpAnyH_takeL (i := 18) (oi := _) rfl (by kernel_rfl) (by kernel_rfl) (by kernel_rfl) (fun _ _ _ h => h) (yields_ldR (by rfl) _ rfl (by rfl) (fun _ hb => VI.out.below hb VI.out.lt)) hHeld ?_
    try simp only [Act.put, List.setIfInBounds_toArray, List.set_cons_zero, List.set_cons_succ]
    refine wpAnyH_ready (rs := [19]) (by kernel_rfl) (by simp) ?_
    refine AllReadyH.consL (o := _) rfl (fun K hK => ?_) AllReadyH.nil
    clear hHeld
    go_simp
    go_at_call 41
    refine Calls.mono (qmul_any (L := 100000000) (z := xp) (d := dp) (X0.out.below HB.out) (P0.out.below HB.out) (Zv.out.below HB.out).in_ (Nin.of_rd (Nv.out.below HB.out)) LZ0.out LD0.out LZv.out LDv.out LL.out HZp.out HDp.out) ?_
    rintro e v24 ⟨Pp, cp, Qp, kp, rfl, ho, ho2, hb⟩
    replace HB := Lib.hid (HB.out.trans (hb.mono HB.out.size))
    replace Zl := Lib.hid (Zl.out.below hb)
    replace Nl := Lib.hid (Nl.out.below hb)
    replace Zm := Lib.hid (Zm.out.below hb)
    replace Nm := Lib.hid (Nm.out.below hb)
    replace Zn := Lib.hid (Zn.out.below hb)
    replace Nn := Lib.hid (Nn.out.below hb)
    have Zp := Lib.hid (Zo.of_own ho)
    have Np := Lib.hid ho2.rd
    clear ho ho2
    clear hb
    refine hK.out _ _ HB.out (fun hHeld => ?_)
    clear hK K
    try simp only [Act.put, List.setIfInBounds_toArray, List.set_cons_zero, List.set_cons_succ]
    refine wpAnyH_ready (rs := [20]) (by kernel_rfl) (by simp) ?_
    refine AllReadyH.consL (o := _) rfl (fun K hK => ?_) AllReadyH.nil
    clear hHeld
    go_simp
    go_at_call 32
    refine Calls.mono (r3fromInt_any (a := 1) (z := xu) (d := du) I1.out HZu.out HDu.out _) ?_
    rintro e v25 ⟨Pu, cu, Qu, ku, rfl, ho, ho2, hb⟩
    replace HB := Lib.hid (HB.out.trans (hb.mono HB.out.size))
    replace Zl := Lib.hid (Zl.out.below hb)
    replace Nl := Lib.hid (Nl.out.below hb)
    replace Zm := Lib.hid (Zm.out.below hb)
    replace Nm := Lib.hid (Nm.out.below hb)
    replace Zn := Lib.hid (Zn.out.below hb)
    replace Nn := Lib.hid (Nn.out.below hb)
    replace Zp := Lib.hid (Zp.out.below hb)
    replace Np := Lib.hid (Np.out.below hb)
    have Zu := Lib.hid (Zo.of_own ho)
    have Nu := Lib.hid ho2.rd
    clear ho ho2
    clear hb
    refine hK.out _ _ HB.out (fun hHeld => ?_)
    clear hK K
    try simp only [Act.put, List.setIfInBounds_toArray, List.set_cons_zero, List.set_cons_succ]
    refine wpAnyH_ready (rs := [21]) (by kernel_rfl) (by simp) ?_
    refine AllReadyH.consL (o := _) rfl (fun K hK => ?_) AllReadyH.nil
    clear hHeld
    go_simp
    go_at_call 33
    refine Calls.mono (r3equal_any (b := true) Zp.out Zu.out Np.out Nu.out (by simpa using EQp_u.out)) ?_
    rintro e v26 ⟨rfl, hb⟩
    replace HB := Lib.hid (HB.out.trans (hb.mono HB.out.size))
    replace Zl := Lib.hid (Zl.out.below hb)
    replace Nl := Lib.hid (Nl.out.below hb)
    replace Zm := Lib.hid (Zm.out.below hb)
    replace Nm := Lib.hid (Nm.out.below hb)
    replace Zn := Lib.hid (Zn.out.below hb)
    replace Nn := Lib.hid (Nn.out.below hb)
    replace Zp := Lib.hid (Zp.out.below hb)
    replace Np := Lib.hid (Np.out.below hb)
    replace Zu := Lib.hid (Zu.out.below hb)
    replace Nu := Lib.hid (Nu.out.below hb)
    clear hb
    refine hK.out _ _ HB.out (fun hHeld => ?_)
    clear hK K
    try simp only [Act.put, List.setIfInBounds_toArray, List.set_cons_zero, List.set_cons_succ]
    refine wpAnyH_takeL (i := 22) (oi := _) (v := ?_) rfl (by kernel_rfl) (by kernel_rfl) (by kernel_rfl) (fun _ _ _ h => h) (Or.inl ⟨by rfl, ?_⟩) hHeld ?_
    rotate_left
    · (intro w' hSw; (try dsimp only at hSw); go_simp; try (with_reducible rfl))
    try simp only [Act.put, List.setIfInBounds_toArray, List.set_cons_zero, List.set_cons_succ]
    refine wpAnyH_takeL (i := 23) (oi := _) (v := ?_) rfl (by kernel_rfl) (by kernel_rfl) (by kernel_rfl) (fun _ _ _ h => h) (Or.inl ⟨by rfl, ?_⟩) hHeld ?_
    rotate_left
    · (intro w' hSw; (try dsimp only at hSw); go_simp; try (with_reducible rfl))
    try simp only [Act.put, List.setIfInBounds_toArray, List.set_cons_zero, List.set_cons_succ]
    refine wpAnyH_takeL (i := 24) (oi := _) (v := ?_) rfl (by kernel_rfl) (by kernel_rfl) (by kernel_rfl) (fun _ _ _ h => h) (Or.inl ⟨by rfl, ?_⟩) hHeld ?_
    rotate_left
    · (intro w' hSw; (try dsimp only at hSw); go_simp; try (with_reducible rfl))
    try simp only [Act.put, List.setIfInBounds_toArray, List.set_cons_zero, List.set_cons_succ]
    skip
    refine wpAnyH_done (by kernel_rfl) ?_ _
    have hb := HB.out
    replace V0 := Lib.hid (V0.out.below hb V0.out.lt)
    replace X0 := Lib.hid (X0.out.below hb)
    replace P0 := Lib.hid (P0.out.below hb)
    replace V1 := Lib.hid (V1.out.below hb V1.out.lt)
    replace X1 := Lib.hid (X1.out.below hb)
    replace P1 := Lib.hid (P1.out.below hb)
    replace V2 := Lib.hid (V2.out.below hb V2.out.lt)
    replace X2 := Lib.hid (X2.out.below hb)
    replace P2 := Lib.hid (P2.out.below hb)
    replace Zv := Lib.hid (Zv.out.below hb)
    replace Nv := Lib.hid (Nv.out.below hb)
    replace VI := Lib.hid (VI.out.below hb VI.out.lt)
    replace B1 := Lib.hid (B1.out.trans (hb.mono B1.out.size))
    clear hHeld hb HB Zl Nl Zm Nm Zn Nn Zp Np Zu Nu
    go_wp2
    go_ret
    exact ⟨rfl, B1.out⟩
  · subst h
    clear CR
    have Z0 : Hid (mkRat z0 q0 = 0) := sgR_zero.1 SR.out
    have pc0 := Lib.hid trivial
    go_wp2_with (first
      | (clear pc0; refine wpList_ldR (by rfl) _ rfl (by rfl) V0.out ?_; have pc1 := Lib.hid trivial)
      | (clear pc1; go_at_call 31; refine Calls.mono (qinv_zero (L := 100000000) X0.out P0.out LZ0.out LD0.out LL2.out Z0.out) ?_; rintro e v18 ⟨rfl, hb⟩; replace V0 := Lib.hid (V0.out.below hb V0.out.lt); replace X0 := Lib.hid (X0.out.below hb); replace P0 := Lib.hid (P0.out.below hb); replace V1 := Lib.hid (V1.out.below hb V1.out.lt); replace X1 := Lib.hid (X1.out.below hb); replace P1 := Lib.hid (P1.out.below hb); replace V2 := Lib.hid (V2.out.below hb V2.out.lt); replace X2 := Lib.hid (X2.out.below hb); replace P2 := Lib.hid (P2.out.below hb); replace B1 := Lib.hid (B1.out.trans (hb.mono B1.out.size)); clear hb; have pc2 := Lib.hid trivial)
      | (clear pc2; have LTV : Hid (w.heap.size + 2 < v18.heap.size) := V2.out.lt; have LI := Lib.hid B1.out.size; have hb : Below v18.heap.size v18 (v18.alloc (.cells #[.bool false, .slice none 0 0, .slice none 0 0] 42)) := (Below.refl _ _).alloc (Nat.le_refl _) _; replace V0 := Lib.hid (V0.out.below hb V0.out.lt); replace X0 := Lib.hid (X0.out.below hb); replace P0 := Lib.hid (P0.out.below hb); replace V1 := Lib.hid (V1.out.below hb V1.out.lt); replace X1 := Lib.hid (X1.out.below hb); replace P1 := Lib.hid (P1.out.below hb); replace V2 := Lib.hid (V2.out.below hb V2.out.lt); replace X2 := Lib.hid (X2.out.below hb); replace P2 := Lib.hid (P2.out.below hb); replace B1 := Lib.hid (B1.out.trans (hb.mono B1.out.size)); clear hb; have VI := Lib.hid (Rb.new v18 false none 0 0 none 0 0); refine wpList_stR (by rfl) _ _ rfl (by rfl) (by rfl) VI.out ?_; intro ws hz hg; replace V0 := Lib.hid (V0.out.gro hg (by have := LTV.out; omega)); replace X0 := Lib.hid (X0.out.grR VI.out hg); replace P0 := Lib.hid (P0.out.grR VI.out hg); replace V1 := Lib.hid (V1.out.gro hg (by have := LTV.out; omega)); replace X1 := Lib.hid (X1.out.grR VI.out hg); replace P1 := Lib.hid (P1.out.grR VI.out hg); replace V2 := Lib.hid (V2.out.gro hg (by have := LTV.out; omega)); replace X2 := Lib.hid (X2.out.grR VI.out hg); replace P2 := Lib.hid (P2.out.grR VI.out hg); replace B1 := Lib.hid (Below.gr B1.out (LI.out) hg B1.out.size); replace VI := Lib.hid hz; clear hz hg; have pc3 := Lib.hid trivial))
    clear pc3
    have HB : Hid (Below ws.heap.size ws ws.drew) := below_drewN _ ws 1
    refine wp_region_held_drew (S := fun w' => Below ws.heap.size ws w') (by kernel_rfl) (HB.out) (fun hHeld => ?_)
    refine wpAnyH_takeL (i := 0) (oi := _) rfl (by kernel_rfl) (by kernel_rfl) (by kernel_rfl) (fun _ _ _ h => h) (yields_ldR (by rfl) _ rfl (by rfl) (fun _ hb => V0.out.below hb V0.out.lt)) hHeld ?_
    try simp only [Act.put, List.setIfInBounds_toArray, List.set_cons_zero, List.set_cons_succ]
    refine wpAnyH_takeL (i := 1) (oi := _) rfl (by kernel_rfl) (by kernel_rfl) (by kernel_rfl) (fun _ _ _ h => h) (yields_ldR (by rfl) _ rfl (by rfl) (fun _ hb => V0.out.below hb V0.out.lt)) hHeld ?_
    try simp only [Act.put, List.setIfInBounds_toArray, List.set_cons_zero, List.set_cons_succ]
    refine wpAnyH_ready (rs := [2]) (by kernel_rfl) (by simp) ?_
    refine AllReadyH.consL (o := _) rfl (fun K hK => ?_) AllReadyH.nil
    clear hHeld
    go_simp
    go_at_call 35
    refine Calls.mono (qneg_any (L := 100000000) (z := xl) (d := dl) (X0.out.below HB.out) (P0.out.below HB.out) LZ0.out LD0.out LL2.out HZl.out HDl.out) ?_
    rintro e v19 ⟨Pl, cl, Ql, kl, rfl, ho, ho2, hb⟩
    replace HB := Lib.hid (HB.out.trans (hb.mono HB.out.size))
    have Zl := Lib.hid (Zo.of_own ho)
    have Nl := Lib.hid ho2.rd
    clear ho ho2
    clear hb
    refine hK.out _ _ HB.out (fun hHeld => ?_)
    clear hK K
    try simp only [Act.put, List.setIfInBounds_toArray, List.set_cons_zero, List.set_cons_succ]
    refine wpAnyH_ready (rs := [3]) (by kernel_rfl) (by simp) ?_
    refine AllReadyH.consL (o := _) rfl (fun K hK => ?_) AllReadyH.nil
    clear hHeld
    go_simp
    go_at_call 37
    refine Calls.mono (qadd_any (L := 100000000) (z := xm) (d := dm) (X0.out.below HB.out) (P0.out.below HB.out) Zl.out.in_ (Nin.of_rd Nl.out) LZ0.out LD0.out LZl.out LDl.out LL.out HZm.out HDm.out) ?_
    rintro e v20 ⟨Pm, cm, Qm, km, rfl, ho, ho2, hb⟩
    replace HB := Lib.hid (HB.out.trans (hb.mono HB.out.size))
    replace Zl := Lib.hid (Zl.out.below hb)
    replace Nl := Lib.hid (Nl.out.below hb)
    have Zm := Lib.hid (Zo.of_own ho)
    have Nm := Lib.hid ho2.rd
    clear ho ho2
    clear hb
    refine hK.out _ _ HB.out (fun hHeld => ?_)
    clear hK K
    try simp only [Act.put, List.setIfInBounds_toArray, List.set_cons_zero, List.set_cons_succ]
    refine wpAnyH_ready (rs := [4]) (by kernel_rfl) (by simp) ?_
    refine AllReadyH.consL (o := _) rfl (fun K hK => ?_) AllReadyH.nil
    clear hHeld
    go_simp
    go_at_call 43
    refine Calls.mono (rzeroR_any HZn.out _) ?_
    rintro e v21 ⟨Pn, cn, Qn, kn, rfl, ho, ho2, hb⟩
    replace HB := Lib.hid (HB.out.trans (hb.mono HB.out.size))
    replace Zl := Lib.hid (Zl.out.below hb)
    replace Nl := Lib.hid (Nl.out.below hb)
    replace Zm := Lib.hid (Zm.out.below hb)
    replace Nm := Lib.hid (Nm.out.below hb)
    have Zn := Lib.hid (Zo.of_own ho)
    have Nn := Lib.hid ho2.rd
    clear ho ho2
    clear hb
    refine hK.out _ _ HB.out (fun hHeld => ?_)
    clear hK K
    try simp only [Act.put, List.setIfInBounds_toArray, List.set_cons_zero, List.set_cons_succ]
    refine wpAnyH_ready (rs := [5]) (by kernel_rfl) (by simp) ?_
    refine AllReadyH.consL (o := _) rfl (fun K hK => ?_) AllReadyH.nil
    clear hHeld
    go_simp
    go_at_call 33
    refine Calls.mono (r3equal_any (b := true) Zm.out Zn.out Nm.out Nn.out (by simpa using EMN.out)) ?_
    rintro e v22 ⟨rfl, hb⟩
    replace HB := Lib.hid (HB.out.trans (hb.mono HB.out.size))
    replace Zl := Lib.hid (Zl.out.below hb)
    replace Nl := Lib.hid (Nl.out.below hb)
    replace Zm := Lib.hid (Zm.out.below hb)
    replace Nm := Lib.hid (Nm.out.below hb)
    replace Zn := Lib.hid (Zn.out.below hb)
    replace Nn := Lib.hid (Nn.out.below hb)
    clear hb
    refine hK.out _ _ HB.out (fun hHeld => ?_)
    clear hK K
    try simp only [Act.put, List.setIfInBounds_toArray, List.set_cons_zero, List.set_cons_succ]
    refine wpAnyH_takeL (i := 6) (oi := _) (v := ?_) rfl (by kernel_rfl) (by kernel_rfl) (by kernel_rfl) (fun _ _ _ h => h) (Or.inl ⟨by rfl, ?_⟩) hHeld ?_
    rotate_left
    · (intro w' hSw; (try dsimp only at hSw); go_simp; try (with_reducible rfl))
    try simp only [Act.put, List.setIfInBounds_toArray, List.set_cons_zero, List.set_cons_succ]
    refine wpAnyH_takeL (i := 7) (oi := _) (v := ?_) rfl (by kernel_rfl) (by kernel_rfl) (by kernel_rfl) (fun _ _ _ h => h) (Or.inl ⟨by rfl, ?_⟩) hHeld ?_
    rotate_left
    · (intro w' hSw; (try dsimp only at hSw); go_simp; try (with_reducible rfl))
    try simp only [Act.put, List.setIfInBounds_toArray, List.set_cons_zero, List.set_cons_succ]
    refine wpAnyH_takeL (i := 8) (oi := _) rfl (by kernel_rfl) (by kernel_rfl) (by kernel_rfl) (fun _ _ _ h => h) (yields_ldR (by rfl) _ rfl (by rfl) (fun _ hb => V0.out.below hb V0.out.lt)) hHeld ?_
    try simp only [Act.put, List.setIfInBounds_toArray, List.set_cons_zero, List.set_cons_succ]
    refine wpAnyH_ready (rs := [9]) (by kernel_rfl) (by simp) ?_
    refine AllReadyH.consL (o := _) rfl (fun K hK => ?_) AllReadyH.nil
    clear hHeld
    go_simp
    go_at_call 44
    refine Calls.mono (qsign_any (L := 100000000) (r := 0) (X0.out.below HB.out) (P0.out.below HB.out) LZ0.out LD0.out LL2.out SR.out) ?_
    rintro e v23 ⟨rfl, hb⟩
    replace HB := Lib.hid (HB.out.trans (hb.mono HB.out.size))
    replace Zl := Lib.hid (Zl.out.below hb)
    replace Nl := Lib.hid (Nl.out.below hb)
    replace Zm := Lib.hid (Zm.out.below hb)
    replace Nm := Lib.hid (Nm.out.below hb)
    replace Zn := Lib.hid (Zn.out.below hb)
    replace Nn := Lib.hid (Nn.out.below hb)
    clear hb
    refine hK.out _ _ HB.out (fun hHeld => ?_)
    clear hK K
    try simp only [Act.put, List.setIfInBounds_toArray, List.set_cons_zero, List.set_cons_succ]
    refine wpAnyH_takeL (i := 10) (oi := _) (v := ?_) rfl (by kernel_rfl) (by kernel_rfl) (by kernel_rfl) (fun _ _ _ h => h) (Or.inl ⟨by rfl, ?_⟩) hHeld ?_
    rotate_left
    · (intro w' hSw; (try dsimp only at hSw); go_simp; try (with_reducible rfl))
    try simp only [Act.put, List.setIfInBounds_toArray, List.set_cons_zero, List.set_cons_succ]
    refine wpAnyH_takeL (i := 11) (oi := _) (v := ?_) rfl (by kernel_rfl) (by kernel_rfl) (by kernel_rfl) (fun _ _ _ h => h) (Or.inl ⟨by rfl, ?_⟩) hHeld ?_
    rotate_left
    · (intro w' hSw; (try dsimp only at hSw); go_simp; try (with_reducible rfl))
    try simp only [Act.put, List.setIfInBounds_toArray, List.set_cons_zero, List.set_cons_succ]
    refine wpAnyH_takeL (i := 12) (oi := _) (v := ?_) rfl (by kernel_rfl) (by kernel_rfl) (by kernel_rfl) (fun _ _ _ h => h) (Or.inl ⟨by rfl, ?_⟩) hHeld ?_
    rotate_left
    · (intro w' hSw; (try dsimp only at hSw); go_simp; try (with_reducible rfl))
    try simp only [Act.put, List.setIfInBounds_toArray, List.set_cons_zero, List.set_cons_succ]
    refine wpAnyH_takeL (i := 13) (oi := _) (v := ?_) rfl (by kernel_rfl) (by kernel_rfl) (by kernel_rfl) (fun _ _ _ h => h) (Or.inl ⟨by rfl, ?_⟩) hHeld ?_
    rotate_left
    · (intro w' hSw; (try dsimp only at hSw); go_simp; try (with_reducible rfl))
    try simp only [Act.put, List.setIfInBounds_toArray, List.set_cons_zero, List.set_cons_succ]
    refine wpAnyH_takeL (i := 14) (oi := _) (v := ?_) rfl (by kernel_rfl) (by kernel_rfl) (by kernel_rfl) (fun _ _ _ h => h) (Or.inl ⟨by rfl, ?_⟩) hHeld ?_
    rotate_left
    · (intro w' hSw; (try dsimp only at hSw); go_simp; try (with_reducible rfl))
    try simp only [Act.put, List.setIfInBounds_toArray, List.set_cons_zero, List.set_cons_succ]
    refine wpAnyH_takeL (i := 15) (oi := _) (v := ?_) rfl (by kernel_rfl) (by kernel_rfl) (by kernel_rfl) (fun _ _ _ h => h) (Or.inl ⟨by rfl, ?_⟩) hHeld ?_
    rotate_left
    · (intro w' hSw; (try dsimp only at hSw); go_simp; try (with_reducible rfl))
    try simp only [Act.put, List.setIfInBounds_toArray, List.set_cons_zero, List.set_cons_succ]
    refine wpAnyH_takeL (i := 16) (oi := _) (v := ?_) rfl (by kernel_rfl) (by kernel_rfl) (by kernel_rfl) (fun _ _ _ h => h) (Or.inl ⟨by rfl, ?_⟩) hHeld ?_
    rotate_left
    · (intro w' hSw; (try dsimp only at hSw); go_simp; try (with_reducible rfl))
    try simp only [Act.put, List.setIfInBounds_toArray, List.set_cons_zero, List.set_cons_succ]
    refine wpAnyH_takeL (i := 17) (oi := _) (v := undef) rfl (by kernel_rfl) (by kernel_rfl) (by kernel_rfl) (fun _ _ _ h => h) (Or.inr ⟨by rfl, rfl⟩) hHeld ?_
    try simp only [Act.put, List.setIfInBounds_toArray, List.set_cons_zero, List.set_cons_succ]
    refine wpAnyH_takeL (i := 18) (oi := _) (v := undef) rfl (by kernel_rfl) (by kernel_rfl) (by kernel_rfl) (fun _ _ _ h => h) (Or.inr ⟨by rfl, rfl⟩) hHeld ?_
    try simp only [Act.put, List.setIfInBounds_toArray, List.set_cons_zero, List.set_cons_succ]
    refine wpAnyH_takeL (i := 19) (oi := _) (v := undef) rfl (by kernel_rfl) (by kernel_rfl) (by kernel_rfl) (fun _ _ _ h => h) (Or.inr ⟨by rfl, rfl⟩) hHeld ?_
    try simp only [Act.put, List.setIfInBounds_toArray, List.set_cons_zero, List.set_cons_succ]
    refine wpAnyH_takeL (i := 20) (oi := _) (v := undef) rfl (by kernel_rfl) (by kernel_rfl) (by kernel_rfl) (fun _ _ _ h => h) (Or.inr ⟨by rfl, rfl⟩) hHeld ?_
    try simp only [Act.put, List.setIfInBounds_toArray, List.set_cons_zero, List.set_cons_succ]
    refine wpAnyH_takeL (i := 21) (oi := _) (v := undef) rfl (by kernel_rfl) (by kernel_rfl) (by kernel_rfl) (fun _ _ _ h => h) (Or.inr ⟨by rfl, rfl⟩) hHeld ?_
    try simp only [Act.put, List.setIfInBounds_toArray, List.set_cons_zero, List.set_cons_succ]
    refine wpAnyH_takeL (i := 22) (oi := _) (v := ?_) rfl (by kernel_rfl) (by kernel_rfl) (by kernel_rfl) (fun _ _ _ h => h) (Or.inl ⟨by rfl, ?_⟩) hHeld ?_
    rotate_left
    · (intro w' hSw; (try dsimp only at hSw); go_simp; try (with_reducible rfl))
    try simp only [Act.put, List.setIfInBounds_toArray, List.set_cons_zero, List.set_cons_succ]
    refine wpAnyH_takeL (i := 23) (oi := _) (v := ?_) rfl (by kernel_rfl) (by kernel_rfl) (by kernel_rfl) (fun _ _ _ h => h) (Or.inl ⟨by rfl, ?_⟩) hHeld ?_
    rotate_left
    · (intro w' hSw; (try dsimp only at hSw); go_simp; try (with_reducible rfl))
    try simp only [Act.put, List.setIfInBounds_toArray, List.set_cons_zero, List.set_cons_succ]
    refine wpAnyH_takeL (i := 24) (oi := _) (v := ?_) rfl (by kernel_rfl) (by kernel_rfl) (by kernel_rfl) (fun _ _ _ h => h) (Or.inl ⟨by rfl, ?_⟩) hHeld ?_
    rotate_left
    · (intro w' hSw; (try dsimp only at hSw); go_simp; try (with_reducible rfl))
    try simp only [Act.put, List.setIfInBounds_toArray, List.set_cons_zero, List.set_cons_succ]
    skip
    refine wpAnyH_done (by kernel_rfl) ?_ _
    have hb := HB.out
    replace V0 := Lib.hid (V0.out.below hb V0.out.lt)
    replace X0 := Lib.hid (X0.out.below hb)
    replace P0 := Lib.hid (P0.out.below hb)
    replace V1 := Lib.hid (V1.out.below hb V1.out.lt)
    replace X1 := Lib.hid (X1.out.below hb)
    replace P1 := Lib.hid (P1.out.below hb)
    replace V2 := Lib.hid (V2.out.below hb V2.out.lt)
    replace X2 := Lib.hid (X2.out.below hb)
    replace P2 := Lib.hid (P2.out.below hb)
    replace VI := Lib.hid (VI.out.below hb VI.out.lt)
    replace B1 := Lib.hid (B1.out.trans (hb.mono B1.out.size))
    clear hHeld hb HB Zl Nl Zm Nm Zn Nn
    go_wp2
    go_ret
    exact ⟨rfl, B1.out⟩
  · subst h
    clear CR
    have NZ0 : mkRat z0 q0 ≠ 0 := fun h => by have h2 := SR.out; rw [sgR_zero.2 h] at h2; cases h2
    have r0 := R0.out
    obtain ⟨xv, exv⟩ : ∃ z : Int, ((mkRat z0 q0)⁻¹).num = z := ⟨_, rfl⟩
    obtain ⟨dv, edv⟩ : ∃ z : Nat, ((mkRat z0 q0)⁻¹).den = z := ⟨_, rfl⟩
    have Mv : mkRat xv dv = (mkRat z0 q0)⁻¹ := by rw [← exv, ← edv, mk_self]
    have rv : RL (mkRat xv dv) 1048576 := by rw [Mv]; exact (rl_inv r0 NZ0).le (by decide)
    have LZv : Hid ((ofv xv.natAbs).length ≤ 100000000) := by show _ ≤ _; have h := rv.1; rw [Mv, exv] at h; exact Nat.le_trans h (by decide)
    have LDv : Hid ((ofv dv).length ≤ 100000000) := by show _ ≤ _; have h := rv.2; rw [Mv, edv] at h; exact Nat.le_trans h (by decide)
    have HZv := Lib.hid exv
    have HDv := Lib.hid edv
    obtain ⟨xp, exp⟩ : ∃ z : Int, (mkRat z0 q0 * mkRat xv dv).num = z := ⟨_, rfl⟩
    obtain ⟨dp, edp⟩ : ∃ z : Nat, (mkRat z0 q0 * mkRat xv dv).den = z := ⟨_, rfl⟩
    have Mp : mkRat xp dp = mkRat z0 q0 * mkRat xv dv := by rw [← exp, ← edp, mk_self]
    have rp : RL (mkRat xp dp) 2097152 := by rw [Mp]; exact (rl_mul r0 rv).le (by decide)
    have LZp : Hid ((ofv xp.natAbs).length ≤ 100000000) := by show _ ≤ _; have h := rp.1; rw [Mp, exp] at h; exact Nat.le_trans h (by decide)
    have LDp : Hid ((ofv dp).length ≤ 100000000) := by show _ ≤ _; have h := rp.2; rw [Mp, edp] at h; exact Nat.le_trans h (by decide)
    have HZp := Lib.hid exp
    have HDp := Lib.hid edp
    have EE : mkRat z0 q0 * mkRat xv dv = Rat.divInt 1 1 := by rw [Mv, Rat.mul_inv_cancel _ NZ0]; rfl
    have EQp_u : Hid (xp = xu ∧ dp = du) := by show _ ∧ _; rw [← exp, ← edp, EE]; exact ⟨HZu.out, HDu.out⟩
    have NZ := Lib.hid NZ0
    clear NZ0 EE r0 exv edv Mv rv exp edp Mp rp
    have pc0 := Lib.hid trivial
    go_wp2_with (first
      | (clear pc0; refine wpList_ldR (by rfl) _ rfl (by rfl) V0.out ?_; have pc1 := Lib.hid trivial)
      | (clear pc1; go_at_call 31; refine Calls.mono (qinv_any (L := 100000000) (z := xv) (d := dv) X0.out P0.out LZ0.out LD0.out LL2.out NZ.out HZv.out HDv.out) ?_; rintro e v18 ⟨Pv, cv, Qv, kv, rfl, ho, ho2, hb⟩; replace V0 := Lib.hid (V0.out.below hb V0.out.lt); replace X0 := Lib.hid (X0.out.below hb); replace P0 := Lib.hid (P0.out.below hb); replace V1 := Lib.hid (V1.out.below hb V1.out.lt); replace X1 := Lib.hid (X1.out.below hb); replace P1 := Lib.hid (P1.out.below hb); replace V2 := Lib.hid (V2.out.below hb V2.out.lt); replace X2 := Lib.hid (X2.out.below hb); replace P2 := Lib.hid (P2.out.below hb); replace B1 := Lib.hid (B1.out.trans (hb.mono B1.out.size)); have Zv := Lib.hid (Zo.of_own ho); have Nv := Lib.hid ho2.rd; clear ho ho2; clear hb; have pc2 := Lib.hid trivial)
      | (clear pc2; have LTV : Hid (w.heap.size + 2 < v18.heap.size) := V2.out.lt; have LI := Lib.hid B1.out.size; have hb : Below v18.heap.size v18 (v18.alloc (.cells #[.bool false, .slice none 0 0, .slice none 0 0] 42)) := (Below.refl _ _).alloc (Nat.le_refl _) _; replace V0 := Lib.hid (V0.out.below hb V0.out.lt); replace X0 := Lib.hid (X0.out.below hb); replace P0 := Lib.hid (P0.out.below hb); replace V1 := Lib.hid (V1.out.below hb V1.out.lt); replace X1 := Lib.hid (X1.out.below hb); replace P1 := Lib.hid (P1.out.below hb); replace V2 := Lib.hid (V2.out.below hb V2.out.lt); replace X2 := Lib.hid (X2.out.below hb); replace P2 := Lib.hid (P2.out.below hb); replace Zv := Lib.hid (Zv.out.below hb); replace Nv := Lib.hid (Nv.out.below hb); replace B1 := Lib.hid (B1.out.trans (hb.mono B1.out.size)); clear hb; have VI := Lib.hid (Rb.new v18 false none 0 0 none 0 0); refine wpList_stR (by rfl) _ _ rfl (by rfl) (by rfl) VI.out ?_; intro ws hz hg; replace V0 := Lib.hid (V0.out.gro hg (by have := LTV.out; omega)); replace X0 := Lib.hid (X0.out.grR VI.out hg); replace P0 := Lib.hid (P0.out.grR VI.out hg); replace V1 := Lib.hid (V1.out.gro hg (by have := LTV.out; omega)); replace X1 := Lib.hid (X1.out.grR VI.out hg); replace P1 := Lib.hid (P1.out.grR VI.out hg); replace V2 := Lib.hid (V2.out.gro hg (by have := LTV.out; omega)); replace X2 := Lib.hid (X2.out.grR VI.out hg); replace P2 := Lib.hid (P2.out.grR VI.out hg); replace Zv := Lib.hid (Zv.out.grR VI.out hg); replace Nv := Lib.hid (Nv.out.grR VI.out hg); replace B1 := Lib.hid (Below.gr B1.out (LI.out) hg B1.out.size); replace VI := Lib.hid hz; clear hz hg; have pc3 := Lib.hid trivial))
    clear pc3
    have HB : Hid (Below ws.heap.size ws ws.drew) := below_drewN _ ws 1
    refine wp_region_held_drew (S := fun w' => Below ws.heap.size ws w') (by kernel_rfl) (HB.out) (fun hHeld => ?_)
    refine wpAnyH_takeL (i := 0) (oi := _) rfl (by kernel_rfl) (by kernel_rfl) (by kernel_rfl) (fun _ _ _ h => h) (yields_ldR (by rfl) _ rfl (by rfl) (fun _ hb => V0.out.below hb V0.out.lt)) hHeld ?_
    try simp only [Act.put, List.setIfInBounds_toArray, List.set_cons_zero, List.set_cons_succ]
    refine wpAnyH_takeL (i := 1) (oi := _) rfl (by kernel_rfl) (by kernel_rfl) (by kernel_rfl) (fun _ _ _ h => h) (yields_ldR (by rfl) _ rfl (by rfl) (fun _ hb => V0.out.below hb V0.out.lt)) hHeld ?_
    try simp only [Act.put, List.setIfInBounds_toArray, List.set_cons_zero, List.set_cons_succ]
    refine wpAnyH_ready (rs := [2]) (by kernel_rfl) (by simp) ?_
    refine AllReadyH.consL (o := _) rfl (fun K hK => ?_) AllReadyH.nil
    clear hHeld
    go_simp
    go_at_call 35
    refine Calls.mono (qneg_any (L := 100000000) (z := xl) (d := dl) (X0.out.below HB.out) (P0.out.below HB.out) LZ0.out LD0.out LL2.out HZl.out HDl.out) ?_
    rintro e v19 ⟨Pl, cl, Ql, kl, rfl, ho, ho2, hb⟩
    replace HB := Lib.hid (HB.out.trans (hb.mono HB.out.size))
    have Zl := Lib.hid (Zo.of_own ho)
    have Nl := Lib.hid ho2.rd
    clear ho ho2
    clear hb
    refine hK.out _ _ HB.out (fun hHeld => ?_)
    clear hK K
    try simp only [Act.put, List.setIfInBounds_toArray, List.set_cons_zero, List.set_cons_succ]
    refine wpAnyH_ready (rs := [3]) (by kernel_rfl) (by simp) ?_
    refine AllReadyH.consL (o := _) rfl (fun K hK => ?_) AllReadyH.nil
    clear hHeld
    go_simp
    go_at_call 37
    refine Calls.mono (qadd_any (L := 100000000) (z := xm) (d := dm) (X0.out.below HB.out) (P0.out.below HB.out) Zl.out.in_ (Nin.of_rd Nl.out) LZ0.out LD0.out LZl.out LDl.out LL.out HZm.out HDm.out) ?_
    rintro e v20 ⟨Pm, cm, Qm, km, rfl, ho, ho2, hb⟩
    replace HB := Lib.hid (HB.out.trans (hb.mono HB.out.size))
    replace Zl := Lib.hid (Zl.out.below hb)
    replace Nl := Lib.hid (Nl.out.below hb)
    have Zm := Lib.hid (Zo.of_own ho)
    have Nm := Lib.hid ho2.rd
    clear ho ho2
    clear hb
    refine hK.out _ _ HB.out (fun hHeld => ?_)
    clear hK K
    try simp only [Act.put, List.setIfInBounds_toArray, List.set_cons_zero, List.set_cons_succ]
    refine wpAnyH_ready (rs := [4]) (by kernel_rfl) (by simp) ?_
    refine AllReadyH.consL (o := _) rfl (fun K hK => ?_) AllReadyH.nil
    clear hHeld
    go_simp
    go_at_call 43
    refine Calls.mono (rzeroR_any HZn.out _) ?_
    rintro e v21 ⟨Pn, cn, Qn, kn, rfl, ho, ho2, hb⟩
    replace HB := Lib.hid (HB.out.trans (hb.mono HB.out.size))
    replace Zl := Lib.hid (Zl.out.below hb)
    replace Nl := Lib.hid (Nl.out.below hb)
    replace Zm := Lib.hid (Zm.out.below hb)
    replace Nm := Lib.hid (Nm.out.below hb)
    have Zn := Lib.hid (Zo.of_own ho)
    have Nn := Lib.hid ho2.rd
    clear ho ho2
    clear hb
    refine hK.out _ _ HB.out (fun hHeld => ?_)
    clear hK K
    try simp only [Act.put, List.setIfInBounds_toArray, List.set_cons_zero, List.set_cons_succ]
    refine wpAnyH_ready (rs := [5]) (by kernel_rfl) (by simp) ?_
    refine AllReadyH.consL (o := _) rfl (fun K hK => ?_) AllReadyH.nil
    clear hHeld
    go_simp
    go_at_call 33
    refine Calls.mono (r3equal_any (b := true) Zm.out Zn.out Nm.out Nn.out (by simpa using EMN.out)) ?_
    rintro e v22 ⟨rfl, hb⟩
    replace HB := Lib.hid (HB.out.trans (hb.mono HB.out.size))
    replace Zl := Lib.hid (Zl.out.below hb)
    replace Nl := Lib.hid (Nl.out.below hb)
    replace Zm := Lib.hid (Zm.out.below hb)
    replace Nm := Lib.hid (Nm.out.below hb)
    replace Zn := Lib.hid (Zn.out.below hb)
    replace Nn := Lib.hid (Nn.out.below hb)
    clear hb
    refine hK.out _ _ HB.out (fun hHeld => ?_)
    clear hK K
    try simp only [Act.put, List.setIfInBounds_toArray, List.set_cons_zero, List.set_cons_succ]
    refine wpAnyH_takeL (i := 6) (oi := _) (v := ?_) rfl (by kernel_rfl) (by kernel_rfl) (by kernel_rfl) (fun _ _ _ h => h) (Or.inl ⟨by rfl, ?_⟩) hHeld ?_
    rotate_left
    · (intro w' hSw; (try dsimp only at hSw); go_simp; try (with_reducible rfl))
    try simp only [Act.put, List.setIfInBounds_toArray, List.set_cons_zero, List.set_cons_succ]
    refine wpAnyH_takeL (i := 7) (oi := _) (v := ?_) rfl (by kernel_rfl) (by kernel_rfl) (by kernel_rfl) (fun _ _ _ h => h) (Or.inl ⟨by rfl, ?_⟩) hHeld ?_
    rotate_left
    · (intro w' hSw; (try dsimp only at hSw); go_simp; try (with_reducible rfl))
    try simp only [Act.put, List.setIfInBounds_toArray, List.set_cons_zero, List.set_cons_succ]
    refine wpAnyH_takeL (i := 8) (oi := _) rfl (by kernel_rfl) (by kernel_rfl) (by kernel_rfl) (fun _ _ _ h => h) (yields_ldR (by rfl) _ rfl (by rfl) (fun _ hb => V0.out.below hb V0.out.lt)) hHeld ?_
    try simp only [Act.put, List.setIfInBounds_toArray, List.set_cons_zero, List.set_cons_succ]
    refine wpAnyH_ready (rs := [9]) (by kernel_rfl) (by simp) ?_
    refine AllReadyH.consL (o := _) rfl (fun K hK => ?_) AllReadyH.nil
    clear hHeld
    go_simp
    go_at_call 44
    refine Calls.mono (qsign_any (L := 100000000) (r := 1) (X0.out.below HB.out) (P0.out.below HB.out) LZ0.out LD0.out LL2.out SR.out) ?_
    rintro e v23 ⟨rfl, hb⟩
    replace HB := Lib.hid (HB.out.trans (hb.mono HB.out.size))
    replace Zl := Lib.hid (Zl.out.below hb)
    replace Nl := Lib.hid (Nl.out.below hb)
    replace Zm := Lib.hid (Zm.out.below hb)
    replace Nm := Lib.hid (Nm.out.below hb)
    replace Zn := Lib.hid (Zn.out.below hb)
    replace Nn := Lib.hid (Nn.out.below hb)
    clear hb
    refine hK.out _ _ HB.out (fun hHeld => ?_)
    clear hK K
    try simp only [Act.put, List.setIfInBounds_toArray, List.set_cons_zero, List.set_cons_succ]
    refine wpAnyH_takeL (i := 10) (oi := _) (v := ?_) rfl (by kernel_rfl) (by kernel_rfl) (by kernel_rfl) (fun _ _ _ h => h) (Or.inl ⟨by rfl, ?_⟩) hHeld ?_
    rotate_left
    · (intro w' hSw; (try dsimp only at hSw); go_simp; try (with_reducible rfl))
    try simp only [Act.put, List.setIfInBounds_toArray, List.set_cons_zero, List.set_cons_succ]
    refine wpAnyH_takeL (i := 11) (oi := _) (v := ?_) rfl (by kernel_rfl) (by kernel_rfl) (by kernel_rfl) (fun _ _ _ h => h) (Or.inl ⟨by rfl, ?_⟩) hHeld ?_
    rotate_left
    · (intro w' hSw; (try dsimp only at hSw); go_simp; try (with_reducible rfl))
    try simp only [Act.put, List.setIfInBounds_toArray, List.set_cons_zero, List.set_cons_succ]
    refine wpAnyH_takeL (i := 12) (oi := _) (v := ?_) rfl (by kernel_rfl) (by kernel_rfl) (by kernel_rfl) (fun _ _ _ h => h) (Or.inl ⟨by rfl, ?_⟩) hHeld ?_
    rotate_left
    · (intro w' hSw; (try dsimp only at hSw); go_simp; try (with_reducible rfl))
    try simp only [Act.put, List.setIfInBounds_toArray, List.set_cons_zero, List.set_cons_succ]
    refine wpAnyH_takeL (i := 13) (oi := _) (v := ?_) rfl (by kernel_rfl) (by kernel_rfl) (by kernel_rfl) (fun _ _ _ h => h) (Or.inl ⟨by rfl, ?_⟩) hHeld ?_
    rotate_left
    · (intro w' hSw; (try dsimp only at hSw); go_simp; try (with_reducible rfl))
    try simp only [Act.put, List.setIfInBounds_toArray, List.set_cons_zero, List.set_cons_succ]
    refine wpAnyH_takeL (i := 14) (oi := _) (v := ?_) rfl (by kernel_rfl) (by kernel_rfl) (by kernel_rfl) (fun _ _ _ h => h) (Or.inl ⟨by rfl, ?_⟩) hHeld ?_
    rotate_left
    · (intro w' hSw; (try dsimp only at hSw); go_simp; try (with_reducible rfl))
    try simp only [Act.put, List.setIfInBounds_toArray, List.set_cons_zero, List.set_cons_succ]
    refine wpAnyH_takeL (i := 15) (oi := _) (v := ?_) rfl (by kernel_rfl) (by kernel_rfl) (by kernel_rfl) (fun _ _ _ h => h) (Or.inl ⟨by rfl, ?_⟩) hHeld ?_
    rotate_left
    · (intro w' hSw; (try dsimp only at hSw); go_simp; try (with_reducible rfl))
    try simp only [Act.put, List.setIfInBounds_toArray, List.set_cons_zero, List.set_cons_succ]
    refine wpAnyH_takeL (i := 16) (oi := _) (v := ?_) rfl (by kernel_rfl) (by kernel_rfl) (by kernel_rfl) (fun _ _ _ h => h) (Or.inl ⟨by rfl, ?_⟩) hHeld ?_
    rotate_left
    · (intro w' hSw; (try dsimp only at hSw); go_simp; try (with_reducible rfl))
    try simp only [Act.put, List.setIfInBounds_toArray, List.set_cons_zero, List.set_cons_succ]
    refine wpAnyH_takeL (i := 17) (oi := _) rfl (by kernel_rfl) (by kernel_rfl) (by kernel_rfl) (fun _ _ _ h => h) (yields_ldR (by rfl) _ rfl (by rfl) (fun _ hb => V0.out.below hb V0.out.lt)) hHeld ?_
    try simp only [Act.put, List.setIfInBounds_toArray, List.set_cons_zero, List.set_cons_succ]
    refine wpAnyH_takeL (i := 18) (oi := _) rfl (by kernel_rfl) (by kernel_rfl) (by kernel_rfl) (fun _ _ _ h => h) (yields_ldR (by rfl) _ rfl (by rfl) (fun _ hb => VI.out.below hb VI.out.lt)) hHeld ?_
    try simp only [Act.put, List.setIfInBounds_toArray, List.set_cons_zero, List.set_cons_succ]
    refine wpAnyH_ready (rs := [19]) (by kernel_rfl) (by simp) ?_
    refine AllReadyH.consL (o := _) rfl (fun K hK => ?_) AllReadyH.nil
    clear hHeld
    go_simp
    go_at_call 41
    refine Calls.mono (qmul_any (L := 100000000) (z := xp) (d := dp) (X0.out.below HB.out) (P0.out.below HB.out) (Zv.out.below HB.out).in_ (Nin.of_rd (Nv.out.below HB.out)) LZ0.out LD0.out LZv.out LDv.out LL.out HZp.out HDp.out) ?_
    rintro e v24 ⟨Pp, cp, Qp, kp, rfl, ho, ho2, hb⟩
    replace HB := Lib.hid (HB.out.trans (hb.mono HB.out.size))
    replace Zl := Lib.hid (Zl.out.below hb)
    replace Nl := Lib.hid (Nl.out.below hb)
    replace Zm := Lib.hid (Zm.out.below hb)
    replace Nm := Lib.hid (Nm.out.below hb)
    replace Zn := Lib.hid (Zn.out.below hb)
    replace Nn := Lib.hid (Nn.out.below hb)
    have Zp := Lib.hid (Zo.of_own ho)
    have Np := Lib.hid ho2.rd
    clear ho ho2
    clear hb
    refine hK.out _ _ HB.out (fun hHeld => ?_)
    clear hK K
    try simp only [Act.put, List.setIfInBounds_toArray, List.set_cons_zero, List.set_cons_succ]
    refine wpAnyH_ready (rs := [20]) (by kernel_rfl) (by simp) ?_
    refine AllReadyH.consL (o := _) rfl (fun K hK => ?_) AllReadyH.nil
    clear hHeld
    go_simp
    go_at_call 32
    refine Calls.mono (r3fromInt_any (a := 1) (z := xu) (d := du) I1.out HZu.out HDu.out _) ?_
    rintro e v25 ⟨Pu, cu, Qu, ku, rfl, ho, ho2, hb⟩
    replace HB := Lib.hid (HB.out.trans (hb.mono HB.out.size))
    replace Zl := Lib.hid (Zl.out.below hb)
    replace Nl := Lib.hid (Nl.out.below hb)
    replace Zm := Lib.hid (Zm.out.below hb)
    replace Nm := Lib.hid (Nm.out.below hb)
    replace Zn := Lib.hid (Zn.out.below hb)
    replace Nn := Lib.hid (Nn.out.below hb)
    replace Zp := Lib.hid (Zp.out.below hb)
    replace Np := Lib.hid (Np.out.below hb)
    have Zu := Lib.hid (Zo.of_own ho)
    have Nu := Lib.hid ho2.rd
    clear ho ho2
    clear hb
    refine hK.out _ _ HB.out (fun hHeld => ?_)
    clear hK K
    try simp only [Act.put, List.setIfInBounds_toArray, List.set_cons_zero, List.set_cons_succ]
    refine wpAnyH_ready (rs := [21]) (by kernel_rfl) (by simp) ?_
    refine AllReadyH.consL (o := _) rfl (fun K hK => ?_) AllReadyH.nil
    clear hHeld
    go_simp
    go_at_call 33
    refine Calls.mono (r3equal_any (b := true) Zp.out Zu.out Np.out Nu.out (by simpa using EQp_u.out)) ?_
    rintro e v26 ⟨rfl, hb⟩
    replace HB := Lib.hid (HB.out.trans (hb.mono HB.out.size))
    replace Zl := Lib.hid (Zl.out.below hb)
    replace Nl := Lib.hid (Nl.out.below hb)
    replace Zm := Lib.hid (Zm.out.below hb)
    replace Nm := Lib.hid (Nm.out.below hb)
    replace Zn := Lib.hid (Zn.out.below hb)
    replace Nn := Lib.hid (Nn.out.below hb)
    replace Zp := Lib.hid (Zp.out.below hb)
    replace Np := Lib.hid (Np.out.below hb)
    replace Zu := Lib.hid (Zu.out.below hb)
    replace Nu := Lib.hid (Nu.out.below hb)
    clear hb
    refine hK.out _ _ HB.out (fun hHeld => ?_)
    clear hK K
    try simp only [Act.put, List.setIfInBounds_toArray, List.set_cons_zero, List.set_cons_succ]
    refine wpAnyH_takeL (i := 22) (oi := _) (v := ?_) rfl (by kernel_rfl) (by kernel_rfl) (by kernel_rfl) (fun _ _ _ h => h) (Or.inl ⟨by rfl, ?_⟩) hHeld ?_
    rotate_left
    · (intro w' hSw; (try dsimp only at hSw); go_simp; try (with_reducible rfl))
    try simp only [Act.put, List.setIfInBounds_toArray, List.set_cons_zero, List.set_cons_succ]
    refine wpAnyH_takeL (i := 23) (oi := _) (v := ?_) rfl (by kernel_rfl) (by kernel_rfl) (by kernel_rfl) (fun _ _ _ h => h) (Or.inl ⟨by rfl, ?_⟩) hHeld ?_
    rotate_left
    · (intro w' hSw; (try dsimp only at hSw); go_simp; try (with_reducible rfl))
    try simp only [Act.put, List.setIfInBounds_toArray, List.set_cons_zero, List.set_cons_succ]
    refine wpAnyH_takeL (i := 24) (oi := _) (v := ?_) rfl (by kernel_rfl) (by kernel_rfl) (by kernel_rfl) (fun _ _ _ h => h) (Or.inl ⟨by rfl, ?_⟩) hHeld ?_
    rotate_left
    · (intro w' hSw; (try dsimp only at hSw); go_simp; try (with_reducible rfl))
    try simp only [Act.put, List.setIfInBounds_toArray, List.set_cons_zero, List.set_cons_succ]
    skip
    refine wpAnyH_done (by kernel_rfl) ?_ _
    have hb := HB.out
    replace V0 := Lib.hid (V0.out.below hb V0.out.lt)
    replace X0 := Lib.hid (X0.out.below hb)
    replace P0 := Lib.hid (P0.out.below hb)
    replace V1 := Lib.hid (V1.out.below hb V1.out.lt)
    replace X1 := Lib.hid (X1.out.below hb)
    replace P1 := Lib.hid (P1.out.below hb)
    replace V2 := Lib.hid (V2.out.below hb V2.out.lt)
    replace X2 := Lib.hid (X2.out.below hb)
    replace P2 := Lib.hid (P2.out.below hb)
    replace Zv := Lib.hid (Zv.out.below hb)
    replace Nv := Lib.hid (Nv.out.below hb)
    replace VI := Lib.hid (VI.out.below hb VI.out.lt)
    replace B1 := Lib.hid (B1.out.trans (hb.mono B1.out.size))
    clear hHeld hb HB Zl Nl Zm Nm Zn Nn Zp Np Zu Nu
    go_wp2
    go_ret
    exact ⟨rfl, B1.out⟩
end Go.Proofs.Ytgleknejogbomaa
