/-
  Contract of package approx: Simplest.
-/
import Derived.Test.YtfmgbfdnmconiaaGreatAps
import Derived.Test.YtfmgbfdnmconiaaGreatRS
namespace Go.Proofs.YtfmgbfdnmconiaaGreat
open Go.RowKit
set_option linter.unusedVariables false

theorem mk_cop {u : Int} {v : Nat} (hv : 0 < v) (g : Int.gcd u (v : Int) = 1) : (mkRat u v).num = u ∧ (mkRat u v).den = v := by
  have h := mk_low (z := u) (d := v) (g := 1) hv (by simpa [Int.gcd] using g)
  simpa using h
theorem neg_cop {u : Int} {v : Nat} (hv : 0 < v) (g : Int.gcd u (v : Int) = 1) : (-mkRat u v).num = -u ∧ (-mkRat u v).den = v := by
  obtain ⟨h1, h2⟩ := mk_cop hv g
  exact ⟨by rw [Rat.neg_num, h1], by rw [Rat.neg_den, h2]⟩
theorem canon_mk {r : Rat} {z : Int} {d : Nat} (hz : r.num = z) (hd : r.den = d) : r = mkRat z d := by rw [← hz, ← hd, mk_self]
theorem pos_raw {x : Int} {p : Nat} (h : sgR (mkRat x p) = 1) : 0 < x ∧ 0 < p := by
  rcases Nat.eq_zero_or_pos p with e | e
  · subst e
    rw [Rat.mkRat_zero] at h
    exact absurd h (by decide)
  · rw [sgR_mk e] at h
    rcases sg_cases x with ⟨k, _⟩ | ⟨k, _⟩ | ⟨_, k⟩
    · omega
    · omega
    · exact ⟨k, e⟩
theorem cross {x z : Int} {p d : Nat} (hp : 0 < p) (hz : (mkRat x p).num = z) (hd : (mkRat x p).den = d) : x * (d : Int) = z * (p : Int) := by
  have h := canon_mk hz hd
  have d0 : d ≠ 0 := by rw [← hd]; exact Rat.den_nz _
  exact (Rat.mkRat_eq_iff (by omega) d0).1 h
theorem sg_sub {x x' zl zh : Int} {p p' dl dh : Nat} (h1 : (mkRat x p).num = zl) (h2 : (mkRat x p).den = dl) (h3 : (mkRat x' p').num = zh) (h4 : (mkRat x' p').den = dh) : sgR (mkRat x p - mkRat x' p') = sg (zl * dh - zh * dl) := by
  rw [canon_mk h1 h2, canon_mk h3 h4, sgR_sub (by rw [← h2]; exact den_pos _) (by rw [← h4]; exact den_pos _)]
/-- The simplest number of a range. -/
structure Smp (zl dl zh dh z d : Int) : Prop where
  p : 0 < d
  g : Int.gcd z d = 1
  lo : zl * d ≤ z * dl
  hi : z * dh ≤ zh * d
  best : ∀ N D, 0 < D → zl * D ≤ N * dl → N * dh ≤ zh * D → d < D ∨ (d = D ∧ z.natAbs ≤ N.natAbs)
theorem lift {x y z d N D : Int} (hy : 0 < y) (hd : 0 < d) (hc : x * d = z * y) : (x * D ≤ N * y ↔ z * D ≤ N * d) ∧ (N * y ≤ x * D ↔ N * d ≤ z * D) := by
  have e1 : x * D * d = z * D * y := by
    have : x * D * d = x * d * D := by grind
    rw [this, hc]; grind
  have e2 : N * y * d = N * d * y := by grind
  refine ⟨⟨fun h => ?_, fun h => ?_⟩, ⟨fun h => ?_, fun h => ?_⟩⟩
  · have := Int.mul_le_mul_of_nonneg_right h (show 0 ≤ d by omega)
    exact Int.le_of_mul_le_mul_right (by omega : z * D * y ≤ N * d * y) hy
  · have := Int.mul_le_mul_of_nonneg_right h (show 0 ≤ y by omega)
    exact Int.le_of_mul_le_mul_right (by omega : x * D * d ≤ N * y * d) hd
  · have := Int.mul_le_mul_of_nonneg_right h (show 0 ≤ d by omega)
    exact Int.le_of_mul_le_mul_right (by omega : N * d * y ≤ z * D * y) hy
  · have := Int.mul_le_mul_of_nonneg_right h (show 0 ≤ y by omega)
    exact Int.le_of_mul_le_mul_right (by omega : N * y * d ≤ x * D * d) hd
theorem le_tr {a b c d e f : Int} (hb : 0 < b) (hd : 0 < d) (hf : 0 < f) (h1 : a * d ≤ c * b) (h2 : c * f ≤ e * d) : a * f ≤ e * b := by
  have k1 := Int.mul_le_mul_of_nonneg_right h1 (show 0 ≤ f by omega)
  have k2 := Int.mul_le_mul_of_nonneg_right h2 (show 0 ≤ b by omega)
  have e1 : a * d * f = a * f * d := by grind
  have e2 : c * b * f = c * f * b := by grind
  have e3 : e * d * b = e * b * d := by grind
  exact Int.le_of_mul_le_mul_right (by omega : a * f * d ≤ e * b * d) hd
/-- What lies between two numbers in order. -/
theorem btw_ord {zl dl zh dh N D : Int} (hl : 0 < dl) (hh : 0 < dh) (hD : 0 < D) (hle : zl * dh ≤ zh * dl) : Btw zl dl zh dh N D ↔ zl * D ≤ N * dl ∧ N * dh ≤ zh * D := by
  constructor
  · rintro (h | ⟨h1, h2⟩)
    · exact h
    · have k1 : zl * D ≤ N * dl := le_tr (b := dl) (d := dh) (f := D) hl hh hD hle h1
      have k2 : N * dh ≤ zh * D := le_tr (b := D) (d := dl) (f := dh) hD hl hh h2 hle
      exact ⟨k1, k2⟩
  · exact .inl
theorem smp_pos {x y x' y' zl dl zh dh u v : Int} (h : Spr x y x' y' u v) (hy : 0 < y) (hy' : 0 < y') (hl : 0 < dl) (hh : 0 < dh) (c1 : x * dl = zl * y) (c2 : x' * dh = zh * y') (hle : zl * dh ≤ zh * dl) : Smp zl dl zh dh u v := by
  have key : ∀ N D, 0 < D → (Btw x y x' y' N D ↔ zl * D ≤ N * dl ∧ N * dh ≤ zh * D) := fun N D hD => by
    rw [← btw_ord hl hh hD hle]
    unfold Btw
    rw [(lift hy hl c1).1, (lift hy' hh c2).2, (lift hy' hh c2).1, (lift hy hl c1).2]
  obtain ⟨k1, k2⟩ := (key u v h.v0).1 h.b
  refine ⟨h.v0, h.g, k1, k2, fun N D hD a b => ?_⟩
  obtain ⟨m1, m2⟩ := h.m N D hD ((key N D hD).2 ⟨a, b⟩)
  have := h.u0
  omega
theorem smp_neg {zl dl zh dh u v : Int} (h : Spr (-zl) dl (-zh) dh u v) (hl : 0 < dl) (hh : 0 < dh) (hle : zl * dh ≤ zh * dl) : Smp zl dl zh dh (-u) v := by
  have key : ∀ N D, 0 < D → (Btw (-zl) dl (-zh) dh N D ↔ zl * D ≤ -N * dl ∧ -N * dh ≤ zh * D) := fun N D hD => by
    have b := btw_ord (zl := zl) (dl := dl) (zh := zh) (dh := dh) (N := -N) hl hh hD hle
    rw [← b]
    unfold Btw
    have e1 : -zl * D = -(zl * D) := by grind
    have e2 : -zh * D = -(zh * D) := by grind
    have e3 : -N * dl = -(N * dl) := by grind
    have e4 : -N * dh = -(N * dh) := by grind
    rw [e1, e2, e3, e4]
    omega
  obtain ⟨k1, k2⟩ := (key u v h.v0).1 h.b
  refine ⟨h.v0, by rw [Int.neg_gcd]; exact h.g, k1, k2, fun N D hD a b => ?_⟩
  obtain ⟨m1, m2⟩ := h.m (-N) D hD ((key (-N) D hD).2 (by rw [Int.neg_neg]; exact ⟨a, b⟩))
  have := h.u0
  omega
theorem smp_zero {zl dl zh dh : Int} (h1 : zl ≤ 0) (h2 : 0 ≤ zh) : Smp zl dl zh dh 0 1 :=
  ⟨by omega, by decide, by omega, by omega, fun N D hD _ _ => by have : (0 : Int).natAbs = 0 := rfl; omega⟩
set_option maxRecDepth 100000 in
set_option maxHeartbeats 16000000 in
theorem simplest_no {s t : Bool} {A D B E : Option Addr} {n c m k n2 c2 m2 k2 : Nat} {x x' : Int} {p p' : Nat} {w : World} (h1 : Zin w s A n c x) (h2 : Nin w D m k p) (h3 : Zin w t B n2 c2 x') (h4 : Nin w E m2 k2 p') (l1 : n ≤ 1048576) (l2 : m ≤ 1048576) (l3 : n2 ≤ 1048576) (l4 : m2 ≤ 1048576) (hc : sgR (mkRat x p - mkRat x' p') = 1) :
    Calls Tryz.prog 20 #[.agg #[.bool s, .slice A n c, .slice D m k], .agg #[.bool t, .slice B n2 c2, .slice E m2 k2]] w fun e w' => e = .returned (.tuple #[.agg #[.bool false, .slice none 0 0, .slice none 0 0], .bool false]) ∧ Below w.heap.size w w' := by
  obtain ⟨B1, V0, V1, V2⟩ := start_RRR w s A n c D m k t B n2 c2 E m2 k2
  have H1 := Lib.hid (h1.below B1.out)
  have H2 := Lib.hid (h2.below B1.out)
  have H3 := Lib.hid (h3.below B1.out)
  have H4 := Lib.hid (h4.below B1.out)
  have L1 := Lib.hid l1
  have L2 := Lib.hid l2
  have L3 := Lib.hid l3
  have L4 := Lib.hid l4
  have LL : Hid (1 ≤ 1048576 ∧ 1048576 ≤ 35184372088829) := by show _ ∧ _; omega
  have LL2 : Hid (1 ≤ 1048576 ∧ 1048576 ≤ 70368744177660) := by show _ ∧ _; omega
  have LL8 : Hid (1 ≤ 100000000 ∧ 100000000 ≤ 70368744177660) := by show _ ∧ _; omega
  have HC := Lib.hid hc
  clear h1 h2 h3 h4 l1 l2 l3 l4 hc
  go_enter Tryz.func20, Tryz.ntmps20
  go_wp2_with fail
  generalize (((w.alloc (.cells #[.bool s, .slice A n c, .slice D m k] 26)).alloc (.cells #[.bool t, .slice B n2 c2, .slice E m2 k2] 26)).alloc (.cells #[.bool false, .slice none 0 0, .slice none 0 0] 26)) = w2 at *
  have pc0 := Lib.hid trivial
  go_wp2_with (first
    | (clear pc0; go_at_call 62; refine Calls.mono (qcompare_any (L := 1048576) (r := 1) H1.out H2.out H3.out H4.out L1.out L2.out L3.out L4.out LL.out HC.out) ?_; rintro e wa ⟨rfl, hb⟩; replace V0 := Lib.hid (V0.out.below hb V0.out.lt); replace V1 := Lib.hid (V1.out.below hb V1.out.lt); replace V2 := Lib.hid (V2.out.below hb V2.out.lt); replace H1 := Lib.hid (H1.out.below hb); replace H2 := Lib.hid (H2.out.below hb); replace H3 := Lib.hid (H3.out.below hb); replace H4 := Lib.hid (H4.out.below hb); replace B1 := Lib.hid (B1.out.trans (hb.mono B1.out.size)); clear hb; have pc1 := Lib.hid trivial)
    | (clear pc1; refine wpList_stR (by rfl) _ _ rfl (by rfl) (by rfl) V2.out ?_; intro wb hz hg; have bx := V2.out.bx; replace V0 := Lib.hid (V0.out.gro hg (by omega)); replace V1 := Lib.hid (V1.out.gro hg (by omega)); replace H1 := Lib.hid (H1.out.grB bx hg); replace H2 := Lib.hid (H2.out.grB bx hg); replace H3 := Lib.hid (H3.out.grB bx hg); replace H4 := Lib.hid (H4.out.grB bx hg); replace B1 := Lib.hid (Below.gr B1.out (by omega) hg B1.out.size); clear bx; replace V2 := Lib.hid hz; clear hz hg; have pc2 := Lib.hid trivial))
  clear pc2
  exact ret_rk Tryz.results20 rfl rfl rfl V2.out ⟨rfl, B1.out⟩
set_option maxRecDepth 100000 in
set_option maxHeartbeats 16000000 in
theorem simplest_yesa {s t : Bool} {A D B E : Option Addr} {n c m k n2 c2 m2 k2 : Nat} {x x' : Int} {p p' : Nat} {w : World} (h1 : Zin w s A n c x) (h2 : Nin w D m k p) (h3 : Zin w t B n2 c2 x') (h4 : Nin w E m2 k2 p') (l1 : n ≤ 1048576) (l2 : m ≤ 1048576) (l3 : n2 ≤ 1048576) (l4 : m2 ≤ 1048576) {zl zh : Int} {dl dh : Nat} (a1 : (mkRat x p).num = zl) (a2 : (mkRat x p).den = dl) (a3 : (mkRat x' p').num = zh) (a4 : (mkRat x' p').den = dh) (hc : sgR (mkRat x p - mkRat x' p') = (-1)) :
    Calls Tryz.prog 20 #[.agg #[.bool s, .slice A n c, .slice D m k], .agg #[.bool t, .slice B n2 c2, .slice E m2 k2]] w fun e w' => ∃ z d, Smp zl dl zh dh z ((d : Nat) : Int) ∧ ((ofv z.natAbs).length ≤ 100000000 ∧ (ofv d).length ≤ 100000000) ∧ GivesK w z d e w' := by
  obtain ⟨B1, V0, V1, V2⟩ := start_RRR w s A n c D m k t B n2 c2 E m2 k2
  have H1 := Lib.hid (h1.below B1.out)
  have H2 := Lib.hid (h2.below B1.out)
  have H3 := Lib.hid (h3.below B1.out)
  have H4 := Lib.hid (h4.below B1.out)
  have L1 := Lib.hid l1
  have L2 := Lib.hid l2
  have L3 := Lib.hid l3
  have L4 := Lib.hid l4
  have LL : Hid (1 ≤ 1048576 ∧ 1048576 ≤ 35184372088829) := by show _ ∧ _; omega
  have LL2 : Hid (1 ≤ 1048576 ∧ 1048576 ≤ 70368744177660) := by show _ ∧ _; omega
  have LL8 : Hid (1 ≤ 100000000 ∧ 100000000 ≤ 70368744177660) := by show _ ∧ _; omega
  have d1 : 0 < dl := by rw [← a2]; exact den_pos _
  have d2 : 0 < dh := by rw [← a4]; exact den_pos _
  have hle : zl * dh ≤ zh * dl := by
    rw [sg_sub a1 a2 a3 a4] at hc
    rcases sg_cases (zl * dh - zh * dl) with ⟨e, q⟩ | ⟨e, q⟩ | ⟨e, q⟩ <;> omega
  have rl1 := rl_mk (N := 1048576) (Nat.le_trans h1.len l1) (Nat.le_trans h2.len l2) (by decide)
  have rl2 := rl_mk (N := 1048576) (Nat.le_trans h3.len l3) (Nat.le_trans h4.len l4) (by decide)
  have s1 : sgR (mkRat x p) = sg zl := by rw [canon_mk a1 a2, sgR_mk d1]
  have s2 : sgR (mkRat x' p') = sg zh := by rw [canon_mk a3 a4, sgR_mk d2]
  have HLE := Lib.hid hle
  have D1 := Lib.hid d1
  have D2 := Lib.hid d2
  have HC := Lib.hid hc
  have A1 := Lib.hid a1
  have A2 := Lib.hid a2
  have A3 := Lib.hid a3
  have A4 := Lib.hid a4
  have S1 := Lib.hid s1
  have S2 := Lib.hid s2
  have RL1 := Lib.hid rl1
  have RL2 := Lib.hid rl2
  clear h1 h2 h3 h4 l1 l2 l3 l4 hc hle rl1 rl2 s1 s2 d1 d2
  go_enter Tryz.func20, Tryz.ntmps20
  go_wp2_with fail
  generalize (((w.alloc (.cells #[.bool s, .slice A n c, .slice D m k] 26)).alloc (.cells #[.bool t, .slice B n2 c2, .slice E m2 k2] 26)).alloc (.cells #[.bool false, .slice none 0 0, .slice none 0 0] 26)) = w2 at *
  rcases sg_cases zl with ⟨hk, hl⟩ | ⟨hk, hl⟩ | ⟨hk, hl⟩
  · have HS1 : Hid (sgR (mkRat x p) = (-1)) := S1.out.trans hk
    have HL := Lib.hid hl
    clear hk hl
    rcases sg_cases zh with ⟨hk, hh⟩ | ⟨hk, hh⟩ | ⟨hk, hh⟩
    · have HS2 : Hid (sgR (mkRat x' p') = (-1)) := S2.out.trans hk
      have HH := Lib.hid hh
      clear hk hh
      obtain ⟨nl, enl⟩ : ∃ z0 : Int, -zl = z0 := ⟨_, rfl⟩
      obtain ⟨nh, enh⟩ : ∃ z0 : Int, -zh = z0 := ⟨_, rfl⟩
      obtain ⟨y, ey⟩ : ∃ z0 : Int, (dl : Int) = z0 := ⟨_, rfl⟩
      obtain ⟨y', ey'⟩ : ∃ z0 : Int, (dh : Int) = z0 := ⟨_, rfl⟩
      have ENL := Lib.hid enl
      have ENH := Lib.hid enh
      have EY := Lib.hid ey
      have EY' := Lib.hid ey'
      have N1 : Hid ((-mkRat x p).num = nl) := by show _ = _; rw [Rat.neg_num, A1.out]; exact enl
      have N2 : Hid ((-mkRat x p).den = dl) := by show _ = _; rw [Rat.neg_den, A2.out]
      have N3 : Hid ((-mkRat x' p').num = nh) := by show _ = _; rw [Rat.neg_num, A3.out]; exact enh
      have N4 : Hid ((-mkRat x' p').den = dh) := by show _ = _; rw [Rat.neg_den, A4.out]
      have M1 : Hid ((ofv nl.natAbs).length ≤ 1048576) := by show _ ≤ _; have h := RL1.out.1; rw [A1.out] at h; rw [← enl, Int.natAbs_neg]; exact h
      have M2 : Hid ((ofv dl).length ≤ 1048576) := by show _ ≤ _; have h := RL1.out.2; rw [A2.out] at h; exact h
      have M3 : Hid ((ofv nh.natAbs).length ≤ 1048576) := by show _ ≤ _; have h := RL2.out.1; rw [A3.out] at h; rw [← enh, Int.natAbs_neg]; exact h
      have M4 : Hid ((ofv dh).length ≤ 1048576) := by show _ ≤ _; have h := RL2.out.2; rw [A4.out] at h; exact h
      clear enl enh ey ey'
      have pc0 := Lib.hid trivial
      go_wp2_with (first
        | (clear pc0; go_at_call 62; refine Calls.mono (qcompare_any (L := 1048576) (r := (-1)) H1.out H2.out H3.out H4.out L1.out L2.out L3.out L4.out LL.out HC.out) ?_; rintro e wa ⟨rfl, hb⟩; replace V0 := Lib.hid (V0.out.below hb V0.out.lt); replace V1 := Lib.hid (V1.out.below hb V1.out.lt); replace V2 := Lib.hid (V2.out.below hb V2.out.lt); replace H1 := Lib.hid (H1.out.below hb); replace H2 := Lib.hid (H2.out.below hb); replace H3 := Lib.hid (H3.out.below hb); replace H4 := Lib.hid (H4.out.below hb); replace B1 := Lib.hid (B1.out.trans (hb.mono B1.out.size)); clear hb; have pc1 := Lib.hid trivial)
        | (clear pc1; refine wpList_ldR (by rfl) _ rfl (by rfl) V0.out ?_; have pc2 := Lib.hid trivial)
        | (clear pc2; go_at_call 63; refine Calls.mono (qsign_any (L := 1048576) (r := (-1)) H1.out H2.out L1.out L2.out LL2.out HS1.out) ?_; rintro e wb ⟨rfl, hb⟩; replace V0 := Lib.hid (V0.out.below hb V0.out.lt); replace V1 := Lib.hid (V1.out.below hb V1.out.lt); replace V2 := Lib.hid (V2.out.below hb V2.out.lt); replace H1 := Lib.hid (H1.out.below hb); replace H2 := Lib.hid (H2.out.below hb); replace H3 := Lib.hid (H3.out.below hb); replace H4 := Lib.hid (H4.out.below hb); replace B1 := Lib.hid (B1.out.trans (hb.mono B1.out.size)); clear hb; have pc3 := Lib.hid trivial)
        | (clear pc3; refine wpList_ldR (by rfl) _ rfl (by rfl) V1.out ?_; have pc4 := Lib.hid trivial)
        | (clear pc4; go_at_call 63; refine Calls.mono (qsign_any (L := 1048576) (r := (-1)) H3.out H4.out L3.out L4.out LL2.out HS2.out) ?_; rintro e wc ⟨rfl, hb⟩; replace V0 := Lib.hid (V0.out.below hb V0.out.lt); replace V1 := Lib.hid (V1.out.below hb V1.out.lt); replace V2 := Lib.hid (V2.out.below hb V2.out.lt); replace H1 := Lib.hid (H1.out.below hb); replace H2 := Lib.hid (H2.out.below hb); replace H3 := Lib.hid (H3.out.below hb); replace H4 := Lib.hid (H4.out.below hb); replace B1 := Lib.hid (B1.out.trans (hb.mono B1.out.size)); clear hb; have pc5 := Lib.hid trivial))
      clear pc5
      have hb := below_drewN wc.heap.size wc 1
      replace V0 := Lib.hid (V0.out.below hb V0.out.lt)
      replace V1 := Lib.hid (V1.out.below hb V1.out.lt)
      replace V2 := Lib.hid (V2.out.below hb V2.out.lt)
      replace H1 := Lib.hid (H1.out.below hb)
      replace H2 := Lib.hid (H2.out.below hb)
      replace H3 := Lib.hid (H3.out.below hb)
      replace H4 := Lib.hid (H4.out.below hb)
      replace B1 := Lib.hid (B1.out.trans (hb.mono B1.out.size))
      clear hb
      refine wp_region_held_drew (S := fun w' => Rb w' w.heap.size s A n c D m k ∧ Rb w' (w.heap.size + 1) t B n2 c2 E m2 k2) (by kernel_rfl) ⟨V0.out, V1.out⟩ (fun hHeld => ?_)
      refine wpAnyH_takeL (i := 0) (oi := _) rfl (by kernel_rfl) (by kernel_rfl) (by kernel_rfl) (fun _ _ _ h => h) (yields_ldR (by rfl) _ rfl (by rfl) (fun _ hS => hS.1)) hHeld ?_
      try simp only [Act.put, List.setIfInBounds_toArray, List.set_cons_zero, List.set_cons_succ]
      refine wpAnyH_takeL (i := 2) (oi := _) rfl (by kernel_rfl) (by kernel_rfl) (by kernel_rfl) (fun _ _ _ h => h) (yields_ldR (by rfl) _ rfl (by rfl) (fun _ hS => hS.2)) hHeld ?_
      try simp only [Act.put, List.setIfInBounds_toArray, List.set_cons_zero, List.set_cons_succ]
      refine wpAnyH_ready (rs := [1]) (by kernel_rfl) (by simp) ?_
      refine AllReadyH.consL (o := _) rfl (fun K hK => ?_) AllReadyH.nil
      clear hHeld
      go_simp
      go_at_call 31
      refine Calls.mono (qneg_any (L := 1048576) (z := nl) (d := dl) H1.out H2.out L1.out L2.out LL2.out N1.out N2.out) ?_
      rintro e wd ⟨P1, c1, Q1, k1, rfl, ho, ho2, hb⟩
      replace V0 := Lib.hid (V0.out.below hb V0.out.lt)
      replace V1 := Lib.hid (V1.out.below hb V1.out.lt)
      replace V2 := Lib.hid (V2.out.below hb V2.out.lt)
      replace H1 := Lib.hid (H1.out.below hb)
      replace H2 := Lib.hid (H2.out.below hb)
      replace H3 := Lib.hid (H3.out.below hb)
      replace H4 := Lib.hid (H4.out.below hb)
      replace B1 := Lib.hid (B1.out.trans (hb.mono B1.out.size))
      have ZN1 := Lib.hid (Zo.of_own ho)
      have ZD1 := Lib.hid ho2.rd
      clear ho ho2
      clear hb
      refine hK.out _ _ ⟨V0.out, V1.out⟩ (fun hHeld => ?_)
      clear hK K
      try simp only [Act.put, List.setIfInBounds_toArray, List.set_cons_zero, List.set_cons_succ]
      refine wpAnyH_ready (rs := [3]) (by kernel_rfl) (by simp) ?_
      refine AllReadyH.consL (o := _) rfl (fun K hK => ?_) AllReadyH.nil
      clear hHeld
      go_simp
      go_at_call 31
      refine Calls.mono (qneg_any (L := 1048576) (z := nh) (d := dh) H3.out H4.out L3.out L4.out LL2.out N3.out N4.out) ?_
      rintro e we ⟨P2, c2, Q2, k2, rfl, ho, ho2, hb⟩
      replace V0 := Lib.hid (V0.out.below hb V0.out.lt)
      replace V1 := Lib.hid (V1.out.below hb V1.out.lt)
      replace V2 := Lib.hid (V2.out.below hb V2.out.lt)
      replace H1 := Lib.hid (H1.out.below hb)
      replace H2 := Lib.hid (H2.out.below hb)
      replace H3 := Lib.hid (H3.out.below hb)
      replace H4 := Lib.hid (H4.out.below hb)
      replace ZN1 := Lib.hid (ZN1.out.below hb)
      replace ZD1 := Lib.hid (ZD1.out.below hb)
      replace B1 := Lib.hid (B1.out.trans (hb.mono B1.out.size))
      have ZN2 := Lib.hid (Zo.of_own ho)
      have ZD2 := Lib.hid ho2.rd
      clear ho ho2
      clear hb
      refine hK.out _ _ ⟨V0.out, V1.out⟩ (fun hHeld => ?_)
      clear hK K
      try simp only [Act.put, List.setIfInBounds_toArray, List.set_cons_zero, List.set_cons_succ]
      refine wpAnyH_ready (rs := [4]) (by kernel_rfl) (by simp) ?_
      refine AllReadyH.consL (o := _) rfl (fun K hK => ?_) AllReadyH.nil
      clear hHeld
      go_simp
      go_at_call 64
      refine Calls.mono (simplestPositive_any (x := nl) (y := y) (x' := nh) (y' := y') ZN1.out.in_ ((Nin.of_rd ZD1.out).int EY.out) ZN2.out.in_ ((Nin.of_rd ZD2.out).int EY'.out) (Nat.le_succ_of_le M1.out) (Nat.le_succ_of_le M2.out) (Nat.le_succ_of_le M3.out) (Nat.le_succ_of_le M4.out) (by have := ENL.out; have := HL.out; have := HH.out; omega) (by have := D1.out; have := EY.out; omega) (by have := ENH.out; have := HH.out; omega) (by have := D2.out; have := EY'.out; omega)) ?_
      rintro e wf ⟨u, v, spr, lens, P3, c3, Q3, k3, rfl, q1, q2, hb⟩
      replace V0 := Lib.hid (V0.out.below hb V0.out.lt)
      replace V1 := Lib.hid (V1.out.below hb V1.out.lt)
      replace V2 := Lib.hid (V2.out.below hb V2.out.lt)
      replace H1 := Lib.hid (H1.out.below hb)
      replace H2 := Lib.hid (H2.out.below hb)
      replace H3 := Lib.hid (H3.out.below hb)
      replace H4 := Lib.hid (H4.out.below hb)
      replace ZN1 := Lib.hid (ZN1.out.below hb)
      replace ZD1 := Lib.hid (ZD1.out.below hb)
      replace ZN2 := Lib.hid (ZN2.out.below hb)
      replace ZD2 := Lib.hid (ZD2.out.below hb)
      replace B1 := Lib.hid (B1.out.trans (hb.mono B1.out.size))
      have SPR := Lib.hid spr
      have LE := Lib.hid lens
      have ZU := Lib.hid q1
      have ZV := Lib.hid q2
      clear spr lens q1 q2
      obtain ⟨fz, efz⟩ : ∃ z0 : Int, -u = z0 := ⟨_, rfl⟩
      have EFZ := Lib.hid efz
      have V00 : Hid (0 < v) := by show _ < _; have := SPR.out.v0; omega
      have F1 : Hid ((-mkRat u v).num = fz) := (neg_cop V00.out SPR.out.g).1.trans efz
      have F2 : Hid ((-mkRat u v).den = v) := (neg_cop V00.out SPR.out.g).2
      clear efz
      clear hb
      refine hK.out _ _ ⟨V0.out, V1.out⟩ (fun hHeld => ?_)
      clear hK K
      try simp only [Act.put, List.setIfInBounds_toArray, List.set_cons_zero, List.set_cons_succ]
      refine wpAnyH_ready (rs := [5]) (by kernel_rfl) (by simp) ?_
      refine AllReadyH.consL (o := _) rfl (fun K hK => ?_) AllReadyH.nil
      clear hHeld
      go_simp
      go_at_call 31
      refine Calls.mono (qneg_any (L := 100000000) (z := fz) (d := v) ZU.out.in_ (Nin.of_rd ZV.out) LE.out.1 LE.out.2 LL8.out F1.out F2.out) ?_
      rintro e wg ⟨P4, c4, Q4, k4, rfl, ho, ho2, hb⟩
      replace V0 := Lib.hid (V0.out.below hb V0.out.lt)
      replace V1 := Lib.hid (V1.out.below hb V1.out.lt)
      replace V2 := Lib.hid (V2.out.below hb V2.out.lt)
      replace H1 := Lib.hid (H1.out.below hb)
      replace H2 := Lib.hid (H2.out.below hb)
      replace H3 := Lib.hid (H3.out.below hb)
      replace H4 := Lib.hid (H4.out.below hb)
      replace ZN1 := Lib.hid (ZN1.out.below hb)
      replace ZD1 := Lib.hid (ZD1.out.below hb)
      replace ZN2 := Lib.hid (ZN2.out.below hb)
      replace ZD2 := Lib.hid (ZD2.out.below hb)
      replace ZU := Lib.hid (ZU.out.below hb)
      replace ZV := Lib.hid (ZV.out.below hb)
      replace B1 := Lib.hid (B1.out.trans (hb.mono B1.out.size))
      have ZN4 := Lib.hid (Zo.of_own ho)
      have ZD4 := Lib.hid ho2.rd
      clear ho ho2
      clear hb
      refine hK.out _ _ ⟨V0.out, V1.out⟩ (fun hHeld => ?_)
      clear hK K
      try simp only [Act.put, List.setIfInBounds_toArray, List.set_cons_zero, List.set_cons_succ]
      refine wpAnyH_ready (rs := [6]) (by kernel_rfl) (by simp) ?_
      refine AllReadyH.consL (o := _) rfl (fun K hK => ?_) AllReadyH.nil
      clear hHeld
      rw [if_pos (by rfl)]
      refine wp_stR _ _ rfl (by rfl) (by rfl) V2.out ?_
      intro wv0 hz hg
      have bx := V2.out.bx
      replace V0 := Lib.hid (V0.out.gro hg (by omega))
      replace V1 := Lib.hid (V1.out.gro hg (by omega))
      replace H1 := Lib.hid (H1.out.grB bx hg)
      replace H2 := Lib.hid (H2.out.grB bx hg)
      replace H3 := Lib.hid (H3.out.grB bx hg)
      replace H4 := Lib.hid (H4.out.grB bx hg)
      replace ZN1 := Lib.hid (ZN1.out.grB bx hg)
      replace ZD1 := Lib.hid (ZD1.out.grB bx hg)
      replace ZN2 := Lib.hid (ZN2.out.grB bx hg)
      replace ZD2 := Lib.hid (ZD2.out.grB bx hg)
      replace ZU := Lib.hid (ZU.out.grB bx hg)
      replace ZV := Lib.hid (ZV.out.grB bx hg)
      replace ZN4 := Lib.hid (ZN4.out.grB bx hg)
      replace ZD4 := Lib.hid (ZD4.out.grB bx hg)
      replace B1 := Lib.hid (Below.gr B1.out (by omega) hg B1.out.size)
      clear bx
      replace V2 := Lib.hid hz
      refine hK.out _ _ ⟨V0.out, V1.out⟩ (fun hHeld => ?_)
      clear hK K hg hz
      try simp only [Act.put]
      refine wpAnyH_takeL (i := 7) (oi := _) (v := ?_) rfl (by kernel_rfl) (by kernel_rfl) (by kernel_rfl) (fun _ _ _ h => h) (Or.inl ⟨by rfl, ?_⟩) hHeld ?_
      rotate_left
      · (intro w' hSw; (try dsimp only at hSw); go_simp; try (with_reducible rfl))
      try simp only [Act.put, List.setIfInBounds_toArray, List.set_cons_zero, List.set_cons_succ]
      clear hHeld
      refine wpAnyH_done (by kernel_rfl) ?_ _
      go_wp2_with fail
      have sp := SPR.out
      rw [← ENL.out, ← ENH.out, ← EY.out, ← EY'.out] at sp
      have sm := smp_neg sp (show (0 : Int) < dl by have := D1.out; omega) (show (0 : Int) < dh by have := D2.out; omega) HLE.out
      rw [EFZ.out] at sm
      exact ret_rk Tryz.results20 rfl rfl rfl V2.out ⟨fz, v, sm, ⟨by rw [← EFZ.out, Int.natAbs_neg]; exact LE.out.1, LE.out.2⟩, _, _, _, _, rfl, ZN4.out, ZD4.out, B1.out⟩
    · have HS2 : Hid (sgR (mkRat x' p') = 0) := S2.out.trans hk
      have HH := Lib.hid hh
      clear hk hh
      obtain ⟨z0, ez0⟩ : ∃ z : Int, (0 : Int) = z := ⟨_, rfl⟩
      have EZ0 := Lib.hid ez0
      clear ez0
      have pc0 := Lib.hid trivial
      go_wp2_with (first
        | (clear pc0; go_at_call 62; refine Calls.mono (qcompare_any (L := 1048576) (r := (-1)) H1.out H2.out H3.out H4.out L1.out L2.out L3.out L4.out LL.out HC.out) ?_; rintro e wa ⟨rfl, hb⟩; replace V0 := Lib.hid (V0.out.below hb V0.out.lt); replace V1 := Lib.hid (V1.out.below hb V1.out.lt); replace V2 := Lib.hid (V2.out.below hb V2.out.lt); replace H1 := Lib.hid (H1.out.below hb); replace H2 := Lib.hid (H2.out.below hb); replace H3 := Lib.hid (H3.out.below hb); replace H4 := Lib.hid (H4.out.below hb); replace B1 := Lib.hid (B1.out.trans (hb.mono B1.out.size)); clear hb; have pc1 := Lib.hid trivial)
        | (clear pc1; refine wpList_ldR (by rfl) _ rfl (by rfl) V0.out ?_; have pc2 := Lib.hid trivial)
        | (clear pc2; go_at_call 63; refine Calls.mono (qsign_any (L := 1048576) (r := (-1)) H1.out H2.out L1.out L2.out LL2.out HS1.out) ?_; rintro e wb ⟨rfl, hb⟩; replace V0 := Lib.hid (V0.out.below hb V0.out.lt); replace V1 := Lib.hid (V1.out.below hb V1.out.lt); replace V2 := Lib.hid (V2.out.below hb V2.out.lt); replace H1 := Lib.hid (H1.out.below hb); replace H2 := Lib.hid (H2.out.below hb); replace H3 := Lib.hid (H3.out.below hb); replace H4 := Lib.hid (H4.out.below hb); replace B1 := Lib.hid (B1.out.trans (hb.mono B1.out.size)); clear hb; have pc3 := Lib.hid trivial)
        | (clear pc3; refine wpList_ldR (by rfl) _ rfl (by rfl) V1.out ?_; have pc4 := Lib.hid trivial)
        | (clear pc4; go_at_call 63; refine Calls.mono (qsign_any (L := 1048576) (r := 0) H3.out H4.out L3.out L4.out LL2.out HS2.out) ?_; rintro e wc ⟨rfl, hb⟩; replace V0 := Lib.hid (V0.out.below hb V0.out.lt); replace V1 := Lib.hid (V1.out.below hb V1.out.lt); replace V2 := Lib.hid (V2.out.below hb V2.out.lt); replace H1 := Lib.hid (H1.out.below hb); replace H2 := Lib.hid (H2.out.below hb); replace H3 := Lib.hid (H3.out.below hb); replace H4 := Lib.hid (H4.out.below hb); replace B1 := Lib.hid (B1.out.trans (hb.mono B1.out.size)); clear hb; have pc5 := Lib.hid trivial)
        | (clear pc5; go_at_call 65; refine Calls.mono (qfromInt_any (v := 0) (z := z0) (by decide) EZ0.out _) ?_; rintro e wd ⟨P3, c3, Q3, k3, rfl, ho, ho2, hb⟩; replace V0 := Lib.hid (V0.out.below hb V0.out.lt); replace V1 := Lib.hid (V1.out.below hb V1.out.lt); replace V2 := Lib.hid (V2.out.below hb V2.out.lt); replace H1 := Lib.hid (H1.out.below hb); replace H2 := Lib.hid (H2.out.below hb); replace H3 := Lib.hid (H3.out.below hb); replace H4 := Lib.hid (H4.out.below hb); replace B1 := Lib.hid (B1.out.trans (hb.mono B1.out.size)); have ZU := Lib.hid (Zo.of_own ho); have ZV := Lib.hid ho2.rd; clear ho ho2; clear hb; have pc6 := Lib.hid trivial)
        | (clear pc6; refine wpList_stR (by rfl) _ _ rfl (by rfl) (by rfl) V2.out ?_; intro we hz hg; have bx := V2.out.bx; replace V0 := Lib.hid (V0.out.gro hg (by omega)); replace V1 := Lib.hid (V1.out.gro hg (by omega)); replace H1 := Lib.hid (H1.out.grB bx hg); replace H2 := Lib.hid (H2.out.grB bx hg); replace H3 := Lib.hid (H3.out.grB bx hg); replace H4 := Lib.hid (H4.out.grB bx hg); replace ZU := Lib.hid (ZU.out.grB bx hg); replace ZV := Lib.hid (ZV.out.grB bx hg); replace B1 := Lib.hid (Below.gr B1.out (by omega) hg B1.out.size); clear bx; replace V2 := Lib.hid hz; clear hz hg; have pc7 := Lib.hid trivial))
      clear pc7
      exact ret_rk Tryz.results20 rfl rfl rfl V2.out ⟨z0, 1, by rw [← EZ0.out]; exact smp_zero (by have := HL.out; omega) (by have := HH.out; omega), ⟨by rw [← EZ0.out]; simp [ofv_zero], by rw [len_one]; decide⟩, _, _, _, _, rfl, ZU.out, ZV.out, B1.out⟩
    · have HS2 : Hid (sgR (mkRat x' p') = 1) := S2.out.trans hk
      have HH := Lib.hid hh
      clear hk hh
      obtain ⟨z0, ez0⟩ : ∃ z : Int, (0 : Int) = z := ⟨_, rfl⟩
      have EZ0 := Lib.hid ez0
      clear ez0
      have pc0 := Lib.hid trivial
      go_wp2_with (first
        | (clear pc0; go_at_call 62; refine Calls.mono (qcompare_any (L := 1048576) (r := (-1)) H1.out H2.out H3.out H4.out L1.out L2.out L3.out L4.out LL.out HC.out) ?_; rintro e wa ⟨rfl, hb⟩; replace V0 := Lib.hid (V0.out.below hb V0.out.lt); replace V1 := Lib.hid (V1.out.below hb V1.out.lt); replace V2 := Lib.hid (V2.out.below hb V2.out.lt); replace H1 := Lib.hid (H1.out.below hb); replace H2 := Lib.hid (H2.out.below hb); replace H3 := Lib.hid (H3.out.below hb); replace H4 := Lib.hid (H4.out.below hb); replace B1 := Lib.hid (B1.out.trans (hb.mono B1.out.size)); clear hb; have pc1 := Lib.hid trivial)
        | (clear pc1; refine wpList_ldR (by rfl) _ rfl (by rfl) V0.out ?_; have pc2 := Lib.hid trivial)
        | (clear pc2; go_at_call 63; refine Calls.mono (qsign_any (L := 1048576) (r := (-1)) H1.out H2.out L1.out L2.out LL2.out HS1.out) ?_; rintro e wb ⟨rfl, hb⟩; replace V0 := Lib.hid (V0.out.below hb V0.out.lt); replace V1 := Lib.hid (V1.out.below hb V1.out.lt); replace V2 := Lib.hid (V2.out.below hb V2.out.lt); replace H1 := Lib.hid (H1.out.below hb); replace H2 := Lib.hid (H2.out.below hb); replace H3 := Lib.hid (H3.out.below hb); replace H4 := Lib.hid (H4.out.below hb); replace B1 := Lib.hid (B1.out.trans (hb.mono B1.out.size)); clear hb; have pc3 := Lib.hid trivial)
        | (clear pc3; refine wpList_ldR (by rfl) _ rfl (by rfl) V1.out ?_; have pc4 := Lib.hid trivial)
        | (clear pc4; go_at_call 63; refine Calls.mono (qsign_any (L := 1048576) (r := 1) H3.out H4.out L3.out L4.out LL2.out HS2.out) ?_; rintro e wc ⟨rfl, hb⟩; replace V0 := Lib.hid (V0.out.below hb V0.out.lt); replace V1 := Lib.hid (V1.out.below hb V1.out.lt); replace V2 := Lib.hid (V2.out.below hb V2.out.lt); replace H1 := Lib.hid (H1.out.below hb); replace H2 := Lib.hid (H2.out.below hb); replace H3 := Lib.hid (H3.out.below hb); replace H4 := Lib.hid (H4.out.below hb); replace B1 := Lib.hid (B1.out.trans (hb.mono B1.out.size)); clear hb; have pc5 := Lib.hid trivial)
        | (clear pc5; go_at_call 65; refine Calls.mono (qfromInt_any (v := 0) (z := z0) (by decide) EZ0.out _) ?_; rintro e wd ⟨P3, c3, Q3, k3, rfl, ho, ho2, hb⟩; replace V0 := Lib.hid (V0.out.below hb V0.out.lt); replace V1 := Lib.hid (V1.out.below hb V1.out.lt); replace V2 := Lib.hid (V2.out.below hb V2.out.lt); replace H1 := Lib.hid (H1.out.below hb); replace H2 := Lib.hid (H2.out.below hb); replace H3 := Lib.hid (H3.out.below hb); replace H4 := Lib.hid (H4.out.below hb); replace B1 := Lib.hid (B1.out.trans (hb.mono B1.out.size)); have ZU := Lib.hid (Zo.of_own ho); have ZV := Lib.hid ho2.rd; clear ho ho2; clear hb; have pc6 := Lib.hid trivial)
        | (clear pc6; refine wpList_stR (by rfl) _ _ rfl (by rfl) (by rfl) V2.out ?_; intro we hz hg; have bx := V2.out.bx; replace V0 := Lib.hid (V0.out.gro hg (by omega)); replace V1 := Lib.hid (V1.out.gro hg (by omega)); replace H1 := Lib.hid (H1.out.grB bx hg); replace H2 := Lib.hid (H2.out.grB bx hg); replace H3 := Lib.hid (H3.out.grB bx hg); replace H4 := Lib.hid (H4.out.grB bx hg); replace ZU := Lib.hid (ZU.out.grB bx hg); replace ZV := Lib.hid (ZV.out.grB bx hg); replace B1 := Lib.hid (Below.gr B1.out (by omega) hg B1.out.size); clear bx; replace V2 := Lib.hid hz; clear hz hg; have pc7 := Lib.hid trivial))
      clear pc7
      exact ret_rk Tryz.results20 rfl rfl rfl V2.out ⟨z0, 1, by rw [← EZ0.out]; exact smp_zero (by have := HL.out; omega) (by have := HH.out; omega), ⟨by rw [← EZ0.out]; simp [ofv_zero], by rw [len_one]; decide⟩, _, _, _, _, rfl, ZU.out, ZV.out, B1.out⟩
  · have HS1 : Hid (sgR (mkRat x p) = 0) := S1.out.trans hk
    have HL := Lib.hid hl
    clear hk hl
    rcases sg_cases zh with ⟨hk, hh⟩ | ⟨hk, hh⟩ | ⟨hk, hh⟩
    · have HS2 : Hid (sgR (mkRat x' p') = (-1)) := S2.out.trans hk
      have HH := Lib.hid hh
      clear hk hh
      obtain ⟨nl, enl⟩ : ∃ z0 : Int, -zl = z0 := ⟨_, rfl⟩
      obtain ⟨nh, enh⟩ : ∃ z0 : Int, -zh = z0 := ⟨_, rfl⟩
      obtain ⟨y, ey⟩ : ∃ z0 : Int, (dl : Int) = z0 := ⟨_, rfl⟩
      obtain ⟨y', ey'⟩ : ∃ z0 : Int, (dh : Int) = z0 := ⟨_, rfl⟩
      have ENL := Lib.hid enl
      have ENH := Lib.hid enh
      have EY := Lib.hid ey
      have EY' := Lib.hid ey'
      have N1 : Hid ((-mkRat x p).num = nl) := by show _ = _; rw [Rat.neg_num, A1.out]; exact enl
      have N2 : Hid ((-mkRat x p).den = dl) := by show _ = _; rw [Rat.neg_den, A2.out]
      have N3 : Hid ((-mkRat x' p').num = nh) := by show _ = _; rw [Rat.neg_num, A3.out]; exact enh
      have N4 : Hid ((-mkRat x' p').den = dh) := by show _ = _; rw [Rat.neg_den, A4.out]
      have M1 : Hid ((ofv nl.natAbs).length ≤ 1048576) := by show _ ≤ _; have h := RL1.out.1; rw [A1.out] at h; rw [← enl, Int.natAbs_neg]; exact h
      have M2 : Hid ((ofv dl).length ≤ 1048576) := by show _ ≤ _; have h := RL1.out.2; rw [A2.out] at h; exact h
      have M3 : Hid ((ofv nh.natAbs).length ≤ 1048576) := by show _ ≤ _; have h := RL2.out.1; rw [A3.out] at h; rw [← enh, Int.natAbs_neg]; exact h
      have M4 : Hid ((ofv dh).length ≤ 1048576) := by show _ ≤ _; have h := RL2.out.2; rw [A4.out] at h; exact h
      clear enl enh ey ey'
      have pc0 := Lib.hid trivial
      go_wp2_with (first
        | (clear pc0; go_at_call 62; refine Calls.mono (qcompare_any (L := 1048576) (r := (-1)) H1.out H2.out H3.out H4.out L1.out L2.out L3.out L4.out LL.out HC.out) ?_; rintro e wa ⟨rfl, hb⟩; replace V0 := Lib.hid (V0.out.below hb V0.out.lt); replace V1 := Lib.hid (V1.out.below hb V1.out.lt); replace V2 := Lib.hid (V2.out.below hb V2.out.lt); replace H1 := Lib.hid (H1.out.below hb); replace H2 := Lib.hid (H2.out.below hb); replace H3 := Lib.hid (H3.out.below hb); replace H4 := Lib.hid (H4.out.below hb); replace B1 := Lib.hid (B1.out.trans (hb.mono B1.out.size)); clear hb; have pc1 := Lib.hid trivial)
        | (clear pc1; refine wpList_ldR (by rfl) _ rfl (by rfl) V0.out ?_; have pc2 := Lib.hid trivial)
        | (clear pc2; go_at_call 63; refine Calls.mono (qsign_any (L := 1048576) (r := 0) H1.out H2.out L1.out L2.out LL2.out HS1.out) ?_; rintro e wb ⟨rfl, hb⟩; replace V0 := Lib.hid (V0.out.below hb V0.out.lt); replace V1 := Lib.hid (V1.out.below hb V1.out.lt); replace V2 := Lib.hid (V2.out.below hb V2.out.lt); replace H1 := Lib.hid (H1.out.below hb); replace H2 := Lib.hid (H2.out.below hb); replace H3 := Lib.hid (H3.out.below hb); replace H4 := Lib.hid (H4.out.below hb); replace B1 := Lib.hid (B1.out.trans (hb.mono B1.out.size)); clear hb; have pc3 := Lib.hid trivial)
        | (clear pc3; refine wpList_ldR (by rfl) _ rfl (by rfl) V1.out ?_; have pc4 := Lib.hid trivial)
        | (clear pc4; go_at_call 63; refine Calls.mono (qsign_any (L := 1048576) (r := (-1)) H3.out H4.out L3.out L4.out LL2.out HS2.out) ?_; rintro e wc ⟨rfl, hb⟩; replace V0 := Lib.hid (V0.out.below hb V0.out.lt); replace V1 := Lib.hid (V1.out.below hb V1.out.lt); replace V2 := Lib.hid (V2.out.below hb V2.out.lt); replace H1 := Lib.hid (H1.out.below hb); replace H2 := Lib.hid (H2.out.below hb); replace H3 := Lib.hid (H3.out.below hb); replace H4 := Lib.hid (H4.out.below hb); replace B1 := Lib.hid (B1.out.trans (hb.mono B1.out.size)); clear hb; have pc5 := Lib.hid trivial))
      clear pc5
      have hb := below_drewN wc.heap.size wc 1
      replace V0 := Lib.hid (V0.out.below hb V0.out.lt)
      replace V1 := Lib.hid (V1.out.below hb V1.out.lt)
      replace V2 := Lib.hid (V2.out.below hb V2.out.lt)
      replace H1 := Lib.hid (H1.out.below hb)
      replace H2 := Lib.hid (H2.out.below hb)
      replace H3 := Lib.hid (H3.out.below hb)
      replace H4 := Lib.hid (H4.out.below hb)
      replace B1 := Lib.hid (B1.out.trans (hb.mono B1.out.size))
      clear hb
      refine wp_region_held_drew (S := fun w' => Rb w' w.heap.size s A n c D m k ∧ Rb w' (w.heap.size + 1) t B n2 c2 E m2 k2) (by kernel_rfl) ⟨V0.out, V1.out⟩ (fun hHeld => ?_)
      refine wpAnyH_takeL (i := 0) (oi := _) rfl (by kernel_rfl) (by kernel_rfl) (by kernel_rfl) (fun _ _ _ h => h) (yields_ldR (by rfl) _ rfl (by rfl) (fun _ hS => hS.1)) hHeld ?_
      try simp only [Act.put, List.setIfInBounds_toArray, List.set_cons_zero, List.set_cons_succ]
      refine wpAnyH_takeL (i := 2) (oi := _) rfl (by kernel_rfl) (by kernel_rfl) (by kernel_rfl) (fun _ _ _ h => h) (yields_ldR (by rfl) _ rfl (by rfl) (fun _ hS => hS.2)) hHeld ?_
      try simp only [Act.put, List.setIfInBounds_toArray, List.set_cons_zero, List.set_cons_succ]
      refine wpAnyH_ready (rs := [1]) (by kernel_rfl) (by simp) ?_
      refine AllReadyH.consL (o := _) rfl (fun K hK => ?_) AllReadyH.nil
      clear hHeld
      go_simp
      go_at_call 31
      refine Calls.mono (qneg_any (L := 1048576) (z := nl) (d := dl) H1.out H2.out L1.out L2.out LL2.out N1.out N2.out) ?_
      rintro e wd ⟨P1, c1, Q1, k1, rfl, ho, ho2, hb⟩
      replace V0 := Lib.hid (V0.out.below hb V0.out.lt)
      replace V1 := Lib.hid (V1.out.below hb V1.out.lt)
      replace V2 := Lib.hid (V2.out.below hb V2.out.lt)
      replace H1 := Lib.hid (H1.out.below hb)
      replace H2 := Lib.hid (H2.out.below hb)
      replace H3 := Lib.hid (H3.out.below hb)
      replace H4 := Lib.hid (H4.out.below hb)
      replace B1 := Lib.hid (B1.out.trans (hb.mono B1.out.size))
      have ZN1 := Lib.hid (Zo.of_own ho)
      have ZD1 := Lib.hid ho2.rd
      clear ho ho2
      clear hb
      refine hK.out _ _ ⟨V0.out, V1.out⟩ (fun hHeld => ?_)
      clear hK K
      try simp only [Act.put, List.setIfInBounds_toArray, List.set_cons_zero, List.set_cons_succ]
      refine wpAnyH_ready (rs := [3]) (by kernel_rfl) (by simp) ?_
      refine AllReadyH.consL (o := _) rfl (fun K hK => ?_) AllReadyH.nil
      clear hHeld
      go_simp
      go_at_call 31
      refine Calls.mono (qneg_any (L := 1048576) (z := nh) (d := dh) H3.out H4.out L3.out L4.out LL2.out N3.out N4.out) ?_
      rintro e we ⟨P2, c2, Q2, k2, rfl, ho, ho2, hb⟩
      replace V0 := Lib.hid (V0.out.below hb V0.out.lt)
      replace V1 := Lib.hid (V1.out.below hb V1.out.lt)
      replace V2 := Lib.hid (V2.out.below hb V2.out.lt)
      replace H1 := Lib.hid (H1.out.below hb)
      replace H2 := Lib.hid (H2.out.below hb)
      replace H3 := Lib.hid (H3.out.below hb)
      replace H4 := Lib.hid (H4.out.below hb)
      replace ZN1 := Lib.hid (ZN1.out.below hb)
      replace ZD1 := Lib.hid (ZD1.out.below hb)
      replace B1 := Lib.hid (B1.out.trans (hb.mono B1.out.size))
      have ZN2 := Lib.hid (Zo.of_own ho)
      have ZD2 := Lib.hid ho2.rd
      clear ho ho2
      clear hb
      refine hK.out _ _ ⟨V0.out, V1.out⟩ (fun hHeld => ?_)
      clear hK K
      try simp only [Act.put, List.setIfInBounds_toArray, List.set_cons_zero, List.set_cons_succ]
      refine wpAnyH_ready (rs := [4]) (by kernel_rfl) (by simp) ?_
      refine AllReadyH.consL (o := _) rfl (fun K hK => ?_) AllReadyH.nil
      clear hHeld
      go_simp
      go_at_call 64
      refine Calls.mono (simplestPositive_any (x := nl) (y := y) (x' := nh) (y' := y') ZN1.out.in_ ((Nin.of_rd ZD1.out).int EY.out) ZN2.out.in_ ((Nin.of_rd ZD2.out).int EY'.out) (Nat.le_succ_of_le M1.out) (Nat.le_succ_of_le M2.out) (Nat.le_succ_of_le M3.out) (Nat.le_succ_of_le M4.out) (by have := ENL.out; have := HL.out; have := HH.out; exact absurd HLE.out (by have h1 := D1.out; have h3 : zh * (dl : Int) < 0 := Int.mul_neg_of_neg_of_pos HH.out (by omega); rw [HL.out]; omega)) (by have := D1.out; have := EY.out; omega) (by have := ENH.out; have := HH.out; omega) (by have := D2.out; have := EY'.out; omega)) ?_
      rintro e wf ⟨u, v, spr, lens, P3, c3, Q3, k3, rfl, q1, q2, hb⟩
      replace V0 := Lib.hid (V0.out.below hb V0.out.lt)
      replace V1 := Lib.hid (V1.out.below hb V1.out.lt)
      replace V2 := Lib.hid (V2.out.below hb V2.out.lt)
      replace H1 := Lib.hid (H1.out.below hb)
      replace H2 := Lib.hid (H2.out.below hb)
      replace H3 := Lib.hid (H3.out.below hb)
      replace H4 := Lib.hid (H4.out.below hb)
      replace ZN1 := Lib.hid (ZN1.out.below hb)
      replace ZD1 := Lib.hid (ZD1.out.below hb)
      replace ZN2 := Lib.hid (ZN2.out.below hb)
      replace ZD2 := Lib.hid (ZD2.out.below hb)
      replace B1 := Lib.hid (B1.out.trans (hb.mono B1.out.size))
      have SPR := Lib.hid spr
      have LE := Lib.hid lens
      have ZU := Lib.hid q1
      have ZV := Lib.hid q2
      clear spr lens q1 q2
      obtain ⟨fz, efz⟩ : ∃ z0 : Int, -u = z0 := ⟨_, rfl⟩
      have EFZ := Lib.hid efz
      have V00 : Hid (0 < v) := by show _ < _; have := SPR.out.v0; omega
      have F1 : Hid ((-mkRat u v).num = fz) := (neg_cop V00.out SPR.out.g).1.trans efz
      have F2 : Hid ((-mkRat u v).den = v) := (neg_cop V00.out SPR.out.g).2
      clear efz
      clear hb
      refine hK.out _ _ ⟨V0.out, V1.out⟩ (fun hHeld => ?_)
      clear hK K
      try simp only [Act.put, List.setIfInBounds_toArray, List.set_cons_zero, List.set_cons_succ]
      refine wpAnyH_ready (rs := [5]) (by kernel_rfl) (by simp) ?_
      refine AllReadyH.consL (o := _) rfl (fun K hK => ?_) AllReadyH.nil
      clear hHeld
      go_simp
      go_at_call 31
      refine Calls.mono (qneg_any (L := 100000000) (z := fz) (d := v) ZU.out.in_ (Nin.of_rd ZV.out) LE.out.1 LE.out.2 LL8.out F1.out F2.out) ?_
      rintro e wg ⟨P4, c4, Q4, k4, rfl, ho, ho2, hb⟩
      replace V0 := Lib.hid (V0.out.below hb V0.out.lt)
      replace V1 := Lib.hid (V1.out.below hb V1.out.lt)
      replace V2 := Lib.hid (V2.out.below hb V2.out.lt)
      replace H1 := Lib.hid (H1.out.below hb)
      replace H2 := Lib.hid (H2.out.below hb)
      replace H3 := Lib.hid (H3.out.below hb)
      replace H4 := Lib.hid (H4.out.below hb)
      replace ZN1 := Lib.hid (ZN1.out.below hb)
      replace ZD1 := Lib.hid (ZD1.out.below hb)
      replace ZN2 := Lib.hid (ZN2.out.below hb)
      replace ZD2 := Lib.hid (ZD2.out.below hb)
      replace ZU := Lib.hid (ZU.out.below hb)
      replace ZV := Lib.hid (ZV.out.below hb)
      replace B1 := Lib.hid (B1.out.trans (hb.mono B1.out.size))
      have ZN4 := Lib.hid (Zo.of_own ho)
      have ZD4 := Lib.hid ho2.rd
      clear ho ho2
      clear hb
      refine hK.out _ _ ⟨V0.out, V1.out⟩ (fun hHeld => ?_)
      clear hK K
      try simp only [Act.put, List.setIfInBounds_toArray, List.set_cons_zero, List.set_cons_succ]
      refine wpAnyH_ready (rs := [6]) (by kernel_rfl) (by simp) ?_
      refine AllReadyH.consL (o := _) rfl (fun K hK => ?_) AllReadyH.nil
      clear hHeld
      rw [if_pos (by rfl)]
      refine wp_stR _ _ rfl (by rfl) (by rfl) V2.out ?_
      intro wv0 hz hg
      have bx := V2.out.bx
      replace V0 := Lib.hid (V0.out.gro hg (by omega))
      replace V1 := Lib.hid (V1.out.gro hg (by omega))
      replace H1 := Lib.hid (H1.out.grB bx hg)
      replace H2 := Lib.hid (H2.out.grB bx hg)
      replace H3 := Lib.hid (H3.out.grB bx hg)
      replace H4 := Lib.hid (H4.out.grB bx hg)
      replace ZN1 := Lib.hid (ZN1.out.grB bx hg)
      replace ZD1 := Lib.hid (ZD1.out.grB bx hg)
      replace ZN2 := Lib.hid (ZN2.out.grB bx hg)
      replace ZD2 := Lib.hid (ZD2.out.grB bx hg)
      replace ZU := Lib.hid (ZU.out.grB bx hg)
      replace ZV := Lib.hid (ZV.out.grB bx hg)
      replace ZN4 := Lib.hid (ZN4.out.grB bx hg)
      replace ZD4 := Lib.hid (ZD4.out.grB bx hg)
      replace B1 := Lib.hid (Below.gr B1.out (by omega) hg B1.out.size)
      clear bx
      replace V2 := Lib.hid hz
      refine hK.out _ _ ⟨V0.out, V1.out⟩ (fun hHeld => ?_)
      clear hK K hg hz
      try simp only [Act.put]
      refine wpAnyH_takeL (i := 7) (oi := _) (v := ?_) rfl (by kernel_rfl) (by kernel_rfl) (by kernel_rfl) (fun _ _ _ h => h) (Or.inl ⟨by rfl, ?_⟩) hHeld ?_
      rotate_left
      · (intro w' hSw; (try dsimp only at hSw); go_simp; try (with_reducible rfl))
      try simp only [Act.put, List.setIfInBounds_toArray, List.set_cons_zero, List.set_cons_succ]
      clear hHeld
      refine wpAnyH_done (by kernel_rfl) ?_ _
      go_wp2_with fail
      have sp := SPR.out
      rw [← ENL.out, ← ENH.out, ← EY.out, ← EY'.out] at sp
      have sm := smp_neg sp (show (0 : Int) < dl by have := D1.out; omega) (show (0 : Int) < dh by have := D2.out; omega) HLE.out
      rw [EFZ.out] at sm
      exact ret_rk Tryz.results20 rfl rfl rfl V2.out ⟨fz, v, sm, ⟨by rw [← EFZ.out, Int.natAbs_neg]; exact LE.out.1, LE.out.2⟩, _, _, _, _, rfl, ZN4.out, ZD4.out, B1.out⟩
    · have HS2 : Hid (sgR (mkRat x' p') = 0) := S2.out.trans hk
      have HH := Lib.hid hh
      clear hk hh
      obtain ⟨z0, ez0⟩ : ∃ z : Int, (0 : Int) = z := ⟨_, rfl⟩
      have EZ0 := Lib.hid ez0
      clear ez0
      have pc0 := Lib.hid trivial
      go_wp2_with (first
        | (clear pc0; go_at_call 62; refine Calls.mono (qcompare_any (L := 1048576) (r := (-1)) H1.out H2.out H3.out H4.out L1.out L2.out L3.out L4.out LL.out HC.out) ?_; rintro e wa ⟨rfl, hb⟩; replace V0 := Lib.hid (V0.out.below hb V0.out.lt); replace V1 := Lib.hid (V1.out.below hb V1.out.lt); replace V2 := Lib.hid (V2.out.below hb V2.out.lt); replace H1 := Lib.hid (H1.out.below hb); replace H2 := Lib.hid (H2.out.below hb); replace H3 := Lib.hid (H3.out.below hb); replace H4 := Lib.hid (H4.out.below hb); replace B1 := Lib.hid (B1.out.trans (hb.mono B1.out.size)); clear hb; have pc1 := Lib.hid trivial)
        | (clear pc1; refine wpList_ldR (by rfl) _ rfl (by rfl) V0.out ?_; have pc2 := Lib.hid trivial)
        | (clear pc2; go_at_call 63; refine Calls.mono (qsign_any (L := 1048576) (r := 0) H1.out H2.out L1.out L2.out LL2.out HS1.out) ?_; rintro e wb ⟨rfl, hb⟩; replace V0 := Lib.hid (V0.out.below hb V0.out.lt); replace V1 := Lib.hid (V1.out.below hb V1.out.lt); replace V2 := Lib.hid (V2.out.below hb V2.out.lt); replace H1 := Lib.hid (H1.out.below hb); replace H2 := Lib.hid (H2.out.below hb); replace H3 := Lib.hid (H3.out.below hb); replace H4 := Lib.hid (H4.out.below hb); replace B1 := Lib.hid (B1.out.trans (hb.mono B1.out.size)); clear hb; have pc3 := Lib.hid trivial)
        | (clear pc3; refine wpList_ldR (by rfl) _ rfl (by rfl) V1.out ?_; have pc4 := Lib.hid trivial)
        | (clear pc4; go_at_call 63; refine Calls.mono (qsign_any (L := 1048576) (r := 0) H3.out H4.out L3.out L4.out LL2.out HS2.out) ?_; rintro e wc ⟨rfl, hb⟩; replace V0 := Lib.hid (V0.out.below hb V0.out.lt); replace V1 := Lib.hid (V1.out.below hb V1.out.lt); replace V2 := Lib.hid (V2.out.below hb V2.out.lt); replace H1 := Lib.hid (H1.out.below hb); replace H2 := Lib.hid (H2.out.below hb); replace H3 := Lib.hid (H3.out.below hb); replace H4 := Lib.hid (H4.out.below hb); replace B1 := Lib.hid (B1.out.trans (hb.mono B1.out.size)); clear hb; have pc5 := Lib.hid trivial)
        | (clear pc5; go_at_call 65; refine Calls.mono (qfromInt_any (v := 0) (z := z0) (by decide) EZ0.out _) ?_; rintro e wd ⟨P3, c3, Q3, k3, rfl, ho, ho2, hb⟩; replace V0 := Lib.hid (V0.out.below hb V0.out.lt); replace V1 := Lib.hid (V1.out.below hb V1.out.lt); replace V2 := Lib.hid (V2.out.below hb V2.out.lt); replace H1 := Lib.hid (H1.out.below hb); replace H2 := Lib.hid (H2.out.below hb); replace H3 := Lib.hid (H3.out.below hb); replace H4 := Lib.hid (H4.out.below hb); replace B1 := Lib.hid (B1.out.trans (hb.mono B1.out.size)); have ZU := Lib.hid (Zo.of_own ho); have ZV := Lib.hid ho2.rd; clear ho ho2; clear hb; have pc6 := Lib.hid trivial)
        | (clear pc6; refine wpList_stR (by rfl) _ _ rfl (by rfl) (by rfl) V2.out ?_; intro we hz hg; have bx := V2.out.bx; replace V0 := Lib.hid (V0.out.gro hg (by omega)); replace V1 := Lib.hid (V1.out.gro hg (by omega)); replace H1 := Lib.hid (H1.out.grB bx hg); replace H2 := Lib.hid (H2.out.grB bx hg); replace H3 := Lib.hid (H3.out.grB bx hg); replace H4 := Lib.hid (H4.out.grB bx hg); replace ZU := Lib.hid (ZU.out.grB bx hg); replace ZV := Lib.hid (ZV.out.grB bx hg); replace B1 := Lib.hid (Below.gr B1.out (by omega) hg B1.out.size); clear bx; replace V2 := Lib.hid hz; clear hz hg; have pc7 := Lib.hid trivial))
      clear pc7
      exact ret_rk Tryz.results20 rfl rfl rfl V2.out ⟨z0, 1, by rw [← EZ0.out]; exact smp_zero (by have := HL.out; omega) (by have := HH.out; omega), ⟨by rw [← EZ0.out]; simp [ofv_zero], by rw [len_one]; decide⟩, _, _, _, _, rfl, ZU.out, ZV.out, B1.out⟩
    · have HS2 : Hid (sgR (mkRat x' p') = 1) := S2.out.trans hk
      have HH := Lib.hid hh
      clear hk hh
      obtain ⟨z0, ez0⟩ : ∃ z : Int, (0 : Int) = z := ⟨_, rfl⟩
      have EZ0 := Lib.hid ez0
      clear ez0
      have pc0 := Lib.hid trivial
      go_wp2_with (first
        | (clear pc0; go_at_call 62; refine Calls.mono (qcompare_any (L := 1048576) (r := (-1)) H1.out H2.out H3.out H4.out L1.out L2.out L3.out L4.out LL.out HC.out) ?_; rintro e wa ⟨rfl, hb⟩; replace V0 := Lib.hid (V0.out.below hb V0.out.lt); replace V1 := Lib.hid (V1.out.below hb V1.out.lt); replace V2 := Lib.hid (V2.out.below hb V2.out.lt); replace H1 := Lib.hid (H1.out.below hb); replace H2 := Lib.hid (H2.out.below hb); replace H3 := Lib.hid (H3.out.below hb); replace H4 := Lib.hid (H4.out.below hb); replace B1 := Lib.hid (B1.out.trans (hb.mono B1.out.size)); clear hb; have pc1 := Lib.hid trivial)
        | (clear pc1; refine wpList_ldR (by rfl) _ rfl (by rfl) V0.out ?_; have pc2 := Lib.hid trivial)
        | (clear pc2; go_at_call 63; refine Calls.mono (qsign_any (L := 1048576) (r := 0) H1.out H2.out L1.out L2.out LL2.out HS1.out) ?_; rintro e wb ⟨rfl, hb⟩; replace V0 := Lib.hid (V0.out.below hb V0.out.lt); replace V1 := Lib.hid (V1.out.below hb V1.out.lt); replace V2 := Lib.hid (V2.out.below hb V2.out.lt); replace H1 := Lib.hid (H1.out.below hb); replace H2 := Lib.hid (H2.out.below hb); replace H3 := Lib.hid (H3.out.below hb); replace H4 := Lib.hid (H4.out.below hb); replace B1 := Lib.hid (B1.out.trans (hb.mono B1.out.size)); clear hb; have pc3 := Lib.hid trivial)
        | (clear pc3; refine wpList_ldR (by rfl) _ rfl (by rfl) V1.out ?_; have pc4 := Lib.hid trivial)
        | (clear pc4; go_at_call 63; refine Calls.mono (qsign_any (L := 1048576) (r := 1) H3.out H4.out L3.out L4.out LL2.out HS2.out) ?_; rintro e wc ⟨rfl, hb⟩; replace V0 := Lib.hid (V0.out.below hb V0.out.lt); replace V1 := Lib.hid (V1.out.below hb V1.out.lt); replace V2 := Lib.hid (V2.out.below hb V2.out.lt); replace H1 := Lib.hid (H1.out.below hb); replace H2 := Lib.hid (H2.out.below hb); replace H3 := Lib.hid (H3.out.below hb); replace H4 := Lib.hid (H4.out.below hb); replace B1 := Lib.hid (B1.out.trans (hb.mono B1.out.size)); clear hb; have pc5 := Lib.hid trivial)
        | (clear pc5; go_at_call 65; refine Calls.mono (qfromInt_any (v := 0) (z := z0) (by decide) EZ0.out _) ?_; rintro e wd ⟨P3, c3, Q3, k3, rfl, ho, ho2, hb⟩; replace V0 := Lib.hid (V0.out.below hb V0.out.lt); replace V1 := Lib.hid (V1.out.below hb V1.out.lt); replace V2 := Lib.hid (V2.out.below hb V2.out.lt); replace H1 := Lib.hid (H1.out.below hb); replace H2 := Lib.hid (H2.out.below hb); replace H3 := Lib.hid (H3.out.below hb); replace H4 := Lib.hid (H4.out.below hb); replace B1 := Lib.hid (B1.out.trans (hb.mono B1.out.size)); have ZU := Lib.hid (Zo.of_own ho); have ZV := Lib.hid ho2.rd; clear ho ho2; clear hb; have pc6 := Lib.hid trivial)
        | (clear pc6; refine wpList_stR (by rfl) _ _ rfl (by rfl) (by rfl) V2.out ?_; intro we hz hg; have bx := V2.out.bx; replace V0 := Lib.hid (V0.out.gro hg (by omega)); replace V1 := Lib.hid (V1.out.gro hg (by omega)); replace H1 := Lib.hid (H1.out.grB bx hg); replace H2 := Lib.hid (H2.out.grB bx hg); replace H3 := Lib.hid (H3.out.grB bx hg); replace H4 := Lib.hid (H4.out.grB bx hg); replace ZU := Lib.hid (ZU.out.grB bx hg); replace ZV := Lib.hid (ZV.out.grB bx hg); replace B1 := Lib.hid (Below.gr B1.out (by omega) hg B1.out.size); clear bx; replace V2 := Lib.hid hz; clear hz hg; have pc7 := Lib.hid trivial))
      clear pc7
      exact ret_rk Tryz.results20 rfl rfl rfl V2.out ⟨z0, 1, by rw [← EZ0.out]; exact smp_zero (by have := HL.out; omega) (by have := HH.out; omega), ⟨by rw [← EZ0.out]; simp [ofv_zero], by rw [len_one]; decide⟩, _, _, _, _, rfl, ZU.out, ZV.out, B1.out⟩
  · have HS1 : Hid (sgR (mkRat x p) = 1) := S1.out.trans hk
    have HL := Lib.hid hl
    clear hk hl
    have ZH : Hid (0 < zh) := by
      show _ < _
      have h := HLE.out
      have h1 := HL.out
      have h2 := D1.out
      have h3 := D2.out
      have : 0 < zl * (dh : Int) := Int.mul_pos h1 (by omega)
      exact Int.pos_of_mul_pos_left (by omega : 0 < zh * (dl : Int)) (by omega)
    have P1' := Lib.hid (pos_raw HS1.out)
    have P2' := Lib.hid (pos_raw (x := x') (p := p') (by rw [S2.out]; rcases sg_cases zh with ⟨_, e⟩ | ⟨_, e⟩ | ⟨e, _⟩ <;> first | exact e | (have := ZH.out; omega)))
    obtain ⟨y, ey⟩ : ∃ z0 : Int, (p : Int) = z0 := ⟨_, rfl⟩
    obtain ⟨y', ey'⟩ : ∃ z0 : Int, (p' : Int) = z0 := ⟨_, rfl⟩
    have EY := Lib.hid ey
    have EY' := Lib.hid ey'
    clear ey ey'
    have pc0 := Lib.hid trivial
    go_wp2_with (first
      | (clear pc0; go_at_call 62; refine Calls.mono (qcompare_any (L := 1048576) (r := (-1)) H1.out H2.out H3.out H4.out L1.out L2.out L3.out L4.out LL.out HC.out) ?_; rintro e wa ⟨rfl, hb⟩; replace V0 := Lib.hid (V0.out.below hb V0.out.lt); replace V1 := Lib.hid (V1.out.below hb V1.out.lt); replace V2 := Lib.hid (V2.out.below hb V2.out.lt); replace H1 := Lib.hid (H1.out.below hb); replace H2 := Lib.hid (H2.out.below hb); replace H3 := Lib.hid (H3.out.below hb); replace H4 := Lib.hid (H4.out.below hb); replace B1 := Lib.hid (B1.out.trans (hb.mono B1.out.size)); clear hb; have pc1 := Lib.hid trivial)
      | (clear pc1; refine wpList_ldR (by rfl) _ rfl (by rfl) V0.out ?_; have pc2 := Lib.hid trivial)
      | (clear pc2; go_at_call 63; refine Calls.mono (qsign_any (L := 1048576) (r := 1) H1.out H2.out L1.out L2.out LL2.out HS1.out) ?_; rintro e wb ⟨rfl, hb⟩; replace V0 := Lib.hid (V0.out.below hb V0.out.lt); replace V1 := Lib.hid (V1.out.below hb V1.out.lt); replace V2 := Lib.hid (V2.out.below hb V2.out.lt); replace H1 := Lib.hid (H1.out.below hb); replace H2 := Lib.hid (H2.out.below hb); replace H3 := Lib.hid (H3.out.below hb); replace H4 := Lib.hid (H4.out.below hb); replace B1 := Lib.hid (B1.out.trans (hb.mono B1.out.size)); clear hb; have pc3 := Lib.hid trivial)
      | (clear pc3; refine wpList_ldR (by rfl) _ rfl (by rfl) V0.out ?_; have pc4 := Lib.hid trivial)
      | (clear pc4; refine wpList_ldR (by rfl) _ rfl (by rfl) V1.out ?_; have pc5 := Lib.hid trivial)
      | (clear pc5; go_at_call 64; refine Calls.mono (simplestPositive_any (x := x) (y := y) (x' := x') (y' := y') H1.out (H2.out.int EY.out) H3.out (H4.out.int EY'.out) (Nat.le_succ_of_le L1.out) (Nat.le_succ_of_le L2.out) (Nat.le_succ_of_le L3.out) (Nat.le_succ_of_le L4.out) P1'.out.1 (by have := P1'.out.2; have := EY.out; omega) P2'.out.1 (by have := P2'.out.2; have := EY'.out; omega)) ?_; rintro e wc ⟨u, v, spr, lens, P3, c3, Q3, k3, rfl, q1, q2, hb⟩; replace V0 := Lib.hid (V0.out.below hb V0.out.lt); replace V1 := Lib.hid (V1.out.below hb V1.out.lt); replace V2 := Lib.hid (V2.out.below hb V2.out.lt); replace H1 := Lib.hid (H1.out.below hb); replace H2 := Lib.hid (H2.out.below hb); replace H3 := Lib.hid (H3.out.below hb); replace H4 := Lib.hid (H4.out.below hb); replace B1 := Lib.hid (B1.out.trans (hb.mono B1.out.size)); have SPR := Lib.hid spr; have LE := Lib.hid lens; have ZU := Lib.hid q1; have ZV := Lib.hid q2; clear spr lens q1 q2; clear hb; have pc6 := Lib.hid trivial)
      | (clear pc6; refine wpList_stR (by rfl) _ _ rfl (by rfl) (by rfl) V2.out ?_; intro wd hz hg; have bx := V2.out.bx; replace V0 := Lib.hid (V0.out.gro hg (by omega)); replace V1 := Lib.hid (V1.out.gro hg (by omega)); replace H1 := Lib.hid (H1.out.grB bx hg); replace H2 := Lib.hid (H2.out.grB bx hg); replace H3 := Lib.hid (H3.out.grB bx hg); replace H4 := Lib.hid (H4.out.grB bx hg); replace ZU := Lib.hid (ZU.out.grB bx hg); replace ZV := Lib.hid (ZV.out.grB bx hg); replace B1 := Lib.hid (Below.gr B1.out (by omega) hg B1.out.size); clear bx; replace V2 := Lib.hid hz; clear hz hg; have pc7 := Lib.hid trivial))
    clear pc7
    have sm := smp_pos SPR.out (by have := P1'.out.2; have := EY.out; omega) (by have := P2'.out.2; have := EY'.out; omega) (show (0 : Int) < dl by have := D1.out; omega) (show (0 : Int) < dh by have := D2.out; omega) (by rw [← EY.out]; exact cross P1'.out.2 A1.out A2.out) (by rw [← EY'.out]; exact cross P2'.out.2 A3.out A4.out) HLE.out
    exact ret_rk Tryz.results20 rfl rfl rfl V2.out ⟨u, v, sm, LE.out, _, _, _, _, rfl, ZU.out, ZV.out, B1.out⟩
set_option maxRecDepth 100000 in
set_option maxHeartbeats 16000000 in
theorem simplest_yesb {s t : Bool} {A D B E : Option Addr} {n c m k n2 c2 m2 k2 : Nat} {x x' : Int} {p p' : Nat} {w : World} (h1 : Zin w s A n c x) (h2 : Nin w D m k p) (h3 : Zin w t B n2 c2 x') (h4 : Nin w E m2 k2 p') (l1 : n ≤ 1048576) (l2 : m ≤ 1048576) (l3 : n2 ≤ 1048576) (l4 : m2 ≤ 1048576) {zl zh : Int} {dl dh : Nat} (a1 : (mkRat x p).num = zl) (a2 : (mkRat x p).den = dl) (a3 : (mkRat x' p').num = zh) (a4 : (mkRat x' p').den = dh) (hc : sgR (mkRat x p - mkRat x' p') = 0) :
    Calls Tryz.prog 20 #[.agg #[.bool s, .slice A n c, .slice D m k], .agg #[.bool t, .slice B n2 c2, .slice E m2 k2]] w fun e w' => ∃ z d, Smp zl dl zh dh z ((d : Nat) : Int) ∧ ((ofv z.natAbs).length ≤ 100000000 ∧ (ofv d).length ≤ 100000000) ∧ GivesK w z d e w' := by
  obtain ⟨B1, V0, V1, V2⟩ := start_RRR w s A n c D m k t B n2 c2 E m2 k2
  have H1 := Lib.hid (h1.below B1.out)
  have H2 := Lib.hid (h2.below B1.out)
  have H3 := Lib.hid (h3.below B1.out)
  have H4 := Lib.hid (h4.below B1.out)
  have L1 := Lib.hid l1
  have L2 := Lib.hid l2
  have L3 := Lib.hid l3
  have L4 := Lib.hid l4
  have LL : Hid (1 ≤ 1048576 ∧ 1048576 ≤ 35184372088829) := by show _ ∧ _; omega
  have LL2 : Hid (1 ≤ 1048576 ∧ 1048576 ≤ 70368744177660) := by show _ ∧ _; omega
  have LL8 : Hid (1 ≤ 100000000 ∧ 100000000 ≤ 70368744177660) := by show _ ∧ _; omega
  have d1 : 0 < dl := by rw [← a2]; exact den_pos _
  have d2 : 0 < dh := by rw [← a4]; exact den_pos _
  have hle : zl * dh ≤ zh * dl := by
    rw [sg_sub a1 a2 a3 a4] at hc
    rcases sg_cases (zl * dh - zh * dl) with ⟨e, q⟩ | ⟨e, q⟩ | ⟨e, q⟩ <;> omega
  have rl1 := rl_mk (N := 1048576) (Nat.le_trans h1.len l1) (Nat.le_trans h2.len l2) (by decide)
  have rl2 := rl_mk (N := 1048576) (Nat.le_trans h3.len l3) (Nat.le_trans h4.len l4) (by decide)
  have s1 : sgR (mkRat x p) = sg zl := by rw [canon_mk a1 a2, sgR_mk d1]
  have s2 : sgR (mkRat x' p') = sg zh := by rw [canon_mk a3 a4, sgR_mk d2]
  have HLE := Lib.hid hle
  have D1 := Lib.hid d1
  have D2 := Lib.hid d2
  have HC := Lib.hid hc
  have A1 := Lib.hid a1
  have A2 := Lib.hid a2
  have A3 := Lib.hid a3
  have A4 := Lib.hid a4
  have S1 := Lib.hid s1
  have S2 := Lib.hid s2
  have RL1 := Lib.hid rl1
  have RL2 := Lib.hid rl2
  clear h1 h2 h3 h4 l1 l2 l3 l4 hc hle rl1 rl2 s1 s2 d1 d2
  go_enter Tryz.func20, Tryz.ntmps20
  go_wp2_with fail
  generalize (((w.alloc (.cells #[.bool s, .slice A n c, .slice D m k] 26)).alloc (.cells #[.bool t, .slice B n2 c2, .slice E m2 k2] 26)).alloc (.cells #[.bool false, .slice none 0 0, .slice none 0 0] 26)) = w2 at *
  rcases sg_cases zl with ⟨hk, hl⟩ | ⟨hk, hl⟩ | ⟨hk, hl⟩
  · have HS1 : Hid (sgR (mkRat x p) = (-1)) := S1.out.trans hk
    have HL := Lib.hid hl
    clear hk hl
    rcases sg_cases zh with ⟨hk, hh⟩ | ⟨hk, hh⟩ | ⟨hk, hh⟩
    · have HS2 : Hid (sgR (mkRat x' p') = (-1)) := S2.out.trans hk
      have HH := Lib.hid hh
      clear hk hh
      obtain ⟨nl, enl⟩ : ∃ z0 : Int, -zl = z0 := ⟨_, rfl⟩
      obtain ⟨nh, enh⟩ : ∃ z0 : Int, -zh = z0 := ⟨_, rfl⟩
      obtain ⟨y, ey⟩ : ∃ z0 : Int, (dl : Int) = z0 := ⟨_, rfl⟩
      obtain ⟨y', ey'⟩ : ∃ z0 : Int, (dh : Int) = z0 := ⟨_, rfl⟩
      have ENL := Lib.hid enl
      have ENH := Lib.hid enh
      have EY := Lib.hid ey
      have EY' := Lib.hid ey'
      have N1 : Hid ((-mkRat x p).num = nl) := by show _ = _; rw [Rat.neg_num, A1.out]; exact enl
      have N2 : Hid ((-mkRat x p).den = dl) := by show _ = _; rw [Rat.neg_den, A2.out]
      have N3 : Hid ((-mkRat x' p').num = nh) := by show _ = _; rw [Rat.neg_num, A3.out]; exact enh
      have N4 : Hid ((-mkRat x' p').den = dh) := by show _ = _; rw [Rat.neg_den, A4.out]
      have M1 : Hid ((ofv nl.natAbs).length ≤ 1048576) := by show _ ≤ _; have h := RL1.out.1; rw [A1.out] at h; rw [← enl, Int.natAbs_neg]; exact h
      have M2 : Hid ((ofv dl).length ≤ 1048576) := by show _ ≤ _; have h := RL1.out.2; rw [A2.out] at h; exact h
      have M3 : Hid ((ofv nh.natAbs).length ≤ 1048576) := by show _ ≤ _; have h := RL2.out.1; rw [A3.out] at h; rw [← enh, Int.natAbs_neg]; exact h
      have M4 : Hid ((ofv dh).length ≤ 1048576) := by show _ ≤ _; have h := RL2.out.2; rw [A4.out] at h; exact h
      clear enl enh ey ey'
      have pc0 := Lib.hid trivial
      go_wp2_with (first
        | (clear pc0; go_at_call 62; refine Calls.mono (qcompare_any (L := 1048576) (r := 0) H1.out H2.out H3.out H4.out L1.out L2.out L3.out L4.out LL.out HC.out) ?_; rintro e wa ⟨rfl, hb⟩; replace V0 := Lib.hid (V0.out.below hb V0.out.lt); replace V1 := Lib.hid (V1.out.below hb V1.out.lt); replace V2 := Lib.hid (V2.out.below hb V2.out.lt); replace H1 := Lib.hid (H1.out.below hb); replace H2 := Lib.hid (H2.out.below hb); replace H3 := Lib.hid (H3.out.below hb); replace H4 := Lib.hid (H4.out.below hb); replace B1 := Lib.hid (B1.out.trans (hb.mono B1.out.size)); clear hb; have pc1 := Lib.hid trivial)
        | (clear pc1; refine wpList_ldR (by rfl) _ rfl (by rfl) V0.out ?_; have pc2 := Lib.hid trivial)
        | (clear pc2; go_at_call 63; refine Calls.mono (qsign_any (L := 1048576) (r := (-1)) H1.out H2.out L1.out L2.out LL2.out HS1.out) ?_; rintro e wb ⟨rfl, hb⟩; replace V0 := Lib.hid (V0.out.below hb V0.out.lt); replace V1 := Lib.hid (V1.out.below hb V1.out.lt); replace V2 := Lib.hid (V2.out.below hb V2.out.lt); replace H1 := Lib.hid (H1.out.below hb); replace H2 := Lib.hid (H2.out.below hb); replace H3 := Lib.hid (H3.out.below hb); replace H4 := Lib.hid (H4.out.below hb); replace B1 := Lib.hid (B1.out.trans (hb.mono B1.out.size)); clear hb; have pc3 := Lib.hid trivial)
        | (clear pc3; refine wpList_ldR (by rfl) _ rfl (by rfl) V1.out ?_; have pc4 := Lib.hid trivial)
        | (clear pc4; go_at_call 63; refine Calls.mono (qsign_any (L := 1048576) (r := (-1)) H3.out H4.out L3.out L4.out LL2.out HS2.out) ?_; rintro e wc ⟨rfl, hb⟩; replace V0 := Lib.hid (V0.out.below hb V0.out.lt); replace V1 := Lib.hid (V1.out.below hb V1.out.lt); replace V2 := Lib.hid (V2.out.below hb V2.out.lt); replace H1 := Lib.hid (H1.out.below hb); replace H2 := Lib.hid (H2.out.below hb); replace H3 := Lib.hid (H3.out.below hb); replace H4 := Lib.hid (H4.out.below hb); replace B1 := Lib.hid (B1.out.trans (hb.mono B1.out.size)); clear hb; have pc5 := Lib.hid trivial))
      clear pc5
      have hb := below_drewN wc.heap.size wc 1
      replace V0 := Lib.hid (V0.out.below hb V0.out.lt)
      replace V1 := Lib.hid (V1.out.below hb V1.out.lt)
      replace V2 := Lib.hid (V2.out.below hb V2.out.lt)
      replace H1 := Lib.hid (H1.out.below hb)
      replace H2 := Lib.hid (H2.out.below hb)
      replace H3 := Lib.hid (H3.out.below hb)
      replace H4 := Lib.hid (H4.out.below hb)
      replace B1 := Lib.hid (B1.out.trans (hb.mono B1.out.size))
      clear hb
      refine wp_region_held_drew (S := fun w' => Rb w' w.heap.size s A n c D m k ∧ Rb w' (w.heap.size + 1) t B n2 c2 E m2 k2) (by kernel_rfl) ⟨V0.out, V1.out⟩ (fun hHeld => ?_)
      refine wpAnyH_takeL (i := 0) (oi := _) rfl (by kernel_rfl) (by kernel_rfl) (by kernel_rfl) (fun _ _ _ h => h) (yields_ldR (by rfl) _ rfl (by rfl) (fun _ hS => hS.1)) hHeld ?_
      try simp only [Act.put, List.setIfInBounds_toArray, List.set_cons_zero, List.set_cons_succ]
      refine wpAnyH_takeL (i := 2) (oi := _) rfl (by kernel_rfl) (by kernel_rfl) (by kernel_rfl) (fun _ _ _ h => h) (yields_ldR (by rfl) _ rfl (by rfl) (fun _ hS => hS.2)) hHeld ?_
      try simp only [Act.put, List.setIfInBounds_toArray, List.set_cons_zero, List.set_cons_succ]
      refine wpAnyH_ready (rs := [1]) (by kernel_rfl) (by simp) ?_
      refine AllReadyH.consL (o := _) rfl (fun K hK => ?_) AllReadyH.nil
      clear hHeld
      go_simp
      go_at_call 31
      refine Calls.mono (qneg_any (L := 1048576) (z := nl) (d := dl) H1.out H2.out L1.out L2.out LL2.out N1.out N2.out) ?_
      rintro e wd ⟨P1, c1, Q1, k1, rfl, ho, ho2, hb⟩
      replace V0 := Lib.hid (V0.out.below hb V0.out.lt)
      replace V1 := Lib.hid (V1.out.below hb V1.out.lt)
      replace V2 := Lib.hid (V2.out.below hb V2.out.lt)
      replace H1 := Lib.hid (H1.out.below hb)
      replace H2 := Lib.hid (H2.out.below hb)
      replace H3 := Lib.hid (H3.out.below hb)
      replace H4 := Lib.hid (H4.out.below hb)
      replace B1 := Lib.hid (B1.out.trans (hb.mono B1.out.size))
      have ZN1 := Lib.hid (Zo.of_own ho)
      have ZD1 := Lib.hid ho2.rd
      clear ho ho2
      clear hb
      refine hK.out _ _ ⟨V0.out, V1.out⟩ (fun hHeld => ?_)
      clear hK K
      try simp only [Act.put, List.setIfInBounds_toArray, List.set_cons_zero, List.set_cons_succ]
      refine wpAnyH_ready (rs := [3]) (by kernel_rfl) (by simp) ?_
      refine AllReadyH.consL (o := _) rfl (fun K hK => ?_) AllReadyH.nil
      clear hHeld
      go_simp
      go_at_call 31
      refine Calls.mono (qneg_any (L := 1048576) (z := nh) (d := dh) H3.out H4.out L3.out L4.out LL2.out N3.out N4.out) ?_
      rintro e we ⟨P2, c2, Q2, k2, rfl, ho, ho2, hb⟩
      replace V0 := Lib.hid (V0.out.below hb V0.out.lt)
      replace V1 := Lib.hid (V1.out.below hb V1.out.lt)
      replace V2 := Lib.hid (V2.out.below hb V2.out.lt)
      replace H1 := Lib.hid (H1.out.below hb)
      replace H2 := Lib.hid (H2.out.below hb)
      replace H3 := Lib.hid (H3.out.below hb)
      replace H4 := Lib.hid (H4.out.below hb)
      replace ZN1 := Lib.hid (ZN1.out.below hb)
      replace ZD1 := Lib.hid (ZD1.out.below hb)
      replace B1 := Lib.hid (B1.out.trans (hb.mono B1.out.size))
      have ZN2 := Lib.hid (Zo.of_own ho)
      have ZD2 := Lib.hid ho2.rd
      clear ho ho2
      clear hb
      refine hK.out _ _ ⟨V0.out, V1.out⟩ (fun hHeld => ?_)
      clear hK K
      try simp only [Act.put, List.setIfInBounds_toArray, List.set_cons_zero, List.set_cons_succ]
      refine wpAnyH_ready (rs := [4]) (by kernel_rfl) (by simp) ?_
      refine AllReadyH.consL (o := _) rfl (fun K hK => ?_) AllReadyH.nil
      clear hHeld
      go_simp
      go_at_call 64
      refine Calls.mono (simplestPositive_any (x := nl) (y := y) (x' := nh) (y' := y') ZN1.out.in_ ((Nin.of_rd ZD1.out).int EY.out) ZN2.out.in_ ((Nin.of_rd ZD2.out).int EY'.out) (Nat.le_succ_of_le M1.out) (Nat.le_succ_of_le M2.out) (Nat.le_succ_of_le M3.out) (Nat.le_succ_of_le M4.out) (by have := ENL.out; have := HL.out; have := HH.out; omega) (by have := D1.out; have := EY.out; omega) (by have := ENH.out; have := HH.out; omega) (by have := D2.out; have := EY'.out; omega)) ?_
      rintro e wf ⟨u, v, spr, lens, P3, c3, Q3, k3, rfl, q1, q2, hb⟩
      replace V0 := Lib.hid (V0.out.below hb V0.out.lt)
      replace V1 := Lib.hid (V1.out.below hb V1.out.lt)
      replace V2 := Lib.hid (V2.out.below hb V2.out.lt)
      replace H1 := Lib.hid (H1.out.below hb)
      replace H2 := Lib.hid (H2.out.below hb)
      replace H3 := Lib.hid (H3.out.below hb)
      replace H4 := Lib.hid (H4.out.below hb)
      replace ZN1 := Lib.hid (ZN1.out.below hb)
      replace ZD1 := Lib.hid (ZD1.out.below hb)
      replace ZN2 := Lib.hid (ZN2.out.below hb)
      replace ZD2 := Lib.hid (ZD2.out.below hb)
      replace B1 := Lib.hid (B1.out.trans (hb.mono B1.out.size))
      have SPR := Lib.hid spr
      have LE := Lib.hid lens
      have ZU := Lib.hid q1
      have ZV := Lib.hid q2
      clear spr lens q1 q2
      obtain ⟨fz, efz⟩ : ∃ z0 : Int, -u = z0 := ⟨_, rfl⟩
      have EFZ := Lib.hid efz
      have V00 : Hid (0 < v) := by show _ < _; have := SPR.out.v0; omega
      have F1 : Hid ((-mkRat u v).num = fz) := (neg_cop V00.out SPR.out.g).1.trans efz
      have F2 : Hid ((-mkRat u v).den = v) := (neg_cop V00.out SPR.out.g).2
      clear efz
      clear hb
      refine hK.out _ _ ⟨V0.out, V1.out⟩ (fun hHeld => ?_)
      clear hK K
      try simp only [Act.put, List.setIfInBounds_toArray, List.set_cons_zero, List.set_cons_succ]
      refine wpAnyH_ready (rs := [5]) (by kernel_rfl) (by simp) ?_
      refine AllReadyH.consL (o := _) rfl (fun K hK => ?_) AllReadyH.nil
      clear hHeld
      go_simp
      go_at_call 31
      refine Calls.mono (qneg_any (L := 100000000) (z := fz) (d := v) ZU.out.in_ (Nin.of_rd ZV.out) LE.out.1 LE.out.2 LL8.out F1.out F2.out) ?_
      rintro e wg ⟨P4, c4, Q4, k4, rfl, ho, ho2, hb⟩
      replace V0 := Lib.hid (V0.out.below hb V0.out.lt)
      replace V1 := Lib.hid (V1.out.below hb V1.out.lt)
      replace V2 := Lib.hid (V2.out.below hb V2.out.lt)
      replace H1 := Lib.hid (H1.out.below hb)
      replace H2 := Lib.hid (H2.out.below hb)
      replace H3 := Lib.hid (H3.out.below hb)
      replace H4 := Lib.hid (H4.out.below hb)
      replace ZN1 := Lib.hid (ZN1.out.below hb)
      replace ZD1 := Lib.hid (ZD1.out.below hb)
      replace ZN2 := Lib.hid (ZN2.out.below hb)
      replace ZD2 := Lib.hid (ZD2.out.below hb)
      replace ZU := Lib.hid (ZU.out.below hb)
      replace ZV := Lib.hid (ZV.out.below hb)
      replace B1 := Lib.hid (B1.out.trans (hb.mono B1.out.size))
      have ZN4 := Lib.hid (Zo.of_own ho)
      have ZD4 := Lib.hid ho2.rd
      clear ho ho2
      clear hb
      refine hK.out _ _ ⟨V0.out, V1.out⟩ (fun hHeld => ?_)
      clear hK K
      try simp only [Act.put, List.setIfInBounds_toArray, List.set_cons_zero, List.set_cons_succ]
      refine wpAnyH_ready (rs := [6]) (by kernel_rfl) (by simp) ?_
      refine AllReadyH.consL (o := _) rfl (fun K hK => ?_) AllReadyH.nil
      clear hHeld
      rw [if_pos (by rfl)]
      refine wp_stR _ _ rfl (by rfl) (by rfl) V2.out ?_
      intro wv0 hz hg
      have bx := V2.out.bx
      replace V0 := Lib.hid (V0.out.gro hg (by omega))
      replace V1 := Lib.hid (V1.out.gro hg (by omega))
      replace H1 := Lib.hid (H1.out.grB bx hg)
      replace H2 := Lib.hid (H2.out.grB bx hg)
      replace H3 := Lib.hid (H3.out.grB bx hg)
      replace H4 := Lib.hid (H4.out.grB bx hg)
      replace ZN1 := Lib.hid (ZN1.out.grB bx hg)
      replace ZD1 := Lib.hid (ZD1.out.grB bx hg)
      replace ZN2 := Lib.hid (ZN2.out.grB bx hg)
      replace ZD2 := Lib.hid (ZD2.out.grB bx hg)
      replace ZU := Lib.hid (ZU.out.grB bx hg)
      replace ZV := Lib.hid (ZV.out.grB bx hg)
      replace ZN4 := Lib.hid (ZN4.out.grB bx hg)
      replace ZD4 := Lib.hid (ZD4.out.grB bx hg)
      replace B1 := Lib.hid (Below.gr B1.out (by omega) hg B1.out.size)
      clear bx
      replace V2 := Lib.hid hz
      refine hK.out _ _ ⟨V0.out, V1.out⟩ (fun hHeld => ?_)
      clear hK K hg hz
      try simp only [Act.put]
      refine wpAnyH_takeL (i := 7) (oi := _) (v := ?_) rfl (by kernel_rfl) (by kernel_rfl) (by kernel_rfl) (fun _ _ _ h => h) (Or.inl ⟨by rfl, ?_⟩) hHeld ?_
      rotate_left
      · (intro w' hSw; (try dsimp only at hSw); go_simp; try (with_reducible rfl))
      try simp only [Act.put, List.setIfInBounds_toArray, List.set_cons_zero, List.set_cons_succ]
      clear hHeld
      refine wpAnyH_done (by kernel_rfl) ?_ _
      go_wp2_with fail
      have sp := SPR.out
      rw [← ENL.out, ← ENH.out, ← EY.out, ← EY'.out] at sp
      have sm := smp_neg sp (show (0 : Int) < dl by have := D1.out; omega) (show (0 : Int) < dh by have := D2.out; omega) HLE.out
      rw [EFZ.out] at sm
      exact ret_rk Tryz.results20 rfl rfl rfl V2.out ⟨fz, v, sm, ⟨by rw [← EFZ.out, Int.natAbs_neg]; exact LE.out.1, LE.out.2⟩, _, _, _, _, rfl, ZN4.out, ZD4.out, B1.out⟩
    · have HS2 : Hid (sgR (mkRat x' p') = 0) := S2.out.trans hk
      have HH := Lib.hid hh
      clear hk hh
      obtain ⟨z0, ez0⟩ : ∃ z : Int, (0 : Int) = z := ⟨_, rfl⟩
      have EZ0 := Lib.hid ez0
      clear ez0
      have pc0 := Lib.hid trivial
      go_wp2_with (first
        | (clear pc0; go_at_call 62; refine Calls.mono (qcompare_any (L := 1048576) (r := 0) H1.out H2.out H3.out H4.out L1.out L2.out L3.out L4.out LL.out HC.out) ?_; rintro e wa ⟨rfl, hb⟩; replace V0 := Lib.hid (V0.out.below hb V0.out.lt); replace V1 := Lib.hid (V1.out.below hb V1.out.lt); replace V2 := Lib.hid (V2.out.below hb V2.out.lt); replace H1 := Lib.hid (H1.out.below hb); replace H2 := Lib.hid (H2.out.below hb); replace H3 := Lib.hid (H3.out.below hb); replace H4 := Lib.hid (H4.out.below hb); replace B1 := Lib.hid (B1.out.trans (hb.mono B1.out.size)); clear hb; have pc1 := Lib.hid trivial)
        | (clear pc1; refine wpList_ldR (by rfl) _ rfl (by rfl) V0.out ?_; have pc2 := Lib.hid trivial)
        | (clear pc2; go_at_call 63; refine Calls.mono (qsign_any (L := 1048576) (r := (-1)) H1.out H2.out L1.out L2.out LL2.out HS1.out) ?_; rintro e wb ⟨rfl, hb⟩; replace V0 := Lib.hid (V0.out.below hb V0.out.lt); replace V1 := Lib.hid (V1.out.below hb V1.out.lt); replace V2 := Lib.hid (V2.out.below hb V2.out.lt); replace H1 := Lib.hid (H1.out.below hb); replace H2 := Lib.hid (H2.out.below hb); replace H3 := Lib.hid (H3.out.below hb); replace H4 := Lib.hid (H4.out.below hb); replace B1 := Lib.hid (B1.out.trans (hb.mono B1.out.size)); clear hb; have pc3 := Lib.hid trivial)
        | (clear pc3; refine wpList_ldR (by rfl) _ rfl (by rfl) V1.out ?_; have pc4 := Lib.hid trivial)
        | (clear pc4; go_at_call 63; refine Calls.mono (qsign_any (L := 1048576) (r := 0) H3.out H4.out L3.out L4.out LL2.out HS2.out) ?_; rintro e wc ⟨rfl, hb⟩; replace V0 := Lib.hid (V0.out.below hb V0.out.lt); replace V1 := Lib.hid (V1.out.below hb V1.out.lt); replace V2 := Lib.hid (V2.out.below hb V2.out.lt); replace H1 := Lib.hid (H1.out.below hb); replace H2 := Lib.hid (H2.out.below hb); replace H3 := Lib.hid (H3.out.below hb); replace H4 := Lib.hid (H4.out.below hb); replace B1 := Lib.hid (B1.out.trans (hb.mono B1.out.size)); clear hb; have pc5 := Lib.hid trivial)
        | (clear pc5; go_at_call 65; refine Calls.mono (qfromInt_any (v := 0) (z := z0) (by decide) EZ0.out _) ?_; rintro e wd ⟨P3, c3, Q3, k3, rfl, ho, ho2, hb⟩; replace V0 := Lib.hid (V0.out.below hb V0.out.lt); replace V1 := Lib.hid (V1.out.below hb V1.out.lt); replace V2 := Lib.hid (V2.out.below hb V2.out.lt); replace H1 := Lib.hid (H1.out.below hb); replace H2 := Lib.hid (H2.out.below hb); replace H3 := Lib.hid (H3.out.below hb); replace H4 := Lib.hid (H4.out.below hb); replace B1 := Lib.hid (B1.out.trans (hb.mono B1.out.size)); have ZU := Lib.hid (Zo.of_own ho); have ZV := Lib.hid ho2.rd; clear ho ho2; clear hb; have pc6 := Lib.hid trivial)
        | (clear pc6; refine wpList_stR (by rfl) _ _ rfl (by rfl) (by rfl) V2.out ?_; intro we hz hg; have bx := V2.out.bx; replace V0 := Lib.hid (V0.out.gro hg (by omega)); replace V1 := Lib.hid (V1.out.gro hg (by omega)); replace H1 := Lib.hid (H1.out.grB bx hg); replace H2 := Lib.hid (H2.out.grB bx hg); replace H3 := Lib.hid (H3.out.grB bx hg); replace H4 := Lib.hid (H4.out.grB bx hg); replace ZU := Lib.hid (ZU.out.grB bx hg); replace ZV := Lib.hid (ZV.out.grB bx hg); replace B1 := Lib.hid (Below.gr B1.out (by omega) hg B1.out.size); clear bx; replace V2 := Lib.hid hz; clear hz hg; have pc7 := Lib.hid trivial))
      clear pc7
      exact ret_rk Tryz.results20 rfl rfl rfl V2.out ⟨z0, 1, by rw [← EZ0.out]; exact smp_zero (by have := HL.out; omega) (by have := HH.out; omega), ⟨by rw [← EZ0.out]; simp [ofv_zero], by rw [len_one]; decide⟩, _, _, _, _, rfl, ZU.out, ZV.out, B1.out⟩
    · have HS2 : Hid (sgR (mkRat x' p') = 1) := S2.out.trans hk
      have HH := Lib.hid hh
      clear hk hh
      obtain ⟨z0, ez0⟩ : ∃ z : Int, (0 : Int) = z := ⟨_, rfl⟩
      have EZ0 := Lib.hid ez0
      clear ez0
      have pc0 := Lib.hid trivial
      go_wp2_with (first
        | (clear pc0; go_at_call 62; refine Calls.mono (qcompare_any (L := 1048576) (r := 0) H1.out H2.out H3.out H4.out L1.out L2.out L3.out L4.out LL.out HC.out) ?_; rintro e wa ⟨rfl, hb⟩; replace V0 := Lib.hid (V0.out.below hb V0.out.lt); replace V1 := Lib.hid (V1.out.below hb V1.out.lt); replace V2 := Lib.hid (V2.out.below hb V2.out.lt); replace H1 := Lib.hid (H1.out.below hb); replace H2 := Lib.hid (H2.out.below hb); replace H3 := Lib.hid (H3.out.below hb); replace H4 := Lib.hid (H4.out.below hb); replace B1 := Lib.hid (B1.out.trans (hb.mono B1.out.size)); clear hb; have pc1 := Lib.hid trivial)
        | (clear pc1; refine wpList_ldR (by rfl) _ rfl (by rfl) V0.out ?_; have pc2 := Lib.hid trivial)
        | (clear pc2; go_at_call 63; refine Calls.mono (qsign_any (L := 1048576) (r := (-1)) H1.out H2.out L1.out L2.out LL2.out HS1.out) ?_; rintro e wb ⟨rfl, hb⟩; replace V0 := Lib.hid (V0.out.below hb V0.out.lt); replace V1 := Lib.hid (V1.out.below hb V1.out.lt); replace V2 := Lib.hid (V2.out.below hb V2.out.lt); replace H1 := Lib.hid (H1.out.below hb); replace H2 := Lib.hid (H2.out.below hb); replace H3 := Lib.hid (H3.out.below hb); replace H4 := Lib.hid (H4.out.below hb); replace B1 := Lib.hid (B1.out.trans (hb.mono B1.out.size)); clear hb; have pc3 := Lib.hid trivial)
        | (clear pc3; refine wpList_ldR (by rfl) _ rfl (by rfl) V1.out ?_; have pc4 := Lib.hid trivial)
        | (clear pc4; go_at_call 63; refine Calls.mono (qsign_any (L := 1048576) (r := 1) H3.out H4.out L3.out L4.out LL2.out HS2.out) ?_; rintro e wc ⟨rfl, hb⟩; replace V0 := Lib.hid (V0.out.below hb V0.out.lt); replace V1 := Lib.hid (V1.out.below hb V1.out.lt); replace V2 := Lib.hid (V2.out.below hb V2.out.lt); replace H1 := Lib.hid (H1.out.below hb); replace H2 := Lib.hid (H2.out.below hb); replace H3 := Lib.hid (H3.out.below hb); replace H4 := Lib.hid (H4.out.below hb); replace B1 := Lib.hid (B1.out.trans (hb.mono B1.out.size)); clear hb; have pc5 := Lib.hid trivial)
        | (clear pc5; go_at_call 65; refine Calls.mono (qfromInt_any (v := 0) (z := z0) (by decide) EZ0.out _) ?_; rintro e wd ⟨P3, c3, Q3, k3, rfl, ho, ho2, hb⟩; replace V0 := Lib.hid (V0.out.below hb V0.out.lt); replace V1 := Lib.hid (V1.out.below hb V1.out.lt); replace V2 := Lib.hid (V2.out.below hb V2.out.lt); replace H1 := Lib.hid (H1.out.below hb); replace H2 := Lib.hid (H2.out.below hb); replace H3 := Lib.hid (H3.out.below hb); replace H4 := Lib.hid (H4.out.below hb); replace B1 := Lib.hid (B1.out.trans (hb.mono B1.out.size)); have ZU := Lib.hid (Zo.of_own ho); have ZV := Lib.hid ho2.rd; clear ho ho2; clear hb; have pc6 := Lib.hid trivial)
        | (clear pc6; refine wpList_stR (by rfl) _ _ rfl (by rfl) (by rfl) V2.out ?_; intro we hz hg; have bx := V2.out.bx; replace V0 := Lib.hid (V0.out.gro hg (by omega)); replace V1 := Lib.hid (V1.out.gro hg (by omega)); replace H1 := Lib.hid (H1.out.grB bx hg); replace H2 := Lib.hid (H2.out.grB bx hg); replace H3 := Lib.hid (H3.out.grB bx hg); replace H4 := Lib.hid (H4.out.grB bx hg); replace ZU := Lib.hid (ZU.out.grB bx hg); replace ZV := Lib.hid (ZV.out.grB bx hg); replace B1 := Lib.hid (Below.gr B1.out (by omega) hg B1.out.size); clear bx; replace V2 := Lib.hid hz; clear hz hg; have pc7 := Lib.hid trivial))
      clear pc7
      exact ret_rk Tryz.results20 rfl rfl rfl V2.out ⟨z0, 1, by rw [← EZ0.out]; exact smp_zero (by have := HL.out; omega) (by have := HH.out; omega), ⟨by rw [← EZ0.out]; simp [ofv_zero], by rw [len_one]; decide⟩, _, _, _, _, rfl, ZU.out, ZV.out, B1.out⟩
  · have HS1 : Hid (sgR (mkRat x p) = 0) := S1.out.trans hk
    have HL := Lib.hid hl
    clear hk hl
    rcases sg_cases zh with ⟨hk, hh⟩ | ⟨hk, hh⟩ | ⟨hk, hh⟩
    · have HS2 : Hid (sgR (mkRat x' p') = (-1)) := S2.out.trans hk
      have HH := Lib.hid hh
      clear hk hh
      obtain ⟨nl, enl⟩ : ∃ z0 : Int, -zl = z0 := ⟨_, rfl⟩
      obtain ⟨nh, enh⟩ : ∃ z0 : Int, -zh = z0 := ⟨_, rfl⟩
      obtain ⟨y, ey⟩ : ∃ z0 : Int, (dl : Int) = z0 := ⟨_, rfl⟩
      obtain ⟨y', ey'⟩ : ∃ z0 : Int, (dh : Int) = z0 := ⟨_, rfl⟩
      have ENL := Lib.hid enl
      have ENH := Lib.hid enh
      have EY := Lib.hid ey
      have EY' := Lib.hid ey'
      have N1 : Hid ((-mkRat x p).num = nl) := by show _ = _; rw [Rat.neg_num, A1.out]; exact enl
      have N2 : Hid ((-mkRat x p).den = dl) := by show _ = _; rw [Rat.neg_den, A2.out]
      have N3 : Hid ((-mkRat x' p').num = nh) := by show _ = _; rw [Rat.neg_num, A3.out]; exact enh
      have N4 : Hid ((-mkRat x' p').den = dh) := by show _ = _; rw [Rat.neg_den, A4.out]
      have M1 : Hid ((ofv nl.natAbs).length ≤ 1048576) := by show _ ≤ _; have h := RL1.out.1; rw [A1.out] at h; rw [← enl, Int.natAbs_neg]; exact h
      have M2 : Hid ((ofv dl).length ≤ 1048576) := by show _ ≤ _; have h := RL1.out.2; rw [A2.out] at h; exact h
      have M3 : Hid ((ofv nh.natAbs).length ≤ 1048576) := by show _ ≤ _; have h := RL2.out.1; rw [A3.out] at h; rw [← enh, Int.natAbs_neg]; exact h
      have M4 : Hid ((ofv dh).length ≤ 1048576) := by show _ ≤ _; have h := RL2.out.2; rw [A4.out] at h; exact h
      clear enl enh ey ey'
      have pc0 := Lib.hid trivial
      go_wp2_with (first
        | (clear pc0; go_at_call 62; refine Calls.mono (qcompare_any (L := 1048576) (r := 0) H1.out H2.out H3.out H4.out L1.out L2.out L3.out L4.out LL.out HC.out) ?_; rintro e wa ⟨rfl, hb⟩; replace V0 := Lib.hid (V0.out.below hb V0.out.lt); replace V1 := Lib.hid (V1.out.below hb V1.out.lt); replace V2 := Lib.hid (V2.out.below hb V2.out.lt); replace H1 := Lib.hid (H1.out.below hb); replace H2 := Lib.hid (H2.out.below hb); replace H3 := Lib.hid (H3.out.below hb); replace H4 := Lib.hid (H4.out.below hb); replace B1 := Lib.hid (B1.out.trans (hb.mono B1.out.size)); clear hb; have pc1 := Lib.hid trivial)
        | (clear pc1; refine wpList_ldR (by rfl) _ rfl (by rfl) V0.out ?_; have pc2 := Lib.hid trivial)
        | (clear pc2; go_at_call 63; refine Calls.mono (qsign_any (L := 1048576) (r := 0) H1.out H2.out L1.out L2.out LL2.out HS1.out) ?_; rintro e wb ⟨rfl, hb⟩; replace V0 := Lib.hid (V0.out.below hb V0.out.lt); replace V1 := Lib.hid (V1.out.below hb V1.out.lt); replace V2 := Lib.hid (V2.out.below hb V2.out.lt); replace H1 := Lib.hid (H1.out.below hb); replace H2 := Lib.hid (H2.out.below hb); replace H3 := Lib.hid (H3.out.below hb); replace H4 := Lib.hid (H4.out.below hb); replace B1 := Lib.hid (B1.out.trans (hb.mono B1.out.size)); clear hb; have pc3 := Lib.hid trivial)
        | (clear pc3; refine wpList_ldR (by rfl) _ rfl (by rfl) V1.out ?_; have pc4 := Lib.hid trivial)
        | (clear pc4; go_at_call 63; refine Calls.mono (qsign_any (L := 1048576) (r := (-1)) H3.out H4.out L3.out L4.out LL2.out HS2.out) ?_; rintro e wc ⟨rfl, hb⟩; replace V0 := Lib.hid (V0.out.below hb V0.out.lt); replace V1 := Lib.hid (V1.out.below hb V1.out.lt); replace V2 := Lib.hid (V2.out.below hb V2.out.lt); replace H1 := Lib.hid (H1.out.below hb); replace H2 := Lib.hid (H2.out.below hb); replace H3 := Lib.hid (H3.out.below hb); replace H4 := Lib.hid (H4.out.below hb); replace B1 := Lib.hid (B1.out.trans (hb.mono B1.out.size)); clear hb; have pc5 := Lib.hid trivial))
      clear pc5
      have hb := below_drewN wc.heap.size wc 1
      replace V0 := Lib.hid (V0.out.below hb V0.out.lt)
      replace V1 := Lib.hid (V1.out.below hb V1.out.lt)
      replace V2 := Lib.hid (V2.out.below hb V2.out.lt)
      replace H1 := Lib.hid (H1.out.below hb)
      replace H2 := Lib.hid (H2.out.below hb)
      replace H3 := Lib.hid (H3.out.below hb)
      replace H4 := Lib.hid (H4.out.below hb)
      replace B1 := Lib.hid (B1.out.trans (hb.mono B1.out.size))
      clear hb
      refine wp_region_held_drew (S := fun w' => Rb w' w.heap.size s A n c D m k ∧ Rb w' (w.heap.size + 1) t B n2 c2 E m2 k2) (by kernel_rfl) ⟨V0.out, V1.out⟩ (fun hHeld => ?_)
      refine wpAnyH_takeL (i := 0) (oi := _) rfl (by kernel_rfl) (by kernel_rfl) (by kernel_rfl) (fun _ _ _ h => h) (yields_ldR (by rfl) _ rfl (by rfl) (fun _ hS => hS.1)) hHeld ?_
      try simp only [Act.put, List.setIfInBounds_toArray, List.set_cons_zero, List.set_cons_succ]
      refine wpAnyH_takeL (i := 2) (oi := _) rfl (by kernel_rfl) (by kernel_rfl) (by kernel_rfl) (fun _ _ _ h => h) (yields_ldR (by rfl) _ rfl (by rfl) (fun _ hS => hS.2)) hHeld ?_
      try simp only [Act.put, List.setIfInBounds_toArray, List.set_cons_zero, List.set_cons_succ]
      refine wpAnyH_ready (rs := [1]) (by kernel_rfl) (by simp) ?_
      refine AllReadyH.consL (o := _) rfl (fun K hK => ?_) AllReadyH.nil
      clear hHeld
      go_simp
      go_at_call 31
      refine Calls.mono (qneg_any (L := 1048576) (z := nl) (d := dl) H1.out H2.out L1.out L2.out LL2.out N1.out N2.out) ?_
      rintro e wd ⟨P1, c1, Q1, k1, rfl, ho, ho2, hb⟩
      replace V0 := Lib.hid (V0.out.below hb V0.out.lt)
      replace V1 := Lib.hid (V1.out.below hb V1.out.lt)
      replace V2 := Lib.hid (V2.out.below hb V2.out.lt)
      replace H1 := Lib.hid (H1.out.below hb)
      replace H2 := Lib.hid (H2.out.below hb)
      replace H3 := Lib.hid (H3.out.below hb)
      replace H4 := Lib.hid (H4.out.below hb)
      replace B1 := Lib.hid (B1.out.trans (hb.mono B1.out.size))
      have ZN1 := Lib.hid (Zo.of_own ho)
      have ZD1 := Lib.hid ho2.rd
      clear ho ho2
      clear hb
      refine hK.out _ _ ⟨V0.out, V1.out⟩ (fun hHeld => ?_)
      clear hK K
      try simp only [Act.put, List.setIfInBounds_toArray, List.set_cons_zero, List.set_cons_succ]
      refine wpAnyH_ready (rs := [3]) (by kernel_rfl) (by simp) ?_
      refine AllReadyH.consL (o := _) rfl (fun K hK => ?_) AllReadyH.nil
      clear hHeld
      go_simp
      go_at_call 31
      refine Calls.mono (qneg_any (L := 1048576) (z := nh) (d := dh) H3.out H4.out L3.out L4.out LL2.out N3.out N4.out) ?_
      rintro e we ⟨P2, c2, Q2, k2, rfl, ho, ho2, hb⟩
      replace V0 := Lib.hid (V0.out.below hb V0.out.lt)
      replace V1 := Lib.hid (V1.out.below hb V1.out.lt)
      replace V2 := Lib.hid (V2.out.below hb V2.out.lt)
      replace H1 := Lib.hid (H1.out.below hb)
      replace H2 := Lib.hid (H2.out.below hb)
      replace H3 := Lib.hid (H3.out.below hb)
      replace H4 := Lib.hid (H4.out.below hb)
      replace ZN1 := Lib.hid (ZN1.out.below hb)
      replace ZD1 := Lib.hid (ZD1.out.below hb)
      replace B1 := Lib.hid (B1.out.trans (hb.mono B1.out.size))
      have ZN2 := Lib.hid (Zo.of_own ho)
      have ZD2 := Lib.hid ho2.rd
      clear ho ho2
      clear hb
      refine hK.out _ _ ⟨V0.out, V1.out⟩ (fun hHeld => ?_)
      clear hK K
      try simp only [Act.put, List.setIfInBounds_toArray, List.set_cons_zero, List.set_cons_succ]
      refine wpAnyH_ready (rs := [4]) (by kernel_rfl) (by simp) ?_
      refine AllReadyH.consL (o := _) rfl (fun K hK => ?_) AllReadyH.nil
      clear hHeld
      go_simp
      go_at_call 64
      refine Calls.mono (simplestPositive_any (x := nl) (y := y) (x' := nh) (y' := y') ZN1.out.in_ ((Nin.of_rd ZD1.out).int EY.out) ZN2.out.in_ ((Nin.of_rd ZD2.out).int EY'.out) (Nat.le_succ_of_le M1.out) (Nat.le_succ_of_le M2.out) (Nat.le_succ_of_le M3.out) (Nat.le_succ_of_le M4.out) (by have := ENL.out; have := HL.out; have := HH.out; exact absurd HLE.out (by have h1 := D1.out; have h3 : zh * (dl : Int) < 0 := Int.mul_neg_of_neg_of_pos HH.out (by omega); rw [HL.out]; omega)) (by have := D1.out; have := EY.out; omega) (by have := ENH.out; have := HH.out; omega) (by have := D2.out; have := EY'.out; omega)) ?_
      rintro e wf ⟨u, v, spr, lens, P3, c3, Q3, k3, rfl, q1, q2, hb⟩
      replace V0 := Lib.hid (V0.out.below hb V0.out.lt)
      replace V1 := Lib.hid (V1.out.below hb V1.out.lt)
      replace V2 := Lib.hid (V2.out.below hb V2.out.lt)
      replace H1 := Lib.hid (H1.out.below hb)
      replace H2 := Lib.hid (H2.out.below hb)
      replace H3 := Lib.hid (H3.out.below hb)
      replace H4 := Lib.hid (H4.out.below hb)
      replace ZN1 := Lib.hid (ZN1.out.below hb)
      replace ZD1 := Lib.hid (ZD1.out.below hb)
      replace ZN2 := Lib.hid (ZN2.out.below hb)
      replace ZD2 := Lib.hid (ZD2.out.below hb)
      replace B1 := Lib.hid (B1.out.trans (hb.mono B1.out.size))
      have SPR := Lib.hid spr
      have LE := Lib.hid lens
      have ZU := Lib.hid q1
      have ZV := Lib.hid q2
      clear spr lens q1 q2
      obtain ⟨fz, efz⟩ : ∃ z0 : Int, -u = z0 := ⟨_, rfl⟩
      have EFZ := Lib.hid efz
      have V00 : Hid (0 < v) := by show _ < _; have := SPR.out.v0; omega
      have F1 : Hid ((-mkRat u v).num = fz) := (neg_cop V00.out SPR.out.g).1.trans efz
      have F2 : Hid ((-mkRat u v).den = v) := (neg_cop V00.out SPR.out.g).2
      clear efz
      clear hb
      refine hK.out _ _ ⟨V0.out, V1.out⟩ (fun hHeld => ?_)
      clear hK K
      try simp only [Act.put, List.setIfInBounds_toArray, List.set_cons_zero, List.set_cons_succ]
      refine wpAnyH_ready (rs := [5]) (by kernel_rfl) (by simp) ?_
      refine AllReadyH.consL (o := _) rfl (fun K hK => ?_) AllReadyH.nil
      clear hHeld
      go_simp
      go_at_call 31
      refine Calls.mono (qneg_any (L := 100000000) (z := fz) (d := v) ZU.out.in_ (Nin.of_rd ZV.out) LE.out.1 LE.out.2 LL8.out F1.out F2.out) ?_
      rintro e wg ⟨P4, c4, Q4, k4, rfl, ho, ho2, hb⟩
      replace V0 := Lib.hid (V0.out.below hb V0.out.lt)
      replace V1 := Lib.hid (V1.out.below hb V1.out.lt)
      replace V2 := Lib.hid (V2.out.below hb V2.out.lt)
      replace H1 := Lib.hid (H1.out.below hb)
      replace H2 := Lib.hid (H2.out.below hb)
      replace H3 := Lib.hid (H3.out.below hb)
      replace H4 := Lib.hid (H4.out.below hb)
      replace ZN1 := Lib.hid (ZN1.out.below hb)
      replace ZD1 := Lib.hid (ZD1.out.below hb)
      replace ZN2 := Lib.hid (ZN2.out.below hb)
      replace ZD2 := Lib.hid (ZD2.out.below hb)
      replace ZU := Lib.hid (ZU.out.below hb)
      replace ZV := Lib.hid (ZV.out.below hb)
      replace B1 := Lib.hid (B1.out.trans (hb.mono B1.out.size))
      have ZN4 := Lib.hid (Zo.of_own ho)
      have ZD4 := Lib.hid ho2.rd
      clear ho ho2
      clear hb
      refine hK.out _ _ ⟨V0.out, V1.out⟩ (fun hHeld => ?_)
      clear hK K
      try simp only [Act.put, List.setIfInBounds_toArray, List.set_cons_zero, List.set_cons_succ]
      refine wpAnyH_ready (rs := [6]) (by kernel_rfl) (by simp) ?_
      refine AllReadyH.consL (o := _) rfl (fun K hK => ?_) AllReadyH.nil
      clear hHeld
      rw [if_pos (by rfl)]
      refine wp_stR _ _ rfl (by rfl) (by rfl) V2.out ?_
      intro wv0 hz hg
      have bx := V2.out.bx
      replace V0 := Lib.hid (V0.out.gro hg (by omega))
      replace V1 := Lib.hid (V1.out.gro hg (by omega))
      replace H1 := Lib.hid (H1.out.grB bx hg)
      replace H2 := Lib.hid (H2.out.grB bx hg)
      replace H3 := Lib.hid (H3.out.grB bx hg)
      replace H4 := Lib.hid (H4.out.grB bx hg)
      replace ZN1 := Lib.hid (ZN1.out.grB bx hg)
      replace ZD1 := Lib.hid (ZD1.out.grB bx hg)
      replace ZN2 := Lib.hid (ZN2.out.grB bx hg)
      replace ZD2 := Lib.hid (ZD2.out.grB bx hg)
      replace ZU := Lib.hid (ZU.out.grB bx hg)
      replace ZV := Lib.hid (ZV.out.grB bx hg)
      replace ZN4 := Lib.hid (ZN4.out.grB bx hg)
      replace ZD4 := Lib.hid (ZD4.out.grB bx hg)
      replace B1 := Lib.hid (Below.gr B1.out (by omega) hg B1.out.size)
      clear bx
      replace V2 := Lib.hid hz
      refine hK.out _ _ ⟨V0.out, V1.out⟩ (fun hHeld => ?_)
      clear hK K hg hz
      try simp only [Act.put]
      refine wpAnyH_takeL (i := 7) (oi := _) (v := ?_) rfl (by kernel_rfl) (by kernel_rfl) (by kernel_rfl) (fun _ _ _ h => h) (Or.inl ⟨by rfl, ?_⟩) hHeld ?_
      rotate_left
      · (intro w' hSw; (try dsimp only at hSw); go_simp; try (with_reducible rfl))
      try simp only [Act.put, List.setIfInBounds_toArray, List.set_cons_zero, List.set_cons_succ]
      clear hHeld
      refine wpAnyH_done (by kernel_rfl) ?_ _
      go_wp2_with fail
      have sp := SPR.out
      rw [← ENL.out, ← ENH.out, ← EY.out, ← EY'.out] at sp
      have sm := smp_neg sp (show (0 : Int) < dl by have := D1.out; omega) (show (0 : Int) < dh by have := D2.out; omega) HLE.out
      rw [EFZ.out] at sm
      exact ret_rk Tryz.results20 rfl rfl rfl V2.out ⟨fz, v, sm, ⟨by rw [← EFZ.out, Int.natAbs_neg]; exact LE.out.1, LE.out.2⟩, _, _, _, _, rfl, ZN4.out, ZD4.out, B1.out⟩
    · have HS2 : Hid (sgR (mkRat x' p') = 0) := S2.out.trans hk
      have HH := Lib.hid hh
      clear hk hh
      obtain ⟨z0, ez0⟩ : ∃ z : Int, (0 : Int) = z := ⟨_, rfl⟩
      have EZ0 := Lib.hid ez0
      clear ez0
      have pc0 := Lib.hid trivial
      go_wp2_with (first
        | (clear pc0; go_at_call 62; refine Calls.mono (qcompare_any (L := 1048576) (r := 0) H1.out H2.out H3.out H4.out L1.out L2.out L3.out L4.out LL.out HC.out) ?_; rintro e wa ⟨rfl, hb⟩; replace V0 := Lib.hid (V0.out.below hb V0.out.lt); replace V1 := Lib.hid (V1.out.below hb V1.out.lt); replace V2 := Lib.hid (V2.out.below hb V2.out.lt); replace H1 := Lib.hid (H1.out.below hb); replace H2 := Lib.hid (H2.out.below hb); replace H3 := Lib.hid (H3.out.below hb); replace H4 := Lib.hid (H4.out.below hb); replace B1 := Lib.hid (B1.out.trans (hb.mono B1.out.size)); clear hb; have pc1 := Lib.hid trivial)
        | (clear pc1; refine wpList_ldR (by rfl) _ rfl (by rfl) V0.out ?_; have pc2 := Lib.hid trivial)
        | (clear pc2; go_at_call 63; refine Calls.mono (qsign_any (L := 1048576) (r := 0) H1.out H2.out L1.out L2.out LL2.out HS1.out) ?_; rintro e wb ⟨rfl, hb⟩; replace V0 := Lib.hid (V0.out.below hb V0.out.lt); replace V1 := Lib.hid (V1.out.below hb V1.out.lt); replace V2 := Lib.hid (V2.out.below hb V2.out.lt); replace H1 := Lib.hid (H1.out.below hb); replace H2 := Lib.hid (H2.out.below hb); replace H3 := Lib.hid (H3.out.below hb); replace H4 := Lib.hid (H4.out.below hb); replace B1 := Lib.hid (B1.out.trans (hb.mono B1.out.size)); clear hb; have pc3 := Lib.hid trivial)
        | (clear pc3; refine wpList_ldR (by rfl) _ rfl (by rfl) V1.out ?_; have pc4 := Lib.hid trivial)
        | (clear pc4; go_at_call 63; refine Calls.mono (qsign_any (L := 1048576) (r := 0) H3.out H4.out L3.out L4.out LL2.out HS2.out) ?_; rintro e wc ⟨rfl, hb⟩; replace V0 := Lib.hid (V0.out.below hb V0.out.lt); replace V1 := Lib.hid (V1.out.below hb V1.out.lt); replace V2 := Lib.hid (V2.out.below hb V2.out.lt); replace H1 := Lib.hid (H1.out.below hb); replace H2 := Lib.hid (H2.out.below hb); replace H3 := Lib.hid (H3.out.below hb); replace H4 := Lib.hid (H4.out.below hb); replace B1 := Lib.hid (B1.out.trans (hb.mono B1.out.size)); clear hb; have pc5 := Lib.hid trivial)
        | (clear pc5; go_at_call 65; refine Calls.mono (qfromInt_any (v := 0) (z := z0) (by decide) EZ0.out _) ?_; rintro e wd ⟨P3, c3, Q3, k3, rfl, ho, ho2, hb⟩; replace V0 := Lib.hid (V0.out.below hb V0.out.lt); replace V1 := Lib.hid (V1.out.below hb V1.out.lt); replace V2 := Lib.hid (V2.out.below hb V2.out.lt); replace H1 := Lib.hid (H1.out.below hb); replace H2 := Lib.hid (H2.out.below hb); replace H3 := Lib.hid (H3.out.below hb); replace H4 := Lib.hid (H4.out.below hb); replace B1 := Lib.hid (B1.out.trans (hb.mono B1.out.size)); have ZU := Lib.hid (Zo.of_own ho); have ZV := Lib.hid ho2.rd; clear ho ho2; clear hb; have pc6 := Lib.hid trivial)
        | (clear pc6; refine wpList_stR (by rfl) _ _ rfl (by rfl) (by rfl) V2.out ?_; intro we hz hg; have bx := V2.out.bx; replace V0 := Lib.hid (V0.out.gro hg (by omega)); replace V1 := Lib.hid (V1.out.gro hg (by omega)); replace H1 := Lib.hid (H1.out.grB bx hg); replace H2 := Lib.hid (H2.out.grB bx hg); replace H3 := Lib.hid (H3.out.grB bx hg); replace H4 := Lib.hid (H4.out.grB bx hg); replace ZU := Lib.hid (ZU.out.grB bx hg); replace ZV := Lib.hid (ZV.out.grB bx hg); replace B1 := Lib.hid (Below.gr B1.out (by omega) hg B1.out.size); clear bx; replace V2 := Lib.hid hz; clear hz hg; have pc7 := Lib.hid trivial))
      clear pc7
      exact ret_rk Tryz.results20 rfl rfl rfl V2.out ⟨z0, 1, by rw [← EZ0.out]; exact smp_zero (by have := HL.out; omega) (by have := HH.out; omega), ⟨by rw [← EZ0.out]; simp [ofv_zero], by rw [len_one]; decide⟩, _, _, _, _, rfl, ZU.out, ZV.out, B1.out⟩
    · have HS2 : Hid (sgR (mkRat x' p') = 1) := S2.out.trans hk
      have HH := Lib.hid hh
      clear hk hh
      obtain ⟨z0, ez0⟩ : ∃ z : Int, (0 : Int) = z := ⟨_, rfl⟩
      have EZ0 := Lib.hid ez0
      clear ez0
      have pc0 := Lib.hid trivial
      go_wp2_with (first
        | (clear pc0; go_at_call 62; refine Calls.mono (qcompare_any (L := 1048576) (r := 0) H1.out H2.out H3.out H4.out L1.out L2.out L3.out L4.out LL.out HC.out) ?_; rintro e wa ⟨rfl, hb⟩; replace V0 := Lib.hid (V0.out.below hb V0.out.lt); replace V1 := Lib.hid (V1.out.below hb V1.out.lt); replace V2 := Lib.hid (V2.out.below hb V2.out.lt); replace H1 := Lib.hid (H1.out.below hb); replace H2 := Lib.hid (H2.out.below hb); replace H3 := Lib.hid (H3.out.below hb); replace H4 := Lib.hid (H4.out.below hb); replace B1 := Lib.hid (B1.out.trans (hb.mono B1.out.size)); clear hb; have pc1 := Lib.hid trivial)
        | (clear pc1; refine wpList_ldR (by rfl) _ rfl (by rfl) V0.out ?_; have pc2 := Lib.hid trivial)
        | (clear pc2; go_at_call 63; refine Calls.mono (qsign_any (L := 1048576) (r := 0) H1.out H2.out L1.out L2.out LL2.out HS1.out) ?_; rintro e wb ⟨rfl, hb⟩; replace V0 := Lib.hid (V0.out.below hb V0.out.lt); replace V1 := Lib.hid (V1.out.below hb V1.out.lt); replace V2 := Lib.hid (V2.out.below hb V2.out.lt); replace H1 := Lib.hid (H1.out.below hb); replace H2 := Lib.hid (H2.out.below hb); replace H3 := Lib.hid (H3.out.below hb); replace H4 := Lib.hid (H4.out.below hb); replace B1 := Lib.hid (B1.out.trans (hb.mono B1.out.size)); clear hb; have pc3 := Lib.hid trivial)
        | (clear pc3; refine wpList_ldR (by rfl) _ rfl (by rfl) V1.out ?_; have pc4 := Lib.hid trivial)
        | (clear pc4; go_at_call 63; refine Calls.mono (qsign_any (L := 1048576) (r := 1) H3.out H4.out L3.out L4.out LL2.out HS2.out) ?_; rintro e wc ⟨rfl, hb⟩; replace V0 := Lib.hid (V0.out.below hb V0.out.lt); replace V1 := Lib.hid (V1.out.below hb V1.out.lt); replace V2 := Lib.hid (V2.out.below hb V2.out.lt); replace H1 := Lib.hid (H1.out.below hb); replace H2 := Lib.hid (H2.out.below hb); replace H3 := Lib.hid (H3.out.below hb); replace H4 := Lib.hid (H4.out.below hb); replace B1 := Lib.hid (B1.out.trans (hb.mono B1.out.size)); clear hb; have pc5 := Lib.hid trivial)
        | (clear pc5; go_at_call 65; refine Calls.mono (qfromInt_any (v := 0) (z := z0) (by decide) EZ0.out _) ?_; rintro e wd ⟨P3, c3, Q3, k3, rfl, ho, ho2, hb⟩; replace V0 := Lib.hid (V0.out.below hb V0.out.lt); replace V1 := Lib.hid (V1.out.below hb V1.out.lt); replace V2 := Lib.hid (V2.out.below hb V2.out.lt); replace H1 := Lib.hid (H1.out.below hb); replace H2 := Lib.hid (H2.out.below hb); replace H3 := Lib.hid (H3.out.below hb); replace H4 := Lib.hid (H4.out.below hb); replace B1 := Lib.hid (B1.out.trans (hb.mono B1.out.size)); have ZU := Lib.hid (Zo.of_own ho); have ZV := Lib.hid ho2.rd; clear ho ho2; clear hb; have pc6 := Lib.hid trivial)
        | (clear pc6; refine wpList_stR (by rfl) _ _ rfl (by rfl) (by rfl) V2.out ?_; intro we hz hg; have bx := V2.out.bx; replace V0 := Lib.hid (V0.out.gro hg (by omega)); replace V1 := Lib.hid (V1.out.gro hg (by omega)); replace H1 := Lib.hid (H1.out.grB bx hg); replace H2 := Lib.hid (H2.out.grB bx hg); replace H3 := Lib.hid (H3.out.grB bx hg); replace H4 := Lib.hid (H4.out.grB bx hg); replace ZU := Lib.hid (ZU.out.grB bx hg); replace ZV := Lib.hid (ZV.out.grB bx hg); replace B1 := Lib.hid (Below.gr B1.out (by omega) hg B1.out.size); clear bx; replace V2 := Lib.hid hz; clear hz hg; have pc7 := Lib.hid trivial))
      clear pc7
      exact ret_rk Tryz.results20 rfl rfl rfl V2.out ⟨z0, 1, by rw [← EZ0.out]; exact smp_zero (by have := HL.out; omega) (by have := HH.out; omega), ⟨by rw [← EZ0.out]; simp [ofv_zero], by rw [len_one]; decide⟩, _, _, _, _, rfl, ZU.out, ZV.out, B1.out⟩
  · have HS1 : Hid (sgR (mkRat x p) = 1) := S1.out.trans hk
    have HL := Lib.hid hl
    clear hk hl
    have ZH : Hid (0 < zh) := by
      show _ < _
      have h := HLE.out
      have h1 := HL.out
      have h2 := D1.out
      have h3 := D2.out
      have : 0 < zl * (dh : Int) := Int.mul_pos h1 (by omega)
      exact Int.pos_of_mul_pos_left (by omega : 0 < zh * (dl : Int)) (by omega)
    have P1' := Lib.hid (pos_raw HS1.out)
    have P2' := Lib.hid (pos_raw (x := x') (p := p') (by rw [S2.out]; rcases sg_cases zh with ⟨_, e⟩ | ⟨_, e⟩ | ⟨e, _⟩ <;> first | exact e | (have := ZH.out; omega)))
    obtain ⟨y, ey⟩ : ∃ z0 : Int, (p : Int) = z0 := ⟨_, rfl⟩
    obtain ⟨y', ey'⟩ : ∃ z0 : Int, (p' : Int) = z0 := ⟨_, rfl⟩
    have EY := Lib.hid ey
    have EY' := Lib.hid ey'
    clear ey ey'
    have pc0 := Lib.hid trivial
    go_wp2_with (first
      | (clear pc0; go_at_call 62; refine Calls.mono (qcompare_any (L := 1048576) (r := 0) H1.out H2.out H3.out H4.out L1.out L2.out L3.out L4.out LL.out HC.out) ?_; rintro e wa ⟨rfl, hb⟩; replace V0 := Lib.hid (V0.out.below hb V0.out.lt); replace V1 := Lib.hid (V1.out.below hb V1.out.lt); replace V2 := Lib.hid (V2.out.below hb V2.out.lt); replace H1 := Lib.hid (H1.out.below hb); replace H2 := Lib.hid (H2.out.below hb); replace H3 := Lib.hid (H3.out.below hb); replace H4 := Lib.hid (H4.out.below hb); replace B1 := Lib.hid (B1.out.trans (hb.mono B1.out.size)); clear hb; have pc1 := Lib.hid trivial)
      | (clear pc1; refine wpList_ldR (by rfl) _ rfl (by rfl) V0.out ?_; have pc2 := Lib.hid trivial)
      | (clear pc2; go_at_call 63; refine Calls.mono (qsign_any (L := 1048576) (r := 1) H1.out H2.out L1.out L2.out LL2.out HS1.out) ?_; rintro e wb ⟨rfl, hb⟩; replace V0 := Lib.hid (V0.out.below hb V0.out.lt); replace V1 := Lib.hid (V1.out.below hb V1.out.lt); replace V2 := Lib.hid (V2.out.below hb V2.out.lt); replace H1 := Lib.hid (H1.out.below hb); replace H2 := Lib.hid (H2.out.below hb); replace H3 := Lib.hid (H3.out.below hb); replace H4 := Lib.hid (H4.out.below hb); replace B1 := Lib.hid (B1.out.trans (hb.mono B1.out.size)); clear hb; have pc3 := Lib.hid trivial)
      | (clear pc3; refine wpList_ldR (by rfl) _ rfl (by rfl) V0.out ?_; have pc4 := Lib.hid trivial)
      | (clear pc4; refine wpList_ldR (by rfl) _ rfl (by rfl) V1.out ?_; have pc5 := Lib.hid trivial)
      | (clear pc5; go_at_call 64; refine Calls.mono (simplestPositive_any (x := x) (y := y) (x' := x') (y' := y') H1.out (H2.out.int EY.out) H3.out (H4.out.int EY'.out) (Nat.le_succ_of_le L1.out) (Nat.le_succ_of_le L2.out) (Nat.le_succ_of_le L3.out) (Nat.le_succ_of_le L4.out) P1'.out.1 (by have := P1'.out.2; have := EY.out; omega) P2'.out.1 (by have := P2'.out.2; have := EY'.out; omega)) ?_; rintro e wc ⟨u, v, spr, lens, P3, c3, Q3, k3, rfl, q1, q2, hb⟩; replace V0 := Lib.hid (V0.out.below hb V0.out.lt); replace V1 := Lib.hid (V1.out.below hb V1.out.lt); replace V2 := Lib.hid (V2.out.below hb V2.out.lt); replace H1 := Lib.hid (H1.out.below hb); replace H2 := Lib.hid (H2.out.below hb); replace H3 := Lib.hid (H3.out.below hb); replace H4 := Lib.hid (H4.out.below hb); replace B1 := Lib.hid (B1.out.trans (hb.mono B1.out.size)); have SPR := Lib.hid spr; have LE := Lib.hid lens; have ZU := Lib.hid q1; have ZV := Lib.hid q2; clear spr lens q1 q2; clear hb; have pc6 := Lib.hid trivial)
      | (clear pc6; refine wpList_stR (by rfl) _ _ rfl (by rfl) (by rfl) V2.out ?_; intro wd hz hg; have bx := V2.out.bx; replace V0 := Lib.hid (V0.out.gro hg (by omega)); replace V1 := Lib.hid (V1.out.gro hg (by omega)); replace H1 := Lib.hid (H1.out.grB bx hg); replace H2 := Lib.hid (H2.out.grB bx hg); replace H3 := Lib.hid (H3.out.grB bx hg); replace H4 := Lib.hid (H4.out.grB bx hg); replace ZU := Lib.hid (ZU.out.grB bx hg); replace ZV := Lib.hid (ZV.out.grB bx hg); replace B1 := Lib.hid (Below.gr B1.out (by omega) hg B1.out.size); clear bx; replace V2 := Lib.hid hz; clear hz hg; have pc7 := Lib.hid trivial))
    clear pc7
    have sm := smp_pos SPR.out (by have := P1'.out.2; have := EY.out; omega) (by have := P2'.out.2; have := EY'.out; omega) (show (0 : Int) < dl by have := D1.out; omega) (show (0 : Int) < dh by have := D2.out; omega) (by rw [← EY.out]; exact cross P1'.out.2 A1.out A2.out) (by rw [← EY'.out]; exact cross P2'.out.2 A3.out A4.out) HLE.out
    exact ret_rk Tryz.results20 rfl rfl rfl V2.out ⟨u, v, sm, LE.out, _, _, _, _, rfl, ZU.out, ZV.out, B1.out⟩
end Go.Proofs.YtfmgbfdnmconiaaGreat
