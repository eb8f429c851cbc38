/-
  Contracts of package rational: lowest, Norm.
-/
import Derived.Test.YtfacndibfkamgaaGreatRatl
namespace Go.Proofs.YtfacndibfkamgaaGreat
open Go.RowKit
set_option linter.unusedVariables false

theorem start_ZR (w : World) (s0 : Bool) (A0 : Option Addr) (n0 c0 : Nat) :
    Hid (Below w.heap.size w ((w.alloc (.cells #[.bool s0, .slice A0 n0 c0] 27)).alloc (.cells #[.bool false, .slice none 0 0, .slice none 0 0] 29))) ∧ Hid (Zb ((w.alloc (.cells #[.bool s0, .slice A0 n0 c0] 27)).alloc (.cells #[.bool false, .slice none 0 0, .slice none 0 0] 29)) (w.heap.size) s0 A0 n0 c0) ∧ Hid (Rb ((w.alloc (.cells #[.bool s0, .slice A0 n0 c0] 27)).alloc (.cells #[.bool false, .slice none 0 0, .slice none 0 0] 29)) (w.heap.size + 1) false none 0 0 none 0 0) := by
  refine ⟨?_, ?_, ?_⟩
  · exact (((Below.refl _ _).alloc (by first | exact Nat.le_refl _ | (simp; done) | (simp; omega)) _).alloc (by first | exact Nat.le_refl _ | (simp; done) | (simp; omega)) _)
  · have := Zb.new w s0 A0 n0 c0
    exact (this.alloc _)
  · have := Rb.new (w.alloc (.cells #[.bool s0, .slice A0 n0 c0] 27)) false none 0 0 none 0 0
    simp only [World.size_alloc] at this
    exact this
set_option maxRecDepth 100000 in
set_option maxHeartbeats 16000000 in
theorem lowest_any {s : Bool} {A D : Option Addr} {n c m k : Nat} {x z : Int} {p d : Nat} {w : World} (h : Zin w s A n c x) (h' : Nin w D m k p) (hp : 0 < p) (hn : n ≤ 70368744177660) (hm : m ≤ 70368744177660) (hz : (mkRat x p).num = z) (hd : (mkRat x p).den = d) :
    Calls Tryz.prog 90 #[.agg #[.bool s, .slice A n c], .slice D m k] w (GivesR w z d) := by
  obtain ⟨B1, V0, V1⟩ := start_ZR w s A n c
  have lp := Nat.le_trans h'.len hm
  obtain ⟨a, ha⟩ : ∃ a : Nat, x.natAbs = a := ⟨_, rfl⟩
  obtain ⟨g, hg⟩ : ∃ g : Nat, Nat.gcd a p = g := ⟨_, rfl⟩
  obtain ⟨gz, hgz⟩ : ∃ z0 : Int, (g : Int) = z0 := ⟨_, rfl⟩
  obtain ⟨rz, hrz⟩ : ∃ z0 : Int, x % gz = z0 := ⟨_, rfl⟩
  obtain ⟨rd, hrd⟩ : ∃ z0 : Nat, p % g = z0 := ⟨_, rfl⟩
  obtain ⟨zl, hzl⟩ : ∃ z0 : Int, z = z0 := ⟨_, rfl⟩
  obtain ⟨l1, l2⟩ := mk_low (z := x) (g := g) hp (by rw [ha]; exact hg)
  obtain ⟨g0, g1⟩ := gcd_pos' (z := x) (g := g) hp (by rw [ha]; exact hg)
  have HX := Lib.hid (h.below B1.out)
  have HP := Lib.hid (h'.below B1.out)
  have HA := Lib.hid ha
  have HG := Lib.hid hg
  have HGZ := Lib.hid hgz
  have DR := Lib.hid hrz
  have DRD := Lib.hid hrd
  have HZL := Lib.hid hzl
  have DQ : Hid (x / gz = zl) := by show _ = _; rw [← hzl, ← hz, l1, hgz]
  have DQD : Hid (p / g = d) := by show _ = _; rw [← hd, l2]
  have NG : Hid (gz ≠ 0) := by show _ ≠ _; omega
  have GP : Hid (0 < g) := g0
  have LN := Lib.hid hn
  have LN3 : Hid (n ≤ 70368744177663) := by show _ ≤ _; omega
  have LM3 : Hid (m ≤ 70368744177663) := by show _ ≤ _; omega
  have LG : Hid ((ofv g).length ≤ 70368744177660) := Nat.le_trans (len_mono g1) lp
  have HPP := Lib.hid hp
  have HZ := Lib.hid hz
  have HD := Lib.hid hd
  clear h h' hn hm hz hd ha hg hgz hrz hrd hzl l1 l2 g0 g1 lp hp
  go_enter Tryz.func90, Tryz.ntmps90
  go_wp2_with fail
  generalize ((w.alloc (.cells #[.bool s, .slice A n c] 27)).alloc (.cells #[.bool false, .slice none 0 0, .slice none 0 0] 29)) = w2 at *
  go_wp2_with fail
  refine (shorten_any HX.out HP.out).mono ?_
  rintro e w3 ⟨X, Y, ok, rfl, hok, hb⟩
  replace V0 := Lib.hid (V0.out.below hb V0.out.lt)
  replace V1 := Lib.hid (V1.out.below hb V1.out.lt)
  replace HX := Lib.hid (HX.out.below hb)
  replace HP := Lib.hid (HP.out.below hb)
  replace B1 := Lib.hid (B1.out.trans (hb.mono B1.out.size))
  clear hb
  cases ok
  · clear hok
    have hb : Below w3.heap.size w3 (w3.alloc (.cells #[.int .i64 X, .int .i64 Y] 121)) := (Below.refl _ _).alloc (Nat.le_refl _) _
    replace V0 := Lib.hid (V0.out.below hb V0.out.lt)
    replace V1 := Lib.hid (V1.out.below hb V1.out.lt)
    replace HX := Lib.hid (HX.out.below hb)
    replace HP := Lib.hid (HP.out.below hb)
    replace B1 := Lib.hid (B1.out.trans (hb.mono B1.out.size))
    clear hb
    have pc0 := Lib.hid trivial
    go_wp2_with (first
      | (clear pc0; refine wpList_ldZm (by rfl) _ rfl (by rfl) V0.out ?_; have pc1 := Lib.hid trivial)
      | (clear pc1; go_at_call 103; refine Calls.mono (gcd_d (HX.out.mag HA.out) HP.out LN3.out LM3.out HG.out) ?_; rintro e w4 ⟨P1, c1, rfl, ho, hb⟩; replace V0 := Lib.hid (V0.out.below hb V0.out.lt); replace V1 := Lib.hid (V1.out.below hb V1.out.lt); replace HX := Lib.hid (HX.out.below hb); replace HP := Lib.hid (HP.out.below hb); replace B1 := Lib.hid (B1.out.trans (hb.mono B1.out.size)); have NGG := Lib.hid (Nin.of_own ho); clear ho; clear hb; have pc2 := Lib.hid trivial)
      | (clear pc2; refine wpList_ldZ (by rfl) _ rfl (by rfl) V0.out ?_; have pc3 := Lib.hid trivial)
      | (clear pc3; have SZ := Lib.hid B1.out.size; go_at_call 113; refine Calls.mono (dm_z (x := x) (y := gz) (q := zl) (r := rz) HX.out (NGG.out.int HGZ.out) LN.out LG.out NG.out DQ.out DR.out) ?_; rintro e w5 ⟨P2, c2, P3, c3, rfl, ho, ho2, hb⟩; replace V0 := Lib.hid (V0.out.below hb V0.out.lt); replace V1 := Lib.hid (V1.out.below hb V1.out.lt); replace HX := Lib.hid (HX.out.below hb); replace HP := Lib.hid (HP.out.below hb); replace NGG := Lib.hid (NGG.out.below hb); replace B1 := Lib.hid (B1.out.trans (hb.mono B1.out.size)); have OQ := Lib.hid (ho.mono SZ.out); clear ho ho2 SZ; clear hb; have pc4 := Lib.hid trivial)
      | (clear pc4; refine wpList_stZ (by rfl) _ _ rfl (by rfl) (by rfl) V0.out ?_; intro w6 hz hg; replace V1 := Lib.hid (V1.out.gro hg (by omega)); replace HX := Lib.hid (HX.out.gr V0.out hg); replace HP := Lib.hid (HP.out.gr V0.out hg); replace NGG := Lib.hid (NGG.out.gr V0.out hg); replace OQ := Lib.hid (OQ.out.gr V0.out hg); replace B1 := Lib.hid (Below.gr B1.out (by omega) hg B1.out.size); replace V0 := Lib.hid hz; clear hz hg; have pc5 := Lib.hid trivial)
      | (clear pc5; have SZ := Lib.hid B1.out.size; go_at_call 104; refine Calls.mono (dm_d HP.out NGG.out LM3.out GP.out DQD.out DRD.out) ?_; rintro e w7 ⟨P4, c4, P5, c5, rfl, ho, ho2, hb⟩; replace V0 := Lib.hid (V0.out.below hb V0.out.lt); replace V1 := Lib.hid (V1.out.below hb V1.out.lt); replace HX := Lib.hid (HX.out.below hb); replace HP := Lib.hid (HP.out.below hb); replace NGG := Lib.hid (NGG.out.below hb); replace OQ := Lib.hid (OQ.out.below hb); replace B1 := Lib.hid (B1.out.trans (hb.mono B1.out.size)); have OD := Lib.hid (ho.mono SZ.out); clear ho ho2 SZ; clear hb; have pc6 := Lib.hid trivial)
      | (clear pc6; refine wpList_ldZ (by rfl) _ rfl (by rfl) V0.out ?_; have pc7 := Lib.hid trivial)
      | (clear pc7; refine wpList_stR (by rfl) _ _ rfl (by rfl) (by rfl) V1.out ?_; intro w8 hz hg; replace V0 := Lib.hid (V0.out.gr hg (by omega)); replace HX := Lib.hid (HX.out.grR V1.out hg); replace HP := Lib.hid (HP.out.grR V1.out hg); replace NGG := Lib.hid (NGG.out.grR V1.out hg); replace OQ := Lib.hid (OQ.out.grR V1.out hg); replace OD := Lib.hid (OD.out.grR V1.out hg); replace B1 := Lib.hid (Below.gr B1.out (by omega) hg B1.out.size); replace V1 := Lib.hid hz; clear hz hg; have pc8 := Lib.hid trivial))
    clear pc8
    exact ret_rb Tryz.results90 rfl rfl V1.out ⟨_, _, _, _, by rw [HZL.out], by rw [← HZL.out] at *; exact OQ.out, OD.out, B1.out⟩
  · obtain ⟨rfl, rfl, x1, x2⟩ := hok rfl
    have IN : Hid (-9223372036854775807 ≤ X ∧ X ≤ 9223372036854775807) := by show _ ∧ _; omega
    have IP : Hid (0 < p ∧ p ≤ 9223372036854775807) := by have := HPP.out; show _ ∧ _; omega
    clear x1 x2
    have hb : Below w3.heap.size w3 (w3.alloc (.cells #[.int .i64 X, .int .i64 (p : Int)] 121)) := (Below.refl _ _).alloc (Nat.le_refl _) _
    replace V0 := Lib.hid (V0.out.below hb V0.out.lt)
    replace V1 := Lib.hid (V1.out.below hb V1.out.lt)
    replace HX := Lib.hid (HX.out.below hb)
    replace HP := Lib.hid (HP.out.below hb)
    replace B1 := Lib.hid (B1.out.trans (hb.mono B1.out.size))
    clear hb
    have pc0 := Lib.hid trivial
    go_wp2_with (first
      | (clear pc0; have SZ := Lib.hid B1.out.size; go_at_call 102; refine Calls.mono (lowestShort_any (z := z) (d := d) IN.out IP.out HZ.out HD.out _) ?_; rintro e w4 ⟨P1, c1, P2, c2, rfl, ho, ho2, hb⟩; replace V0 := Lib.hid (V0.out.below hb V0.out.lt); replace V1 := Lib.hid (V1.out.below hb V1.out.lt); replace HX := Lib.hid (HX.out.below hb); replace HP := Lib.hid (HP.out.below hb); replace B1 := Lib.hid (B1.out.trans (hb.mono B1.out.size)); have OQ := Lib.hid (ho.mono SZ.out); have OD := Lib.hid (ho2.mono SZ.out); clear ho ho2 SZ; clear hb; have pc1 := Lib.hid trivial)
      | (clear pc1; refine wpList_stR (by rfl) _ _ rfl (by rfl) (by rfl) V1.out ?_; intro w5 hz hg; replace V0 := Lib.hid (V0.out.gr hg (by omega)); replace HX := Lib.hid (HX.out.grR V1.out hg); replace HP := Lib.hid (HP.out.grR V1.out hg); replace OQ := Lib.hid (OQ.out.grR V1.out hg); replace OD := Lib.hid (OD.out.grR V1.out hg); replace B1 := Lib.hid (Below.gr B1.out (by omega) hg B1.out.size); replace V1 := Lib.hid hz; clear hz hg; have pc2 := Lib.hid trivial))
    clear pc2
    exact ret_rb Tryz.results90 rfl rfl V1.out ⟨_, _, _, _, rfl, OQ.out, OD.out, B1.out⟩
set_option maxRecDepth 100000 in
set_option maxHeartbeats 16000000 in
theorem norm_any {s : Bool} {A D : Option Addr} {n c m k L : Nat} {x z : Int} {p d : Nat} {w : World} (h : Zin w s A n c x) (h' : Nin w D m k p) (hn : n ≤ L) (hm : m ≤ L) (hL : 1 ≤ L ∧ L ≤ 70368744177660) (hz : (mkRat x p).num = z) (hd : (mkRat x p).den = d) :
    Calls Tryz.prog 47 #[.agg #[.bool s, .slice A n c, .slice D m k]] w (GivesR w z d) := by
  obtain ⟨B1, V0, V1⟩ := start_RR w s A n c D m k
  have HX := Lib.hid (h.below B1.out)
  have HP := Lib.hid (h'.below B1.out)
  have LN := Lib.hid hn
  have LM := Lib.hid hm
  have L1 := Lib.hid hL.1
  have L2 := Lib.hid hL.2
  have L4 : Hid (L ≤ 70368744177664) := Nat.le_trans hL.2 (by decide)
  have HZ := Lib.hid hz
  have HD := Lib.hid hd
  clear h h' hn hm hL hz hd
  go_enter Tryz.func47, Tryz.ntmps47
  go_wp2_with fail
  generalize ((w.alloc (.cells #[.bool s, .slice A n c, .slice D m k] 29)).alloc (.cells #[.bool false, .slice none 0 0, .slice none 0 0] 29)) = w2 at *
  have pc0 := Lib.hid trivial
  go_wp2_with (first
    | (clear pc0; go_at_call 89; refine Calls.mono (proper_any HX.out HP.out LM.out L1.out L4.out) ?_; rintro e w3 ⟨s1, A1, n1, c1, D1, m1, k1, x1, p1, rfl, q1, q2, q3, q4, q5, q6, hb⟩; replace V0 := Lib.hid (V0.out.below hb V0.out.lt); replace V1 := Lib.hid (V1.out.below hb V1.out.lt); replace HX := Lib.hid (HX.out.below hb); replace HP := Lib.hid (HP.out.below hb); replace B1 := Lib.hid (B1.out.trans (hb.mono B1.out.size)); have GX := Lib.hid q1; have GP := Lib.hid q2; have P0 := Lib.hid q3; have PE := Lib.hid q4; have N1 := Lib.hid (Nat.le_trans q5 (Nat.le_trans LN.out L2.out)); have M1 := Lib.hid (Nat.le_trans q6 L2.out); clear q1 q2 q3 q4 q5 q6; clear hb; have pc1 := Lib.hid trivial)
    | (clear pc1; refine wpList_stR (by rfl) _ _ rfl (by rfl) (by rfl) V0.out ?_; intro w4 hz hg; replace V1 := Lib.hid (V1.out.gro hg (by omega)); replace HX := Lib.hid (HX.out.grR V0.out hg); replace HP := Lib.hid (HP.out.grR V0.out hg); replace GX := Lib.hid (GX.out.grR V0.out hg); replace GP := Lib.hid (GP.out.grR V0.out hg); replace B1 := Lib.hid (Below.gr B1.out (by omega) hg B1.out.size); replace V0 := Lib.hid hz; clear hz hg; have pc2 := Lib.hid trivial)
    | (clear pc2; refine wpList_ldRz (by rfl) _ rfl (by rfl) V0.out ?_; have pc3 := Lib.hid trivial)
    | (clear pc3; refine wpList_ldRd (by rfl) _ rfl (by rfl) V0.out ?_; have pc4 := Lib.hid trivial)
    | (clear pc4; have SZ := Lib.hid B1.out.size; go_at_call 90; refine Calls.mono (lowest_any (z := z) (d := d) GX.out GP.out P0.out N1.out M1.out (by rw [PE.out]; exact HZ.out) (by rw [PE.out]; exact HD.out)) ?_; rintro e w5 ⟨P1, c1, P2, c2, rfl, ho, ho2, hb⟩; replace V0 := Lib.hid (V0.out.below hb V0.out.lt); replace V1 := Lib.hid (V1.out.below hb V1.out.lt); replace HX := Lib.hid (HX.out.below hb); replace HP := Lib.hid (HP.out.below hb); replace GX := Lib.hid (GX.out.below hb); replace GP := Lib.hid (GP.out.below hb); replace B1 := Lib.hid (B1.out.trans (hb.mono B1.out.size)); have OQ := Lib.hid (ho.mono SZ.out); have OD := Lib.hid (ho2.mono SZ.out); clear ho ho2 SZ; clear hb; have pc5 := Lib.hid trivial)
    | (clear pc5; refine wpList_stR (by rfl) _ _ rfl (by rfl) (by rfl) V1.out ?_; intro w6 hz hg; replace V0 := Lib.hid (V0.out.gro hg (by omega)); replace HX := Lib.hid (HX.out.grR V1.out hg); replace HP := Lib.hid (HP.out.grR V1.out hg); replace GX := Lib.hid (GX.out.grR V1.out hg); replace GP := Lib.hid (GP.out.grR V1.out hg); replace OQ := Lib.hid (OQ.out.grR V1.out hg); replace OD := Lib.hid (OD.out.grR V1.out hg); replace B1 := Lib.hid (Below.gr B1.out (by omega) hg B1.out.size); replace V1 := Lib.hid hz; clear hz hg; have pc6 := Lib.hid trivial))
  clear pc6
  exact ret_rb Tryz.results47 rfl rfl V1.out ⟨_, _, _, _, rfl, OQ.out, OD.out, B1.out⟩
end Go.Proofs.YtfacndibfkamgaaGreat
