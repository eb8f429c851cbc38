/-
  Contracts of the reference's Zero and Make.
-/
import Derived.Test.YtfacndibfkamgaaGreatReqs
import Derived.Test.YtfacndibfkamgaaGreatZbez
import Derived.Test.YtfacndibfkamgaaGreatZrdm
import Derived.Test.YtfacndibfkamgaaGreatRatm
namespace Go.Proofs.YtfacndibfkamgaaGreat
open Go.RowKit
set_option linter.unusedVariables false

def EqIs (a b : Nat) (e : Bool) : Prop := decide (a = b) = e
set_option maxRecDepth 100000 in
set_option maxHeartbeats 16000000 in
theorem rzeroR_any {z : Int} (hz : 0 = z) (w : World) : Calls Tryz.prog 93 #[] w (GivesR w z 1) := by
  subst hz
  have V := ((Rb.new w false (some ⟨w.heap.size + 1, 0, none⟩) 0 0 (some ⟨w.heap.size + 2, 0, none⟩) 1 1).alloc (.cells #[] 118)).alloc (.cells #[.int .u32 1] 118)
  have O1 := own_one ((w.alloc (.cells #[.bool false, .slice (some ⟨w.heap.size + 1, 0, none⟩) 0 0, .slice (some ⟨w.heap.size + 2, 0, none⟩) 1 1] 29)).alloc (.cells #[] 118)) w.heap.size (by simp; omega)
  simp only [World.size_alloc] at O1
  have B1 : Below w.heap.size w (((w.alloc (.cells #[.bool false, .slice (some ⟨w.heap.size + 1, 0, none⟩) 0 0, .slice (some ⟨w.heap.size + 2, 0, none⟩) 1 1] 29)).alloc (.cells #[] 118)).alloc (.cells #[.int .u32 1] 118)) := (((Below.refl _ _).alloc (Nat.le_refl _) _).alloc (by simp) _).alloc (by simp; omega) _
  have V' := Lib.hid V
  have O1' := Lib.hid O1
  have B1' := Lib.hid B1
  clear V O1 B1
  go_enter Tryz.func93, Tryz.ntmps93
  go_wp2
  exact ret_rb Tryz.results93 rfl rfl V'.out ⟨some ⟨w.heap.size + 1, 0, none⟩, 0, some ⟨w.heap.size + 2, 0, none⟩, 1, by rw [len_one]; simp [ofv_zero], by rw [show ofv (0 : Int).natAbs = [] from ofv_zero]; exact Own.nil _ _ _, O1'.out, B1'.out⟩
theorem start_ZZR (w : World) (s0 : Bool) (A0 : Option Addr) (n0 c0 : Nat) (s1 : Bool) (A1 : Option Addr) (n1 c1 : Nat) :
    Hid (Below w.heap.size w (((w.alloc (.cells #[.bool s0, .slice A0 n0 c0] 27)).alloc (.cells #[.bool s1, .slice A1 n1 c1] 27)).alloc (.cells #[.bool false, .slice none 0 0, .slice none 0 0] 29))) ∧ Hid (Zb (((w.alloc (.cells #[.bool s0, .slice A0 n0 c0] 27)).alloc (.cells #[.bool s1, .slice A1 n1 c1] 27)).alloc (.cells #[.bool false, .slice none 0 0, .slice none 0 0] 29)) (w.heap.size) s0 A0 n0 c0) ∧ Hid (Zb (((w.alloc (.cells #[.bool s0, .slice A0 n0 c0] 27)).alloc (.cells #[.bool s1, .slice A1 n1 c1] 27)).alloc (.cells #[.bool false, .slice none 0 0, .slice none 0 0] 29)) (w.heap.size + 1) s1 A1 n1 c1) ∧ Hid (Rb (((w.alloc (.cells #[.bool s0, .slice A0 n0 c0] 27)).alloc (.cells #[.bool s1, .slice A1 n1 c1] 27)).alloc (.cells #[.bool false, .slice none 0 0, .slice none 0 0] 29)) (w.heap.size + 2) false none 0 0 none 0 0) := by
  refine ⟨?_, ?_, ?_, ?_⟩
  · exact ((((Below.refl _ _).alloc (by first | exact Nat.le_refl _ | (simp; done) | (simp; omega)) _).alloc (by first | exact Nat.le_refl _ | (simp; done) | (simp; omega)) _).alloc (by first | exact Nat.le_refl _ | (simp; done) | (simp; omega)) _)
  · have := Zb.new w s0 A0 n0 c0
    exact ((this.alloc _).alloc _)
  · have := Zb.new (w.alloc (.cells #[.bool s0, .slice A0 n0 c0] 27)) s1 A1 n1 c1
    simp only [World.size_alloc] at this
    exact (this.alloc _)
  · have := Rb.new ((w.alloc (.cells #[.bool s0, .slice A0 n0 c0] 27)).alloc (.cells #[.bool s1, .slice A1 n1 c1] 27)) false none 0 0 none 0 0
    simp only [World.size_alloc] at this
    exact this
theorem Zin.of_true {w : World} {R : Option Addr} {c : Nat} {z : Int} {b : Bool} (hb : decide (z < 0) = b) (h : Zo w R c z) : Zin w b R (ofv z.natAbs).length c z := by
  subst hb; exact h.in_
theorem make_facts {x y g n1 d1 : Int} (hy : y ≠ 0) (hg : ((Int.gcd x y : Nat) : Int) = g) (h1 : x / g = n1) (h2 : y / g = d1) : 0 < g ∧ g.natAbs ≤ y.natAbs ∧ n1.natAbs ≤ x.natAbs ∧ d1.natAbs ≤ y.natAbs ∧
    (0 < y → (Rat.divInt x y).num = n1 ∧ (Rat.divInt x y).den = d1.natAbs ∧ 0 < d1) ∧ (y < 0 → (Rat.divInt x y).num = -n1 ∧ (Rat.divInt x y).den = (-d1).natAbs ∧ d1 < 0) := by
  have g0 : 0 < Int.gcd x y := Int.gcd_pos_of_ne_zero_right _ hy
  have gp : 0 < g := by omega
  have dx : g ∣ x := by rw [← hg]; exact Int.gcd_dvd_left ..
  have dy : g ∣ y := by rw [← hg]; exact Int.gcd_dvd_right ..
  obtain ⟨kx, ex⟩ := dx
  obtain ⟨ky, ey⟩ := dy
  have e1 : n1 = kx := by rw [← h1, ex]; exact Int.mul_ediv_cancel_left _ (by omega)
  have e2 : d1 = ky := by rw [← h2, ey]; exact Int.mul_ediv_cancel_left _ (by omega)
  have hn : (Rat.divInt x y).num = y.sign * x / g := by rw [Rat.num_divInt, Int.gcd_comm, hg]
  have hd : (Rat.divInt x y).den = y.natAbs / g.natAbs := by
    rw [Rat.den_divInt, if_neg hy, Int.gcd_comm, ← hg]; rfl
  have ha : y.natAbs = g.natAbs * ky.natAbs := by rw [ey, Int.natAbs_mul]
  have hb : x.natAbs = g.natAbs * kx.natAbs := by rw [ex, Int.natAbs_mul]
  have gn : 0 < g.natAbs := by omega
  have hd' : (Rat.divInt x y).den = ky.natAbs := by rw [hd, ha]; exact Nat.mul_div_cancel_left _ gn
  subst e1 e2
  refine ⟨gp, ?_, ?_, ?_, fun hp => ?_, fun hp => ?_⟩
  · rw [ha]
    exact Nat.le_mul_of_pos_right _ (by
      rcases Nat.eq_zero_or_pos d1.natAbs with h | h
      · rw [h, Nat.mul_zero] at ha; omega
      · exact h)
  · rw [hb]; exact Nat.le_mul_of_pos_left _ gn
  · rw [ha]; exact Nat.le_mul_of_pos_left _ gn
  · have hs : y.sign = 1 := Int.sign_eq_one_of_pos hp
    refine ⟨by rw [hn, hs, Int.one_mul]; exact h1, hd', ?_⟩
    rcases Int.lt_or_le 0 d1 with h | h
    · exact h
    · have := Int.mul_nonneg (show 0 ≤ g by omega) (show 0 ≤ -d1 by omega)
      rw [Int.mul_neg, ← ey] at this
      omega
  · have hs : y.sign = -1 := Int.sign_eq_neg_one_of_neg hp
    refine ⟨by rw [hn, hs, ex, Int.neg_mul, Int.one_mul, ← Int.mul_neg]; exact Int.mul_ediv_cancel_left _ (by omega), by rw [Int.natAbs_neg]; exact hd', ?_⟩
    rcases Int.lt_or_le d1 0 with h | h
    · exact h
    · have := Int.mul_nonneg (show 0 ≤ g by omega) h
      rw [← ey] at this
      omega
set_option maxRecDepth 100000 in
set_option maxHeartbeats 16000000 in
theorem rmake_zero {s t : Bool} {A B : Option Addr} {n c m k : Nat} {x y z : Int} {d : Nat} {w : World} (h : Zin w s A n c x) (hn : n ≤ 35184372087808) (h' : Zin w t B m k y) (hm : m ≤ 35184372087808) (hz : (Rat.divInt x y).num = z) (hd : (Rat.divInt x y).den = d) (hy : y = 0) :
    Calls Tryz.prog 64 #[.agg #[.bool s, .slice A n c], .agg #[.bool t, .slice B m k]] w (GivesR w z d) := by
  obtain ⟨B1, V0, V1, V2⟩ := start_ZZR w s A n c t B m k
  have HX := Lib.hid (h.below B1.out)
  have HY := Lib.hid (h'.below B1.out)
  have lx := Nat.le_trans h.len hn
  have ly := Nat.le_trans h'.len hm
  obtain ⟨q, kq⟩ : ∃ z0 : Int, sg y = z0 := ⟨_, rfl⟩
  have KQ := Lib.hid kq
  have LN := Lib.hid hn
  have LM := Lib.hid hm
  have LN4 : Hid (n ≤ 70368744177664) := Nat.le_trans hn (by decide)
  have LM4 : Hid (m ≤ 70368744177664) := Nat.le_trans hm (by decide)
  have LN7 : Hid (n ≤ 70368744177000) := Nat.le_trans hn (by decide)
  have LM7 : Hid (m ≤ 70368744177000) := Nat.le_trans hm (by decide)
  obtain ⟨y', ey'⟩ : ∃ z0 : Int, y = z0 := ⟨_, rfl⟩
  have EY := Lib.hid ey'
  obtain ⟨dy, edy⟩ : ∃ z0 : Bool, decide (y' < 0) = z0 := ⟨_, rfl⟩
  have EDY := Lib.hid edy
  have hq0 : (q == 0) = true := by rw [← kq, hy]; rfl
  obtain ⟨z0, ez0⟩ : ∃ z0 : Int, 0 = z0 := ⟨_, rfl⟩
  have EZ0 := Lib.hid ez0
  have ER : Hid (z = z0 ∧ d = 1) := by show _ ∧ _; rw [← hz, ← hd, hy, ← ez0, Rat.divInt_zero]; exact ⟨rfl, rfl⟩
  clear hy ez0
  clear h h' hn hm hz hd lx ly kq ey' edy
  go_enter Tryz.func64, Tryz.ntmps64
  go_wp2_with fail
  generalize (((w.alloc (.cells #[.bool s, .slice A n c] 27)).alloc (.cells #[.bool t, .slice B m k] 27)).alloc (.cells #[.bool false, .slice none 0 0, .slice none 0 0] 29)) = w2 at *
  have pc0 := Lib.hid trivial
  go_wp2_with (first
    | (clear pc0; go_at_call 37; refine Calls.mono (rsign_k (r := q) HY.out LM4.out KQ.out) ?_; rintro e w3 ⟨rfl, hb⟩; replace V0 := Lib.hid (V0.out.below hb V0.out.lt); replace V1 := Lib.hid (V1.out.below hb V1.out.lt); replace V2 := Lib.hid (V2.out.below hb V2.out.lt); replace HX := Lib.hid (HX.out.below hb); replace HY := Lib.hid (HY.out.below hb); replace B1 := Lib.hid (B1.out.trans (hb.mono B1.out.size)); clear hb; have pc1 := Lib.hid trivial)
    | (clear pc1; have SZ := Lib.hid B1.out.size; go_at_call 93; refine Calls.mono (rzeroR_any EZ0.out _) ?_; rintro e w4 ⟨P1, c1, P2, c2, rfl, ho, ho2, hb⟩; replace V0 := Lib.hid (V0.out.below hb V0.out.lt); replace V1 := Lib.hid (V1.out.below hb V1.out.lt); replace V2 := Lib.hid (V2.out.below hb V2.out.lt); replace HX := Lib.hid (HX.out.below hb); replace HY := Lib.hid (HY.out.below hb); replace B1 := Lib.hid (B1.out.trans (hb.mono B1.out.size)); have OQ := Lib.hid (ho.mono SZ.out); have OD := Lib.hid (ho2.mono SZ.out); clear ho ho2 SZ; clear hb; have pc2 := Lib.hid trivial)
    | (clear pc2; refine wpList_stR (by rfl) _ _ rfl (by rfl) (by rfl) V2.out ?_; intro w5 hz hg; replace V0 := Lib.hid (V0.out.gr hg (by omega)); replace V1 := Lib.hid (V1.out.gr hg (by omega)); replace HX := Lib.hid (HX.out.grR V2.out hg); replace HY := Lib.hid (HY.out.grR V2.out hg); replace OQ := Lib.hid (OQ.out.grR V2.out hg); replace OD := Lib.hid (OD.out.grR V2.out hg); replace B1 := Lib.hid (Below.gr B1.out (by omega) hg B1.out.size); replace V2 := Lib.hid hz; clear hz hg; have pc3 := Lib.hid trivial))
  clear pc3
  obtain ⟨ea, eb⟩ := ER.out
  subst ea eb
  exact ret_rb Tryz.results64 rfl rfl V2.out ⟨_, _, _, _, rfl, OQ.out, OD.out, B1.out⟩
set_option maxRecDepth 100000 in
set_option maxHeartbeats 16000000 in
theorem rmake_one {s t : Bool} {A B : Option Addr} {n c m k : Nat} {x y z : Int} {d : Nat} {w : World} (h : Zin w s A n c x) (hn : n ≤ 35184372087808) (h' : Zin w t B m k y) (hm : m ≤ 35184372087808) (hz : (Rat.divInt x y).num = z) (hd : (Rat.divInt x y).den = d) (hy : y = 1) :
    Calls Tryz.prog 64 #[.agg #[.bool s, .slice A n c], .agg #[.bool t, .slice B m k]] w (GivesR w z d) := by
  obtain ⟨B1, V0, V1, V2⟩ := start_ZZR w s A n c t B m k
  have HX := Lib.hid (h.below B1.out)
  have HY := Lib.hid (h'.below B1.out)
  have lx := Nat.le_trans h.len hn
  have ly := Nat.le_trans h'.len hm
  obtain ⟨q, kq⟩ : ∃ z0 : Int, sg y = z0 := ⟨_, rfl⟩
  have KQ := Lib.hid kq
  have LN := Lib.hid hn
  have LM := Lib.hid hm
  have LN4 : Hid (n ≤ 70368744177664) := Nat.le_trans hn (by decide)
  have LM4 : Hid (m ≤ 70368744177664) := Nat.le_trans hm (by decide)
  have LN7 : Hid (n ≤ 70368744177000) := Nat.le_trans hn (by decide)
  have LM7 : Hid (m ≤ 70368744177000) := Nat.le_trans hm (by decide)
  obtain ⟨y', ey'⟩ : ∃ z0 : Int, y = z0 := ⟨_, rfl⟩
  have EY := Lib.hid ey'
  obtain ⟨dy, edy⟩ : ∃ z0 : Bool, decide (y' < 0) = z0 := ⟨_, rfl⟩
  have EDY := Lib.hid edy
  have hq0 : (q == 0) = false := by rw [← kq, hy]; rfl
  have hdy : dy = false := by rw [← edy, ← ey', hy]; rfl
  subst hdy
  obtain ⟨x', ex'⟩ : ∃ z0 : Int, x = z0 := ⟨_, rfl⟩
  have EX := Lib.hid ex'
  have ER : Hid (z = x' ∧ d = y'.natAbs) := by
    show _ ∧ _
    rw [← hz, ← hd, ← ey', hy, ← ex']
    have : Rat.divInt x 1 = mkRat x 1 := Rat.divInt_ofNat x 1
    rw [this, Rat.mkRat_one]
    exact ⟨rfl, rfl⟩
  have EQ1 : Hid (EqIs y'.natAbs 1 true) := by show decide _ = _; rw [← ey', hy]; rfl
  clear hy ex'
  clear h h' hn hm hz hd lx ly kq ey' edy
  go_enter Tryz.func64, Tryz.ntmps64
  go_wp2_with fail
  generalize (((w.alloc (.cells #[.bool s, .slice A n c] 27)).alloc (.cells #[.bool t, .slice B m k] 27)).alloc (.cells #[.bool false, .slice none 0 0, .slice none 0 0] 29)) = w2 at *
  have pc0 := Lib.hid trivial
  go_wp2_with (first
    | (clear pc0; go_at_call 37; refine Calls.mono (rsign_k (r := q) HY.out LM4.out KQ.out) ?_; rintro e w3 ⟨rfl, hb⟩; replace V0 := Lib.hid (V0.out.below hb V0.out.lt); replace V1 := Lib.hid (V1.out.below hb V1.out.lt); replace V2 := Lib.hid (V2.out.below hb V2.out.lt); replace HX := Lib.hid (HX.out.below hb); replace HY := Lib.hid (HY.out.below hb); replace B1 := Lib.hid (B1.out.trans (hb.mono B1.out.size)); clear hb; have pc1 := Lib.hid trivial)
    | (clear pc1; refine wpList_ldZ (by rfl) _ rfl (by rfl) V1.out ?_; have pc2 := Lib.hid trivial))
  clear pc2
  refine (rnrm_z (x := y) (z := y') HY.out LM4.out EY.out).mono ?_
  rintro e w4 ⟨PY, cY, rfl, ho, hb⟩
  have SZ0 := Lib.hid B1.out.size
  replace V0 := Lib.hid (V0.out.below hb V0.out.lt)
  replace V1 := Lib.hid (V1.out.below hb V1.out.lt)
  replace V2 := Lib.hid (V2.out.below hb V2.out.lt)
  replace HX := Lib.hid (HX.out.below hb)
  replace HY := Lib.hid (HY.out.below hb)
  replace B1 := Lib.hid (B1.out.trans (hb.mono B1.out.size))
  rw [EDY.out]
  have ZY := Lib.hid (Zo.of_own ho)
  have OY := Lib.hid (ho.mono SZ0.out)
  clear ho hb SZ0
  have L5 : Hid (w.heap.size + 2 < w4.heap.size) := V2.out.lt
  have hb : Below w4.heap.size w4 (w4.alloc (.cells #[.bool false, .slice PY (ofv y'.natAbs).length cY] 27)) := (Below.refl _ _).alloc (Nat.le_refl _) _
  replace V0 := Lib.hid (V0.out.below hb V0.out.lt)
  replace V1 := Lib.hid (V1.out.below hb V1.out.lt)
  replace V2 := Lib.hid (V2.out.below hb V2.out.lt)
  replace HX := Lib.hid (HX.out.below hb)
  replace HY := Lib.hid (HY.out.below hb)
  replace ZY := Lib.hid (ZY.out.below hb)
  replace OY := Lib.hid (OY.out.below hb)
  replace B1 := Lib.hid (B1.out.trans (hb.mono B1.out.size))
  clear hb
  have V5 := Lib.hid (Zb.new w4 false PY (ofv y'.natAbs).length cY)
  have pc0 := Lib.hid trivial
  go_wp2_with (first
    | (clear pc0; have oo := own_one (w4.alloc (.cells #[.bool false, .slice PY (ofv y'.natAbs).length cY] 27)) 0 (Nat.zero_le _); simp only [World.size_alloc] at oo; have OO := Lib.hid oo; clear oo; have hb : Below (w4.alloc (.cells #[.bool false, .slice PY (ofv y'.natAbs).length cY] 27)).heap.size (w4.alloc (.cells #[.bool false, .slice PY (ofv y'.natAbs).length cY] 27)) ((w4.alloc (.cells #[.bool false, .slice PY (ofv y'.natAbs).length cY] 27)).alloc (.cells #[.int .u32 1] 118)) := (Below.refl _ _).alloc (Nat.le_refl _) _; replace V0 := Lib.hid (V0.out.below hb V0.out.lt); replace V1 := Lib.hid (V1.out.below hb V1.out.lt); replace V2 := Lib.hid (V2.out.below hb V2.out.lt); replace HX := Lib.hid (HX.out.below hb); replace HY := Lib.hid (HY.out.below hb); replace ZY := Lib.hid (ZY.out.below hb); replace OY := Lib.hid (OY.out.below hb); replace V5 := Lib.hid (V5.out.below hb V5.out.lt); replace B1 := Lib.hid (B1.out.trans (hb.mono B1.out.size)); clear hb; go_at_call 58; refine Calls.mono (equal_d ZY.out OO.out.rd rfl len_one EQ1.out) ?_; rintro e w5 ⟨rfl, hb⟩; replace V0 := Lib.hid (V0.out.below hb V0.out.lt); replace V1 := Lib.hid (V1.out.below hb V1.out.lt); replace V2 := Lib.hid (V2.out.below hb V2.out.lt); replace HX := Lib.hid (HX.out.below hb); replace HY := Lib.hid (HY.out.below hb); replace ZY := Lib.hid (ZY.out.below hb); replace OY := Lib.hid (OY.out.below hb); replace V5 := Lib.hid (V5.out.below hb V5.out.lt); replace OO := Lib.hid (OO.out.below hb); replace B1 := Lib.hid (B1.out.trans (hb.mono B1.out.size)); clear hb; have pc1 := Lib.hid trivial))
  clear pc1
  have HB : Hid (Below w5.heap.size w5 w5.drew) := below_drewN _ w5 1
  refine wp_region_held_drew (S := fun w' => w5.grownBy w' (some (w.heap.size + 2))) (by kernel_rfl) ((grown_below HB.out : World.grownBy _ _ (some (w.heap.size + 2)))) (fun hHeld => ?_)
  refine wpAnyH_takeL (i := 0) (oi := _) rfl (by kernel_rfl) (by kernel_rfl) (by kernel_rfl) (fun _ _ _ h => h) (yields_ldZ (by rfl) _ rfl (by rfl) (fun _ hb => V0.out.gr hb (by have := L5.out; omega))) hHeld ?_
  try simp only [Act.put, List.setIfInBounds_toArray, List.set_cons_zero, List.set_cons_succ]
  refine wpAnyH_takeL (i := 2) (oi := _) (v := ?_) rfl (by kernel_rfl) (by kernel_rfl) (by kernel_rfl) (fun _ _ _ h => h) (Or.inl ⟨by rfl, ?_⟩) hHeld ?_
  rotate_left
  · (intro w' hSw; (try dsimp only at hSw); go_simp; try (with_reducible rfl))
  try simp only [Act.put, List.setIfInBounds_toArray, List.set_cons_zero, List.set_cons_succ]
  refine wpAnyH_takeL (i := 3) (oi := _) rfl (by kernel_rfl) (by kernel_rfl) (by kernel_rfl) (fun _ _ _ h => h) (yields_ldZm (by rfl) _ rfl (by rfl) (fun _ hb => V5.out.gr hb (by have := L5.out; omega))) hHeld ?_
  try simp only [Act.put, List.setIfInBounds_toArray, List.set_cons_zero, List.set_cons_succ]
  refine wpAnyH_ready (rs := [1]) (by kernel_rfl) (by simp) ?_
  refine AllReadyH.consL (o := _) rfl (fun K hK => ?_) AllReadyH.nil
  clear hHeld
  have SZ := Lib.hid (Nat.le_trans B1.out.size HB.out.size)
  go_simp
  go_at_call 78
  refine Calls.mono (rnrm_z (x := x) (z := x') (HX.out.below HB.out) LN4.out EX.out) ?_
  rintro e w6 ⟨P1, c1, rfl, ho, hb⟩
  replace HB := Lib.hid (HB.out.trans (hb.mono HB.out.size))
  have OQ := Lib.hid (ho.mono SZ.out)
  clear ho SZ
  clear hb
  refine hK.out _ _ (grown_below HB.out : World.grownBy _ _ (some (w.heap.size + 2))) (fun hHeld => ?_)
  clear hK K
  try simp only [Act.put, List.setIfInBounds_toArray, List.set_cons_zero, List.set_cons_succ]
  refine wpAnyH_takeL (i := 4) (oi := _) (v := ?_) rfl (by kernel_rfl) (by kernel_rfl) (by kernel_rfl) (fun _ _ _ h => h) (Or.inl ⟨by rfl, ?_⟩) hHeld ?_
  rotate_left
  · (intro w' hSw; (try dsimp only at hSw); go_simp; try (with_reducible rfl))
  try simp only [Act.put, List.setIfInBounds_toArray, List.set_cons_zero, List.set_cons_succ]
  refine wpAnyH_ready (rs := [5]) (by kernel_rfl) (by simp) ?_
  refine AllReadyH.consL (o := _) rfl (fun K hK => ?_) AllReadyH.nil
  clear hHeld
  have hb := HB.out
  replace V0 := Lib.hid (V0.out.below hb V0.out.lt)
  replace V1 := Lib.hid (V1.out.below hb V1.out.lt)
  replace V2 := Lib.hid (V2.out.below hb V2.out.lt)
  replace HX := Lib.hid (HX.out.below hb)
  replace HY := Lib.hid (HY.out.below hb)
  replace ZY := Lib.hid (ZY.out.below hb)
  replace OY := Lib.hid (OY.out.below hb)
  replace V5 := Lib.hid (V5.out.below hb V5.out.lt)
  replace OO := Lib.hid (OO.out.below hb)
  replace B1 := Lib.hid (B1.out.trans (hb.mono B1.out.size))
  rw [if_pos (by rfl)]
  refine wp_stR _ _ rfl (by rfl) (by rfl) V2.out ?_
  intro wst hz hg
  replace V0 := Lib.hid (V0.out.gr hg (by have := L5.out; omega))
  replace V1 := Lib.hid (V1.out.gr hg (by have := L5.out; omega))
  replace HX := Lib.hid (HX.out.grR V2.out hg)
  replace HY := Lib.hid (HY.out.grR V2.out hg)
  replace ZY := Lib.hid (ZY.out.grR V2.out hg)
  replace OY := Lib.hid (OY.out.grR V2.out hg)
  replace V5 := Lib.hid (V5.out.gr hg (by have := L5.out; omega))
  replace OO := Lib.hid (OO.out.grR V2.out hg)
  replace OQ := Lib.hid (OQ.out.grR V2.out hg)
  replace B1 := Lib.hid (Below.gr B1.out (by have := L5.out; omega) hg B1.out.size)
  replace V2 := Lib.hid hz
  refine hK.out _ _ (World.grownBy.trans (grown_below hb) hg) (fun hHeld => ?_)
  clear hK K hg hb HB hz
  try simp only [Act.put]
  skip
  refine wpAnyH_done (by kernel_rfl) ?_ _
  clear hHeld
  go_wp2
  obtain ⟨ea, eb⟩ := ER.out
  subst ea eb
  exact ret_rb Tryz.results64 rfl rfl V2.out ⟨_, _, _, _, rfl, OQ.out, OY.out, B1.out⟩
set_option maxRecDepth 100000 in
set_option maxHeartbeats 16000000 in
theorem rmake_pos {s t : Bool} {A B : Option Addr} {n c m k : Nat} {x y z : Int} {d : Nat} {w : World} (h : Zin w s A n c x) (hn : n ≤ 35184372087808) (h' : Zin w t B m k y) (hm : m ≤ 35184372087808) (hz : (Rat.divInt x y).num = z) (hd : (Rat.divInt x y).den = d) (hy : 1 < y) :
    Calls Tryz.prog 64 #[.agg #[.bool s, .slice A n c], .agg #[.bool t, .slice B m k]] w (GivesR w z d) := by
  obtain ⟨B1, V0, V1, V2⟩ := start_ZZR w s A n c t B m k
  have HX := Lib.hid (h.below B1.out)
  have HY := Lib.hid (h'.below B1.out)
  have lx := Nat.le_trans h.len hn
  have ly := Nat.le_trans h'.len hm
  obtain ⟨q, kq⟩ : ∃ z0 : Int, sg y = z0 := ⟨_, rfl⟩
  have KQ := Lib.hid kq
  have LN := Lib.hid hn
  have LM := Lib.hid hm
  have LN4 : Hid (n ≤ 70368744177664) := Nat.le_trans hn (by decide)
  have LM4 : Hid (m ≤ 70368744177664) := Nat.le_trans hm (by decide)
  have LN7 : Hid (n ≤ 70368744177000) := Nat.le_trans hn (by decide)
  have LM7 : Hid (m ≤ 70368744177000) := Nat.le_trans hm (by decide)
  obtain ⟨y', ey'⟩ : ∃ z0 : Int, y = z0 := ⟨_, rfl⟩
  have EY := Lib.hid ey'
  obtain ⟨dy, edy⟩ : ∃ z0 : Bool, decide (y' < 0) = z0 := ⟨_, rfl⟩
  have EDY := Lib.hid edy
  have hq0 : (q == 0) = false := by rcases sg_cases y with ⟨e, h⟩ | ⟨e, h⟩ | ⟨e, h⟩ <;> simp <;> omega
  have hdy : dy = false := by rw [← edy, ← ey']; simp; omega
  subst hdy
  obtain ⟨gz, egz⟩ : ∃ z0 : Int, ((Int.gcd x y : Nat) : Int) = z0 := ⟨_, rfl⟩
  obtain ⟨n1, en1⟩ : ∃ z0 : Int, x / gz = z0 := ⟨_, rfl⟩
  obtain ⟨d1, ed1⟩ : ∃ z0 : Int, y / gz = z0 := ⟨_, rfl⟩
  obtain ⟨r1, er1⟩ : ∃ z0 : Int, x % gz = z0 := ⟨_, rfl⟩
  obtain ⟨r2, er2⟩ : ∃ z0 : Int, y % gz = z0 := ⟨_, rfl⟩
  obtain ⟨f1, f2, f3, f4, f5, f6⟩ := make_facts (by omega) egz en1 ed1
  obtain ⟨dd, edd⟩ : ∃ z0 : Bool, decide (d1 < 0) = z0 := ⟨_, rfl⟩
  have EGZ := Lib.hid egz
  have EN1 := Lib.hid en1
  have ED1 := Lib.hid ed1
  have ER1 := Lib.hid er1
  have ER2 := Lib.hid er2
  have GN : Hid (gz ≠ 0) := by show _ ≠ _; omega
  have LG : Hid ((ofv gz.natAbs).length ≤ 35184372087808) := Nat.le_trans (len_mono f2) ly
  have hdd : dd = false := by rw [← edd]; have := (f5 (by omega)).2.2; simp; omega
  subst hdd
  have EDD := Lib.hid edd
  have ER : Hid (z = n1 ∧ d = d1.natAbs) := by show _ ∧ _; rw [← hz, ← hd]; exact ⟨(f5 (by omega)).1, (f5 (by omega)).2.1⟩
  have EQ1 : Hid (EqIs y'.natAbs 1 false) := by show decide _ = _; rw [← ey']; simp; omega
  clear egz en1 ed1 er1 er2 f1 f2 f3 f4 f5 f6 edd hy
  clear h h' hn hm hz hd lx ly kq ey' edy
  go_enter Tryz.func64, Tryz.ntmps64
  go_wp2_with fail
  generalize (((w.alloc (.cells #[.bool s, .slice A n c] 27)).alloc (.cells #[.bool t, .slice B m k] 27)).alloc (.cells #[.bool false, .slice none 0 0, .slice none 0 0] 29)) = w2 at *
  have pc0 := Lib.hid trivial
  go_wp2_with (first
    | (clear pc0; go_at_call 37; refine Calls.mono (rsign_k (r := q) HY.out LM4.out KQ.out) ?_; rintro e w3 ⟨rfl, hb⟩; replace V0 := Lib.hid (V0.out.below hb V0.out.lt); replace V1 := Lib.hid (V1.out.below hb V1.out.lt); replace V2 := Lib.hid (V2.out.below hb V2.out.lt); replace HX := Lib.hid (HX.out.below hb); replace HY := Lib.hid (HY.out.below hb); replace B1 := Lib.hid (B1.out.trans (hb.mono B1.out.size)); clear hb; have pc1 := Lib.hid trivial)
    | (clear pc1; refine wpList_ldZ (by rfl) _ rfl (by rfl) V1.out ?_; have pc2 := Lib.hid trivial))
  clear pc2
  refine (rnrm_z (x := y) (z := y') HY.out LM4.out EY.out).mono ?_
  rintro e w4 ⟨PY, cY, rfl, ho, hb⟩
  have SZ0 := Lib.hid B1.out.size
  replace V0 := Lib.hid (V0.out.below hb V0.out.lt)
  replace V1 := Lib.hid (V1.out.below hb V1.out.lt)
  replace V2 := Lib.hid (V2.out.below hb V2.out.lt)
  replace HX := Lib.hid (HX.out.below hb)
  replace HY := Lib.hid (HY.out.below hb)
  replace B1 := Lib.hid (B1.out.trans (hb.mono B1.out.size))
  rw [EDY.out]
  have ZY := Lib.hid (Zo.of_own ho)
  have OY := Lib.hid (ho.mono SZ0.out)
  clear ho hb SZ0
  have L5 : Hid (w.heap.size + 2 < w4.heap.size) := V2.out.lt
  have hb : Below w4.heap.size w4 (w4.alloc (.cells #[.bool false, .slice PY (ofv y'.natAbs).length cY] 27)) := (Below.refl _ _).alloc (Nat.le_refl _) _
  replace V0 := Lib.hid (V0.out.below hb V0.out.lt)
  replace V1 := Lib.hid (V1.out.below hb V1.out.lt)
  replace V2 := Lib.hid (V2.out.below hb V2.out.lt)
  replace HX := Lib.hid (HX.out.below hb)
  replace HY := Lib.hid (HY.out.below hb)
  replace ZY := Lib.hid (ZY.out.below hb)
  replace OY := Lib.hid (OY.out.below hb)
  replace B1 := Lib.hid (B1.out.trans (hb.mono B1.out.size))
  clear hb
  have V5 := Lib.hid (Zb.new w4 false PY (ofv y'.natAbs).length cY)
  have pc0 := Lib.hid trivial
  go_wp2_with (first
    | (clear pc0; have oo := own_one (w4.alloc (.cells #[.bool false, .slice PY (ofv y'.natAbs).length cY] 27)) 0 (Nat.zero_le _); simp only [World.size_alloc] at oo; have OO := Lib.hid oo; clear oo; have hb : Below (w4.alloc (.cells #[.bool false, .slice PY (ofv y'.natAbs).length cY] 27)).heap.size (w4.alloc (.cells #[.bool false, .slice PY (ofv y'.natAbs).length cY] 27)) ((w4.alloc (.cells #[.bool false, .slice PY (ofv y'.natAbs).length cY] 27)).alloc (.cells #[.int .u32 1] 118)) := (Below.refl _ _).alloc (Nat.le_refl _) _; replace V0 := Lib.hid (V0.out.below hb V0.out.lt); replace V1 := Lib.hid (V1.out.below hb V1.out.lt); replace V2 := Lib.hid (V2.out.below hb V2.out.lt); replace HX := Lib.hid (HX.out.below hb); replace HY := Lib.hid (HY.out.below hb); replace ZY := Lib.hid (ZY.out.below hb); replace OY := Lib.hid (OY.out.below hb); replace V5 := Lib.hid (V5.out.below hb V5.out.lt); replace B1 := Lib.hid (B1.out.trans (hb.mono B1.out.size)); clear hb; go_at_call 58; refine Calls.mono (equal_d ZY.out OO.out.rd rfl len_one EQ1.out) ?_; rintro e w5 ⟨rfl, hb⟩; replace V0 := Lib.hid (V0.out.below hb V0.out.lt); replace V1 := Lib.hid (V1.out.below hb V1.out.lt); replace V2 := Lib.hid (V2.out.below hb V2.out.lt); replace HX := Lib.hid (HX.out.below hb); replace HY := Lib.hid (HY.out.below hb); replace ZY := Lib.hid (ZY.out.below hb); replace OY := Lib.hid (OY.out.below hb); replace V5 := Lib.hid (V5.out.below hb V5.out.lt); replace OO := Lib.hid (OO.out.below hb); replace B1 := Lib.hid (B1.out.trans (hb.mono B1.out.size)); clear hb; have pc1 := Lib.hid trivial)
    | (clear pc1; refine wpList_ldZ (by rfl) _ rfl (by rfl) V0.out ?_; have pc2 := Lib.hid trivial)
    | (clear pc2; refine wpList_ldZ (by rfl) _ rfl (by rfl) V1.out ?_; have pc3 := Lib.hid trivial))
  clear pc3
  refine (rgcd_z (x := x) (y := y) (z := gz) HX.out HY.out LN7.out LM7.out EGZ.out).mono ?_
  rintro e w6 ⟨PG, cG, rfl, ho, hb⟩
  replace V0 := Lib.hid (V0.out.below hb V0.out.lt)
  replace V1 := Lib.hid (V1.out.below hb V1.out.lt)
  replace V2 := Lib.hid (V2.out.below hb V2.out.lt)
  replace HX := Lib.hid (HX.out.below hb)
  replace HY := Lib.hid (HY.out.below hb)
  replace ZY := Lib.hid (ZY.out.below hb)
  replace OY := Lib.hid (OY.out.below hb)
  replace V5 := Lib.hid (V5.out.below hb V5.out.lt)
  replace OO := Lib.hid (OO.out.below hb)
  replace B1 := Lib.hid (B1.out.trans (hb.mono B1.out.size))
  have ZG := Lib.hid (Zo.of_own ho)
  clear ho hb
  have L6 : Hid (w.heap.size + 2 < w6.heap.size ∧ w4.heap.size < w6.heap.size) := ⟨V2.out.lt, V5.out.lt⟩
  have hb : Below w6.heap.size w6 (w6.alloc (.cells #[.bool (decide (gz < 0)), .slice PG (ofv gz.natAbs).length cG] 27)) := (Below.refl _ _).alloc (Nat.le_refl _) _
  replace V0 := Lib.hid (V0.out.below hb V0.out.lt)
  replace V1 := Lib.hid (V1.out.below hb V1.out.lt)
  replace V2 := Lib.hid (V2.out.below hb V2.out.lt)
  replace HX := Lib.hid (HX.out.below hb)
  replace HY := Lib.hid (HY.out.below hb)
  replace ZY := Lib.hid (ZY.out.below hb)
  replace OY := Lib.hid (OY.out.below hb)
  replace V5 := Lib.hid (V5.out.below hb V5.out.lt)
  replace OO := Lib.hid (OO.out.below hb)
  replace ZG := Lib.hid (ZG.out.below hb)
  replace B1 := Lib.hid (B1.out.trans (hb.mono B1.out.size))
  clear hb
  have V6 := Lib.hid (Zb.new w6 (decide (gz < 0)) PG (ofv gz.natAbs).length cG)
  have pc0 := Lib.hid trivial
  go_wp2_with (first
    | (clear pc0; refine wpList_ldZ (by rfl) _ rfl (by rfl) V0.out ?_; have pc1 := Lib.hid trivial)
    | (clear pc1; refine wpList_ldZ (by rfl) _ rfl (by rfl) V6.out ?_; have pc2 := Lib.hid trivial))
  clear pc2
  refine (rdm_z (x := x) (y := gz) (q := n1) (r := r1) HX.out ZG.out.in_ LN.out LG.out GN.out EN1.out ER1.out).mono ?_
  have SZ1 := Lib.hid B1.out.size
  rintro e w7 ⟨P1, c1, P2, c2, rfl, ho, ho2, hb⟩
  replace V0 := Lib.hid (V0.out.below hb V0.out.lt)
  replace V1 := Lib.hid (V1.out.below hb V1.out.lt)
  replace V2 := Lib.hid (V2.out.below hb V2.out.lt)
  replace HX := Lib.hid (HX.out.below hb)
  replace HY := Lib.hid (HY.out.below hb)
  replace ZY := Lib.hid (ZY.out.below hb)
  replace OY := Lib.hid (OY.out.below hb)
  replace V5 := Lib.hid (V5.out.below hb V5.out.lt)
  replace OO := Lib.hid (OO.out.below hb)
  replace ZG := Lib.hid (ZG.out.below hb)
  replace V6 := Lib.hid (V6.out.below hb V6.out.lt)
  replace B1 := Lib.hid (B1.out.trans (hb.mono B1.out.size))
  have O1 := Lib.hid (ho.mono SZ1.out)
  clear ho ho2 hb SZ1
  have L7 : Hid (w.heap.size + 2 < w7.heap.size ∧ w6.heap.size < w7.heap.size) := ⟨V2.out.lt, V6.out.lt⟩
  have hb : Below w7.heap.size w7 (w7.alloc (.cells #[.bool (decide (n1 < 0)), .slice P1 (ofv n1.natAbs).length c1] 27)) := (Below.refl _ _).alloc (Nat.le_refl _) _
  replace V0 := Lib.hid (V0.out.below hb V0.out.lt)
  replace V1 := Lib.hid (V1.out.below hb V1.out.lt)
  replace V2 := Lib.hid (V2.out.below hb V2.out.lt)
  replace HX := Lib.hid (HX.out.below hb)
  replace HY := Lib.hid (HY.out.below hb)
  replace ZY := Lib.hid (ZY.out.below hb)
  replace OY := Lib.hid (OY.out.below hb)
  replace V5 := Lib.hid (V5.out.below hb V5.out.lt)
  replace OO := Lib.hid (OO.out.below hb)
  replace ZG := Lib.hid (ZG.out.below hb)
  replace V6 := Lib.hid (V6.out.below hb V6.out.lt)
  replace O1 := Lib.hid (O1.out.below hb)
  replace B1 := Lib.hid (B1.out.trans (hb.mono B1.out.size))
  clear hb
  have V7 := Lib.hid (Zb.new w7 (decide (n1 < 0)) P1 (ofv n1.natAbs).length c1)
  have hb : Below (w7.alloc (.cells #[.bool (decide (n1 < 0)), .slice P1 (ofv n1.natAbs).length c1] 27)).heap.size (w7.alloc (.cells #[.bool (decide (n1 < 0)), .slice P1 (ofv n1.natAbs).length c1] 27)) ((w7.alloc (.cells #[.bool (decide (n1 < 0)), .slice P1 (ofv n1.natAbs).length c1] 27)).alloc (.cells #[.bool (decide (r1 < 0)), .slice P2 (ofv r1.natAbs).length c2] 27)) := (Below.refl _ _).alloc (Nat.le_refl _) _
  replace V0 := Lib.hid (V0.out.below hb V0.out.lt)
  replace V1 := Lib.hid (V1.out.below hb V1.out.lt)
  replace V2 := Lib.hid (V2.out.below hb V2.out.lt)
  replace HX := Lib.hid (HX.out.below hb)
  replace HY := Lib.hid (HY.out.below hb)
  replace ZY := Lib.hid (ZY.out.below hb)
  replace OY := Lib.hid (OY.out.below hb)
  replace V5 := Lib.hid (V5.out.below hb V5.out.lt)
  replace OO := Lib.hid (OO.out.below hb)
  replace ZG := Lib.hid (ZG.out.below hb)
  replace V6 := Lib.hid (V6.out.below hb V6.out.lt)
  replace O1 := Lib.hid (O1.out.below hb)
  replace V7 := Lib.hid (V7.out.below hb V7.out.lt)
  replace B1 := Lib.hid (B1.out.trans (hb.mono B1.out.size))
  clear hb
  have pc0 := Lib.hid trivial
  go_wp2_with (first
    | (clear pc0; refine wpList_ldZ (by rfl) _ rfl (by rfl) V1.out ?_; have pc1 := Lib.hid trivial)
    | (clear pc1; refine wpList_ldZ (by rfl) _ rfl (by rfl) V6.out ?_; have pc2 := Lib.hid trivial))
  clear pc2
  refine (rdm_z (x := y) (y := gz) (q := d1) (r := r2) HY.out ZG.out.in_ LM.out LG.out GN.out ED1.out ER2.out).mono ?_
  have SZ1 := Lib.hid B1.out.size
  rintro e w8 ⟨P3, c3, P4, c4, rfl, ho, ho2, hb⟩
  replace V0 := Lib.hid (V0.out.below hb V0.out.lt)
  replace V1 := Lib.hid (V1.out.below hb V1.out.lt)
  replace V2 := Lib.hid (V2.out.below hb V2.out.lt)
  replace HX := Lib.hid (HX.out.below hb)
  replace HY := Lib.hid (HY.out.below hb)
  replace ZY := Lib.hid (ZY.out.below hb)
  replace OY := Lib.hid (OY.out.below hb)
  replace V5 := Lib.hid (V5.out.below hb V5.out.lt)
  replace OO := Lib.hid (OO.out.below hb)
  replace ZG := Lib.hid (ZG.out.below hb)
  replace V6 := Lib.hid (V6.out.below hb V6.out.lt)
  replace O1 := Lib.hid (O1.out.below hb)
  replace V7 := Lib.hid (V7.out.below hb V7.out.lt)
  replace B1 := Lib.hid (B1.out.trans (hb.mono B1.out.size))
  rw [EDD.out]
  have O2 := Lib.hid (ho.mono SZ1.out)
  clear ho ho2 hb SZ1
  have L8 : Hid (w.heap.size + 2 < w8.heap.size ∧ w6.heap.size < w8.heap.size ∧ w7.heap.size < w8.heap.size) := ⟨V2.out.lt, V6.out.lt, V7.out.lt⟩
  have hb : Below w8.heap.size w8 (w8.alloc (.cells #[.bool false, .slice P3 (ofv d1.natAbs).length c3] 27)) := (Below.refl _ _).alloc (Nat.le_refl _) _
  replace V0 := Lib.hid (V0.out.below hb V0.out.lt)
  replace V1 := Lib.hid (V1.out.below hb V1.out.lt)
  replace V2 := Lib.hid (V2.out.below hb V2.out.lt)
  replace HX := Lib.hid (HX.out.below hb)
  replace HY := Lib.hid (HY.out.below hb)
  replace ZY := Lib.hid (ZY.out.below hb)
  replace OY := Lib.hid (OY.out.below hb)
  replace V5 := Lib.hid (V5.out.below hb V5.out.lt)
  replace OO := Lib.hid (OO.out.below hb)
  replace ZG := Lib.hid (ZG.out.below hb)
  replace V6 := Lib.hid (V6.out.below hb V6.out.lt)
  replace O1 := Lib.hid (O1.out.below hb)
  replace V7 := Lib.hid (V7.out.below hb V7.out.lt)
  replace O2 := Lib.hid (O2.out.below hb)
  replace B1 := Lib.hid (B1.out.trans (hb.mono B1.out.size))
  clear hb
  have V8 := Lib.hid (Zb.new w8 false P3 (ofv d1.natAbs).length c3)
  have hb : Below (w8.alloc (.cells #[.bool false, .slice P3 (ofv d1.natAbs).length c3] 27)).heap.size (w8.alloc (.cells #[.bool false, .slice P3 (ofv d1.natAbs).length c3] 27)) ((w8.alloc (.cells #[.bool false, .slice P3 (ofv d1.natAbs).length c3] 27)).alloc (.cells #[.bool (decide (r2 < 0)), .slice P4 (ofv r2.natAbs).length c4] 27)) := (Below.refl _ _).alloc (Nat.le_refl _) _
  replace V0 := Lib.hid (V0.out.below hb V0.out.lt)
  replace V1 := Lib.hid (V1.out.below hb V1.out.lt)
  replace V2 := Lib.hid (V2.out.below hb V2.out.lt)
  replace HX := Lib.hid (HX.out.below hb)
  replace HY := Lib.hid (HY.out.below hb)
  replace ZY := Lib.hid (ZY.out.below hb)
  replace OY := Lib.hid (OY.out.below hb)
  replace V5 := Lib.hid (V5.out.below hb V5.out.lt)
  replace OO := Lib.hid (OO.out.below hb)
  replace ZG := Lib.hid (ZG.out.below hb)
  replace V6 := Lib.hid (V6.out.below hb V6.out.lt)
  replace O1 := Lib.hid (O1.out.below hb)
  replace V7 := Lib.hid (V7.out.below hb V7.out.lt)
  replace O2 := Lib.hid (O2.out.below hb)
  replace V8 := Lib.hid (V8.out.below hb V8.out.lt)
  replace B1 := Lib.hid (B1.out.trans (hb.mono B1.out.size))
  clear hb
  have pc0 := Lib.hid trivial
  go_wp2_with (first
    | (clear pc0; refine wpList_ldZ (by rfl) _ rfl (by rfl) V7.out ?_; have pc1 := Lib.hid trivial)
    | (clear pc1; refine wpList_ldZm (by rfl) _ rfl (by rfl) V8.out ?_; have pc2 := Lib.hid trivial)
    | (clear pc2; refine wpList_stR (by rfl) _ _ rfl (by rfl) (by rfl) V2.out ?_; intro we hz hg; replace V0 := Lib.hid (V0.out.gr hg (by have := L5.out; have := L6.out; have := L7.out; have := L8.out; omega)); replace V1 := Lib.hid (V1.out.gr hg (by have := L5.out; have := L6.out; have := L7.out; have := L8.out; omega)); replace HX := Lib.hid (HX.out.grR V2.out hg); replace HY := Lib.hid (HY.out.grR V2.out hg); replace ZY := Lib.hid (ZY.out.grR V2.out hg); replace OY := Lib.hid (OY.out.grR V2.out hg); replace V5 := Lib.hid (V5.out.gr hg (by have := L5.out; have := L6.out; have := L7.out; have := L8.out; omega)); replace OO := Lib.hid (OO.out.grR V2.out hg); replace ZG := Lib.hid (ZG.out.grR V2.out hg); replace V6 := Lib.hid (V6.out.gr hg (by have := L5.out; have := L6.out; have := L7.out; have := L8.out; omega)); replace O1 := Lib.hid (O1.out.grR V2.out hg); replace V7 := Lib.hid (V7.out.gr hg (by have := L5.out; have := L6.out; have := L7.out; have := L8.out; omega)); replace O2 := Lib.hid (O2.out.grR V2.out hg); replace V8 := Lib.hid (V8.out.gr hg (by have := L5.out; have := L6.out; have := L7.out; have := L8.out; omega)); replace B1 := Lib.hid (Below.gr B1.out (by have := L5.out; have := L6.out; have := L7.out; have := L8.out; omega) hg B1.out.size); replace V2 := Lib.hid hz; clear hz hg; have pc3 := Lib.hid trivial))
  clear pc3
  obtain ⟨ea, eb⟩ := ER.out
  subst ea eb
  exact ret_rb Tryz.results64 rfl rfl V2.out ⟨_, _, _, _, rfl, O1.out, O2.out, B1.out⟩
set_option maxRecDepth 100000 in
set_option maxHeartbeats 16000000 in
theorem rmake_neg {s t : Bool} {A B : Option Addr} {n c m k : Nat} {x y z : Int} {d : Nat} {w : World} (h : Zin w s A n c x) (hn : n ≤ 35184372087808) (h' : Zin w t B m k y) (hm : m ≤ 35184372087808) (hz : (Rat.divInt x y).num = z) (hd : (Rat.divInt x y).den = d) (hy : y < 0) :
    Calls Tryz.prog 64 #[.agg #[.bool s, .slice A n c], .agg #[.bool t, .slice B m k]] w (GivesR w z d) := by
  obtain ⟨B1, V0, V1, V2⟩ := start_ZZR w s A n c t B m k
  have HX := Lib.hid (h.below B1.out)
  have HY := Lib.hid (h'.below B1.out)
  have lx := Nat.le_trans h.len hn
  have ly := Nat.le_trans h'.len hm
  obtain ⟨q, kq⟩ : ∃ z0 : Int, sg y = z0 := ⟨_, rfl⟩
  have KQ := Lib.hid kq
  have LN := Lib.hid hn
  have LM := Lib.hid hm
  have LN4 : Hid (n ≤ 70368744177664) := Nat.le_trans hn (by decide)
  have LM4 : Hid (m ≤ 70368744177664) := Nat.le_trans hm (by decide)
  have LN7 : Hid (n ≤ 70368744177000) := Nat.le_trans hn (by decide)
  have LM7 : Hid (m ≤ 70368744177000) := Nat.le_trans hm (by decide)
  obtain ⟨y', ey'⟩ : ∃ z0 : Int, y = z0 := ⟨_, rfl⟩
  have EY := Lib.hid ey'
  obtain ⟨dy, edy⟩ : ∃ z0 : Bool, decide (y' < 0) = z0 := ⟨_, rfl⟩
  have EDY := Lib.hid edy
  have hq0 : (q == 0) = false := by rcases sg_cases y with ⟨e, h⟩ | ⟨e, h⟩ | ⟨e, h⟩ <;> simp <;> omega
  have hdy : dy = true := by rw [← edy, ← ey']; simp; omega
  subst hdy
  obtain ⟨gz, egz⟩ : ∃ z0 : Int, ((Int.gcd x y : Nat) : Int) = z0 := ⟨_, rfl⟩
  obtain ⟨n1, en1⟩ : ∃ z0 : Int, x / gz = z0 := ⟨_, rfl⟩
  obtain ⟨d1, ed1⟩ : ∃ z0 : Int, y / gz = z0 := ⟨_, rfl⟩
  obtain ⟨r1, er1⟩ : ∃ z0 : Int, x % gz = z0 := ⟨_, rfl⟩
  obtain ⟨r2, er2⟩ : ∃ z0 : Int, y % gz = z0 := ⟨_, rfl⟩
  obtain ⟨f1, f2, f3, f4, f5, f6⟩ := make_facts (by omega) egz en1 ed1
  obtain ⟨dd, edd⟩ : ∃ z0 : Bool, decide (d1 < 0) = z0 := ⟨_, rfl⟩
  have EGZ := Lib.hid egz
  have EN1 := Lib.hid en1
  have ED1 := Lib.hid ed1
  have ER1 := Lib.hid er1
  have ER2 := Lib.hid er2
  have GN : Hid (gz ≠ 0) := by show _ ≠ _; omega
  have LG : Hid ((ofv gz.natAbs).length ≤ 35184372087808) := Nat.le_trans (len_mono f2) ly
  obtain ⟨nn, enn⟩ : ∃ z0 : Int, -n1 = z0 := ⟨_, rfl⟩
  obtain ⟨nd, end_⟩ : ∃ z0 : Int, -d1 = z0 := ⟨_, rfl⟩
  have ENN := Lib.hid enn
  have END := Lib.hid end_
  have LN1 : Hid ((ofv n1.natAbs).length ≤ 70368744177664) := Nat.le_trans (len_mono f3) (Nat.le_trans lx (by decide))
  have LD1 : Hid ((ofv d1.natAbs).length ≤ 70368744177664) := Nat.le_trans (len_mono f4) (Nat.le_trans ly (by decide))
  have hdd : dd = true := by rw [← edd]; simpa using (f6 hy).2.2
  subst hdd
  have EDD := Lib.hid edd
  have ER : Hid (z = nn ∧ d = nd.natAbs) := by show _ ∧ _; rw [← hz, ← hd, ← enn, ← end_]; exact ⟨(f6 hy).1, (f6 hy).2.1⟩
  clear egz en1 ed1 er1 er2 f1 f2 f3 f4 f5 f6 enn end_ edd hy
  clear h h' hn hm hz hd lx ly kq ey' edy
  go_enter Tryz.func64, Tryz.ntmps64
  go_wp2_with fail
  generalize (((w.alloc (.cells #[.bool s, .slice A n c] 27)).alloc (.cells #[.bool t, .slice B m k] 27)).alloc (.cells #[.bool false, .slice none 0 0, .slice none 0 0] 29)) = w2 at *
  have pc0 := Lib.hid trivial
  go_wp2_with (first
    | (clear pc0; go_at_call 37; refine Calls.mono (rsign_k (r := q) HY.out LM4.out KQ.out) ?_; rintro e w3 ⟨rfl, hb⟩; replace V0 := Lib.hid (V0.out.below hb V0.out.lt); replace V1 := Lib.hid (V1.out.below hb V1.out.lt); replace V2 := Lib.hid (V2.out.below hb V2.out.lt); replace HX := Lib.hid (HX.out.below hb); replace HY := Lib.hid (HY.out.below hb); replace B1 := Lib.hid (B1.out.trans (hb.mono B1.out.size)); clear hb; have pc1 := Lib.hid trivial)
    | (clear pc1; refine wpList_ldZ (by rfl) _ rfl (by rfl) V1.out ?_; have pc2 := Lib.hid trivial))
  clear pc2
  refine (rnrm_z (x := y) (z := y') HY.out LM4.out EY.out).mono ?_
  rintro e w4 ⟨PY, cY, rfl, ho, hb⟩
  have SZ0 := Lib.hid B1.out.size
  replace V0 := Lib.hid (V0.out.below hb V0.out.lt)
  replace V1 := Lib.hid (V1.out.below hb V1.out.lt)
  replace V2 := Lib.hid (V2.out.below hb V2.out.lt)
  replace HX := Lib.hid (HX.out.below hb)
  replace HY := Lib.hid (HY.out.below hb)
  replace B1 := Lib.hid (B1.out.trans (hb.mono B1.out.size))
  rw [EDY.out]
  have ZY := Lib.hid (Zo.of_own ho)
  have OY := Lib.hid (ho.mono SZ0.out)
  clear ho hb SZ0
  have L5 : Hid (w.heap.size + 2 < w4.heap.size) := V2.out.lt
  have hb : Below w4.heap.size w4 (w4.alloc (.cells #[.bool true, .slice PY (ofv y'.natAbs).length cY] 27)) := (Below.refl _ _).alloc (Nat.le_refl _) _
  replace V0 := Lib.hid (V0.out.below hb V0.out.lt)
  replace V1 := Lib.hid (V1.out.below hb V1.out.lt)
  replace V2 := Lib.hid (V2.out.below hb V2.out.lt)
  replace HX := Lib.hid (HX.out.below hb)
  replace HY := Lib.hid (HY.out.below hb)
  replace ZY := Lib.hid (ZY.out.below hb)
  replace OY := Lib.hid (OY.out.below hb)
  replace B1 := Lib.hid (B1.out.trans (hb.mono B1.out.size))
  clear hb
  have V5 := Lib.hid (Zb.new w4 true PY (ofv y'.natAbs).length cY)
  have pc0 := Lib.hid trivial
  go_wp2_with (first
    | (clear pc0; refine wpList_ldZ (by rfl) _ rfl (by rfl) V0.out ?_; have pc1 := Lib.hid trivial)
    | (clear pc1; refine wpList_ldZ (by rfl) _ rfl (by rfl) V1.out ?_; have pc2 := Lib.hid trivial))
  clear pc2
  refine (rgcd_z (x := x) (y := y) (z := gz) HX.out HY.out LN7.out LM7.out EGZ.out).mono ?_
  rintro e w6 ⟨PG, cG, rfl, ho, hb⟩
  replace V0 := Lib.hid (V0.out.below hb V0.out.lt)
  replace V1 := Lib.hid (V1.out.below hb V1.out.lt)
  replace V2 := Lib.hid (V2.out.below hb V2.out.lt)
  replace HX := Lib.hid (HX.out.below hb)
  replace HY := Lib.hid (HY.out.below hb)
  replace ZY := Lib.hid (ZY.out.below hb)
  replace OY := Lib.hid (OY.out.below hb)
  replace V5 := Lib.hid (V5.out.below hb V5.out.lt)
  replace B1 := Lib.hid (B1.out.trans (hb.mono B1.out.size))
  have ZG := Lib.hid (Zo.of_own ho)
  clear ho hb
  have L6 : Hid (w.heap.size + 2 < w6.heap.size ∧ w4.heap.size < w6.heap.size) := ⟨V2.out.lt, V5.out.lt⟩
  have hb : Below w6.heap.size w6 (w6.alloc (.cells #[.bool (decide (gz < 0)), .slice PG (ofv gz.natAbs).length cG] 27)) := (Below.refl _ _).alloc (Nat.le_refl _) _
  replace V0 := Lib.hid (V0.out.below hb V0.out.lt)
  replace V1 := Lib.hid (V1.out.below hb V1.out.lt)
  replace V2 := Lib.hid (V2.out.below hb V2.out.lt)
  replace HX := Lib.hid (HX.out.below hb)
  replace HY := Lib.hid (HY.out.below hb)
  replace ZY := Lib.hid (ZY.out.below hb)
  replace OY := Lib.hid (OY.out.below hb)
  replace V5 := Lib.hid (V5.out.below hb V5.out.lt)
  replace ZG := Lib.hid (ZG.out.below hb)
  replace B1 := Lib.hid (B1.out.trans (hb.mono B1.out.size))
  clear hb
  have V6 := Lib.hid (Zb.new w6 (decide (gz < 0)) PG (ofv gz.natAbs).length cG)
  have pc0 := Lib.hid trivial
  go_wp2_with (first
    | (clear pc0; refine wpList_ldZ (by rfl) _ rfl (by rfl) V0.out ?_; have pc1 := Lib.hid trivial)
    | (clear pc1; refine wpList_ldZ (by rfl) _ rfl (by rfl) V6.out ?_; have pc2 := Lib.hid trivial))
  clear pc2
  refine (rdm_z (x := x) (y := gz) (q := n1) (r := r1) HX.out ZG.out.in_ LN.out LG.out GN.out EN1.out ER1.out).mono ?_
  have SZ1 := Lib.hid B1.out.size
  rintro e w7 ⟨P1, c1, P2, c2, rfl, ho, ho2, hb⟩
  replace V0 := Lib.hid (V0.out.below hb V0.out.lt)
  replace V1 := Lib.hid (V1.out.below hb V1.out.lt)
  replace V2 := Lib.hid (V2.out.below hb V2.out.lt)
  replace HX := Lib.hid (HX.out.below hb)
  replace HY := Lib.hid (HY.out.below hb)
  replace ZY := Lib.hid (ZY.out.below hb)
  replace OY := Lib.hid (OY.out.below hb)
  replace V5 := Lib.hid (V5.out.below hb V5.out.lt)
  replace ZG := Lib.hid (ZG.out.below hb)
  replace V6 := Lib.hid (V6.out.below hb V6.out.lt)
  replace B1 := Lib.hid (B1.out.trans (hb.mono B1.out.size))
  have O1 := Lib.hid (ho.mono SZ1.out)
  clear ho ho2 hb SZ1
  have L7 : Hid (w.heap.size + 2 < w7.heap.size ∧ w6.heap.size < w7.heap.size) := ⟨V2.out.lt, V6.out.lt⟩
  have hb : Below w7.heap.size w7 (w7.alloc (.cells #[.bool (decide (n1 < 0)), .slice P1 (ofv n1.natAbs).length c1] 27)) := (Below.refl _ _).alloc (Nat.le_refl _) _
  replace V0 := Lib.hid (V0.out.below hb V0.out.lt)
  replace V1 := Lib.hid (V1.out.below hb V1.out.lt)
  replace V2 := Lib.hid (V2.out.below hb V2.out.lt)
  replace HX := Lib.hid (HX.out.below hb)
  replace HY := Lib.hid (HY.out.below hb)
  replace ZY := Lib.hid (ZY.out.below hb)
  replace OY := Lib.hid (OY.out.below hb)
  replace V5 := Lib.hid (V5.out.below hb V5.out.lt)
  replace ZG := Lib.hid (ZG.out.below hb)
  replace V6 := Lib.hid (V6.out.below hb V6.out.lt)
  replace O1 := Lib.hid (O1.out.below hb)
  replace B1 := Lib.hid (B1.out.trans (hb.mono B1.out.size))
  clear hb
  have V7 := Lib.hid (Zb.new w7 (decide (n1 < 0)) P1 (ofv n1.natAbs).length c1)
  have hb : Below (w7.alloc (.cells #[.bool (decide (n1 < 0)), .slice P1 (ofv n1.natAbs).length c1] 27)).heap.size (w7.alloc (.cells #[.bool (decide (n1 < 0)), .slice P1 (ofv n1.natAbs).length c1] 27)) ((w7.alloc (.cells #[.bool (decide (n1 < 0)), .slice P1 (ofv n1.natAbs).length c1] 27)).alloc (.cells #[.bool (decide (r1 < 0)), .slice P2 (ofv r1.natAbs).length c2] 27)) := (Below.refl _ _).alloc (Nat.le_refl _) _
  replace V0 := Lib.hid (V0.out.below hb V0.out.lt)
  replace V1 := Lib.hid (V1.out.below hb V1.out.lt)
  replace V2 := Lib.hid (V2.out.below hb V2.out.lt)
  replace HX := Lib.hid (HX.out.below hb)
  replace HY := Lib.hid (HY.out.below hb)
  replace ZY := Lib.hid (ZY.out.below hb)
  replace OY := Lib.hid (OY.out.below hb)
  replace V5 := Lib.hid (V5.out.below hb V5.out.lt)
  replace ZG := Lib.hid (ZG.out.below hb)
  replace V6 := Lib.hid (V6.out.below hb V6.out.lt)
  replace O1 := Lib.hid (O1.out.below hb)
  replace V7 := Lib.hid (V7.out.below hb V7.out.lt)
  replace B1 := Lib.hid (B1.out.trans (hb.mono B1.out.size))
  clear hb
  have pc0 := Lib.hid trivial
  go_wp2_with (first
    | (clear pc0; refine wpList_ldZ (by rfl) _ rfl (by rfl) V1.out ?_; have pc1 := Lib.hid trivial)
    | (clear pc1; refine wpList_ldZ (by rfl) _ rfl (by rfl) V6.out ?_; have pc2 := Lib.hid trivial))
  clear pc2
  refine (rdm_z (x := y) (y := gz) (q := d1) (r := r2) HY.out ZG.out.in_ LM.out LG.out GN.out ED1.out ER2.out).mono ?_
  have SZ1 := Lib.hid B1.out.size
  rintro e w8 ⟨P3, c3, P4, c4, rfl, ho, ho2, hb⟩
  replace V0 := Lib.hid (V0.out.below hb V0.out.lt)
  replace V1 := Lib.hid (V1.out.below hb V1.out.lt)
  replace V2 := Lib.hid (V2.out.below hb V2.out.lt)
  replace HX := Lib.hid (HX.out.below hb)
  replace HY := Lib.hid (HY.out.below hb)
  replace ZY := Lib.hid (ZY.out.below hb)
  replace OY := Lib.hid (OY.out.below hb)
  replace V5 := Lib.hid (V5.out.below hb V5.out.lt)
  replace ZG := Lib.hid (ZG.out.below hb)
  replace V6 := Lib.hid (V6.out.below hb V6.out.lt)
  replace O1 := Lib.hid (O1.out.below hb)
  replace V7 := Lib.hid (V7.out.below hb V7.out.lt)
  replace B1 := Lib.hid (B1.out.trans (hb.mono B1.out.size))
  rw [EDD.out]
  have O2 := Lib.hid (ho.mono SZ1.out)
  clear ho ho2 hb SZ1
  have L8 : Hid (w.heap.size + 2 < w8.heap.size ∧ w6.heap.size < w8.heap.size ∧ w7.heap.size < w8.heap.size) := ⟨V2.out.lt, V6.out.lt, V7.out.lt⟩
  have hb : Below w8.heap.size w8 (w8.alloc (.cells #[.bool true, .slice P3 (ofv d1.natAbs).length c3] 27)) := (Below.refl _ _).alloc (Nat.le_refl _) _
  replace V0 := Lib.hid (V0.out.below hb V0.out.lt)
  replace V1 := Lib.hid (V1.out.below hb V1.out.lt)
  replace V2 := Lib.hid (V2.out.below hb V2.out.lt)
  replace HX := Lib.hid (HX.out.below hb)
  replace HY := Lib.hid (HY.out.below hb)
  replace ZY := Lib.hid (ZY.out.below hb)
  replace OY := Lib.hid (OY.out.below hb)
  replace V5 := Lib.hid (V5.out.below hb V5.out.lt)
  replace ZG := Lib.hid (ZG.out.below hb)
  replace V6 := Lib.hid (V6.out.below hb V6.out.lt)
  replace O1 := Lib.hid (O1.out.below hb)
  replace V7 := Lib.hid (V7.out.below hb V7.out.lt)
  replace O2 := Lib.hid (O2.out.below hb)
  replace B1 := Lib.hid (B1.out.trans (hb.mono B1.out.size))
  clear hb
  have V8 := Lib.hid (Zb.new w8 true P3 (ofv d1.natAbs).length c3)
  have hb : Below (w8.alloc (.cells #[.bool true, .slice P3 (ofv d1.natAbs).length c3] 27)).heap.size (w8.alloc (.cells #[.bool true, .slice P3 (ofv d1.natAbs).length c3] 27)) ((w8.alloc (.cells #[.bool true, .slice P3 (ofv d1.natAbs).length c3] 27)).alloc (.cells #[.bool (decide (r2 < 0)), .slice P4 (ofv r2.natAbs).length c4] 27)) := (Below.refl _ _).alloc (Nat.le_refl _) _
  replace V0 := Lib.hid (V0.out.below hb V0.out.lt)
  replace V1 := Lib.hid (V1.out.below hb V1.out.lt)
  replace V2 := Lib.hid (V2.out.below hb V2.out.lt)
  replace HX := Lib.hid (HX.out.below hb)
  replace HY := Lib.hid (HY.out.below hb)
  replace ZY := Lib.hid (ZY.out.below hb)
  replace OY := Lib.hid (OY.out.below hb)
  replace V5 := Lib.hid (V5.out.below hb V5.out.lt)
  replace ZG := Lib.hid (ZG.out.below hb)
  replace V6 := Lib.hid (V6.out.below hb V6.out.lt)
  replace O1 := Lib.hid (O1.out.below hb)
  replace V7 := Lib.hid (V7.out.below hb V7.out.lt)
  replace O2 := Lib.hid (O2.out.below hb)
  replace V8 := Lib.hid (V8.out.below hb V8.out.lt)
  replace B1 := Lib.hid (B1.out.trans (hb.mono B1.out.size))
  clear hb
  go_wp2_with fail
  generalize ((w8.alloc (.cells #[.bool true, .slice P3 (ofv d1.natAbs).length c3] 27)).alloc (.cells #[.bool (decide (r2 < 0)), .slice P4 (ofv r2.natAbs).length c4] 27)) = w9 at *
  have HB : Hid (Below w9.heap.size w9 w9.drew) := below_drewN _ w9 1
  have hHeld := HB.out
  refine wp_region_held_split (S := fun w' => Below w9.heap.size w9 w') 4 (by kernel_rfl) (by kernel_rfl) ?_
  simp only [List.take_succ_cons, List.take_zero, List.drop_succ_cons, List.drop_zero]
  refine wpAnyH_takeL (i := 0) (oi := _) rfl (by kernel_rfl) (by kernel_rfl) (by kernel_rfl) (fun _ _ _ h => h) (yields_ldZ (by rfl) _ rfl (by rfl) (fun _ hb => V7.out.below hb V7.out.lt)) hHeld ?_
  try simp only [Act.put, List.setIfInBounds_toArray, List.set_cons_zero, List.set_cons_succ]
  refine wpAnyH_takeL (i := 2) (oi := _) rfl (by kernel_rfl) (by kernel_rfl) (by kernel_rfl) (fun _ _ _ h => h) (yields_ldZ (by rfl) _ rfl (by rfl) (fun _ hb => V8.out.below hb V8.out.lt)) hHeld ?_
  try simp only [Act.put, List.setIfInBounds_toArray, List.set_cons_zero, List.set_cons_succ]
  refine wpAnyH_ready (rs := [1]) (by kernel_rfl) (by simp) ?_
  refine AllReadyH.consL (o := _) rfl (fun K hK => ?_) AllReadyH.nil
  clear hHeld
  have SZ1 := Lib.hid (Nat.le_trans B1.out.size HB.out.size)
  go_simp
  go_at_call 109
  refine Calls.mono (rneg_z (x := n1) (z := nn) (Zo.of_own (O1.out.below HB.out)).in_ LN1.out ENN.out) ?_
  rintro e wa ⟨P5, c5, rfl, ho, hb⟩
  replace HB := Lib.hid (HB.out.trans (hb.mono HB.out.size))
  have O3 := Lib.hid (ho.mono SZ1.out)
  clear ho SZ1
  clear hb
  refine hK.out _ _ HB.out (fun hHeld => ?_)
  clear hK K
  try simp only [Act.put, List.setIfInBounds_toArray, List.set_cons_zero, List.set_cons_succ]
  refine wpAnyH_ready (rs := [3]) (by kernel_rfl) (by simp) ?_
  refine AllReadyH.consL (o := _) rfl (fun K hK => ?_) AllReadyH.nil
  clear hHeld
  have SZ1 := Lib.hid (Nat.le_trans B1.out.size HB.out.size)
  go_simp
  go_at_call 109
  refine Calls.mono (rneg_z (x := d1) (z := nd) (Zin.of_true EDD.out (Zo.of_own (O2.out.below HB.out))) LD1.out END.out) ?_
  rintro e wb ⟨P6, c6, rfl, ho, hb⟩
  replace HB := Lib.hid (HB.out.trans (hb.mono HB.out.size))
  replace O3 := Lib.hid (O3.out.below hb)
  have O4 := Lib.hid (ho.mono SZ1.out)
  clear ho SZ1
  clear hb
  refine hK.out _ _ HB.out (fun hHeld => ?_)
  clear hK K
  try simp only [Act.put, List.setIfInBounds_toArray, List.set_cons_zero, List.set_cons_succ]
  refine wpAnyH_done (by kernel_rfl) ?_ _
  show wpList _ _ _ _ _ _
  have hb := HB.out
  replace V0 := Lib.hid (V0.out.below hb V0.out.lt)
  replace V1 := Lib.hid (V1.out.below hb V1.out.lt)
  replace V2 := Lib.hid (V2.out.below hb V2.out.lt)
  replace HX := Lib.hid (HX.out.below hb)
  replace HY := Lib.hid (HY.out.below hb)
  replace ZY := Lib.hid (ZY.out.below hb)
  replace OY := Lib.hid (OY.out.below hb)
  replace V5 := Lib.hid (V5.out.below hb V5.out.lt)
  replace ZG := Lib.hid (ZG.out.below hb)
  replace V6 := Lib.hid (V6.out.below hb V6.out.lt)
  replace O1 := Lib.hid (O1.out.below hb)
  replace V7 := Lib.hid (V7.out.below hb V7.out.lt)
  replace O2 := Lib.hid (O2.out.below hb)
  replace V8 := Lib.hid (V8.out.below hb V8.out.lt)
  replace B1 := Lib.hid (B1.out.trans (hb.mono B1.out.size))
  clear hb HB hHeld
  refine wpList_stZ (by rfl) _ _ rfl (by rfl) (by rfl) V7.out ?_
  intro wc hz hg
  replace V0 := Lib.hid (V0.out.gr hg (by have := L5.out; have := L6.out; have := L7.out; have := L8.out; omega))
  replace V1 := Lib.hid (V1.out.gr hg (by have := L5.out; have := L6.out; have := L7.out; have := L8.out; omega))
  replace V2 := Lib.hid (V2.out.gro hg (by have := L5.out; have := L6.out; have := L7.out; have := L8.out; omega))
  replace HX := Lib.hid (HX.out.gr V7.out hg)
  replace HY := Lib.hid (HY.out.gr V7.out hg)
  replace ZY := Lib.hid (ZY.out.gr V7.out hg)
  replace OY := Lib.hid (OY.out.gr V7.out hg)
  replace V5 := Lib.hid (V5.out.gr hg (by have := L5.out; have := L6.out; have := L7.out; have := L8.out; omega))
  replace ZG := Lib.hid (ZG.out.gr V7.out hg)
  replace V6 := Lib.hid (V6.out.gr hg (by have := L5.out; have := L6.out; have := L7.out; have := L8.out; omega))
  replace O1 := Lib.hid (O1.out.gr V7.out hg)
  replace O2 := Lib.hid (O2.out.gr V7.out hg)
  replace V8 := Lib.hid (V8.out.gr hg (by have := L5.out; have := L6.out; have := L7.out; have := L8.out; omega))
  replace O3 := Lib.hid (O3.out.gr V7.out hg)
  replace O4 := Lib.hid (O4.out.gr V7.out hg)
  replace B1 := Lib.hid (Below.gr B1.out (by have := L5.out; have := L6.out; have := L7.out; have := L8.out; omega) hg B1.out.size)
  replace V7 := Lib.hid hz
  clear hz hg
  refine wpList_stZ (by rfl) _ _ rfl (by rfl) (by rfl) V8.out ?_
  intro wd hz hg
  replace V0 := Lib.hid (V0.out.gr hg (by have := L5.out; have := L6.out; have := L7.out; have := L8.out; omega))
  replace V1 := Lib.hid (V1.out.gr hg (by have := L5.out; have := L6.out; have := L7.out; have := L8.out; omega))
  replace V2 := Lib.hid (V2.out.gro hg (by have := L5.out; have := L6.out; have := L7.out; have := L8.out; omega))
  replace HX := Lib.hid (HX.out.gr V8.out hg)
  replace HY := Lib.hid (HY.out.gr V8.out hg)
  replace ZY := Lib.hid (ZY.out.gr V8.out hg)
  replace OY := Lib.hid (OY.out.gr V8.out hg)
  replace V5 := Lib.hid (V5.out.gr hg (by have := L5.out; have := L6.out; have := L7.out; have := L8.out; omega))
  replace ZG := Lib.hid (ZG.out.gr V8.out hg)
  replace V6 := Lib.hid (V6.out.gr hg (by have := L5.out; have := L6.out; have := L7.out; have := L8.out; omega))
  replace O1 := Lib.hid (O1.out.gr V8.out hg)
  replace V7 := Lib.hid (V7.out.gr hg (by have := L5.out; have := L6.out; have := L7.out; have := L8.out; omega))
  replace O2 := Lib.hid (O2.out.gr V8.out hg)
  replace O3 := Lib.hid (O3.out.gr V8.out hg)
  replace O4 := Lib.hid (O4.out.gr V8.out hg)
  replace B1 := Lib.hid (Below.gr B1.out (by have := L5.out; have := L6.out; have := L7.out; have := L8.out; omega) hg B1.out.size)
  replace V8 := Lib.hid hz
  clear hz hg
  have pc0 := Lib.hid trivial
  go_wp2_with (first
    | (clear pc0; refine wpList_ldZ (by rfl) _ rfl (by rfl) V7.out ?_; have pc1 := Lib.hid trivial)
    | (clear pc1; refine wpList_ldZm (by rfl) _ rfl (by rfl) V8.out ?_; have pc2 := Lib.hid trivial)
    | (clear pc2; refine wpList_stR (by rfl) _ _ rfl (by rfl) (by rfl) V2.out ?_; intro we hz hg; replace V0 := Lib.hid (V0.out.gr hg (by have := L5.out; have := L6.out; have := L7.out; have := L8.out; omega)); replace V1 := Lib.hid (V1.out.gr hg (by have := L5.out; have := L6.out; have := L7.out; have := L8.out; omega)); replace HX := Lib.hid (HX.out.grR V2.out hg); replace HY := Lib.hid (HY.out.grR V2.out hg); replace ZY := Lib.hid (ZY.out.grR V2.out hg); replace OY := Lib.hid (OY.out.grR V2.out hg); replace V5 := Lib.hid (V5.out.gr hg (by have := L5.out; have := L6.out; have := L7.out; have := L8.out; omega)); replace ZG := Lib.hid (ZG.out.grR V2.out hg); replace V6 := Lib.hid (V6.out.gr hg (by have := L5.out; have := L6.out; have := L7.out; have := L8.out; omega)); replace O1 := Lib.hid (O1.out.grR V2.out hg); replace V7 := Lib.hid (V7.out.gr hg (by have := L5.out; have := L6.out; have := L7.out; have := L8.out; omega)); replace O2 := Lib.hid (O2.out.grR V2.out hg); replace V8 := Lib.hid (V8.out.gr hg (by have := L5.out; have := L6.out; have := L7.out; have := L8.out; omega)); replace O3 := Lib.hid (O3.out.grR V2.out hg); replace O4 := Lib.hid (O4.out.grR V2.out hg); replace B1 := Lib.hid (Below.gr B1.out (by have := L5.out; have := L6.out; have := L7.out; have := L8.out; omega) hg B1.out.size); replace V2 := Lib.hid hz; clear hz hg; have pc3 := Lib.hid trivial))
  clear pc3
  obtain ⟨ea, eb⟩ := ER.out
  subst ea eb
  exact ret_rb Tryz.results64 rfl rfl V2.out ⟨_, _, _, _, rfl, O3.out, O4.out, B1.out⟩
theorem rmake_any {s t : Bool} {A B : Option Addr} {n c m k : Nat} {x y z : Int} {d : Nat} {w : World} (h : Zin w s A n c x) (hn : n ≤ 35184372087808) (h' : Zin w t B m k y) (hm : m ≤ 35184372087808) (hz : (Rat.divInt x y).num = z) (hd : (Rat.divInt x y).den = d) :
    Calls Tryz.prog 64 #[.agg #[.bool s, .slice A n c], .agg #[.bool t, .slice B m k]] w (GivesR w z d) := by
  rcases Int.lt_or_le y 0 with h1 | h1
  · exact rmake_neg h hn h' hm hz hd h1
  · rcases Int.decEq y 0 with h2 | h2
    · rcases Int.decEq y 1 with h3 | h3
      · exact rmake_pos h hn h' hm hz hd (by omega)
      · exact rmake_one h hn h' hm hz hd h3
    · exact rmake_zero h hn h' hm hz hd h2
end Go.Proofs.YtfacndibfkamgaaGreat
