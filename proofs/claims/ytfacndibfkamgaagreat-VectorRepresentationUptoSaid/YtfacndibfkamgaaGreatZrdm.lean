/-
  Contract of the reference's DivMod of integers.
-/
import Derived.Test.YtfacndibfkamgaaGreatZC
import Derived.Test.YtfacndibfkamgaaGreatNC
namespace Go.Proofs.YtfacndibfkamgaaGreat
open Go.RowKit
set_option linter.unusedVariables false

theorem rdm_zero_n {A B : Option Addr} {ca cb n m : Nat} {xs ys : List Nat} {w : World} (h' : Rd w B cb ys) (hn : xs.length = n) (hm : ys.length = m) (hl' : m ≤ 70368744177664) (hv : val ys = 0) :
    Calls Tryz.prog 145 #[.slice A n ca, .slice B m cb] w (GivesF2 w) := by
  subst hn hm; exact rdm_zero A B ca cb xs ys w h' hl' hv
theorem rzero_z {A B : Option Addr} {n c m d : Nat} {s t : Bool} {w : World} {x : Int} (h : Zin w s A n c x) (h' : Zin w t B m d 0) (hl' : m ≤ 70368744177664) :
    Calls Tryz.prog 108 #[.agg #[.bool s, .slice A n c], .agg #[.bool t, .slice B m d]] w (GivesN w) := by
  obtain ⟨B2, X2, Y2, R2, S2⟩ := start4 w s A n c t B m d
  obtain ⟨xs, hx, hn, ex⟩ := h
  obtain ⟨ys, hy, hm, ey⟩ := h'
  have P2 := Lib.hid (hx.keep (Nat.le_refl _) B2.out)
  have Q2 := Lib.hid (hy.keep (Nat.le_refl _) B2.out)
  have HV := Lib.hid (zv_eq_zero.1 ey)
  clear hx hy ex ey
  go_enter Tryz.func108, Tryz.ntmps108
  go_wp2_with fail
  generalize ((((w.alloc (.cells #[.bool s, .slice A n c] 27)).alloc (.cells #[.bool t, .slice B m d] 27)).alloc (.cells #[.bool false, .slice none 0 0] 27)).alloc (.cells #[.bool false, .slice none 0 0] 27)) = w2 at *
  refine (rdm_zero_n Q2.out hn hm hl' HV.out).mono ?_
  rintro e w3 ⟨rfl, hb⟩
  have h1 := R2.out.lt
  have h2 := S2.out.lt
  have K1 := Lib.hid (R2.out.below hb h1)
  have K2 := Lib.hid (S2.out.below hb h2)
  have B3 := Lib.hid (B2.out.trans (hb.mono B2.out.size))
  obtain ⟨f0, f1⟩ := K1.out.frozen
  obtain ⟨k0, k1⟩ := K1.out.cells
  obtain ⟨f2, f3⟩ := K2.out.frozen
  obtain ⟨k2, k3⟩ := K2.out.cells
  clear hb h1 h2
  go_wp2
  refine ret_zb3 Tryz.results108 rfl rfl rfl rfl (((K1.out.lit _ _ _ _).far (by simp) _).far (by simp) _) (((K2.out.far (by simp) _).far (by simp) _).lit _ _ _ _) ⟨rfl, ?_⟩
  exact (((B3.out.setCell (p := ⟨w.heap.size + 2, 0, none⟩) (by show _ ≤ w.heap.size + 2; omega) _).setCell (p := ⟨w.heap.size + 2, 1, none⟩) (by show _ ≤ w.heap.size + 2; omega) _).setCell (p := ⟨w.heap.size + 3, 0, none⟩) (by show _ ≤ w.heap.size + 3; omega) _).setCell (p := ⟨w.heap.size + 3, 1, none⟩) (by show _ ≤ w.heap.size + 3; omega) _

/-- The end: both results are stored again and returned. -/
theorem end_q5 {fn : Func} {w w5 : World} {a : Act} {k l j c c' g lo : Nat} {R R' : Option Addr} {q r : Int} {b1 b2 bq br : Bool} {n1 n2 e1 e2 : Nat} {A1 A2 : Option Addr} (hf : fn.results = #[.cell k 27, .cell l 27, .tmp j]) (hd : a.defers = [])
    (hk : (a.tmps[k]?).getD undef = .pointer (some ⟨g, 0, none⟩)) (hl : (a.tmps[l]?).getD undef = .pointer (some ⟨g + 1, 0, none⟩)) (hj : (a.tmps[j]?).getD undef = .bool true)
    (Y : Hid (Zb w5 g b1 A1 n1 e1)) (Z : Hid (Zb w5 (g + 1) b2 A2 n2 e2)) (B : Hid (Below w.heap.size w w5)) (hg : w.heap.size ≤ g) (hlo : g + 1 < lo) (hw : w.heap.size ≤ lo)
    (hq : decide (q < 0) = bq) (hr : decide (r < 0) = br) (ho : Own w5 lo R c (ofv q.natAbs)) (ho' : Own w5 lo R' c' (ofv r.natAbs)) :
    bodyPost Tryz.prog fn (GivesQ w q r) .ret a ((((w5.setCell ⟨g, 0, none⟩ (.bool bq)).setCell ⟨g, 1, none⟩ (.slice R (ofv q.natAbs).length c)).setCell ⟨g + 1, 0, none⟩ (.bool br)).setCell ⟨g + 1, 1, none⟩ (.slice R' (ofv r.natAbs).length c')).drew := by
  subst hq hr
  have h1 : g < lo := by omega
  have K1 := ((Y.out.lit (decide (q < 0)) R (ofv q.natAbs).length c).far (p := ⟨g + 1, 0, none⟩) (by simp) (.bool (decide (r < 0)))).far (p := ⟨g + 1, 1, none⟩) (by simp) (.slice R' (ofv r.natAbs).length c')
  have K2 := ((Z.out.far (p := ⟨g, 0, none⟩) (by simp) (.bool (decide (q < 0)))).far (p := ⟨g, 1, none⟩) (by simp) (.slice R (ofv q.natAbs).length c)).lit (decide (r < 0)) R' (ofv r.natAbs).length c'
  have hB := (((B.out.setCell (p := ⟨g, 0, none⟩) hg (.bool (decide (q < 0)))).setCell (p := ⟨g, 1, none⟩) hg (.slice R (ofv q.natAbs).length c)).setCell (p := ⟨g + 1, 0, none⟩) (by show _ ≤ g + 1; omega) (.bool (decide (r < 0)))).setCell (p := ⟨g + 1, 1, none⟩) (by show _ ≤ g + 1; omega) (.slice R' (ofv r.natAbs).length c')
  have hO := ((((ho.set_low h1 (i := 0) (.bool (decide (q < 0)))).set_low h1 (i := 1) (.slice R (ofv q.natAbs).length c)).set_low hlo (i := 0) (.bool (decide (r < 0)))).set_low hlo (i := 1) (.slice R' (ofv r.natAbs).length c')).mono hw
  have hO' := ((((ho'.set_low h1 (i := 0) (.bool (decide (q < 0)))).set_low h1 (i := 1) (.slice R (ofv q.natAbs).length c)).set_low hlo (i := 0) (.bool (decide (r < 0)))).set_low hlo (i := 1) (.slice R' (ofv r.natAbs).length c')).mono hw
  generalize (((w5.setCell ⟨g, 0, none⟩ (.bool (decide (q < 0)))).setCell ⟨g, 1, none⟩ (.slice R (ofv q.natAbs).length c)).setCell ⟨g + 1, 0, none⟩ (.bool (decide (r < 0)))).setCell ⟨g + 1, 1, none⟩ (.slice R' (ofv r.natAbs).length c') = W at *
  have hd1 : Below W.heap.size W W.drew := below_drewN _ W 1
  exact ret_zb3 hf hd hk hl hj (K1.below hd1 K1.lt) (K2.below hd1 K2.lt) ⟨R, c, R', c', rfl, hO.below hd1, hO'.below hd1, hB.trans (hd1.mono hB.size)⟩
set_option maxRecDepth 2000 in
set_option maxHeartbeats 8000000 in
theorem rdm_core {A B : Option Addr} {n c m d : Nat} {s t : Bool} {w : World} {xs ys : List Nat} {y q0 r0 ay q r : Int} (hx : Rd w A c xs) (hn : xs.length = n) (hy : Rd w B d ys) (hm : ys.length = m) (hl : n ≤ 35184372087808) (hl' : m ≤ 35184372087808) (h0 : 0 < val ys)
    (eq0 : zv (s != t) (val xs / val ys) = q0) (er0 : zv s (val xs % val ys) = r0) (ey : zv t (val ys) = y) (eay : ((y.natAbs : Nat) : Int) = ay)
    (hcase : (0 ≤ r0 ∧ q0 = q ∧ r0 = r) ∨ (r0 < 0 ∧ r0 + ay = r ∧ (t = true → q0 + 1 = q) ∧ (t = false → q0 - 1 = q))) :
    Calls Tryz.prog 108 #[.agg #[.bool s, .slice A n c], .agg #[.bool t, .slice B m d]] w (GivesQ w q r) := by
  obtain ⟨B2, X2, Y2, R2, S2⟩ := start4 w s A n c t B m d
  have P2 := Lib.hid (hx.keep (Nat.le_refl _) B2.out)
  have Q2 := Lib.hid (hy.keep (Nat.le_refl _) B2.out)
  have lx := len_ofv_le hx.ok
  have ly := len_ofv_le hy.ok
  have HV := Lib.hid h0
  have EQ := Lib.hid eq0
  have ER := Lib.hid er0
  have EA := Lib.hid eay
  have HN := Lib.hid hn
  have HM := Lib.hid hm
  have HC := Lib.hid hcase
  have LQ : Hid ((ofv (val xs / val ys)).length ≤ 35184372087808) := by
    have := len_mono (Nat.div_le_self (val xs) (val ys))
    show _ ≤ _
    omega
  have LR : Hid ((ofv (val xs % val ys)).length ≤ 35184372087808) := by
    have := len_mono (Nat.mod_le (val xs) (val ys))
    show _ ≤ _
    omega
  have LA : Hid ((ofv ay.natAbs).length ≤ 35184372087808) := by
    show _ ≤ _
    have e : ay.natAbs = val ys := by rw [← eay, ← ey]; simp [zv_abs]
    rw [e]
    omega
  have YZ : Hid (Zin w t B m d y) := ⟨ys, hy, hm, ey⟩
  have Y3 := Lib.hid (YZ.out.below B2.out)
  have L1 : Hid (n ≤ 70368744177664) := by show _ ≤ _; omega
  have L2 : Hid (m ≤ 70368744177000) := by show _ ≤ _; omega
  clear hx hy eq0 er0 hn hm lx ly h0 hcase ey eay
  go_enter Tryz.func108, Tryz.ntmps108
  go_wp2_with fail
  generalize ((((w.alloc (.cells #[.bool s, .slice A n c] 27)).alloc (.cells #[.bool t, .slice B m d] 27)).alloc (.cells #[.bool false, .slice none 0 0] 27)).alloc (.cells #[.bool false, .slice none 0 0] 27)) = w2 at *
  refine (rdm_n P2.out Q2.out HN.out HM.out L1.out L2.out HV.out).mono ?_
  rintro e w3 ⟨Q, c3, T, c4, rfl, ho, ho', hb⟩
  generalize val xs / val ys = va at *
  generalize val xs % val ys = vb at *
  have B3 := Lib.hid (B2.out.trans (hb.mono B2.out.size))
  have LB := Lib.hid (show w2.heap.size ≤ w3.heap.size from hb.size)
  have O1 := Lib.hid ho.rd
  have O2 := Lib.hid ho'.rd
  have V1 := Lib.hid (X2.out.below hb X2.out.lt)
  have V2 := Lib.hid (Y2.out.below hb Y2.out.lt)
  have V3 := Lib.hid (R2.out.below hb R2.out.lt)
  have V4 := Lib.hid (S2.out.below hb S2.out.lt)
  have Y4 := Lib.hid (Y3.out.below hb)
  have T3 := Lib.hid R2.out.lt
  have T4 := Lib.hid S2.out.lt
  clear hb ho ho' P2 Q2 X2 Y2 R2 S2 Y3 HN HM HV B2
  have BW := Lib.hid (Below.refl w3.heap.size w3)
  have SS := Lib.hid (keep2 V1 V2 BW.out V1.out.lt V2.out.lt)
  have KB : Hid (w.heap.size + 2 ≤ w3.heap.size) := by have := V4.out.lt; show _ ≤ _; omega
  go_wp2_with fail
  have pc0 := Lib.hid trivial
  go_region_held3 (fun w' => w'.cell? ⟨w.heap.size, 0, none⟩ = some (.bool s) ∧ w'.cell? ⟨w.heap.size, 1, none⟩ = some (.slice A n c) ∧ w'.cell? ⟨w.heap.size + 1, 0, none⟩ = some (.bool t) ∧ w'.cell? ⟨w.heap.size + 1, 1, none⟩ = some (.slice B m d))
    (first
      | exact keep2 V1 V2 BW.out V1.out.lt V2.out.lt
      | exact keep2 V1 V2 (((BW.out.mono KB.out).setCell (p := ⟨w.heap.size + 2, 0, none⟩) (by show _ ≤ w.heap.size + 2; omega) _).setCell (p := ⟨w.heap.size + 2, 1, none⟩) (by show _ ≤ w.heap.size + 2; omega) _) (by omega) (by omega)
      | exact keep2 V1 V2 (((((BW.out.mono KB.out).setCell (p := ⟨w.heap.size + 2, 0, none⟩) (by show _ ≤ w.heap.size + 2; omega) _).setCell (p := ⟨w.heap.size + 2, 1, none⟩) (by show _ ≤ w.heap.size + 2; omega) _).setCell (p := ⟨w.heap.size + 3, 0, none⟩) (by show _ ≤ w.heap.size + 3; omega) _).setCell (p := ⟨w.heap.size + 3, 1, none⟩) (by show _ ≤ w.heap.size + 3; omega) _) (by omega) (by omega)
      | exact SS.out)
    (first
      | (clear pc0; go_at_call 80; (with_reducible refine Calls.mono (make_n (A := Q) (c := c3) (xs := ofv va) (z := q0) ?_ ?_ ?_ ?_) ?_); (exact O1.out); (exact rfl); (exact Nat.le_trans LQ.out (by decide)); (rw [val_ofv]; exact EQ.out); rintro e wx ⟨M, cM, rfl, hm, hb⟩; have OM := Lib.hid hm; have BX := below_drew hb; have O2' := Lib.hid (O2.out.below BX.out); clear hm hb BW; have BW := BX; clear BX; have pc1 := Lib.hid trivial)
      | (clear pc1; go_at_call 80; (with_reducible refine Calls.mono (make_n (A := T) (c := c4) (xs := ofv vb) (z := r0) ?_ ?_ ?_ ?_) ?_); (exact O2'.out); (exact rfl); (exact Nat.le_trans LR.out (by decide)); (rw [val_ofv]; exact ER.out); rintro e wx ⟨K, cK, rfl, hm, hb⟩; have OK := Lib.hid (hm.mono BW.out.size); have OM' := Lib.hid (OM.out.below hb); have BX := Lib.hid (BW.out.trans (hb.mono BW.out.size)); clear hm hb BW OM; have BW := BX; clear BX; obtain ⟨f0, f1⟩ := (V3.out.below BW.out V3.out.lt).frozen; obtain ⟨k0, k1⟩ := (V3.out.below BW.out V3.out.lt).cells; obtain ⟨f2, f3⟩ := (V4.out.below BW.out V4.out.lt).frozen; obtain ⟨k2, k3⟩ := (V4.out.below BW.out V4.out.lt).cells))
  have J1 := (V1.out.below BW.out V1.out.lt)
  have J2 := (V2.out.below BW.out V2.out.lt)
  have J3 : Zb wx (w.heap.size + 1 + 1) false none 0 0 := (V3.out.below BW.out V3.out.lt)
  have J4 : Zb wx (w.heap.size + 1 + 1 + 1) false none 0 0 := (V4.out.below BW.out V4.out.lt)
  have K2 := Lib.hid ((((J2.far (p := ⟨w.heap.size + 1 + 1, 0, none⟩) (by simp) (.bool (decide (q0 < 0)))).far (p := ⟨w.heap.size + 1 + 1, 1, none⟩) (by simp) (.slice M (ofv q0.natAbs).length cM)).far (p := ⟨w.heap.size + 1 + 1 + 1, 0, none⟩) (by simp) (.bool (decide (r0 < 0)))).far (p := ⟨w.heap.size + 1 + 1 + 1, 1, none⟩) (by simp) (.slice K (ofv r0.natAbs).length cK))
  have K3 := Lib.hid (((J3.lit (decide (q0 < 0)) M (ofv q0.natAbs).length cM).far (p := ⟨w.heap.size + 1 + 1 + 1, 0, none⟩) (by simp) (.bool (decide (r0 < 0)))).far (p := ⟨w.heap.size + 1 + 1 + 1, 1, none⟩) (by simp) (.slice K (ofv r0.natAbs).length cK))
  have K4 := Lib.hid (((J4.far (p := ⟨w.heap.size + 1 + 1, 0, none⟩) (by simp) (.bool (decide (q0 < 0)))).far (p := ⟨w.heap.size + 1 + 1, 1, none⟩) (by simp) (.slice M (ofv q0.natAbs).length cM)).lit (decide (r0 < 0)) K (ofv r0.natAbs).length cK)
  have T5 : w.heap.size + 1 + 1 < w2.heap.size := T3.out
  have T6 : w.heap.size + 1 + 1 + 1 < w2.heap.size := T4.out
  have OM5 := Lib.hid (((((OM'.out.mono LB.out).set_low T5 (i := 0) (.bool (decide (q0 < 0)))).set_low T5 (i := 1) (.slice M (ofv q0.natAbs).length cM)).set_low T6 (i := 0) (.bool (decide (r0 < 0)))).set_low T6 (i := 1) (.slice K (ofv r0.natAbs).length cK))
  have OK5 := Lib.hid (((((OK.out.mono LB.out).set_low T5 (i := 0) (.bool (decide (q0 < 0)))).set_low T5 (i := 1) (.slice M (ofv q0.natAbs).length cM)).set_low T6 (i := 0) (.bool (decide (r0 < 0)))).set_low T6 (i := 1) (.slice K (ofv r0.natAbs).length cK))
  have B5 := Lib.hid (((((B3.out.trans (BW.out.mono B3.out.size)).setCell (p := ⟨w.heap.size + 1 + 1, 0, none⟩) (by show _ ≤ w.heap.size + 1 + 1; omega) (.bool (decide (q0 < 0)))).setCell (p := ⟨w.heap.size + 1 + 1, 1, none⟩) (by show _ ≤ w.heap.size + 1 + 1; omega) (.slice M (ofv q0.natAbs).length cM)).setCell (p := ⟨w.heap.size + 1 + 1 + 1, 0, none⟩) (by show _ ≤ w.heap.size + 1 + 1 + 1; omega) (.bool (decide (r0 < 0)))).setCell (p := ⟨w.heap.size + 1 + 1 + 1, 1, none⟩) (by show _ ≤ w.heap.size + 1 + 1 + 1; omega) (.slice K (ofv r0.natAbs).length cK))
  have LW := Lib.hid (show w.heap.size ≤ w2.heap.size by omega)
  have LB5 := Lib.hid (show w2.heap.size ≤ wx.heap.size from Nat.le_trans LB.out BW.out.size)
  have TT5 := Lib.hid T5
  have TT6 := Lib.hid T6
  clear J1 J2 J3 J4 V1 V2 V3 V4 OM' OK O1 O2' O2 BW SS f0 f1 f2 f3 k0 k1 k2 k3 B3 T3 T4 T5 T6 LB KB Y4
  have SZ5 : Hid (wx.heap.size = ((((wx.setCell ⟨w.heap.size + 1 + 1, 0, none⟩ (.bool (decide (q0 < 0)))).setCell ⟨w.heap.size + 1 + 1, 1, none⟩ (.slice M (ofv q0.natAbs).length cM)).setCell ⟨w.heap.size + 1 + 1 + 1, 0, none⟩ (.bool (decide (r0 < 0)))).setCell ⟨w.heap.size + 1 + 1 + 1, 1, none⟩ (.slice K (ofv r0.natAbs).length cK)).heap.size) := by show _ = _; simp only [World.size_setCell]
  generalize ((((wx.setCell ⟨w.heap.size + 1 + 1, 0, none⟩ (.bool (decide (q0 < 0)))).setCell ⟨w.heap.size + 1 + 1, 1, none⟩ (.slice M (ofv q0.natAbs).length cM)).setCell ⟨w.heap.size + 1 + 1 + 1, 0, none⟩ (.bool (decide (r0 < 0)))).setCell ⟨w.heap.size + 1 + 1 + 1, 1, none⟩ (.slice K (ofv r0.natAbs).length cK)) = w5 at *
  have LB5 : Hid (w2.heap.size ≤ w5.heap.size) := by have := SZ5.out; have := LB5.out; show _ ≤ _; omega
  clear SZ5
  have YY := Lib.hid (YZ.out.below B5.out)
  rcases HC.out with ⟨h0, rfl, rfl⟩ | ⟨h0, h1, h2, h3⟩
  · have d1 : decide (r0 < 0) = false := by simp; omega
    have K4' := K4.out
    rw [d1] at K4'
    have KK4 := Lib.hid K4'
    obtain ⟨a0, a1⟩ := K3.out.cells
    obtain ⟨a2, a3⟩ := KK4.out.cells
    obtain ⟨a4, a5⟩ := K3.out.frozen
    obtain ⟨a6, a7⟩ := KK4.out.frozen
    have D1 := Lib.hid d1
    clear K4' d1 K4
    go_wp2_with fail
    go_region
    all_goals
      go_wp2
      exact end_q5 Tryz.results108 rfl rfl rfl rfl K3 KK4 B5 (by omega) TT6.out LW.out rfl D1.out OM5.out OK5.out
  · have d1 : decide (r0 < 0) = true := by simpa using h0
    obtain ⟨a0, a1⟩ := K3.out.cells
    obtain ⟨a2, a3⟩ := K4.out.cells
    obtain ⟨a4, a5⟩ := K3.out.frozen
    obtain ⟨a6, a7⟩ := K4.out.frozen
    obtain ⟨a8, a9⟩ := K2.out.cells
    have H1 := Lib.hid h1
    have H2 := Lib.hid h2
    have H3 := Lib.hid h3
    have ZR : Hid (Zin w5 true K (ofv r0.natAbs).length cK r0) := by
      have := (Zo.of_own OK5.out).in_
      rwa [d1] at this
    have K4' := K4.out
    rw [d1] at K4'
    have KK4 := Lib.hid K4'
    rw [d1] at a2
    clear K4' K4
    have K4 := KK4
    clear KK4
    have ZQ : Hid (Zo w5 M cM q0) := Zo.of_own OM5.out
    have LQ0 : Hid ((ofv q0.natAbs).length ≤ 35184372087808) := by show _ ≤ _; have e : q0.natAbs = va := by rw [← EQ.out, zv_abs]
                                                                   rw [e]; exact LQ.out
    have LR0 : Hid ((ofv r0.natAbs).length ≤ 35184372087808) := by show _ ≤ _; have e : r0.natAbs = vb := by rw [← ER.out, zv_abs]
                                                                   rw [e]; exact LR.out
    obtain ⟨one, hone⟩ : ∃ z : Int, 1 = z := ⟨_, rfl⟩
    have E1 := Lib.hid hone
    have I1 : Hid (-9223372036854775808 ≤ (1 : Int) ∧ (1 : Int) ≤ 9223372036854775807) := by show _ ∧ _; omega
    have LO1 : Hid ((ofv one.natAbs).length ≤ 70368744177663) := by
      show _ ≤ _
      have : (ofv one.natAbs).length ≤ 1 := len_ofv_le_of_lt (by rw [pw_succ, pw_zero, ← hone]; decide)
      omega
    have LQ1 : Hid ((ofv q0.natAbs).length ≤ 70368744177663) := by have := LQ0.out; show _ ≤ _; omega
    clear hone
    have LM1 : Hid (m ≤ 70368744177664) := by show _ ≤ _; omega
    have LR1 : Hid ((ofv r0.natAbs).length ≤ 70368744177663) := by have := LR0.out; show _ ≤ _; omega
    have LA1 : Hid ((ofv ay.natAbs).length ≤ 70368744177663) := by have := LA.out; show _ ≤ _; omega
    clear h1 h2 h3
    go_wp2_with fail
    have pc0 := Lib.hid trivial
    have BW := Lib.hid (Below.refl w5.heap.size w5)
    go_region_with
      (first
        | (clear pc0; go_at_call 146; (with_reducible refine Calls.mono (rabs_z (x := y) (z := ay) ?_ ?_ ?_) ?_); (exact YY.out.drew); (exact LM1.out); (exact EA.out); rintro e wx ⟨P, cP, rfl, ho, hb⟩; have ZP := Lib.hid (Zo.of_own ho); have BX := below_drew hb; clear ho hb BW; have BW := BX; clear BX; obtain ⟨l0, l1⟩ := (K4.out.below BW.out K4.out.lt).cells; have pc1 := Lib.hid trivial)
        | (clear pc1; go_at_call 120; (with_reducible refine Calls.mono (radd_z (x := r0) (y := ay) (z := r) ?_ ?_ ?_ ?_ ?_) ?_); (exact ZR.out.below BW.out); (exact ZP.out.in_); (exact LR1.out); (exact LA1.out); (exact H1.out); rintro e wx ⟨N, cN, rfl, ho, hb⟩; have ON := Lib.hid (ho.mono BW.out.size); have BX := Lib.hid (BW.out.trans (hb.mono BW.out.size)); clear ho hb BW ZP; have BW := BX; clear BX; obtain ⟨f0, f1⟩ := (K4.out.below BW.out K4.out.lt).frozen; obtain ⟨k0, k1⟩ := (K4.out.below BW.out K4.out.lt).cells; have pc2 := Lib.hid trivial))
    all_goals
      have J2 := (K2.out.below BW.out K2.out.lt)
      have J3 := (K3.out.below BW.out K3.out.lt)
      have J4 := (K4.out.below BW.out K4.out.lt)
      have M2 := Lib.hid ((J2.far (p := ⟨w.heap.size + 1 + 1 + 1, 0, none⟩) (by simp) (.bool (decide (r < 0)))).far (p := ⟨w.heap.size + 1 + 1 + 1, 1, none⟩) (by simp) (.slice N (ofv r.natAbs).length cN))
      have M3 := Lib.hid ((J3.far (p := ⟨w.heap.size + 1 + 1 + 1, 0, none⟩) (by simp) (.bool (decide (r < 0)))).far (p := ⟨w.heap.size + 1 + 1 + 1, 1, none⟩) (by simp) (.slice N (ofv r.natAbs).length cN))
      have M4 := Lib.hid (J4.lit (decide (r < 0)) N (ofv r.natAbs).length cN)
      have OM7 := Lib.hid (((OM5.out.below BW.out).set_low TT6.out (i := 0) (.bool (decide (r < 0)))).set_low TT6.out (i := 1) (.slice N (ofv r.natAbs).length cN))
      have ON7 := Lib.hid (((ON.out.mono LB5.out).set_low TT6.out (i := 0) (.bool (decide (r < 0)))).set_low TT6.out (i := 1) (.slice N (ofv r.natAbs).length cN))
      have B7 := Lib.hid (((B5.out.trans (BW.out.mono B5.out.size)).setCell (p := ⟨w.heap.size + 1 + 1 + 1, 0, none⟩) (by show _ ≤ w.heap.size + 1 + 1 + 1; omega) (.bool (decide (r < 0)))).setCell (p := ⟨w.heap.size + 1 + 1 + 1, 1, none⟩) (by show _ ≤ w.heap.size + 1 + 1 + 1; omega) (.slice N (ofv r.natAbs).length cN))
      have SZ7 : Hid (wx.heap.size = ((wx.setCell ⟨w.heap.size + 1 + 1 + 1, 0, none⟩ (.bool (decide (r < 0)))).setCell ⟨w.heap.size + 1 + 1 + 1, 1, none⟩ (.slice N (ofv r.natAbs).length cN)).heap.size) := by show _ = _; simp only [World.size_setCell]
      have LX := Lib.hid (Nat.le_trans LB5.out BW.out.size)
      clear J2 J3 J4 K2 K3 K4 OM5 ON BW f0 f1 k0 k1 a0 a1 a2 a3 a4 a5 a6 a7 a8 a9 B5 YY ZR pc2 l0 l1
      generalize (wx.setCell ⟨w.heap.size + 1 + 1 + 1, 0, none⟩ (.bool (decide (r < 0)))).setCell ⟨w.heap.size + 1 + 1 + 1, 1, none⟩ (.slice N (ofv r.natAbs).length cN) = w7 at *
      have LB7 : Hid (w2.heap.size ≤ w7.heap.size) := by have := SZ7.out; have := LX.out; show _ ≤ _; omega
      have ZQ7 := Lib.hid (Zo.of_own OM7.out).in_
      clear SZ7 LX
      cases t
      · skip
        obtain ⟨a0, a1⟩ := M3.out.cells
        obtain ⟨a2, a3⟩ := M3.out.frozen
        obtain ⟨a4, a5⟩ := M2.out.cells
        have EE : Hid (q0 - one = q) := by have := H3.out rfl; have := E1.out; show _ = _; omega
        clear H2 H3
        go_wp2_with fail
        have pc0 := Lib.hid trivial
        have BW := Lib.hid (Below.refl w7.heap.size w7)
        go_region_with
          (first
            | (clear pc0; go_at_call 39; (with_reducible refine Calls.mono (rfromInt_z (v := 1) (z := one) ?_ ?_ _) ?_); (exact I1.out); (exact E1.out); rintro e wy ⟨J, cJ, rfl, ho, hb⟩; have ZJ := Lib.hid (Zo.of_own ho); have BX := below_drew hb; clear ho hb BW; have BW := BX; clear BX; obtain ⟨b0, b1⟩ := (M3.out.below BW.out M3.out.lt).cells; have pc1 := Lib.hid trivial)
            | (clear pc1; go_at_call 79; (with_reducible refine Calls.mono (rsub_z (x := q0) (y := one) (z := q) ?_ ?_ ?_ ?_ ?_) ?_); (exact ZQ7.out.below BW.out); (exact ZJ.out.in_); (exact LQ1.out); (exact LO1.out); (exact EE.out); rintro e wy ⟨J2, cJ2, rfl, ho, hb⟩; have OJ := Lib.hid (ho.mono BW.out.size); have BX := Lib.hid (BW.out.trans (hb.mono BW.out.size)); clear ho hb BW ZJ; have BW := BX; clear BX; obtain ⟨f0, f1⟩ := (M3.out.below BW.out M3.out.lt).frozen; obtain ⟨k0, k1⟩ := (M3.out.below BW.out M3.out.lt).cells; have pc2 := Lib.hid trivial))
        all_goals
          have J3 := (M3.out.below BW.out M3.out.lt)
          have J4 := (M4.out.below BW.out M4.out.lt)
          have P3 := Lib.hid (J3.lit (decide (q < 0)) J2 (ofv q.natAbs).length cJ2)
          have P4 := Lib.hid ((J4.far (p := ⟨w.heap.size + 1 + 1, 0, none⟩) (by simp) (.bool (decide (q < 0)))).far (p := ⟨w.heap.size + 1 + 1, 1, none⟩) (by simp) (.slice J2 (ofv q.natAbs).length cJ2))
          have OQ9 := Lib.hid (((OJ.out.mono LB7.out).set_low TT5.out (i := 0) (.bool (decide (q < 0)))).set_low TT5.out (i := 1) (.slice J2 (ofv q.natAbs).length cJ2))
          have OR9 := Lib.hid (((ON7.out.below BW.out).set_low TT5.out (i := 0) (.bool (decide (q < 0)))).set_low TT5.out (i := 1) (.slice J2 (ofv q.natAbs).length cJ2))
          have B9 := Lib.hid (((B7.out.trans (BW.out.mono B7.out.size)).setCell (p := ⟨w.heap.size + 1 + 1, 0, none⟩) (by show _ ≤ w.heap.size + 1 + 1; omega) (.bool (decide (q < 0)))).setCell (p := ⟨w.heap.size + 1 + 1, 1, none⟩) (by show _ ≤ w.heap.size + 1 + 1; omega) (.slice J2 (ofv q.natAbs).length cJ2))
          clear J3 J4 M2 M3 M4 ON7 OM7 OJ BW f0 f1 k0 k1 a0 a1 a2 a3 a4 a5 b0 b1 B7 pc2 ZQ7
          generalize (wy.setCell ⟨w.heap.size + 1 + 1, 0, none⟩ (.bool (decide (q < 0)))).setCell ⟨w.heap.size + 1 + 1, 1, none⟩ (.slice J2 (ofv q.natAbs).length cJ2) = w9 at *
          obtain ⟨a0, a1⟩ := P3.out.cells
          obtain ⟨a2, a3⟩ := P4.out.cells
          obtain ⟨a4, a5⟩ := P3.out.frozen
          obtain ⟨a6, a7⟩ := P4.out.frozen
          go_wp2_with fail
          go_region
          all_goals
            go_wp2
            exact end_q5 Tryz.results108 rfl rfl rfl rfl P3 P4 B9 (by omega) TT6.out LW.out rfl rfl OQ9.out OR9.out
      · skip
        obtain ⟨a0, a1⟩ := M3.out.cells
        obtain ⟨a2, a3⟩ := M3.out.frozen
        obtain ⟨a4, a5⟩ := M2.out.cells
        have EE : Hid (q0 + one = q) := by have := H2.out rfl; have := E1.out; show _ = _; omega
        clear H2 H3
        go_wp2_with fail
        have pc0 := Lib.hid trivial
        have BW := Lib.hid (Below.refl w7.heap.size w7)
        go_region_with
          (first
            | (clear pc0; go_at_call 39; (with_reducible refine Calls.mono (rfromInt_z (v := 1) (z := one) ?_ ?_ _) ?_); (exact I1.out); (exact E1.out); rintro e wy ⟨J, cJ, rfl, ho, hb⟩; have ZJ := Lib.hid (Zo.of_own ho); have BX := below_drew hb; clear ho hb BW; have BW := BX; clear BX; obtain ⟨b0, b1⟩ := (M3.out.below BW.out M3.out.lt).cells; have pc1 := Lib.hid trivial)
            | (clear pc1; go_at_call 120; (with_reducible refine Calls.mono (radd_z (x := q0) (y := one) (z := q) ?_ ?_ ?_ ?_ ?_) ?_); (exact ZQ7.out.below BW.out); (exact ZJ.out.in_); (exact LQ1.out); (exact LO1.out); (exact EE.out); rintro e wy ⟨J2, cJ2, rfl, ho, hb⟩; have OJ := Lib.hid (ho.mono BW.out.size); have BX := Lib.hid (BW.out.trans (hb.mono BW.out.size)); clear ho hb BW ZJ; have BW := BX; clear BX; obtain ⟨f0, f1⟩ := (M3.out.below BW.out M3.out.lt).frozen; obtain ⟨k0, k1⟩ := (M3.out.below BW.out M3.out.lt).cells; have pc2 := Lib.hid trivial))
        all_goals
          have J3 := (M3.out.below BW.out M3.out.lt)
          have J4 := (M4.out.below BW.out M4.out.lt)
          have P3 := Lib.hid (J3.lit (decide (q < 0)) J2 (ofv q.natAbs).length cJ2)
          have P4 := Lib.hid ((J4.far (p := ⟨w.heap.size + 1 + 1, 0, none⟩) (by simp) (.bool (decide (q < 0)))).far (p := ⟨w.heap.size + 1 + 1, 1, none⟩) (by simp) (.slice J2 (ofv q.natAbs).length cJ2))
          have OQ9 := Lib.hid (((OJ.out.mono LB7.out).set_low TT5.out (i := 0) (.bool (decide (q < 0)))).set_low TT5.out (i := 1) (.slice J2 (ofv q.natAbs).length cJ2))
          have OR9 := Lib.hid (((ON7.out.below BW.out).set_low TT5.out (i := 0) (.bool (decide (q < 0)))).set_low TT5.out (i := 1) (.slice J2 (ofv q.natAbs).length cJ2))
          have B9 := Lib.hid (((B7.out.trans (BW.out.mono B7.out.size)).setCell (p := ⟨w.heap.size + 1 + 1, 0, none⟩) (by show _ ≤ w.heap.size + 1 + 1; omega) (.bool (decide (q < 0)))).setCell (p := ⟨w.heap.size + 1 + 1, 1, none⟩) (by show _ ≤ w.heap.size + 1 + 1; omega) (.slice J2 (ofv q.natAbs).length cJ2))
          clear J3 J4 M2 M3 M4 ON7 OM7 OJ BW f0 f1 k0 k1 a0 a1 a2 a3 a4 a5 b0 b1 B7 pc2 ZQ7
          generalize (wy.setCell ⟨w.heap.size + 1 + 1, 0, none⟩ (.bool (decide (q < 0)))).setCell ⟨w.heap.size + 1 + 1, 1, none⟩ (.slice J2 (ofv q.natAbs).length cJ2) = w9 at *
          obtain ⟨a0, a1⟩ := P3.out.cells
          obtain ⟨a2, a3⟩ := P4.out.cells
          obtain ⟨a4, a5⟩ := P3.out.frozen
          obtain ⟨a6, a7⟩ := P4.out.frozen
          go_wp2_with fail
          go_region
          all_goals
            go_wp2
            exact end_q5 Tryz.results108 rfl rfl rfl rfl P3 P4 B9 (by omega) TT6.out LW.out rfl rfl OQ9.out OR9.out
theorem rdm_z {A B : Option Addr} {n c m d : Nat} {s t : Bool} {w : World} {x y : Int} (h : Zin w s A n c x) (h' : Zin w t B m d y) (hl : n ≤ 35184372087808) (hl' : m ≤ 35184372087808) (hy0 : y ≠ 0) {q r : Int} (hq : x / y = q) (hr : x % y = r) :
    Calls Tryz.prog 108 #[.agg #[.bool s, .slice A n c], .agg #[.bool t, .slice B m d]] w (GivesQ w q r) := by
  obtain ⟨xs, hx, hn, ex⟩ := h
  obtain ⟨ys, hy, hm, ey⟩ := h'
  have h0 : 0 < val ys := by
    rcases Nat.eq_zero_or_pos (val ys) with h | h
    · exact absurd (by rw [← ey, h, zv_zero]) hy0
    · exact h
  subst ex ey
  refine rdm_core hx hn hy hm hl hl' h0 rfl rfl rfl rfl ?_
  cases s
  · obtain ⟨e1, e2⟩ := dm_math_plus (t := t) (X := val xs) h0
    refine .inl ⟨Int.natCast_nonneg (val xs % val ys), ?_, e2.trans hr⟩
    rw [← hq, ← e1]
    simp
  · rcases Nat.eq_zero_or_pos (val xs % val ys) with hz | hz
    · obtain ⟨e1, e2⟩ := dm_math_exact (t := t) h0 hz
      refine .inl ⟨by rw [hz]; decide, ?_, ?_⟩
      · rw [← hq, ← e1]
        simp
      · rw [← hr, ← e2, hz]; rfl
    · obtain ⟨e1, e2⟩ := dm_math_less (t := t) h0 hz
      have hlt := Nat.mod_lt (val xs) h0
      refine .inr ⟨?_, ?_, ?_, ?_⟩
      · show -((val xs % val ys : Nat) : Int) < 0; omega
      · rw [← hr, ← e2, zv_abs]; show -((val xs % val ys : Nat) : Int) + _ = ((val ys - val xs % val ys : Nat) : Int); omega
      · intro ht; subst ht; rw [← hq, ← e1]; show ((val xs / val ys : Nat) : Int) + 1 = ((val xs / val ys + 1 : Nat) : Int); omega
      · intro ht; subst ht; rw [← hq, ← e1]; show -((val xs / val ys : Nat) : Int) - 1 = -((val xs / val ys + 1 : Nat) : Int); omega
end Go.Proofs.YtfacndibfkamgaaGreat
