/-
  Contract of package approx: lastConvergent.
-/
import Derived.Test.YtfmgbfdnmconiaaGreatApn
namespace Go.Proofs.YtfmgbfdnmconiaaGreat
open Go.RowKit
set_option linter.unusedVariables false

theorem start_RZV (w : World) (s0 : Bool) (A0 : Option Addr) (n0 c0 : Nat) (D0 : Option Addr) (m0 k0 : Nat) (s1 : Bool) (A1 : Option Addr) (n1 c1 : Nat) :
    Hid (Below w.heap.size w (((w.alloc (.cells #[.bool s0, .slice A0 n0 c0, .slice D0 m0 k0] 26)).alloc (.cells #[.bool s1, .slice A1 n1 c1] 24)).alloc (.cells #[.bool false, .slice none 0 0, .bool false, .slice none 0 0, .bool false, .slice none 0 0, .bool false, .slice none 0 0] 111))) ∧ Hid (Rb (((w.alloc (.cells #[.bool s0, .slice A0 n0 c0, .slice D0 m0 k0] 26)).alloc (.cells #[.bool s1, .slice A1 n1 c1] 24)).alloc (.cells #[.bool false, .slice none 0 0, .bool false, .slice none 0 0, .bool false, .slice none 0 0, .bool false, .slice none 0 0] 111)) (w.heap.size) s0 A0 n0 c0 D0 m0 k0) ∧ Hid (Zb (((w.alloc (.cells #[.bool s0, .slice A0 n0 c0, .slice D0 m0 k0] 26)).alloc (.cells #[.bool s1, .slice A1 n1 c1] 24)).alloc (.cells #[.bool false, .slice none 0 0, .bool false, .slice none 0 0, .bool false, .slice none 0 0, .bool false, .slice none 0 0] 111)) (w.heap.size + 1) s1 A1 n1 c1) ∧ Hid (Vb (((w.alloc (.cells #[.bool s0, .slice A0 n0 c0, .slice D0 m0 k0] 26)).alloc (.cells #[.bool s1, .slice A1 n1 c1] 24)).alloc (.cells #[.bool false, .slice none 0 0, .bool false, .slice none 0 0, .bool false, .slice none 0 0, .bool false, .slice none 0 0] 111)) (w.heap.size + 2) false none 0 0 false none 0 0 false none 0 0 false none 0 0) := by
  refine ⟨?_, ?_, ?_, ?_⟩
  · exact ((((Below.refl _ _).alloc (by first | exact Nat.le_refl _ | (simp; done) | (simp; omega)) _).alloc (by first | exact Nat.le_refl _ | (simp; done) | (simp; omega)) _).alloc (by first | exact Nat.le_refl _ | (simp; done) | (simp; omega)) _)
  · have := Rb.new w s0 A0 n0 c0 D0 m0 k0
    exact ((this.alloc _).alloc _)
  · have := Zb.new (w.alloc (.cells #[.bool s0, .slice A0 n0 c0, .slice D0 m0 k0] 26)) s1 A1 n1 c1
    simp only [World.size_alloc] at this
    exact (this.alloc _)
  · have := Vb.new ((w.alloc (.cells #[.bool s0, .slice A0 n0 c0, .slice D0 m0 k0] 26)).alloc (.cells #[.bool s1, .slice A1 n1 c1] 24)) false none 0 0 false none 0 0 false none 0 0 false none 0 0
    simp only [World.size_alloc] at this
    exact this
/-- How great the denominator of an expansion is. -/
noncomputable def rdy (w : World) (g : Nat) : Nat := match w.cell? ⟨g, 3, none⟩ with | some v => rdv w v | none => 0
theorem rdy_ex {w : World} {g L : Nat} {X Y : Int} (h : Ex w g X Y L) : rdy w g = Y.natAbs := by
  obtain ⟨s, A, n, c, t, B, m, d, h, _, ⟨xs, h1, h2, h3⟩, _⟩ := h
  unfold rdy
  rw [cell_of_row w g 3 _ _ _ h]
  show rdv w (.slice B m d) = _
  rw [rdv_rd h1 h2, ← h3, zv_abs]
/-- The loop. -/
def LcInv (w : World) (g6 : Nat) (x y M : Int) (t : Bool) (B : Option Addr) (m2 d2 : Nat) (X Y p q o r : Int) (b : Bool) (wr : World) : Prop :=
  Lst x y M X Y p q o r b ∧ (Y ≤ y ∧ p.natAbs ≤ x.natAbs + 1 ∧ o.natAbs ≤ x.natAbs + 1) ∧ w.heap.size + 2 < g6 ∧ Zb wr (w.heap.size + 1) t B m2 d2 ∧ Zin wr t B m2 d2 M ∧ Cx wr (w.heap.size + 2) p q o r ∧ Ex wr g6 X Y 1048577 ∧ Below w.heap.size w wr
/-- What it gives. -/
def GivesL (w : World) (p q o r : Int) (b : Bool) (e : Ending) (w' : World) : Prop :=
  ∃ P cp Q cq O co R cr, e = .returned (.tuple #[.agg #[.bool (decide (p < 0)), .slice P (ofv p.natAbs).length cp, .bool (decide (q < 0)), .slice Q (ofv q.natAbs).length cq, .bool (decide (o < 0)), .slice O (ofv o.natAbs).length co, .bool (decide (r < 0)), .slice R (ofv r.natAbs).length cr], .bool b]) ∧ Zo w' P cp p ∧ Zo w' Q cq q ∧ Zo w' O co o ∧ Zo w' R cr r ∧ Below w.heap.size w w'
theorem ret_vb2 {fn : Func} {R : Ending → World → Prop} {a : Act} {w : World} {j i g n c m d n2 c2 m2 d2 : Nat} {s t s2 t2 b : Bool} {A B A2 B2 : Option Addr} (hf : fn.results = #[.cell j 111, .tmp i]) (hd : a.defers = [])
    (hk : (a.tmps[j]?).getD undef = .pointer (some ⟨g, 0, none⟩)) (hi : (a.tmps[i]?).getD undef = .bool b) (h : Vb w g s A n c t B m d s2 A2 n2 c2 t2 B2 m2 d2) (hR : R (.returned (.tuple #[.agg #[.bool s, .slice A n c, .bool t, .slice B m d, .bool s2, .slice A2 n2 c2, .bool t2, .slice B2 m2 d2], .bool b])) w) : bodyPost Tryz.prog fn R .ret a w := by
  have z1 := cell_of_row w g 0 _ _ _ h
  have z2 := cell_of_row w g 1 _ _ _ h
  have z3 := cell_of_row w g 2 _ _ _ h
  have z4 := cell_of_row w g 3 _ _ _ h
  have z5 := cell_of_row w g 4 _ _ _ h
  have z6 := cell_of_row w g 5 _ _ _ h
  have z7 := cell_of_row w g 6 _ _ _ h
  have z8 := cell_of_row w g 7 _ _ _ h
  exact bodyPost_ret_by (v := .tuple #[.agg #[.bool s, .slice A n c, .bool t, .slice B m d, .bool s2, .slice A2 n2 c2, .bool t2, .slice B2 m2 d2], .bool b]) (by simp [results, hf, go_sem, hk, hi, z1, z2, z3, z4, z5, z6, z7, z8]) hd hR
theorem ediv_abs_le (a b : Int) : (a / b).natAbs ≤ a.natAbs := Int.natAbs_ediv_le_natAbs a b
theorem len_succ {v n : Nat} (h : (ofv v).length ≤ n) (h1 : 1 ≤ n) : (ofv (v + 1)).length ≤ n + 1 := by
  have := zlen_add (x := (v : Int)) (y := 1) (n := n) (by simpa using h) (by show (ofv 1).length ≤ _; rw [o1]; simpa using h1)
  have e : ((v : Int) + 1).natAbs = v + 1 := by omega
  rwa [e] at this
set_option maxRecDepth 100000 in
set_option maxHeartbeats 16000000 in
theorem lastConvergent_any {s t : Bool} {A D B : Option Addr} {n c m k m2 d2 : Nat} {x y M : Int} {w : World} (h : Zin w s A n c x) (h' : Zin w false D m k y) (hm : Zin w t B m2 d2 M) (ln : n ≤ 1048576) (lm : m ≤ 1048576) (hg : Int.gcd x y = 1) (M0 : 0 < M) (My : M < y) :
    Calls Tryz.prog 117 #[.agg #[.bool s, .slice A n c, .slice D m k], .agg #[.bool t, .slice B m2 d2]] w fun e w' => ∃ X Y p q o r b, Lok x y M X Y p q o r b ∧ (p.natAbs ≤ x.natAbs + 1 ∧ o.natAbs ≤ x.natAbs + 1) ∧ GivesL w p q o r b e w' := by
  obtain ⟨B1, V0, V1, V2⟩ := start_RZV w s A n c D m k t B m2 d2
  have HX := Lib.hid (h.below B1.out)
  have HY := Lib.hid (h'.below B1.out)
  have HM := Lib.hid (hm.below B1.out)
  have LX : Hid ((ofv x.natAbs).length ≤ 1048576) := Nat.le_trans h.len ln
  have LY : Hid ((ofv y.natAbs).length ≤ 1048576) := Nat.le_trans h'.len lm
  have LN := Lib.hid ln
  have LM := Lib.hid lm
  have HG := Lib.hid hg
  have HM0 := Lib.hid M0
  have HMY := Lib.hid My
  obtain ⟨one, e1⟩ : ∃ z0 : Int, (1 : Int) = z0 := ⟨_, rfl⟩
  obtain ⟨zero, e0⟩ : ∃ z0 : Int, (0 : Int) = z0 := ⟨_, rfl⟩
  have E1 := Lib.hid e1
  have E0 := Lib.hid e0
  clear h h' hm ln lm hg M0 My e1 e0
  go_enter Tryz.func117, Tryz.ntmps117
  go_wp2_with fail
  generalize (((w.alloc (.cells #[.bool s, .slice A n c, .slice D m k] 26)).alloc (.cells #[.bool t, .slice B m2 d2] 24)).alloc (.cells #[.bool false, .slice none 0 0, .bool false, .slice none 0 0, .bool false, .slice none 0 0, .bool false, .slice none 0 0] 111)) = w2 at *
  have pc0 := Lib.hid trivial
  go_wp2_with (first
    | (clear pc0; go_at_call 44; refine Calls.mono (expand_any _ _ _ _ _ _ _ _) ?_; rintro e wa ⟨rfl, hb⟩; replace V0 := Lib.hid (V0.out.below hb V0.out.lt); replace V1 := Lib.hid (V1.out.below hb V1.out.lt); replace V2 := Lib.hid (V2.out.below hb V2.out.lt); replace HX := Lib.hid (HX.out.below hb); replace HY := Lib.hid (HY.out.below hb); replace HM := Lib.hid (HM.out.below hb); replace B1 := Lib.hid (B1.out.trans (hb.mono B1.out.size)); clear hb; have pc1 := Lib.hid trivial)
    | (clear pc1; go_at_call 106; refine Calls.mono (nothing_any (one := one) (zero := zero) E1.out E0.out _) ?_; rintro e wb ⟨P1, c1, P2, c2, P3, c3, P4, c4, rfl, z1, z2, z3, z4, hb⟩; replace V0 := Lib.hid (V0.out.below hb V0.out.lt); replace V1 := Lib.hid (V1.out.below hb V1.out.lt); replace V2 := Lib.hid (V2.out.below hb V2.out.lt); replace HX := Lib.hid (HX.out.below hb); replace HY := Lib.hid (HY.out.below hb); replace HM := Lib.hid (HM.out.below hb); replace B1 := Lib.hid (B1.out.trans (hb.mono B1.out.size)); have ZP := Lib.hid z1; have ZQ := Lib.hid z2; have ZO := Lib.hid z3; have ZR := Lib.hid z4; clear z1 z2 z3 z4; clear hb; have pc2 := Lib.hid trivial)
    | (clear pc2; have LG : Hid (w.heap.size + 2 < wb.heap.size) := V2.out.lt; have hb : Below wb.heap.size wb (wb.alloc (.cells #[.bool s, .slice A n c, .bool false, .slice D m k] 62)) := ((Below.refl _ _).alloc (by first | exact Nat.le_refl _ | (simp; done) | (simp; omega)) _); replace V0 := Lib.hid (V0.out.below hb V0.out.lt); replace V1 := Lib.hid (V1.out.below hb V1.out.lt); replace V2 := Lib.hid (V2.out.below hb V2.out.lt); replace HX := Lib.hid (HX.out.below hb); replace HY := Lib.hid (HY.out.below hb); replace HM := Lib.hid (HM.out.below hb); replace ZP := Lib.hid (ZP.out.below hb); replace ZQ := Lib.hid (ZQ.out.below hb); replace ZO := Lib.hid (ZO.out.below hb); replace ZR := Lib.hid (ZR.out.below hb); replace B1 := Lib.hid (B1.out.trans (hb.mono B1.out.size)); have V6 := Lib.hid (Eb.new wb s A n c false D m k); clear hb; generalize (wb.alloc (.cells #[.bool s, .slice A n c, .bool false, .slice D m k] 62)) = wc at *; generalize wb.heap.size = g6 at *; refine wpList_stV (by rfl) _ _ rfl (by rfl) (by rfl) V2.out ?_; intro wd hz hg; have bx := V2.out.bx; replace V0 := Lib.hid (V0.out.gro hg (by have := LG.out; omega)); replace V1 := Lib.hid (V1.out.gro hg (by have := LG.out; omega)); replace HX := Lib.hid (HX.out.grB bx hg); replace HY := Lib.hid (HY.out.grB bx hg); replace HM := Lib.hid (HM.out.grB bx hg); replace ZP := Lib.hid (ZP.out.grB bx hg); replace ZQ := Lib.hid (ZQ.out.grB bx hg); replace ZO := Lib.hid (ZO.out.grB bx hg); replace ZR := Lib.hid (ZR.out.grB bx hg); replace V6 := Lib.hid (V6.out.gro hg (by have := LG.out; omega)); replace B1 := Lib.hid (Below.gr B1.out (by omega) hg B1.out.size); clear bx; replace V2 := Lib.hid hz; clear hz hg; have pc3 := Lib.hid trivial))
  clear pc3
  have ST : Hid (LcInv w g6 x y M t B m2 d2 x y one zero zero one false wd) := by
    refine ⟨by rw [← E1.out, ← E0.out]; exact Lst.start (by have := HM0.out; have := HMY.out; omega) HM0.out, ⟨Int.le_refl _, by rw [← E1.out]; show 1 ≤ _; omega, by rw [← E0.out]; show 0 ≤ _; omega⟩, LG.out, V1.out, HM.out, ⟨_, _, _, _, _, _, _, _, V2.out, ZP.out, ZQ.out, ZO.out, ZR.out⟩, ⟨_, _, _, _, _, _, _, _, V6.out, HX.out, HY.out, Nat.le_succ_of_le LN.out, Nat.le_succ_of_le LM.out⟩, B1.out⟩
  clear V0 V1 V2 V6 HX HY HM ZP ZQ ZO ZR B1 LG
  try simp only [Act.put]
  go_loopw [5] (fun bv wr => ∃ (X Y p q o r : Int) (b : Bool), Hid (LcInv w g6 x y M t B m2 d2 X Y p q o r b wr) ∧ bv = .bool b) (fun _ wr => rdy wr g6)
  case atStart => exact ⟨x, y, one, zero, zero, one, false, ST.out, rfl⟩
  case round =>
    obtain ⟨X, Y, p, q, o, r, b, hI, rfl⟩ := hrel
    have MS : Hid (rdy wr g6 = Y.natAbs) := rdy_ex hI.out.2.2.2.2.2.2.1
    obtain ⟨inv, ⟨yb, pb, ob⟩, lg, v1, hM, ⟨P, cp, Q, cq, O, co, R, cr, v2, zp, zq, zo, zr⟩, ex, bel⟩ := hI.out
    have INV := Lib.hid inv
    have YB := Lib.hid yb
    have PB := Lib.hid pb
    have OB := Lib.hid ob
    have LG := Lib.hid lg
    have V1 := Lib.hid v1
    have HM := Lib.hid hM
    have V2 := Lib.hid v2
    have ZP := Lib.hid zp
    have ZQ := Lib.hid zq
    have ZO := Lib.hid zo
    have ZR := Lib.hid zr
    have EX := Lib.hid ex
    have B1 := Lib.hid bel
    clear hI inv yb pb ob lg v1 hM v2 zp zq zo zr ex bel
    obtain ⟨tt, et⟩ : ∃ z0 : Int, X / Y = z0 := ⟨_, rfl⟩
    obtain ⟨Y', ey⟩ : ∃ z0 : Int, X % Y = z0 := ⟨_, rfl⟩
    obtain ⟨u, eu⟩ : ∃ z0 : Int, tt * p + o = z0 := ⟨_, rfl⟩
    obtain ⟨v, ev⟩ : ∃ z0 : Int, tt * q + r = z0 := ⟨_, rfl⟩
    have ET := Lib.hid et
    have EY := Lib.hid ey
    have EU := Lib.hid eu
    have EV := Lib.hid ev
    have Y0 : Hid (Y ≠ 0) := by show _ ≠ _; have := INV.out.Y0; omega
    have lX : (ofv X.natAbs).length ≤ 1048577 := by
      obtain ⟨_, _, n9, _, _, _, _, _, _, h9, _, l9, _⟩ := EX.out
      exact Nat.le_trans h9.len l9
    have LT : Hid ((ofv tt.natAbs).length ≤ 100000000) := by show _ ≤ _; rw [← et]; exact Nat.le_trans (len_mono (ediv_abs_le X Y)) (Nat.le_trans lX (by decide))
    have LP : Hid ((ofv p.natAbs).length ≤ 100000000) := Nat.le_trans (len_mono PB.out) (Nat.le_trans (len_succ LX.out (by decide)) (by decide))
    have LO : Hid ((ofv o.natAbs).length ≤ 100000000) := Nat.le_trans (len_mono OB.out) (Nat.le_trans (len_succ LX.out (by decide)) (by decide))
    have LQ : Hid ((ofv q.natAbs).length ≤ 100000000) := Nat.le_trans (len_mono (by have := INV.out.q0; have := INV.out.qm; have := HMY.out; omega)) (Nat.le_trans LY.out (by decide))
    have LR : Hid ((ofv r.natAbs).length ≤ 100000000) := Nat.le_trans (len_mono (by have := INV.out.r0; have := INV.out.rm; have := HMY.out; omega)) (Nat.le_trans LY.out (by decide))
    clear et ey eu ev lX
    go_wp2_with fail
    have hb : Below wr.heap.size wr wr.drew := below_drewN _ _ 1
    replace V1 := Lib.hid (V1.out.below hb V1.out.lt)
    replace HM := Lib.hid (HM.out.below hb)
    replace V2 := Lib.hid (V2.out.below hb V2.out.lt)
    replace ZP := Lib.hid (ZP.out.below hb)
    replace ZQ := Lib.hid (ZQ.out.below hb)
    replace ZO := Lib.hid (ZO.out.below hb)
    replace ZR := Lib.hid (ZR.out.below hb)
    replace EX := Lib.hid (EX.out.below hb)
    replace B1 := Lib.hid (B1.out.trans (hb.mono B1.out.size))
    clear hb
    refine wp_region_held_drew (S := fun w' => Vb w' (w.heap.size + 2) (decide (p < 0)) P (ofv p.natAbs).length cp (decide (q < 0)) Q (ofv q.natAbs).length cq (decide (o < 0)) O (ofv o.natAbs).length co (decide (r < 0)) R (ofv r.natAbs).length cr) (by kernel_rfl) V2.out (fun hHeld => ?_)
    generalize wr.drew = wrd at *
    refine wpAnyH_takeL (i := 0) (oi := _) rfl (by kernel_rfl) (by kernel_rfl) (by kernel_rfl) (fun _ _ _ h => h) (yields_ldV (by rfl) _ rfl (by rfl) (fun _ hS => hS)) hHeld ?_
    try simp only [Act.put, List.setIfInBounds_toArray, List.set_cons_zero, List.set_cons_succ]
    refine wpAnyH_ready (rs := [1, 3]) (by kernel_rfl) (by simp) ?_
    refine AllReadyH.consL (o := _) rfl (fun K hK => ?_) (AllReadyH.consL (o := _) rfl (fun K hK => ?_) AllReadyH.nil)
    · skip
      clear hHeld
      go_simp
      go_at_call 46
      refine Calls.mono (next_any (q := tt) (r := Y') EX.out (by decide) Y0.out ET.out EY.out) ?_
      rintro e wm ⟨PT, cT, rfl, zt, ex, hg⟩
      have bx := EX.out.bx
      replace V1 := Lib.hid (V1.out.gro hg (by have := LG.out; omega))
      replace HM := Lib.hid (HM.out.grB bx hg)
      replace V2 := Lib.hid (V2.out.gro hg (by have := LG.out; omega))
      replace ZP := Lib.hid (ZP.out.grB bx hg)
      replace ZQ := Lib.hid (ZQ.out.grB bx hg)
      replace ZO := Lib.hid (ZO.out.grB bx hg)
      replace ZR := Lib.hid (ZR.out.grB bx hg)
      replace B1 := Lib.hid (Below.gr B1.out (by have := LG.out; omega) hg B1.out.size)
      clear bx hg
      have ZT := Lib.hid zt
      have EX := Lib.hid ex
      clear zt ex
      refine hK.out _ _ V2.out (fun hHeld => ?_)
      clear hK K
      try simp only [Act.put, List.setIfInBounds_toArray, List.set_cons_zero, List.set_cons_succ]
      refine wpAnyH_ready (rs := [2, 3]) (by kernel_rfl) (by simp) ?_
      refine AllReadyH.consL (o := _) rfl (fun K hK => ?_) (AllReadyH.consL (o := _) rfl (fun K hK => ?_) AllReadyH.nil)
      · skip
        clear hHeld
        go_simp
        go_at_call 109
        refine Calls.mono (extended_any (p := p) (q := q) (o := o) (r := r) (t := tt) (u := u) (v := v) ZP.out ZQ.out ZO.out ZR.out ZT.out LT.out LP.out LQ.out LO.out LR.out EU.out EV.out) ?_
        rintro e wx ⟨P5, c5, P6, c6, P7, c7, P8, c8, rfl, z1, z2, z3, z4, hb⟩
        replace V1 := Lib.hid (V1.out.below hb V1.out.lt)
        replace HM := Lib.hid (HM.out.below hb)
        replace V2 := Lib.hid (V2.out.below hb V2.out.lt)
        replace ZP := Lib.hid (ZP.out.below hb)
        replace ZQ := Lib.hid (ZQ.out.below hb)
        replace ZO := Lib.hid (ZO.out.below hb)
        replace ZR := Lib.hid (ZR.out.below hb)
        replace ZT := Lib.hid (ZT.out.below hb)
        replace EX := Lib.hid (EX.out.below hb)
        replace B1 := Lib.hid (B1.out.trans (hb.mono B1.out.size))
        clear hb
        have Z1 := Lib.hid z1
        have Z2 := Lib.hid z2
        have Z3 := Lib.hid z3
        have Z4 := Lib.hid z4
        clear z1 z2 z3 z4
        refine hK.out _ _ V2.out (fun hHeld => ?_)
        clear hK K
        try simp only [Act.put, List.setIfInBounds_toArray, List.set_cons_zero, List.set_cons_succ]
        refine wpAnyH_ready (rs := [3]) (by kernel_rfl) (by simp) ?_
        refine AllReadyH.consL (o := _) rfl (fun K hK => ?_) AllReadyH.nil
        clear hHeld
        go_simp
        have LG7 : Hid (g6 < wx.heap.size) := EX.out.lt
        have hb : Below wx.heap.size wx (wx.alloc (.cells #[.bool false, .slice none 0 0, .bool false, .slice none 0 0, .bool false, .slice none 0 0, .bool false, .slice none 0 0] 111)) := ((Below.refl _ _).alloc (by first | exact Nat.le_refl _ | (simp; done) | (simp; omega)) _)
        replace V1 := Lib.hid (V1.out.below hb V1.out.lt)
        replace HM := Lib.hid (HM.out.below hb)
        replace V2 := Lib.hid (V2.out.below hb V2.out.lt)
        replace ZP := Lib.hid (ZP.out.below hb)
        replace ZQ := Lib.hid (ZQ.out.below hb)
        replace ZO := Lib.hid (ZO.out.below hb)
        replace ZR := Lib.hid (ZR.out.below hb)
        replace ZT := Lib.hid (ZT.out.below hb)
        replace EX := Lib.hid (EX.out.below hb)
        replace Z1 := Lib.hid (Z1.out.below hb)
        replace Z2 := Lib.hid (Z2.out.below hb)
        replace Z3 := Lib.hid (Z3.out.below hb)
        replace Z4 := Lib.hid (Z4.out.below hb)
        replace B1 := Lib.hid (B1.out.trans (hb.mono B1.out.size))
        have V7 := Lib.hid (Vb.new wx false none 0 0 false none 0 0 false none 0 0 false none 0 0)
        clear hb
        obtain ⟨g7, hgg⟩ : ∃ z0 : Nat, wx.heap.size = z0 := ⟨_, rfl⟩
        obtain ⟨wn, hwn⟩ : ∃ z0 : World, wx.alloc (.cells #[.bool false, .slice none 0 0, .bool false, .slice none 0 0, .bool false, .slice none 0 0, .bool false, .slice none 0 0] 111) = z0 := ⟨_, rfl⟩
        rw [hwn, hgg]
        simp only [hwn, hgg] at V1 HM V2 ZP ZQ ZO ZR ZT EX Z1 Z2 Z3 Z4 V7 B1 LG7
        clear hwn hgg
        refine hK.out _ _ V2.out (fun hHeld => ?_)
        clear hK K
        try simp only [Act.put, List.setIfInBounds_toArray, List.set_cons_zero, List.set_cons_succ]
        refine wpAnyH_ready (rs := [4]) (by kernel_rfl) (by simp) ?_
        refine AllReadyH.consL (o := _) rfl (fun K hK => ?_) AllReadyH.nil
        clear hHeld
        rw [if_pos (by rfl)]
        refine wp_stV _ _ rfl (by rfl) (by rfl) V7.out ?_
        intro wv4 hz hg
        have bx := V7.out.bx
        replace V1 := Lib.hid (V1.out.gro hg (by have := LG.out; have := LG7.out; omega))
        replace HM := Lib.hid (HM.out.grB bx hg)
        replace V2 := Lib.hid (V2.out.gro hg (by have := LG.out; have := LG7.out; omega))
        replace ZP := Lib.hid (ZP.out.grB bx hg)
        replace ZQ := Lib.hid (ZQ.out.grB bx hg)
        replace ZO := Lib.hid (ZO.out.grB bx hg)
        replace ZR := Lib.hid (ZR.out.grB bx hg)
        replace ZT := Lib.hid (ZT.out.grB bx hg)
        replace EX := Lib.hid (EX.out.gr hg (by have := LG.out; have := LG7.out; omega) bx)
        replace Z1 := Lib.hid (Z1.out.grB bx hg)
        replace Z2 := Lib.hid (Z2.out.grB bx hg)
        replace Z3 := Lib.hid (Z3.out.grB bx hg)
        replace Z4 := Lib.hid (Z4.out.grB bx hg)
        replace B1 := Lib.hid (Below.gr B1.out (by have := LG.out; have := LG7.out; omega) hg B1.out.size)
        clear bx
        replace V7 := Lib.hid hz
        clear hz hg
        refine hK.out _ _ V2.out (fun hHeld => ?_)
        clear hK K
        try simp only [Act.put]
        clear hHeld
        refine wpAnyH_done (by kernel_rfl) ?_ _
        skip
        rcases sg_cases (v - M) with ⟨hk, hxy⟩ | ⟨hk, hxy⟩ | ⟨hk, hxy⟩
        · have HK := Lib.hid hk
          have HXY := Lib.hid hxy
          clear hk hxy
          have pc0 := Lib.hid trivial
          go_wp2_with (first
            | (clear pc0; refine wpList_ldV1 (by rfl) _ rfl (by rfl) V7.out ?_; have pc1 := Lib.hid trivial)
            | (clear pc1; refine wpList_ldZ (by rfl) _ rfl (by rfl) V1.out ?_; have pc2 := Lib.hid trivial)
            | (clear pc2; go_at_call 105; refine Calls.mono (compare_k (r := (-1)) Z2.out.in_ HM.out HK.out) ?_; rintro e wp ⟨rfl, hb⟩; replace V1 := Lib.hid (V1.out.below hb V1.out.lt); replace HM := Lib.hid (HM.out.below hb); replace V2 := Lib.hid (V2.out.below hb V2.out.lt); replace ZP := Lib.hid (ZP.out.below hb); replace ZQ := Lib.hid (ZQ.out.below hb); replace ZO := Lib.hid (ZO.out.below hb); replace ZR := Lib.hid (ZR.out.below hb); replace ZT := Lib.hid (ZT.out.below hb); replace EX := Lib.hid (EX.out.below hb); replace Z1 := Lib.hid (Z1.out.below hb); replace Z2 := Lib.hid (Z2.out.below hb); replace Z3 := Lib.hid (Z3.out.below hb); replace Z4 := Lib.hid (Z4.out.below hb); replace V7 := Lib.hid (V7.out.below hb V7.out.lt); replace B1 := Lib.hid (B1.out.trans (hb.mono B1.out.size)); clear hb; have pc3 := Lib.hid trivial)
            | (clear pc3; refine wpList_ldV (by rfl) _ rfl (by rfl) V7.out ?_; have pc4 := Lib.hid trivial)
            | (clear pc4; refine wpList_stV (by rfl) _ _ rfl (by rfl) (by rfl) V2.out ?_; intro wz hz hg; have bx := V2.out.bx; replace V1 := Lib.hid (V1.out.gro hg (by have := LG.out; have := LG7.out; omega)); replace HM := Lib.hid (HM.out.grB bx hg); replace ZP := Lib.hid (ZP.out.grB bx hg); replace ZQ := Lib.hid (ZQ.out.grB bx hg); replace ZO := Lib.hid (ZO.out.grB bx hg); replace ZR := Lib.hid (ZR.out.grB bx hg); replace ZT := Lib.hid (ZT.out.grB bx hg); replace EX := Lib.hid (EX.out.gr hg (by have := LG.out; have := LG7.out; omega) bx); replace Z1 := Lib.hid (Z1.out.grB bx hg); replace Z2 := Lib.hid (Z2.out.grB bx hg); replace Z3 := Lib.hid (Z3.out.grB bx hg); replace Z4 := Lib.hid (Z4.out.grB bx hg); replace V7 := Lib.hid (V7.out.gro hg (by have := LG.out; have := LG7.out; omega)); replace B1 := Lib.hid (Below.gr B1.out (by omega) hg B1.out.size); clear bx; replace V2 := Lib.hid hz; clear hz hg; have pc5 := Lib.hid trivial))
          clear pc5
          obtain ⟨n1, n2, n3, n4⟩ := INV.out.step HG.out HMY.out ET.out EY.out EU.out EV.out (by have := HXY.out; omega)
          have yb := YB.out
          have yb2 := HMY.out
          have bd := n1.st.bound n1.d n3 (by have := n1.qm; omega) (by have := n1.Y0; omega) (by omega)
          try simp only [Act.put]
          go_roundw
          case rel => exact ⟨Y, Y', u, v, p, q, !b, Lib.hid ⟨n1, ⟨by omega, by omega, PB.out⟩, LG.out, V1.out, HM.out, ⟨_, _, _, _, _, _, _, _, V2.out, Z1.out, Z2.out, Z3.out, Z4.out⟩, EX.out, B1.out⟩, rfl⟩
          case measure => rw [MS.out, rdy_ex EX.out]; exact n2
        · have HK := Lib.hid hk
          have HXY := Lib.hid hxy
          clear hk hxy
          have pc0 := Lib.hid trivial
          go_wp2_with (first
            | (clear pc0; refine wpList_ldV1 (by rfl) _ rfl (by rfl) V7.out ?_; have pc1 := Lib.hid trivial)
            | (clear pc1; refine wpList_ldZ (by rfl) _ rfl (by rfl) V1.out ?_; have pc2 := Lib.hid trivial)
            | (clear pc2; go_at_call 105; refine Calls.mono (compare_k (r := 0) Z2.out.in_ HM.out HK.out) ?_; rintro e wp ⟨rfl, hb⟩; replace V1 := Lib.hid (V1.out.below hb V1.out.lt); replace HM := Lib.hid (HM.out.below hb); replace V2 := Lib.hid (V2.out.below hb V2.out.lt); replace ZP := Lib.hid (ZP.out.below hb); replace ZQ := Lib.hid (ZQ.out.below hb); replace ZO := Lib.hid (ZO.out.below hb); replace ZR := Lib.hid (ZR.out.below hb); replace ZT := Lib.hid (ZT.out.below hb); replace EX := Lib.hid (EX.out.below hb); replace Z1 := Lib.hid (Z1.out.below hb); replace Z2 := Lib.hid (Z2.out.below hb); replace Z3 := Lib.hid (Z3.out.below hb); replace Z4 := Lib.hid (Z4.out.below hb); replace V7 := Lib.hid (V7.out.below hb V7.out.lt); replace B1 := Lib.hid (B1.out.trans (hb.mono B1.out.size)); clear hb; have pc3 := Lib.hid trivial)
            | (clear pc3; refine wpList_ldV (by rfl) _ rfl (by rfl) V7.out ?_; have pc4 := Lib.hid trivial)
            | (clear pc4; refine wpList_stV (by rfl) _ _ rfl (by rfl) (by rfl) V2.out ?_; intro wz hz hg; have bx := V2.out.bx; replace V1 := Lib.hid (V1.out.gro hg (by have := LG.out; have := LG7.out; omega)); replace HM := Lib.hid (HM.out.grB bx hg); replace ZP := Lib.hid (ZP.out.grB bx hg); replace ZQ := Lib.hid (ZQ.out.grB bx hg); replace ZO := Lib.hid (ZO.out.grB bx hg); replace ZR := Lib.hid (ZR.out.grB bx hg); replace ZT := Lib.hid (ZT.out.grB bx hg); replace EX := Lib.hid (EX.out.gr hg (by have := LG.out; have := LG7.out; omega) bx); replace Z1 := Lib.hid (Z1.out.grB bx hg); replace Z2 := Lib.hid (Z2.out.grB bx hg); replace Z3 := Lib.hid (Z3.out.grB bx hg); replace Z4 := Lib.hid (Z4.out.grB bx hg); replace V7 := Lib.hid (V7.out.gro hg (by have := LG.out; have := LG7.out; omega)); replace B1 := Lib.hid (Below.gr B1.out (by omega) hg B1.out.size); clear bx; replace V2 := Lib.hid hz; clear hz hg; have pc5 := Lib.hid trivial))
          clear pc5
          obtain ⟨n1, n2, n3, n4⟩ := INV.out.step HG.out HMY.out ET.out EY.out EU.out EV.out (by have := HXY.out; omega)
          have yb := YB.out
          have yb2 := HMY.out
          have bd := n1.st.bound n1.d n3 (by have := n1.qm; omega) (by have := n1.Y0; omega) (by omega)
          try simp only [Act.put]
          go_roundw
          case rel => exact ⟨Y, Y', u, v, p, q, !b, Lib.hid ⟨n1, ⟨by omega, by omega, PB.out⟩, LG.out, V1.out, HM.out, ⟨_, _, _, _, _, _, _, _, V2.out, Z1.out, Z2.out, Z3.out, Z4.out⟩, EX.out, B1.out⟩, rfl⟩
          case measure => rw [MS.out, rdy_ex EX.out]; exact n2
        · have HK := Lib.hid hk
          have HXY := Lib.hid hxy
          clear hk hxy
          have pc0 := Lib.hid trivial
          go_wp2_with (first
            | (clear pc0; refine wpList_ldV1 (by rfl) _ rfl (by rfl) V7.out ?_; have pc1 := Lib.hid trivial)
            | (clear pc1; refine wpList_ldZ (by rfl) _ rfl (by rfl) V1.out ?_; have pc2 := Lib.hid trivial)
            | (clear pc2; go_at_call 105; refine Calls.mono (compare_k (r := 1) Z2.out.in_ HM.out HK.out) ?_; rintro e wp ⟨rfl, hb⟩; replace V1 := Lib.hid (V1.out.below hb V1.out.lt); replace HM := Lib.hid (HM.out.below hb); replace V2 := Lib.hid (V2.out.below hb V2.out.lt); replace ZP := Lib.hid (ZP.out.below hb); replace ZQ := Lib.hid (ZQ.out.below hb); replace ZO := Lib.hid (ZO.out.below hb); replace ZR := Lib.hid (ZR.out.below hb); replace ZT := Lib.hid (ZT.out.below hb); replace EX := Lib.hid (EX.out.below hb); replace Z1 := Lib.hid (Z1.out.below hb); replace Z2 := Lib.hid (Z2.out.below hb); replace Z3 := Lib.hid (Z3.out.below hb); replace Z4 := Lib.hid (Z4.out.below hb); replace V7 := Lib.hid (V7.out.below hb V7.out.lt); replace B1 := Lib.hid (B1.out.trans (hb.mono B1.out.size)); clear hb; have pc3 := Lib.hid trivial)
            | (clear pc3; refine wpList_ldV (by rfl) _ rfl (by rfl) V2.out ?_; have pc4 := Lib.hid trivial)
            | (clear pc4; refine wpList_stV (by rfl) _ _ rfl (by rfl) (by rfl) V2.out ?_; intro wz hz hg; have bx := V2.out.bx; replace V1 := Lib.hid (V1.out.gro hg (by have := LG.out; have := LG7.out; omega)); replace HM := Lib.hid (HM.out.grB bx hg); replace ZP := Lib.hid (ZP.out.grB bx hg); replace ZQ := Lib.hid (ZQ.out.grB bx hg); replace ZO := Lib.hid (ZO.out.grB bx hg); replace ZR := Lib.hid (ZR.out.grB bx hg); replace ZT := Lib.hid (ZT.out.grB bx hg); replace EX := Lib.hid (EX.out.gr hg (by have := LG.out; have := LG7.out; omega) bx); replace Z1 := Lib.hid (Z1.out.grB bx hg); replace Z2 := Lib.hid (Z2.out.grB bx hg); replace Z3 := Lib.hid (Z3.out.grB bx hg); replace Z4 := Lib.hid (Z4.out.grB bx hg); replace V7 := Lib.hid (V7.out.gro hg (by have := LG.out; have := LG7.out; omega)); replace B1 := Lib.hid (Below.gr B1.out (by omega) hg B1.out.size); clear bx; replace V2 := Lib.hid hz; clear hz hg; have pc5 := Lib.hid trivial))
          clear pc5
          exact ret_vb2 Tryz.results117 rfl rfl rfl V2.out ⟨X, Y, p, q, o, r, b, INV.out.ok ET.out EV.out HM0.out (by have := HXY.out; omega), ⟨PB.out, OB.out⟩, _, _, _, _, _, _, _, _, rfl, ZP.out, ZQ.out, ZO.out, ZR.out, B1.out⟩
      · skip
        clear hHeld
        go_simp
        have LG7 : Hid (g6 < wm.heap.size) := EX.out.lt
        have hb : Below wm.heap.size wm (wm.alloc (.cells #[.bool false, .slice none 0 0, .bool false, .slice none 0 0, .bool false, .slice none 0 0, .bool false, .slice none 0 0] 111)) := ((Below.refl _ _).alloc (by first | exact Nat.le_refl _ | (simp; done) | (simp; omega)) _)
        replace V1 := Lib.hid (V1.out.below hb V1.out.lt)
        replace HM := Lib.hid (HM.out.below hb)
        replace V2 := Lib.hid (V2.out.below hb V2.out.lt)
        replace ZP := Lib.hid (ZP.out.below hb)
        replace ZQ := Lib.hid (ZQ.out.below hb)
        replace ZO := Lib.hid (ZO.out.below hb)
        replace ZR := Lib.hid (ZR.out.below hb)
        replace ZT := Lib.hid (ZT.out.below hb)
        replace EX := Lib.hid (EX.out.below hb)
        replace B1 := Lib.hid (B1.out.trans (hb.mono B1.out.size))
        have V7 := Lib.hid (Vb.new wm false none 0 0 false none 0 0 false none 0 0 false none 0 0)
        clear hb
        obtain ⟨g7, hgg⟩ : ∃ z0 : Nat, wm.heap.size = z0 := ⟨_, rfl⟩
        obtain ⟨wn, hwn⟩ : ∃ z0 : World, wm.alloc (.cells #[.bool false, .slice none 0 0, .bool false, .slice none 0 0, .bool false, .slice none 0 0, .bool false, .slice none 0 0] 111) = z0 := ⟨_, rfl⟩
        rw [hwn, hgg]
        simp only [hwn, hgg] at V1 HM V2 ZP ZQ ZO ZR ZT EX V7 B1 LG7
        clear hwn hgg
        refine hK.out _ _ V2.out (fun hHeld => ?_)
        clear hK K
        try simp only [Act.put, List.setIfInBounds_toArray, List.set_cons_zero, List.set_cons_succ]
        refine wpAnyH_ready (rs := [2]) (by kernel_rfl) (by simp) ?_
        refine AllReadyH.consL (o := _) rfl (fun K hK => ?_) AllReadyH.nil
        clear hHeld
        go_simp
        go_at_call 109
        refine Calls.mono (extended_any (p := p) (q := q) (o := o) (r := r) (t := tt) (u := u) (v := v) ZP.out ZQ.out ZO.out ZR.out ZT.out LT.out LP.out LQ.out LO.out LR.out EU.out EV.out) ?_
        rintro e wx ⟨P5, c5, P6, c6, P7, c7, P8, c8, rfl, z1, z2, z3, z4, hb⟩
        replace V1 := Lib.hid (V1.out.below hb V1.out.lt)
        replace HM := Lib.hid (HM.out.below hb)
        replace V2 := Lib.hid (V2.out.below hb V2.out.lt)
        replace ZP := Lib.hid (ZP.out.below hb)
        replace ZQ := Lib.hid (ZQ.out.below hb)
        replace ZO := Lib.hid (ZO.out.below hb)
        replace ZR := Lib.hid (ZR.out.below hb)
        replace ZT := Lib.hid (ZT.out.below hb)
        replace EX := Lib.hid (EX.out.below hb)
        replace V7 := Lib.hid (V7.out.below hb V7.out.lt)
        replace B1 := Lib.hid (B1.out.trans (hb.mono B1.out.size))
        clear hb
        have Z1 := Lib.hid z1
        have Z2 := Lib.hid z2
        have Z3 := Lib.hid z3
        have Z4 := Lib.hid z4
        clear z1 z2 z3 z4
        refine hK.out _ _ V2.out (fun hHeld => ?_)
        clear hK K
        try simp only [Act.put, List.setIfInBounds_toArray, List.set_cons_zero, List.set_cons_succ]
        refine wpAnyH_ready (rs := [4]) (by kernel_rfl) (by simp) ?_
        refine AllReadyH.consL (o := _) rfl (fun K hK => ?_) AllReadyH.nil
        clear hHeld
        rw [if_pos (by rfl)]
        refine wp_stV _ _ rfl (by rfl) (by rfl) V7.out ?_
        intro wv4 hz hg
        have bx := V7.out.bx
        replace V1 := Lib.hid (V1.out.gro hg (by have := LG.out; have := LG7.out; omega))
        replace HM := Lib.hid (HM.out.grB bx hg)
        replace V2 := Lib.hid (V2.out.gro hg (by have := LG.out; have := LG7.out; omega))
        replace ZP := Lib.hid (ZP.out.grB bx hg)
        replace ZQ := Lib.hid (ZQ.out.grB bx hg)
        replace ZO := Lib.hid (ZO.out.grB bx hg)
        replace ZR := Lib.hid (ZR.out.grB bx hg)
        replace ZT := Lib.hid (ZT.out.grB bx hg)
        replace EX := Lib.hid (EX.out.gr hg (by have := LG.out; have := LG7.out; omega) bx)
        replace Z1 := Lib.hid (Z1.out.grB bx hg)
        replace Z2 := Lib.hid (Z2.out.grB bx hg)
        replace Z3 := Lib.hid (Z3.out.grB bx hg)
        replace Z4 := Lib.hid (Z4.out.grB bx hg)
        replace B1 := Lib.hid (Below.gr B1.out (by have := LG.out; have := LG7.out; omega) hg B1.out.size)
        clear bx
        replace V7 := Lib.hid hz
        clear hz hg
        refine hK.out _ _ V2.out (fun hHeld => ?_)
        clear hK K
        try simp only [Act.put]
        clear hHeld
        refine wpAnyH_done (by kernel_rfl) ?_ _
        skip
        rcases sg_cases (v - M) with ⟨hk, hxy⟩ | ⟨hk, hxy⟩ | ⟨hk, hxy⟩
        · have HK := Lib.hid hk
          have HXY := Lib.hid hxy
          clear hk hxy
          have pc0 := Lib.hid trivial
          go_wp2_with (first
            | (clear pc0; refine wpList_ldV1 (by rfl) _ rfl (by rfl) V7.out ?_; have pc1 := Lib.hid trivial)
            | (clear pc1; refine wpList_ldZ (by rfl) _ rfl (by rfl) V1.out ?_; have pc2 := Lib.hid trivial)
            | (clear pc2; go_at_call 105; refine Calls.mono (compare_k (r := (-1)) Z2.out.in_ HM.out HK.out) ?_; rintro e wp ⟨rfl, hb⟩; replace V1 := Lib.hid (V1.out.below hb V1.out.lt); replace HM := Lib.hid (HM.out.below hb); replace V2 := Lib.hid (V2.out.below hb V2.out.lt); replace ZP := Lib.hid (ZP.out.below hb); replace ZQ := Lib.hid (ZQ.out.below hb); replace ZO := Lib.hid (ZO.out.below hb); replace ZR := Lib.hid (ZR.out.below hb); replace ZT := Lib.hid (ZT.out.below hb); replace EX := Lib.hid (EX.out.below hb); replace V7 := Lib.hid (V7.out.below hb V7.out.lt); replace Z1 := Lib.hid (Z1.out.below hb); replace Z2 := Lib.hid (Z2.out.below hb); replace Z3 := Lib.hid (Z3.out.below hb); replace Z4 := Lib.hid (Z4.out.below hb); replace B1 := Lib.hid (B1.out.trans (hb.mono B1.out.size)); clear hb; have pc3 := Lib.hid trivial)
            | (clear pc3; refine wpList_ldV (by rfl) _ rfl (by rfl) V7.out ?_; have pc4 := Lib.hid trivial)
            | (clear pc4; refine wpList_stV (by rfl) _ _ rfl (by rfl) (by rfl) V2.out ?_; intro wz hz hg; have bx := V2.out.bx; replace V1 := Lib.hid (V1.out.gro hg (by have := LG.out; have := LG7.out; omega)); replace HM := Lib.hid (HM.out.grB bx hg); replace ZP := Lib.hid (ZP.out.grB bx hg); replace ZQ := Lib.hid (ZQ.out.grB bx hg); replace ZO := Lib.hid (ZO.out.grB bx hg); replace ZR := Lib.hid (ZR.out.grB bx hg); replace ZT := Lib.hid (ZT.out.grB bx hg); replace EX := Lib.hid (EX.out.gr hg (by have := LG.out; have := LG7.out; omega) bx); replace V7 := Lib.hid (V7.out.gro hg (by have := LG.out; have := LG7.out; omega)); replace Z1 := Lib.hid (Z1.out.grB bx hg); replace Z2 := Lib.hid (Z2.out.grB bx hg); replace Z3 := Lib.hid (Z3.out.grB bx hg); replace Z4 := Lib.hid (Z4.out.grB bx hg); replace B1 := Lib.hid (Below.gr B1.out (by omega) hg B1.out.size); clear bx; replace V2 := Lib.hid hz; clear hz hg; have pc5 := Lib.hid trivial))
          clear pc5
          obtain ⟨n1, n2, n3, n4⟩ := INV.out.step HG.out HMY.out ET.out EY.out EU.out EV.out (by have := HXY.out; omega)
          have yb := YB.out
          have yb2 := HMY.out
          have bd := n1.st.bound n1.d n3 (by have := n1.qm; omega) (by have := n1.Y0; omega) (by omega)
          try simp only [Act.put]
          go_roundw
          case rel => exact ⟨Y, Y', u, v, p, q, !b, Lib.hid ⟨n1, ⟨by omega, by omega, PB.out⟩, LG.out, V1.out, HM.out, ⟨_, _, _, _, _, _, _, _, V2.out, Z1.out, Z2.out, Z3.out, Z4.out⟩, EX.out, B1.out⟩, rfl⟩
          case measure => rw [MS.out, rdy_ex EX.out]; exact n2
        · have HK := Lib.hid hk
          have HXY := Lib.hid hxy
          clear hk hxy
          have pc0 := Lib.hid trivial
          go_wp2_with (first
            | (clear pc0; refine wpList_ldV1 (by rfl) _ rfl (by rfl) V7.out ?_; have pc1 := Lib.hid trivial)
            | (clear pc1; refine wpList_ldZ (by rfl) _ rfl (by rfl) V1.out ?_; have pc2 := Lib.hid trivial)
            | (clear pc2; go_at_call 105; refine Calls.mono (compare_k (r := 0) Z2.out.in_ HM.out HK.out) ?_; rintro e wp ⟨rfl, hb⟩; replace V1 := Lib.hid (V1.out.below hb V1.out.lt); replace HM := Lib.hid (HM.out.below hb); replace V2 := Lib.hid (V2.out.below hb V2.out.lt); replace ZP := Lib.hid (ZP.out.below hb); replace ZQ := Lib.hid (ZQ.out.below hb); replace ZO := Lib.hid (ZO.out.below hb); replace ZR := Lib.hid (ZR.out.below hb); replace ZT := Lib.hid (ZT.out.below hb); replace EX := Lib.hid (EX.out.below hb); replace V7 := Lib.hid (V7.out.below hb V7.out.lt); replace Z1 := Lib.hid (Z1.out.below hb); replace Z2 := Lib.hid (Z2.out.below hb); replace Z3 := Lib.hid (Z3.out.below hb); replace Z4 := Lib.hid (Z4.out.below hb); replace B1 := Lib.hid (B1.out.trans (hb.mono B1.out.size)); clear hb; have pc3 := Lib.hid trivial)
            | (clear pc3; refine wpList_ldV (by rfl) _ rfl (by rfl) V7.out ?_; have pc4 := Lib.hid trivial)
            | (clear pc4; refine wpList_stV (by rfl) _ _ rfl (by rfl) (by rfl) V2.out ?_; intro wz hz hg; have bx := V2.out.bx; replace V1 := Lib.hid (V1.out.gro hg (by have := LG.out; have := LG7.out; omega)); replace HM := Lib.hid (HM.out.grB bx hg); replace ZP := Lib.hid (ZP.out.grB bx hg); replace ZQ := Lib.hid (ZQ.out.grB bx hg); replace ZO := Lib.hid (ZO.out.grB bx hg); replace ZR := Lib.hid (ZR.out.grB bx hg); replace ZT := Lib.hid (ZT.out.grB bx hg); replace EX := Lib.hid (EX.out.gr hg (by have := LG.out; have := LG7.out; omega) bx); replace V7 := Lib.hid (V7.out.gro hg (by have := LG.out; have := LG7.out; omega)); replace Z1 := Lib.hid (Z1.out.grB bx hg); replace Z2 := Lib.hid (Z2.out.grB bx hg); replace Z3 := Lib.hid (Z3.out.grB bx hg); replace Z4 := Lib.hid (Z4.out.grB bx hg); replace B1 := Lib.hid (Below.gr B1.out (by omega) hg B1.out.size); clear bx; replace V2 := Lib.hid hz; clear hz hg; have pc5 := Lib.hid trivial))
          clear pc5
          obtain ⟨n1, n2, n3, n4⟩ := INV.out.step HG.out HMY.out ET.out EY.out EU.out EV.out (by have := HXY.out; omega)
          have yb := YB.out
          have yb2 := HMY.out
          have bd := n1.st.bound n1.d n3 (by have := n1.qm; omega) (by have := n1.Y0; omega) (by omega)
          try simp only [Act.put]
          go_roundw
          case rel => exact ⟨Y, Y', u, v, p, q, !b, Lib.hid ⟨n1, ⟨by omega, by omega, PB.out⟩, LG.out, V1.out, HM.out, ⟨_, _, _, _, _, _, _, _, V2.out, Z1.out, Z2.out, Z3.out, Z4.out⟩, EX.out, B1.out⟩, rfl⟩
          case measure => rw [MS.out, rdy_ex EX.out]; exact n2
        · have HK := Lib.hid hk
          have HXY := Lib.hid hxy
          clear hk hxy
          have pc0 := Lib.hid trivial
          go_wp2_with (first
            | (clear pc0; refine wpList_ldV1 (by rfl) _ rfl (by rfl) V7.out ?_; have pc1 := Lib.hid trivial)
            | (clear pc1; refine wpList_ldZ (by rfl) _ rfl (by rfl) V1.out ?_; have pc2 := Lib.hid trivial)
            | (clear pc2; go_at_call 105; refine Calls.mono (compare_k (r := 1) Z2.out.in_ HM.out HK.out) ?_; rintro e wp ⟨rfl, hb⟩; replace V1 := Lib.hid (V1.out.below hb V1.out.lt); replace HM := Lib.hid (HM.out.below hb); replace V2 := Lib.hid (V2.out.below hb V2.out.lt); replace ZP := Lib.hid (ZP.out.below hb); replace ZQ := Lib.hid (ZQ.out.below hb); replace ZO := Lib.hid (ZO.out.below hb); replace ZR := Lib.hid (ZR.out.below hb); replace ZT := Lib.hid (ZT.out.below hb); replace EX := Lib.hid (EX.out.below hb); replace V7 := Lib.hid (V7.out.below hb V7.out.lt); replace Z1 := Lib.hid (Z1.out.below hb); replace Z2 := Lib.hid (Z2.out.below hb); replace Z3 := Lib.hid (Z3.out.below hb); replace Z4 := Lib.hid (Z4.out.below hb); replace B1 := Lib.hid (B1.out.trans (hb.mono B1.out.size)); clear hb; have pc3 := Lib.hid trivial)
            | (clear pc3; refine wpList_ldV (by rfl) _ rfl (by rfl) V2.out ?_; have pc4 := Lib.hid trivial)
            | (clear pc4; refine wpList_stV (by rfl) _ _ rfl (by rfl) (by rfl) V2.out ?_; intro wz hz hg; have bx := V2.out.bx; replace V1 := Lib.hid (V1.out.gro hg (by have := LG.out; have := LG7.out; omega)); replace HM := Lib.hid (HM.out.grB bx hg); replace ZP := Lib.hid (ZP.out.grB bx hg); replace ZQ := Lib.hid (ZQ.out.grB bx hg); replace ZO := Lib.hid (ZO.out.grB bx hg); replace ZR := Lib.hid (ZR.out.grB bx hg); replace ZT := Lib.hid (ZT.out.grB bx hg); replace EX := Lib.hid (EX.out.gr hg (by have := LG.out; have := LG7.out; omega) bx); replace V7 := Lib.hid (V7.out.gro hg (by have := LG.out; have := LG7.out; omega)); replace Z1 := Lib.hid (Z1.out.grB bx hg); replace Z2 := Lib.hid (Z2.out.grB bx hg); replace Z3 := Lib.hid (Z3.out.grB bx hg); replace Z4 := Lib.hid (Z4.out.grB bx hg); replace B1 := Lib.hid (Below.gr B1.out (by omega) hg B1.out.size); clear bx; replace V2 := Lib.hid hz; clear hz hg; have pc5 := Lib.hid trivial))
          clear pc5
          exact ret_vb2 Tryz.results117 rfl rfl rfl V2.out ⟨X, Y, p, q, o, r, b, INV.out.ok ET.out EV.out HM0.out (by have := HXY.out; omega), ⟨PB.out, OB.out⟩, _, _, _, _, _, _, _, _, rfl, ZP.out, ZQ.out, ZO.out, ZR.out, B1.out⟩
    · skip
      clear hHeld
      go_simp
      have LG7 : Hid (g6 < wrd.heap.size) := EX.out.lt
      have hb : Below wrd.heap.size wrd (wrd.alloc (.cells #[.bool false, .slice none 0 0, .bool false, .slice none 0 0, .bool false, .slice none 0 0, .bool false, .slice none 0 0] 111)) := ((Below.refl _ _).alloc (by first | exact Nat.le_refl _ | (simp; done) | (simp; omega)) _)
      replace V1 := Lib.hid (V1.out.below hb V1.out.lt)
      replace HM := Lib.hid (HM.out.below hb)
      replace V2 := Lib.hid (V2.out.below hb V2.out.lt)
      replace ZP := Lib.hid (ZP.out.below hb)
      replace ZQ := Lib.hid (ZQ.out.below hb)
      replace ZO := Lib.hid (ZO.out.below hb)
      replace ZR := Lib.hid (ZR.out.below hb)
      replace EX := Lib.hid (EX.out.below hb)
      replace B1 := Lib.hid (B1.out.trans (hb.mono B1.out.size))
      have V7 := Lib.hid (Vb.new wrd false none 0 0 false none 0 0 false none 0 0 false none 0 0)
      clear hb
      obtain ⟨g7, hgg⟩ : ∃ z0 : Nat, wrd.heap.size = z0 := ⟨_, rfl⟩
      obtain ⟨wn, hwn⟩ : ∃ z0 : World, wrd.alloc (.cells #[.bool false, .slice none 0 0, .bool false, .slice none 0 0, .bool false, .slice none 0 0, .bool false, .slice none 0 0] 111) = z0 := ⟨_, rfl⟩
      rw [hwn, hgg]
      simp only [hwn, hgg] at V1 HM V2 ZP ZQ ZO ZR EX V7 B1 LG7
      clear hwn hgg
      refine hK.out _ _ V2.out (fun hHeld => ?_)
      clear hK K
      try simp only [Act.put, List.setIfInBounds_toArray, List.set_cons_zero, List.set_cons_succ]
      refine wpAnyH_ready (rs := [1]) (by kernel_rfl) (by simp) ?_
      refine AllReadyH.consL (o := _) rfl (fun K hK => ?_) AllReadyH.nil
      clear hHeld
      go_simp
      go_at_call 46
      refine Calls.mono (next_any (q := tt) (r := Y') EX.out (by decide) Y0.out ET.out EY.out) ?_
      rintro e wm ⟨PT, cT, rfl, zt, ex, hg⟩
      have bx := EX.out.bx
      replace V1 := Lib.hid (V1.out.gro hg (by have := LG.out; omega))
      replace HM := Lib.hid (HM.out.grB bx hg)
      replace V2 := Lib.hid (V2.out.gro hg (by have := LG.out; omega))
      replace ZP := Lib.hid (ZP.out.grB bx hg)
      replace ZQ := Lib.hid (ZQ.out.grB bx hg)
      replace ZO := Lib.hid (ZO.out.grB bx hg)
      replace ZR := Lib.hid (ZR.out.grB bx hg)
      replace V7 := Lib.hid (V7.out.gro hg (by have := LG7.out; omega))
      replace B1 := Lib.hid (Below.gr B1.out (by have := LG.out; omega) hg B1.out.size)
      clear bx hg
      have ZT := Lib.hid zt
      have EX := Lib.hid ex
      clear zt ex
      refine hK.out _ _ V2.out (fun hHeld => ?_)
      clear hK K
      try simp only [Act.put, List.setIfInBounds_toArray, List.set_cons_zero, List.set_cons_succ]
      refine wpAnyH_ready (rs := [2]) (by kernel_rfl) (by simp) ?_
      refine AllReadyH.consL (o := _) rfl (fun K hK => ?_) AllReadyH.nil
      clear hHeld
      go_simp
      go_at_call 109
      refine Calls.mono (extended_any (p := p) (q := q) (o := o) (r := r) (t := tt) (u := u) (v := v) ZP.out ZQ.out ZO.out ZR.out ZT.out LT.out LP.out LQ.out LO.out LR.out EU.out EV.out) ?_
      rintro e wx ⟨P5, c5, P6, c6, P7, c7, P8, c8, rfl, z1, z2, z3, z4, hb⟩
      replace V1 := Lib.hid (V1.out.below hb V1.out.lt)
      replace HM := Lib.hid (HM.out.below hb)
      replace V2 := Lib.hid (V2.out.below hb V2.out.lt)
      replace ZP := Lib.hid (ZP.out.below hb)
      replace ZQ := Lib.hid (ZQ.out.below hb)
      replace ZO := Lib.hid (ZO.out.below hb)
      replace ZR := Lib.hid (ZR.out.below hb)
      replace V7 := Lib.hid (V7.out.below hb V7.out.lt)
      replace ZT := Lib.hid (ZT.out.below hb)
      replace EX := Lib.hid (EX.out.below hb)
      replace B1 := Lib.hid (B1.out.trans (hb.mono B1.out.size))
      clear hb
      have Z1 := Lib.hid z1
      have Z2 := Lib.hid z2
      have Z3 := Lib.hid z3
      have Z4 := Lib.hid z4
      clear z1 z2 z3 z4
      refine hK.out _ _ V2.out (fun hHeld => ?_)
      clear hK K
      try simp only [Act.put, List.setIfInBounds_toArray, List.set_cons_zero, List.set_cons_succ]
      refine wpAnyH_ready (rs := [4]) (by kernel_rfl) (by simp) ?_
      refine AllReadyH.consL (o := _) rfl (fun K hK => ?_) AllReadyH.nil
      clear hHeld
      rw [if_pos (by rfl)]
      refine wp_stV _ _ rfl (by rfl) (by rfl) V7.out ?_
      intro wv4 hz hg
      have bx := V7.out.bx
      replace V1 := Lib.hid (V1.out.gro hg (by have := LG.out; have := LG7.out; omega))
      replace HM := Lib.hid (HM.out.grB bx hg)
      replace V2 := Lib.hid (V2.out.gro hg (by have := LG.out; have := LG7.out; omega))
      replace ZP := Lib.hid (ZP.out.grB bx hg)
      replace ZQ := Lib.hid (ZQ.out.grB bx hg)
      replace ZO := Lib.hid (ZO.out.grB bx hg)
      replace ZR := Lib.hid (ZR.out.grB bx hg)
      replace ZT := Lib.hid (ZT.out.grB bx hg)
      replace EX := Lib.hid (EX.out.gr hg (by have := LG.out; have := LG7.out; omega) bx)
      replace Z1 := Lib.hid (Z1.out.grB bx hg)
      replace Z2 := Lib.hid (Z2.out.grB bx hg)
      replace Z3 := Lib.hid (Z3.out.grB bx hg)
      replace Z4 := Lib.hid (Z4.out.grB bx hg)
      replace B1 := Lib.hid (Below.gr B1.out (by have := LG.out; have := LG7.out; omega) hg B1.out.size)
      clear bx
      replace V7 := Lib.hid hz
      clear hz hg
      refine hK.out _ _ V2.out (fun hHeld => ?_)
      clear hK K
      try simp only [Act.put]
      clear hHeld
      refine wpAnyH_done (by kernel_rfl) ?_ _
      skip
      rcases sg_cases (v - M) with ⟨hk, hxy⟩ | ⟨hk, hxy⟩ | ⟨hk, hxy⟩
      · have HK := Lib.hid hk
        have HXY := Lib.hid hxy
        clear hk hxy
        have pc0 := Lib.hid trivial
        go_wp2_with (first
          | (clear pc0; refine wpList_ldV1 (by rfl) _ rfl (by rfl) V7.out ?_; have pc1 := Lib.hid trivial)
          | (clear pc1; refine wpList_ldZ (by rfl) _ rfl (by rfl) V1.out ?_; have pc2 := Lib.hid trivial)
          | (clear pc2; go_at_call 105; refine Calls.mono (compare_k (r := (-1)) Z2.out.in_ HM.out HK.out) ?_; rintro e wp ⟨rfl, hb⟩; replace V1 := Lib.hid (V1.out.below hb V1.out.lt); replace HM := Lib.hid (HM.out.below hb); replace V2 := Lib.hid (V2.out.below hb V2.out.lt); replace ZP := Lib.hid (ZP.out.below hb); replace ZQ := Lib.hid (ZQ.out.below hb); replace ZO := Lib.hid (ZO.out.below hb); replace ZR := Lib.hid (ZR.out.below hb); replace V7 := Lib.hid (V7.out.below hb V7.out.lt); replace ZT := Lib.hid (ZT.out.below hb); replace EX := Lib.hid (EX.out.below hb); replace Z1 := Lib.hid (Z1.out.below hb); replace Z2 := Lib.hid (Z2.out.below hb); replace Z3 := Lib.hid (Z3.out.below hb); replace Z4 := Lib.hid (Z4.out.below hb); replace B1 := Lib.hid (B1.out.trans (hb.mono B1.out.size)); clear hb; have pc3 := Lib.hid trivial)
          | (clear pc3; refine wpList_ldV (by rfl) _ rfl (by rfl) V7.out ?_; have pc4 := Lib.hid trivial)
          | (clear pc4; refine wpList_stV (by rfl) _ _ rfl (by rfl) (by rfl) V2.out ?_; intro wz hz hg; have bx := V2.out.bx; replace V1 := Lib.hid (V1.out.gro hg (by have := LG.out; have := LG7.out; omega)); replace HM := Lib.hid (HM.out.grB bx hg); replace ZP := Lib.hid (ZP.out.grB bx hg); replace ZQ := Lib.hid (ZQ.out.grB bx hg); replace ZO := Lib.hid (ZO.out.grB bx hg); replace ZR := Lib.hid (ZR.out.grB bx hg); replace V7 := Lib.hid (V7.out.gro hg (by have := LG.out; have := LG7.out; omega)); replace ZT := Lib.hid (ZT.out.grB bx hg); replace EX := Lib.hid (EX.out.gr hg (by have := LG.out; have := LG7.out; omega) bx); replace Z1 := Lib.hid (Z1.out.grB bx hg); replace Z2 := Lib.hid (Z2.out.grB bx hg); replace Z3 := Lib.hid (Z3.out.grB bx hg); replace Z4 := Lib.hid (Z4.out.grB bx hg); replace B1 := Lib.hid (Below.gr B1.out (by omega) hg B1.out.size); clear bx; replace V2 := Lib.hid hz; clear hz hg; have pc5 := Lib.hid trivial))
        clear pc5
        obtain ⟨n1, n2, n3, n4⟩ := INV.out.step HG.out HMY.out ET.out EY.out EU.out EV.out (by have := HXY.out; omega)
        have yb := YB.out
        have yb2 := HMY.out
        have bd := n1.st.bound n1.d n3 (by have := n1.qm; omega) (by have := n1.Y0; omega) (by omega)
        try simp only [Act.put]
        go_roundw
        case rel => exact ⟨Y, Y', u, v, p, q, !b, Lib.hid ⟨n1, ⟨by omega, by omega, PB.out⟩, LG.out, V1.out, HM.out, ⟨_, _, _, _, _, _, _, _, V2.out, Z1.out, Z2.out, Z3.out, Z4.out⟩, EX.out, B1.out⟩, rfl⟩
        case measure => rw [MS.out, rdy_ex EX.out]; exact n2
      · have HK := Lib.hid hk
        have HXY := Lib.hid hxy
        clear hk hxy
        have pc0 := Lib.hid trivial
        go_wp2_with (first
          | (clear pc0; refine wpList_ldV1 (by rfl) _ rfl (by rfl) V7.out ?_; have pc1 := Lib.hid trivial)
          | (clear pc1; refine wpList_ldZ (by rfl) _ rfl (by rfl) V1.out ?_; have pc2 := Lib.hid trivial)
          | (clear pc2; go_at_call 105; refine Calls.mono (compare_k (r := 0) Z2.out.in_ HM.out HK.out) ?_; rintro e wp ⟨rfl, hb⟩; replace V1 := Lib.hid (V1.out.below hb V1.out.lt); replace HM := Lib.hid (HM.out.below hb); replace V2 := Lib.hid (V2.out.below hb V2.out.lt); replace ZP := Lib.hid (ZP.out.below hb); replace ZQ := Lib.hid (ZQ.out.below hb); replace ZO := Lib.hid (ZO.out.below hb); replace ZR := Lib.hid (ZR.out.below hb); replace V7 := Lib.hid (V7.out.below hb V7.out.lt); replace ZT := Lib.hid (ZT.out.below hb); replace EX := Lib.hid (EX.out.below hb); replace Z1 := Lib.hid (Z1.out.below hb); replace Z2 := Lib.hid (Z2.out.below hb); replace Z3 := Lib.hid (Z3.out.below hb); replace Z4 := Lib.hid (Z4.out.below hb); replace B1 := Lib.hid (B1.out.trans (hb.mono B1.out.size)); clear hb; have pc3 := Lib.hid trivial)
          | (clear pc3; refine wpList_ldV (by rfl) _ rfl (by rfl) V7.out ?_; have pc4 := Lib.hid trivial)
          | (clear pc4; refine wpList_stV (by rfl) _ _ rfl (by rfl) (by rfl) V2.out ?_; intro wz hz hg; have bx := V2.out.bx; replace V1 := Lib.hid (V1.out.gro hg (by have := LG.out; have := LG7.out; omega)); replace HM := Lib.hid (HM.out.grB bx hg); replace ZP := Lib.hid (ZP.out.grB bx hg); replace ZQ := Lib.hid (ZQ.out.grB bx hg); replace ZO := Lib.hid (ZO.out.grB bx hg); replace ZR := Lib.hid (ZR.out.grB bx hg); replace V7 := Lib.hid (V7.out.gro hg (by have := LG.out; have := LG7.out; omega)); replace ZT := Lib.hid (ZT.out.grB bx hg); replace EX := Lib.hid (EX.out.gr hg (by have := LG.out; have := LG7.out; omega) bx); replace Z1 := Lib.hid (Z1.out.grB bx hg); replace Z2 := Lib.hid (Z2.out.grB bx hg); replace Z3 := Lib.hid (Z3.out.grB bx hg); replace Z4 := Lib.hid (Z4.out.grB bx hg); replace B1 := Lib.hid (Below.gr B1.out (by omega) hg B1.out.size); clear bx; replace V2 := Lib.hid hz; clear hz hg; have pc5 := Lib.hid trivial))
        clear pc5
        obtain ⟨n1, n2, n3, n4⟩ := INV.out.step HG.out HMY.out ET.out EY.out EU.out EV.out (by have := HXY.out; omega)
        have yb := YB.out
        have yb2 := HMY.out
        have bd := n1.st.bound n1.d n3 (by have := n1.qm; omega) (by have := n1.Y0; omega) (by omega)
        try simp only [Act.put]
        go_roundw
        case rel => exact ⟨Y, Y', u, v, p, q, !b, Lib.hid ⟨n1, ⟨by omega, by omega, PB.out⟩, LG.out, V1.out, HM.out, ⟨_, _, _, _, _, _, _, _, V2.out, Z1.out, Z2.out, Z3.out, Z4.out⟩, EX.out, B1.out⟩, rfl⟩
        case measure => rw [MS.out, rdy_ex EX.out]; exact n2
      · have HK := Lib.hid hk
        have HXY := Lib.hid hxy
        clear hk hxy
        have pc0 := Lib.hid trivial
        go_wp2_with (first
          | (clear pc0; refine wpList_ldV1 (by rfl) _ rfl (by rfl) V7.out ?_; have pc1 := Lib.hid trivial)
          | (clear pc1; refine wpList_ldZ (by rfl) _ rfl (by rfl) V1.out ?_; have pc2 := Lib.hid trivial)
          | (clear pc2; go_at_call 105; refine Calls.mono (compare_k (r := 1) Z2.out.in_ HM.out HK.out) ?_; rintro e wp ⟨rfl, hb⟩; replace V1 := Lib.hid (V1.out.below hb V1.out.lt); replace HM := Lib.hid (HM.out.below hb); replace V2 := Lib.hid (V2.out.below hb V2.out.lt); replace ZP := Lib.hid (ZP.out.below hb); replace ZQ := Lib.hid (ZQ.out.below hb); replace ZO := Lib.hid (ZO.out.below hb); replace ZR := Lib.hid (ZR.out.below hb); replace V7 := Lib.hid (V7.out.below hb V7.out.lt); replace ZT := Lib.hid (ZT.out.below hb); replace EX := Lib.hid (EX.out.below hb); replace Z1 := Lib.hid (Z1.out.below hb); replace Z2 := Lib.hid (Z2.out.below hb); replace Z3 := Lib.hid (Z3.out.below hb); replace Z4 := Lib.hid (Z4.out.below hb); replace B1 := Lib.hid (B1.out.trans (hb.mono B1.out.size)); clear hb; have pc3 := Lib.hid trivial)
          | (clear pc3; refine wpList_ldV (by rfl) _ rfl (by rfl) V2.out ?_; have pc4 := Lib.hid trivial)
          | (clear pc4; refine wpList_stV (by rfl) _ _ rfl (by rfl) (by rfl) V2.out ?_; intro wz hz hg; have bx := V2.out.bx; replace V1 := Lib.hid (V1.out.gro hg (by have := LG.out; have := LG7.out; omega)); replace HM := Lib.hid (HM.out.grB bx hg); replace ZP := Lib.hid (ZP.out.grB bx hg); replace ZQ := Lib.hid (ZQ.out.grB bx hg); replace ZO := Lib.hid (ZO.out.grB bx hg); replace ZR := Lib.hid (ZR.out.grB bx hg); replace V7 := Lib.hid (V7.out.gro hg (by have := LG.out; have := LG7.out; omega)); replace ZT := Lib.hid (ZT.out.grB bx hg); replace EX := Lib.hid (EX.out.gr hg (by have := LG.out; have := LG7.out; omega) bx); replace Z1 := Lib.hid (Z1.out.grB bx hg); replace Z2 := Lib.hid (Z2.out.grB bx hg); replace Z3 := Lib.hid (Z3.out.grB bx hg); replace Z4 := Lib.hid (Z4.out.grB bx hg); replace B1 := Lib.hid (Below.gr B1.out (by omega) hg B1.out.size); clear bx; replace V2 := Lib.hid hz; clear hz hg; have pc5 := Lib.hid trivial))
        clear pc5
        exact ret_vb2 Tryz.results117 rfl rfl rfl V2.out ⟨X, Y, p, q, o, r, b, INV.out.ok ET.out EV.out HM0.out (by have := HXY.out; omega), ⟨PB.out, OB.out⟩, _, _, _, _, _, _, _, _, rfl, ZP.out, ZQ.out, ZO.out, ZR.out, B1.out⟩
end Go.Proofs.YtfmgbfdnmconiaaGreat
