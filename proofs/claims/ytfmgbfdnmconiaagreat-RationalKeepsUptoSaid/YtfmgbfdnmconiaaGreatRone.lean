/-
  Lists of one rational number: total, Sum, Dot. Contracts that say only where results lie.
-/
import Derived.Test.YtfmgbfdnmconiaaGreatRrnd
import Derived.Test.YtfmgbfdnmconiaaGreatRS
import Derived.Test.YtfmgbfdnmconiaaGreatKeepr
namespace Go.Proofs.YtfmgbfdnmconiaaGreat
open Go.RowKit
set_option linter.unusedVariables false

theorem start_00 (w : World) :
    Hid (Below w.heap.size w ((w.alloc (.cells #[.bool false, .slice none 0 0, .slice none 0 0] 26)).alloc (.cells #[.bool false, .slice none 0 0, .slice none 0 0] 26))) ∧ Hid (Rb ((w.alloc (.cells #[.bool false, .slice none 0 0, .slice none 0 0] 26)).alloc (.cells #[.bool false, .slice none 0 0, .slice none 0 0] 26)) (w.heap.size) false none 0 0 none 0 0) ∧ Hid (Rb ((w.alloc (.cells #[.bool false, .slice none 0 0, .slice none 0 0] 26)).alloc (.cells #[.bool false, .slice none 0 0, .slice none 0 0] 26)) (w.heap.size + 1) false none 0 0 none 0 0) := by
  refine ⟨?_, ?_, ?_⟩
  · exact (((Below.refl _ _).alloc (by first | exact Nat.le_refl _ | (simp; done) | (simp; omega)) _).alloc (by first | exact Nat.le_refl _ | (simp; done) | (simp; omega)) _)
  · have := Rb.new w false none 0 0 none 0 0
    exact (this.alloc _)
  · have := Rb.new (w.alloc (.cells #[.bool false, .slice none 0 0, .slice none 0 0] 26)) false none 0 0 none 0 0
    simp only [World.size_alloc] at this
    exact this
/-- The one product stands in its list. -/
def DotDone (w : World) (z : Int) (d : Nat) (wr : World) : Prop := ∃ R c Q k, Rb wr (w.heap.size + 1) (decide (z < 0)) R (ofv z.natAbs).length c Q (ofv d).length k ∧ Rb wr w.heap.size false none 0 0 none 0 0 ∧ Own wr w.heap.size R c (ofv z.natAbs) ∧ Own wr w.heap.size Q k (ofv d) ∧ Below w.heap.size w wr
set_option maxRecDepth 100000 in
set_option maxHeartbeats 16000000 in
theorem total_one {g n c m k : Nat} {s : Bool} {A D : Option Addr} {w : World} (h : Rb w g s A n c D m k) : Calls Tryz.prog 75 #[.slice (some ⟨g, 0, none⟩) 1 1] w fun e w' => e = .returned (.agg #[.bool s, .slice A n c, .slice D m k]) ∧ Below w.heap.size w w' := by
  obtain ⟨B1, V0⟩ := start_R0 w
  have LT : Hid (g < w.heap.size) := h.lt
  have L := Lib.hid (h.below B1.out h.lt)
  clear h
  go_enter Tryz.func75, Tryz.ntmps75
  have pc0 := Lib.hid trivial
  go_wp2_with (first
    | (clear pc0; generalize (w.alloc (.cells #[.bool false, .slice none 0 0, .slice none 0 0] 26)) = w2 at *; refine wpList_ldR (by rfl) _ rfl (by rfl) L.out ?_; have pc1 := Lib.hid trivial)
    | (clear pc1; refine wpList_stR (by rfl) _ _ rfl (by rfl) (by rfl) V0.out ?_; intro w3 hz hg; replace L := Lib.hid (L.out.gro hg (by have := LT.out; omega)); replace B1 := Lib.hid (Below.gr B1.out (by have := LT.out; omega) hg B1.out.size); replace V0 := Lib.hid hz; clear hz hg; have pc2 := Lib.hid trivial))
  clear pc2
  exact ret_rb Tryz.results75 rfl rfl V0.out ⟨rfl, B1.out⟩
set_option maxRecDepth 100000 in
set_option maxHeartbeats 16000000 in
theorem sum_one {g n c m k : Nat} {s : Bool} {A D : Option Addr} {w : World} {L : Nat} {x z : Int} {p d : Nat} (h : Rb w g s A n c D m k) (hx : Zin w s A n c x) (hp : Nin w D m k p) (hn : n ≤ L) (hm : m ≤ L) (hL : 1 ≤ L ∧ L ≤ 70368744177660) (hz : (mkRat x p).num = z) (hd : (mkRat x p).den = d) : Calls Tryz.prog 37 #[.slice (some ⟨g, 0, none⟩) 1 1] w (GivesR w z d) := by
  obtain ⟨B1, V0⟩ := start_R0 w
  have LX := Lib.hid (h.below B1.out h.lt)
  have HX := Lib.hid (hx.below B1.out)
  have HP := Lib.hid (hp.below B1.out)
  have LT : Hid (g < w.heap.size) := h.lt
  have LN := Lib.hid hn
  have LM := Lib.hid hm
  have LL := Lib.hid hL
  have EZ := Lib.hid hz
  have ED := Lib.hid hd
  clear h hx hp hn hm hL hz hd
  go_enter Tryz.func37, Tryz.ntmps37
  go_wp2_with fail
  generalize (w.alloc (.cells #[.bool false, .slice none 0 0, .slice none 0 0] 26)) = w2 at *
  have pc0 := Lib.hid trivial
  go_wp2_with (first
    | (clear pc0; go_at_call 75; refine Calls.mono (total_one LX.out) ?_; rintro e w3 ⟨rfl, hb⟩; replace LX := Lib.hid (LX.out.below hb LX.out.lt); replace V0 := Lib.hid (V0.out.below hb V0.out.lt); replace HX := Lib.hid (HX.out.below hb); replace HP := Lib.hid (HP.out.below hb); replace B1 := Lib.hid (B1.out.trans (hb.mono B1.out.size)); clear hb; have pc1 := Lib.hid trivial)
    | (clear pc1; have SZ := Lib.hid B1.out.size; go_at_call 30; refine Calls.mono (norm_any (z := z) (d := d) HX.out HP.out LN.out LM.out LL.out EZ.out ED.out) ?_; rintro e w4 ⟨P, cP, R, cR, rfl, ho, ho2, hb⟩; replace LX := Lib.hid (LX.out.below hb LX.out.lt); replace V0 := Lib.hid (V0.out.below hb V0.out.lt); replace HX := Lib.hid (HX.out.below hb); replace HP := Lib.hid (HP.out.below hb); replace B1 := Lib.hid (B1.out.trans (hb.mono B1.out.size)); have OZ := Lib.hid (ho.mono SZ.out); have OD := Lib.hid (ho2.mono SZ.out); clear ho ho2 SZ; clear hb; have pc2 := Lib.hid trivial)
    | (clear pc2; refine wpList_stR (by rfl) _ _ rfl (by rfl) (by rfl) V0.out ?_; intro w5 hz hg; replace LX := Lib.hid (LX.out.gro hg (by have := LT.out; omega)); replace HX := Lib.hid (HX.out.grR V0.out hg); replace HP := Lib.hid (HP.out.grR V0.out hg); replace OZ := Lib.hid (OZ.out.grR V0.out hg); replace OD := Lib.hid (OD.out.grR V0.out hg); replace B1 := Lib.hid (Below.gr B1.out (by have := LT.out; omega) hg B1.out.size); replace V0 := Lib.hid hz; clear hz hg; have pc3 := Lib.hid trivial))
  clear pc3
  exact ret_rb Tryz.results37 rfl rfl V0.out ⟨_, _, _, _, rfl, OZ.out, OD.out, B1.out⟩
set_option maxRecDepth 100000 in
set_option maxHeartbeats 16000000 in
theorem dot_one {g n c m k : Nat} {s : Bool} {A D : Option Addr} {w : World} {g2 n2 c2 m2 k2 : Nat} {t : Bool} {B E : Option Addr} {L : Nat} {x y z : Int} {p q d : Nat} (h : Rb w g s A n c D m k) (h' : Rb w g2 t B n2 c2 E m2 k2) (hx : Zin w s A n c x) (hp : Nin w D m k p) (hy : Zin w t B n2 c2 y) (hq : Nin w E m2 k2 q) (hn : n ≤ L) (hm : m ≤ L) (hn2 : n2 ≤ L) (hm2 : m2 ≤ L) (hL : 1 ≤ L ∧ L ≤ 35184372088829) (hz : (mkRat x p * mkRat y q).num = z) (hd : (mkRat x p * mkRat y q).den = d) : Calls Tryz.prog 29 #[.slice (some ⟨g, 0, none⟩) 1 1, .slice (some ⟨g2, 0, none⟩) 1 1] w (GivesRT w z d) := by
  obtain ⟨B1, V0, V1⟩ := start_00 w
  have LX := Lib.hid (h.below B1.out h.lt)
  have LY := Lib.hid (h'.below B1.out h'.lt)
  have HX := Lib.hid (hx.below B1.out)
  have HP := Lib.hid (hp.below B1.out)
  have HY := Lib.hid (hy.below B1.out)
  have HQ := Lib.hid (hq.below B1.out)
  have LT : Hid (g < w.heap.size) := h.lt
  have LT2 : Hid (g2 < w.heap.size) := h'.lt
  have LN := Lib.hid hn
  have LM := Lib.hid hm
  have LN2 := Lib.hid hn2
  have LM2 := Lib.hid hm2
  have LL := Lib.hid hL
  have EZ := Lib.hid hz
  have ED := Lib.hid hd
  clear h h' hx hp hy hq hn hm hn2 hm2 hL hz hd
  go_enter Tryz.func29, Tryz.ntmps29
  have hmk : ∀ w, (Instr.makeSlice 55 (.int .i64 1) (.int .i64 1)).run Tryz.prog w = .ok (.slice (some ⟨w.heap.size, 0, none⟩) 1 1) (w.alloc (.cells #[.bool false, .slice none 0 0, .slice none 0 0] 26)) := fun _ => by kernel_rfl
  go_wp2_with fail
  generalize ((w.alloc (.cells #[.bool false, .slice none 0 0, .slice none 0 0] 26)).alloc (.cells #[.bool false, .slice none 0 0, .slice none 0 0] 26)) = w2 at *
  have B2 := Lib.hid (Below.refl w2.heap.size w2)
  clear hmk
  go_loopw [19] (fun i wr => (i = .int .i64 0 ∧ Hid (Below w2.heap.size w2 wr)) ∨ (i = .int .i64 1 ∧ Hid (DotDone w z d wr))) (fun i _ => 1 - (intOf i).toNat)
  case atStart => exact .inl ⟨rfl, B2⟩
  case round =>
    clear B2
    rcases hrel with ⟨rfl, H⟩ | ⟨rfl, H⟩
    · have hb := H.out
      replace LX := Lib.hid (LX.out.below hb LX.out.lt)
      replace LY := Lib.hid (LY.out.below hb LY.out.lt)
      replace V0 := Lib.hid (V0.out.below hb V0.out.lt)
      replace V1 := Lib.hid (V1.out.below hb V1.out.lt)
      replace HX := Lib.hid (HX.out.below hb)
      replace HP := Lib.hid (HP.out.below hb)
      replace HY := Lib.hid (HY.out.below hb)
      replace HQ := Lib.hid (HQ.out.below hb)
      replace B1 := Lib.hid (B1.out.trans (hb.mono B1.out.size))
      clear hb H
      go_wp2_with fail
      have hb := below_drewN wr.heap.size wr 1
      replace LX := Lib.hid (LX.out.below hb LX.out.lt)
      replace LY := Lib.hid (LY.out.below hb LY.out.lt)
      replace V0 := Lib.hid (V0.out.below hb V0.out.lt)
      replace V1 := Lib.hid (V1.out.below hb V1.out.lt)
      replace HX := Lib.hid (HX.out.below hb)
      replace HP := Lib.hid (HP.out.below hb)
      replace HY := Lib.hid (HY.out.below hb)
      replace HQ := Lib.hid (HQ.out.below hb)
      replace B1 := Lib.hid (B1.out.trans (hb.mono B1.out.size))
      clear hb
      refine wp_region_held_drew (S := fun w' => Rb w' g s A n c D m k ∧ Rb w' g2 t B n2 c2 E m2 k2) (by kernel_rfl) ⟨LX.out, LY.out⟩ (fun hHeld => ?_)
      refine wpAnyH_takeL (i := 0) (oi := _) (v := ?_) rfl (by kernel_rfl) (by kernel_rfl) (by kernel_rfl) (fun _ _ _ h => h) (Or.inl ⟨by rfl, ?_⟩) hHeld ?_
      rotate_left
      · (intro w' hSw; (try dsimp only at hSw); go_simp; try (with_reducible rfl))
      try simp only [Act.put, List.setIfInBounds_toArray, List.set_cons_zero, List.set_cons_succ]
      refine wpAnyH_takeL (i := 1) (oi := _) (v := ?_) rfl (by kernel_rfl) (by kernel_rfl) (by kernel_rfl) (fun _ _ _ h => h) (Or.inl ⟨by rfl, ?_⟩) hHeld ?_
      rotate_left
      · (intro w' hSw; (try dsimp only at hSw); go_simp; try (with_reducible rfl))
      try simp only [Act.put, List.setIfInBounds_toArray, List.set_cons_zero, List.set_cons_succ]
      refine wpAnyH_takeL (i := 2) (oi := _) (v := ?_) rfl (by kernel_rfl) (by kernel_rfl) (by kernel_rfl) (fun _ _ _ h => h) (Or.inl ⟨by rfl, ?_⟩) hHeld ?_
      rotate_left
      · (intro w' hSw; (try dsimp only at hSw); go_simp; try (with_reducible rfl))
      try simp only [Act.put, List.setIfInBounds_toArray, List.set_cons_zero, List.set_cons_succ]
      refine wpAnyH_takeL (i := 3) (oi := _) (v := ?_) rfl (by kernel_rfl) (by kernel_rfl) (by kernel_rfl) (fun _ _ _ h => h) (Or.inl ⟨by rfl, ?_⟩) hHeld ?_
      rotate_left
      · (intro w' hSw; (try dsimp only at hSw); go_simp; try (with_reducible rfl))
      try simp only [Act.put, List.setIfInBounds_toArray, List.set_cons_zero, List.set_cons_succ]
      refine wpAnyH_takeL (i := 4) (oi := _) (v := ?_) rfl (by kernel_rfl) (by kernel_rfl) (by kernel_rfl) (fun _ _ _ h => h) (Or.inl ⟨by rfl, ?_⟩) hHeld ?_
      rotate_left
      · (intro w' hSw; (try dsimp only at hSw); go_simp; try (with_reducible rfl))
      try simp only [Act.put, List.setIfInBounds_toArray, List.set_cons_zero, List.set_cons_succ]
      refine wpAnyH_takeL (i := 5) (oi := _) rfl (by kernel_rfl) (by kernel_rfl) (by kernel_rfl) (fun _ _ _ h => h) (yields_ldR (by rfl) _ rfl (by rfl) (fun _ hS => hS.1)) hHeld ?_
      try simp only [Act.put, List.setIfInBounds_toArray, List.set_cons_zero, List.set_cons_succ]
      refine wpAnyH_takeL (i := 6) (oi := _) (v := ?_) rfl (by kernel_rfl) (by kernel_rfl) (by kernel_rfl) (fun _ _ _ h => h) (Or.inl ⟨by rfl, ?_⟩) hHeld ?_
      rotate_left
      · (intro w' hSw; (try dsimp only at hSw); go_simp; try (with_reducible rfl))
      try simp only [Act.put, List.setIfInBounds_toArray, List.set_cons_zero, List.set_cons_succ]
      refine wpAnyH_takeL (i := 7) (oi := _) (v := ?_) rfl (by kernel_rfl) (by kernel_rfl) (by kernel_rfl) (fun _ _ _ h => h) (Or.inl ⟨by rfl, ?_⟩) hHeld ?_
      rotate_left
      · (intro w' hSw; (try dsimp only at hSw); go_simp; try (with_reducible rfl))
      try simp only [Act.put, List.setIfInBounds_toArray, List.set_cons_zero, List.set_cons_succ]
      refine wpAnyH_takeL (i := 8) (oi := _) (v := ?_) rfl (by kernel_rfl) (by kernel_rfl) (by kernel_rfl) (fun _ _ _ h => h) (Or.inl ⟨by rfl, ?_⟩) hHeld ?_
      rotate_left
      · (intro w' hSw; (try dsimp only at hSw); go_simp; try (with_reducible rfl))
      try simp only [Act.put, List.setIfInBounds_toArray, List.set_cons_zero, List.set_cons_succ]
      refine wpAnyH_takeL (i := 9) (oi := _) rfl (by kernel_rfl) (by kernel_rfl) (by kernel_rfl) (fun _ _ _ h => h) (yields_ldR (by rfl) _ rfl (by rfl) (fun _ hS => hS.2)) hHeld ?_
      try simp only [Act.put, List.setIfInBounds_toArray, List.set_cons_zero, List.set_cons_succ]
      refine wpAnyH_ready (rs := [10]) (by kernel_rfl) (by simp) ?_
      refine AllReadyH.consL (o := _) rfl (fun K hK => ?_) AllReadyH.nil
      clear hHeld
      have SZ := Lib.hid B1.out.size
      go_simp
      go_at_call 34
      refine Calls.mono (qmul_any (z := z) (d := d) HX.out HP.out HY.out HQ.out LN.out LM.out LN2.out LM2.out LL.out EZ.out ED.out) ?_
      rintro e w4 ⟨P, cP, R, cR, rfl, ho, ho2, hb⟩
      replace LX := Lib.hid (LX.out.below hb LX.out.lt)
      replace LY := Lib.hid (LY.out.below hb LY.out.lt)
      replace V0 := Lib.hid (V0.out.below hb V0.out.lt)
      replace V1 := Lib.hid (V1.out.below hb V1.out.lt)
      replace HX := Lib.hid (HX.out.below hb)
      replace HP := Lib.hid (HP.out.below hb)
      replace HY := Lib.hid (HY.out.below hb)
      replace HQ := Lib.hid (HQ.out.below hb)
      replace B1 := Lib.hid (B1.out.trans (hb.mono B1.out.size))
      have OZ := Lib.hid (ho.mono SZ.out)
      have OD := Lib.hid (ho2.mono SZ.out)
      clear ho ho2 SZ
      clear hb
      refine hK.out _ _ ⟨LX.out, LY.out⟩ (fun hHeld => ?_)
      clear hK K
      try simp only [Act.put, List.setIfInBounds_toArray, List.set_cons_zero, List.set_cons_succ]
      refine wpAnyH_takeL (i := 11) (oi := _) (v := ?_) rfl (by kernel_rfl) (by kernel_rfl) (by kernel_rfl) (fun _ _ _ h => h) (Or.inl ⟨by rfl, ?_⟩) hHeld ?_
      rotate_left
      · (intro w' hSw; (try dsimp only at hSw); go_simp; try (with_reducible rfl))
      try simp only [Act.put, List.setIfInBounds_toArray, List.set_cons_zero, List.set_cons_succ]
      refine wpAnyH_ready (rs := [12]) (by kernel_rfl) (by simp) ?_
      refine AllReadyH.consL (o := _) rfl (fun K hK => ?_) AllReadyH.nil
      clear hHeld
      rw [if_pos (by rfl)]
      refine wp_stR _ _ rfl (by rfl) (by rfl) V1.out ?_
      intro wv0 hz hg
      replace LX := Lib.hid (LX.out.gro hg (by have := LT.out; have := LT2.out; omega))
      replace LY := Lib.hid (LY.out.gro hg (by have := LT.out; have := LT2.out; omega))
      replace V0 := Lib.hid (V0.out.gro hg (by have := LT.out; have := LT2.out; omega))
      replace HX := Lib.hid (HX.out.grR V1.out hg)
      replace HP := Lib.hid (HP.out.grR V1.out hg)
      replace HY := Lib.hid (HY.out.grR V1.out hg)
      replace HQ := Lib.hid (HQ.out.grR V1.out hg)
      replace OZ := Lib.hid (OZ.out.grR V1.out hg)
      replace OD := Lib.hid (OD.out.grR V1.out hg)
      replace B1 := Lib.hid (Below.gr B1.out (by omega) hg B1.out.size)
      replace V1 := Lib.hid hz
      refine hK.out _ _ ⟨LX.out, LY.out⟩ (fun hHeld => ?_)
      clear hK K hg hz
      try simp only [Act.put]
      clear hHeld
      refine wpAnyH_done (by kernel_rfl) ?_ _
      go_wp2_with fail
      go_roundw
      case rel => exact .inr ⟨by go_num, ⟨_, _, _, _, V1.out, V0.out, OZ.out, OD.out, B1.out⟩⟩
      case measure => simp [intOf]
    · obtain ⟨P, cP, R, cR, v1, v0, oz, od, b1⟩ := H.out
      replace V1 := Lib.hid v1
      replace V0 := Lib.hid v0
      replace B1 := Lib.hid b1
      have OZ := Lib.hid oz
      have OD := Lib.hid od
      clear v1 v0 oz od b1 H LX LY HX HP HY HQ
      go_wp2_with fail
      have pc0 := Lib.hid trivial
      go_wp2_with (first
        | (clear pc0; go_at_call 75; refine Calls.mono (total_one V1.out) ?_; rintro e w5 ⟨rfl, hb⟩; replace V0 := Lib.hid (V0.out.below hb V0.out.lt); replace V1 := Lib.hid (V1.out.below hb V1.out.lt); replace OZ := Lib.hid (OZ.out.below hb); replace OD := Lib.hid (OD.out.below hb); replace B1 := Lib.hid (B1.out.trans (hb.mono B1.out.size)); clear hb; have pc1 := Lib.hid trivial)
        | (clear pc1; refine wpList_stR (by rfl) _ _ rfl (by rfl) (by rfl) V0.out ?_; intro w6 hz hg; replace V1 := Lib.hid (V1.out.gro hg (by omega)); replace OZ := Lib.hid (OZ.out.grR V0.out hg); replace OD := Lib.hid (OD.out.grR V0.out hg); replace B1 := Lib.hid (Below.gr B1.out (by omega) hg B1.out.size); replace V0 := Lib.hid hz; clear hz hg; have pc2 := Lib.hid trivial))
      clear pc2
      exact ret_rb2 Tryz.results29 rfl rfl rfl V0.out ⟨_, _, _, _, rfl, OZ.out, OD.out, B1.out⟩
end Go.Proofs.YtfmgbfdnmconiaaGreat
