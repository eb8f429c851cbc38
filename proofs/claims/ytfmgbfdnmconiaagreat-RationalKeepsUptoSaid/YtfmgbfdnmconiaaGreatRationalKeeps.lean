/-
  The walk of the law RationalKeeps: no function modifies the limbs of its arguments or shares memory with them.
-/
import Derived.Test.YtfmgbfdnmconiaaGreatRone
import Derived.Test.YtfmgbfdnmconiaaGreatRawake
namespace Go.Proofs.YtfmgbfdnmconiaaGreat
open Go.RowKit
set_option linter.unusedVariables false

theorem nin_copy {w : World} {g n : Nat} {xs : List Nat} {p : Nat} (h : Rd w (some ⟨g, 0, none⟩) (n + 3) (xs ++ [7, 7, 7])) (hl : xs.length = n) (he : val xs = p) : Nin w (some ⟨g, 0, none⟩) n (n + 3) p := by
  have := h.take n
  rw [List.take_left' hl] at this
  exact ⟨xs, this, hl, he⟩
def isSpr (s : Bool) (n : Nat) (xs : List Nat) (m : Nat) (ps : List Nat) (v : Value) (w : World) : Prop := ∃ g h, v = .agg #[.bool s, .slice (some ⟨g, 0, none⟩) n (n + 3), .slice (some ⟨h, 0, none⟩) m (m + 3)] ∧ Rd w (some ⟨g, 0, none⟩) (n + 3) (xs ++ [7, 7, 7]) ∧ Rd w (some ⟨h, 0, none⟩) (m + 3) (ps ++ [7, 7, 7])
theorem isSpr_good (s : Bool) (n : Nat) (xs : List Nat) (m : Nat) (ps : List Nat) : Good (isSpr s n xs m ps) :=
  ⟨fun v w w' hb ⟨g, h, e, o, u⟩ => ⟨g, h, e, o.below hb, u.below hb⟩, fun v w g ⟨R, h, e, o, u⟩ k => by subst e; cases k⟩
/-- A rational number, whatever it is, its limbs in memory from block lo on. -/
def isLr (lo : Nat) (v : Value) (w : World) : Prop := ∃ s R n c Q m k, v = .agg #[.bool s, .slice R n c, .slice Q m k] ∧ WpS w lo R n c ∧ WpS w lo Q m k
theorem isLr_good (lo : Nat) : Good (isLr lo) :=
  ⟨fun v w w' hb ⟨s, R, n, c, Q, m, k, e, o, u⟩ => ⟨s, R, n, c, Q, m, k, e, o.below hb, u.below hb⟩, fun v w g ⟨s, R, n, c, Q, m, k, e, o, u⟩ h => by subst e; cases h⟩
/-- A list of this one number. -/
def isXl (s : Bool) (A : Option Addr) (n c : Nat) (D : Option Addr) (m k : Nat) (v : Value) (w : World) : Prop := ∃ g, v = .slice (some ⟨g, 0, none⟩) 1 1 ∧ Rb w g s A n c D m k
theorem isXl_good (s : Bool) (A : Option Addr) (n c : Nat) (D : Option Addr) (m k : Nat) : Good (isXl s A n c D m k) :=
  ⟨fun v w w' hb ⟨g, e, z⟩ => ⟨g, e, z.below hb z.lt⟩, fun v w g ⟨R, e, o⟩ h => by subst e; cases h⟩
/-- A list of eleven numbers. -/
def Cell3 (cs : Array Value) (lo : Nat) (w : World) (j : Nat) : Prop := ∃ s R n c Q m k, cs[j * 3]? = some (.bool s) ∧ cs[j * 3 + 1]? = some (.slice R n c) ∧ cs[j * 3 + 2]? = some (.slice Q m k) ∧ WpS w lo R n c ∧ WpS w lo Q m k
def isL11 (lo : Nat) (v : Value) (w : World) : Prop := ∃ g cs, v = .slice (some ⟨g, 0, none⟩) 11 11 ∧ w.heap[g]? = some (.cells cs 26 (0, 0)) ∧ ∀ j, j < 11 → Cell3 cs lo w j
theorem isL11_good (lo : Nat) : Good (isL11 lo) :=
  ⟨fun v w w' hb ⟨g, cs, e, h, hc⟩ => ⟨g, cs, e, (hb.block g (lt_of_heap h)).trans h, fun j hj => by
    obtain ⟨s, R, n, c, Q, m, k, e1, e2, e3, o, u⟩ := hc j hj
    exact ⟨s, R, n, c, Q, m, k, e1, e2, e3, o.below hb, u.below hb⟩⟩, fun v w g ⟨R, cs, e, o⟩ h => by subst e; cases h⟩
def Looser1 (w : World) (e : Ending) (w' : World) : Prop := ∃ s R n c Q m k, e = .returned (.agg #[.bool s, .slice R n c, .slice Q m k]) ∧ WpS w' w.heap.size R n c ∧ WpS w' w.heap.size Q m k ∧ Below w.heap.size w w'
theorem GivesR.loose {w w' : World} {z : Int} {d : Nat} {e : Ending} (h : GivesR w z d e w') : Looser1 w e w' := by
  obtain ⟨R, c, Q, k, rfl, ho, ho2, hb⟩ := h
  exact ⟨_, R, _, c, Q, _, k, rfl, WpS.of_own ho rfl (Nat.le_refl _), WpS.of_own ho2 rfl (Nat.le_refl _), hb⟩
def Looser2 (w : World) (e : Ending) (w' : World) : Prop := ∃ s R n c Q m k ok, e = .returned (.tuple #[.agg #[.bool s, .slice R n c, .slice Q m k], .bool ok]) ∧ WpS w' w.heap.size R n c ∧ WpS w' w.heap.size Q m k ∧ Below w.heap.size w w'
theorem GivesRT.loose {w w' : World} {z : Int} {d : Nat} {e : Ending} (h : GivesRT w z d e w') : Looser2 w e w' := by
  obtain ⟨R, c, Q, k, rfl, ho, ho2, hb⟩ := h
  exact ⟨_, R, _, c, Q, _, k, true, rfl, WpS.of_own ho rfl (Nat.le_refl _), WpS.of_own ho2 rfl (Nat.le_refl _), hb⟩
theorem GivesRF.loose {w w' : World} {e : Ending} (h : GivesRF w e w') : Looser2 w e w' := by
  obtain ⟨rfl, hb⟩ := h
  exact ⟨_, none, 0, 0, none, 0, 0, false, rfl, WpS.nil _ _ _, WpS.nil _ _ _, hb⟩
theorem qdiv_loose {s t : Bool} {A D B E : Option Addr} {n c m k n2 c2 m2 k2 L : Nat} {x y : Int} {p q : Nat} {w : World} (h : Zin w s A n c x) (hp : Nin w D m k p) (h' : Zin w t B n2 c2 y) (hq : Nin w E m2 k2 q) (hn : n ≤ L) (hm : m ≤ L) (hn2 : n2 ≤ L) (hm2 : m2 ≤ L) (hL : 1 ≤ L ∧ L ≤ 35184372088829) :
    Calls Tryz.prog 27 #[.agg #[.bool s, .slice A n c, .slice D m k], .agg #[.bool t, .slice B n2 c2, .slice E m2 k2]] w (Looser2 w) := by
  by_cases hy : mkRat y q = 0
  · exact (qdiv_zero h hp h' hq hn hm hn2 hm2 hL hy).mono fun _ _ h => h.loose
  · exact (qdiv_any h hp h' hq hn hm hn2 hm2 hL hy rfl rfl).mono fun _ _ h => h.loose
theorem qinv_loose {s : Bool} {A D : Option Addr} {n c m k L : Nat} {x : Int} {p : Nat} {w : World} (h : Zin w s A n c x) (h' : Nin w D m k p) (hn : n ≤ L) (hm : m ≤ L) (hL : 1 ≤ L ∧ L ≤ 70368744177660) :
    Calls Tryz.prog 28 #[.agg #[.bool s, .slice A n c, .slice D m k]] w (Looser2 w) := by
  by_cases hy : mkRat x p = 0
  · exact (qinv_zero h h' hn hm hL hy).mono fun _ _ h => h.loose
  · exact (qinv_any h h' hn hm hL hy rfl rfl).mono fun _ _ h => h.loose
section
variable {ops : Array Oper} {rest : List Oper} {o : Oper} {a : Act} {w : World} {Q : Exit → Act → World → Prop} {s : Bool} {A D : Option Addr} {n c m k : Nat}
theorem wpList_lre (hw : Region.wanted o (yielded ops a.tmps) = true) (p : Operand) (ho : o.op = .load 26 p) {b i : Nat} (hx : a.eval p = .pointer (some ⟨b, i, none⟩)) (hz : w.rangeAt b i [.bool s, .slice A n c, .slice D m k])
    (h : wpList Tryz.prog ops Q rest (a.put o.dst (.agg #[.bool s, .slice A n c, .slice D m k])) w) : wpList Tryz.prog ops Q (o :: rest) a w :=
  wpList_wanted hw fun K hK => by
    have e : (loadVar 26 ⟨b, i, none⟩).run Tryz.prog w = .ok (.agg #[.bool s, .slice A n c, .slice D m k]) w := run_loadVar_mid w b i _ [.bool s, .slice A n c, .slice D m k] _ hz Tryz.underlying26 rfl Tryz.sizeR
    unfold Oper.wp execOp
    simp only [ho, hx, Instr.loadAt, Instr.sureAddr, Sem.run_bind, Sem.run_pure, Result.andThen_ok, e]
    exact hK _ _ h
end
set_option maxRecDepth 100000 in
set_option maxHeartbeats 32000000 in
theorem rationalKeeps_walk (s : Bool) (A : Option Addr) (n c : Nat) (x : Int) (D : Option Addr) (m k p : Nat) (t : Bool) (B : Option Addr) (n2 c2 : Nat) (y : Int) (E : Option Addr) (m2 k2 q : Nat) (w : World) (hx : Zin w s A n c x) (hn : n ≤ 35184372087808) (hp : Nin w D m k p) (hm : m ≤ 35184372087808) (hy : Zin w t B n2 c2 y) (hn2 : n2 ≤ 35184372087808) (hq : Nin w E m2 k2 q) (hm2 : m2 ≤ 35184372087808) :
    Calls Tryz.prog 8 #[.agg #[.bool s, .slice A n c, .slice D m k], .agg #[.bool t, .slice B n2 c2, .slice E m2 k2]] w fun e w' => e = .returned (.bool true) ∧ Below w.heap.size w w' := by
  obtain ⟨B1, V0, V1⟩ := start_R2 w s A n c D m k t B n2 c2 E m2 k2
  have HY := Lib.hid (hy.below B1.out)
  have HQ := Lib.hid (hq.below B1.out)
  obtain ⟨xs, rx, lx, ex⟩ := hx
  obtain ⟨ps, rp, lp, ep⟩ := hp
  have RX := Lib.hid (rx.below B1.out)
  have RP := Lib.hid (rp.below B1.out)
  have LX := Lib.hid lx
  have LP := Lib.hid lp
  have EX := Lib.hid ex
  have EP := Lib.hid ep
  have LN := Lib.hid hn
  have LM := Lib.hid hm
  have LN2 := Lib.hid hn2
  have LM2 := Lib.hid hm2
  have LL : Hid (1 ≤ 35184372087808 ∧ 35184372087808 ≤ 35184372088829) := by show _ ∧ _; omega
  have LL7 : Hid (1 ≤ 35184372087808 ∧ 35184372087808 ≤ 70368744177660) := by show _ ∧ _; omega
  clear hy hq rx lx ex rp lp ep hn hm hn2 hm2
  go_enter Tryz.func8, Tryz.ntmps8
  go_wp2_with fail
  generalize ((w.alloc (.cells #[.bool s, .slice A n c, .slice D m k] 26)).alloc (.cells #[.bool t, .slice B n2 c2, .slice E m2 k2] 26)) = w2 at *
  have Q0 : Hid (w.heap.size < w2.heap.size) := V0.out.lt
  have Q1 : Hid (w.heap.size + 1 < w2.heap.size) := V1.out.lt
  have HB : Hid (Below w2.heap.size w2 w2.drew) := below_drewN _ w2 1
  refine wp_region_held_drew (S := fun w' => Below w2.heap.size w2 w') (by kernel_rfl) (HB.out) (fun hHeld => ?_)
  refine wpAnyH_takeL (i := 0) (oi := _) (v := ?_) rfl (by kernel_rfl) (by kernel_rfl) (by kernel_rfl) (fun _ _ _ h => h) (Or.inl ⟨by rfl, ?_⟩) hHeld ?_
  rotate_left
  · (intro w' hSw; (try dsimp only at hSw); go_simp; try (with_reducible rfl))
  try simp only [Act.put, List.setIfInBounds_toArray, List.set_cons_zero, List.set_cons_succ]
  refine wpAnyH_takeL (i := 1) (oi := _) (v := ?_) rfl (by kernel_rfl) (by kernel_rfl) (by kernel_rfl) (fun _ _ _ h => h) (Or.inl ⟨by rfl, ?_⟩) hHeld ?_
  rotate_left
  · (intro w' hSw; (try dsimp only at hSw); go_simp; try (with_reducible rfl))
  try simp only [Act.put, List.setIfInBounds_toArray, List.set_cons_zero, List.set_cons_succ]
  refine wpAnyH_takeL (i := 2) (oi := _) rfl (by kernel_rfl) (by kernel_rfl) (by kernel_rfl) (fun _ _ _ h => h) (yields_ldRs (by rfl) _ rfl (by rfl) (fun _ hb => V0.out.below hb V0.out.lt)) hHeld ?_
  try simp only [Act.put, List.setIfInBounds_toArray, List.set_cons_zero, List.set_cons_succ]
  refine wpAnyH_takeL (i := 3) (oi := _) (v := ?_) rfl (by kernel_rfl) (by kernel_rfl) (by kernel_rfl) (fun _ _ _ h => h) (Or.inl ⟨by rfl, ?_⟩) hHeld ?_
  rotate_left
  · (intro w' hSw; (try dsimp only at hSw); go_simp; try (with_reducible rfl))
  try simp only [Act.put, List.setIfInBounds_toArray, List.set_cons_zero, List.set_cons_succ]
  refine wpAnyH_takeL (i := 4) (oi := _) (v := ?_) rfl (by kernel_rfl) (by kernel_rfl) (by kernel_rfl) (fun _ _ _ h => h) (Or.inl ⟨by rfl, ?_⟩) hHeld ?_
  rotate_left
  · (intro w' hSw; (try dsimp only at hSw); go_simp; try (with_reducible rfl))
  try simp only [Act.put, List.setIfInBounds_toArray, List.set_cons_zero, List.set_cons_succ]
  refine wpAnyH_takeL (i := 5) (oi := _) rfl (by kernel_rfl) (by kernel_rfl) (by kernel_rfl) (fun _ _ _ h => h) (yields_ldRm (by rfl) _ rfl (by rfl) (fun _ hb => V0.out.below hb V0.out.lt)) hHeld ?_
  try simp only [Act.put, List.setIfInBounds_toArray, List.set_cons_zero, List.set_cons_succ]
  refine wpAnyH_takeL (i := 8) (oi := _) (v := ?_) rfl (by kernel_rfl) (by kernel_rfl) (by kernel_rfl) (fun _ _ _ h => h) (Or.inl ⟨by rfl, ?_⟩) hHeld ?_
  rotate_left
  · (intro w' hSw; (try dsimp only at hSw); go_simp; try (with_reducible rfl))
  try simp only [Act.put, List.setIfInBounds_toArray, List.set_cons_zero, List.set_cons_succ]
  refine wpAnyH_takeL (i := 9) (oi := _) rfl (by kernel_rfl) (by kernel_rfl) (by kernel_rfl) (fun _ _ _ h => h) (yields_ldRd (by rfl) _ rfl (by rfl) (fun _ hb => V0.out.below hb V0.out.lt)) hHeld ?_
  try simp only [Act.put, List.setIfInBounds_toArray, List.set_cons_zero, List.set_cons_succ]
  refine wpAnyH_rgt [(6, some 22), (7, some 23), (10, some 26), (11, some 27), (12, some 5)] [7, 11] (isNewR w2.heap.size) [(6, isSp n xs), (7, isSpz s n xs), (10, isSp m ps), (11, isSpr s n xs m ps)] w2 (f0 := 1) (by kernel_rfl) (by kernel_rfl) (by rfl) HB.out (fun _ h => h) (fun _ _ _ _ _ h => h) (isNewR_good _) ⟨isSp_good _ _, isSpz_good _ _ _, isSp_good _ _, isSpr_good _ _ _ _ _, trivial⟩ ?_ ?_ ?_
  · clear hHeld HB
    show RgOps _ _ _ _ _ _ _ _ _ [6, 10, 12]
    refine RgOps.consL (o := _) (ds := []) rfl rfl (by kernel_rfl) (fun vals wr hbr hC hdep K hK => ?_) ?_
    · have BB := Lib.hid hbr
      clear hdep
      clear hbr hC
      simp only [Upd2, Act.put, List.setIfInBounds_toArray, List.set_cons_zero, List.set_cons_succ] at hK ⊢
      go_simp
      go_at_call 26
      refine Calls.mono (spare_z (RX.out.below BB.out) LX.out (by have := LN.out; omega)) ?_
      rintro e wq ⟨gq, rfl, hr, hb⟩
      exact hK.out _ _ (LeavesB.behind hb ⟨gq, rfl, hr⟩ rfl)
    refine RgOps.consL (o := _) (ds := [6]) rfl rfl (by kernel_rfl) (fun vals wr hbr hC hdep K hK => ?_) ?_
    · have BB := Lib.hid hbr
      obtain ⟨⟨g6, e6, r6⟩, -⟩ := hdep
      clear hbr hC
      simp only [e6, Upd2, Act.put, List.setIfInBounds_toArray, List.set_cons_zero, List.set_cons_succ] at hK ⊢
      clear e6
      go_simp
      go_at_call 26
      refine Calls.mono (spare_z (RP.out.below BB.out) LP.out (by have := LM.out; omega)) ?_
      rintro e wq ⟨gq, rfl, hr, hb⟩
      exact hK.out _ _ (LeavesB.behind hb ⟨gq, rfl, hr⟩ rfl)
    refine RgOps.consL (o := _) (ds := []) rfl rfl (by kernel_rfl) (fun vals wr hbr hC hdep K hK => ?_) RgOps.nil
    · have BB := Lib.hid hbr
      clear hdep
      clear hbr hC
      simp only [Upd2, Act.put, List.setIfInBounds_toArray, List.set_cons_zero, List.set_cons_succ] at hK ⊢
      go_simp
      exact hK.out _ _ (LeavesB.newR BB.out.size)
  · clear hHeld HB
    show TaAll _ _ _ _ _ [7, 11]
    refine TaAll.cons (o := _) (ds := [6]) rfl rfl (by kernel_rfl) (fun vals wr hdep => ?_) ?_
    · obtain ⟨⟨g6, e6, r6⟩, -⟩ := hdep
      refine ⟨_, fun S => Or.inl ⟨by rfl, ?_⟩, ⟨g6, rfl, r6⟩, rfl⟩
      intro w' _
      simp only [e6, Upd2, Act.put, List.setIfInBounds_toArray, List.set_cons_zero, List.set_cons_succ]
      go_simp
    refine TaAll.cons (o := _) (ds := [7, 10]) rfl rfl (by kernel_rfl) (fun vals wr hdep => ?_) TaAll.nil
    · obtain ⟨⟨g7, e7, r7⟩, ⟨g10, e10, r10⟩, -⟩ := hdep
      refine ⟨_, fun S => Or.inl ⟨by rfl, ?_⟩, ⟨g7, g10, rfl, r7, r10⟩, rfl⟩
      intro w' _
      simp only [e7, e10, Upd2, Act.put, List.setIfInBounds_toArray, List.set_cons_zero, List.set_cons_succ]
      go_simp
  clear hHeld HB
  intro vals wr hb hdep hD
  obtain ⟨⟨g6, e6, r6⟩, ⟨g7, e7, r7⟩, ⟨g10, e10, r10⟩, ⟨g11, h11, e11, r11, u11⟩, ⟨g12, e12, l12, z12⟩, -⟩ := hdep
  simp only [Upd2, e6, e7, e10, e11, e12, Act.put, List.setIfInBounds_toArray, List.set_cons_zero, List.set_cons_succ]
  clear e6 e7 e10 e11 e12
  clear hD vals
  replace V0 := Lib.hid (V0.out.below hb V0.out.lt)
  replace V1 := Lib.hid (V1.out.below hb V1.out.lt)
  replace RX := Lib.hid (RX.out.below hb)
  replace RP := Lib.hid (RP.out.below hb)
  replace HY := Lib.hid (HY.out.below hb)
  replace HQ := Lib.hid (HQ.out.below hb)
  replace B1 := Lib.hid (B1.out.trans (hb.mono B1.out.size))
  have HB := Lib.hid hb
  clear hb
  have C1 := Lib.hid r11; have C2 := Lib.hid u11; have X1 := Lib.hid z12; have M12 := Lib.hid l12
  clear r6 r7 r10 r11 u11 z12 l12
  refine wpAnyH_ready (rs := [13]) (by kernel_rfl) (by simp) ?_
  refine AllReadyH.consL (o := _) rfl (fun K hK => ?_) AllReadyH.nil
  rw [if_pos (by rfl)]
  refine wp_stR _ _ rfl (by rfl) (by rfl) X1.out ?_
  intro ws0 hz hg
  replace HB := Lib.hid (Below.gr HB.out (by have := M12.out; have := Q0.out; have := Q1.out; omega) hg HB.out.size)
  replace V0 := Lib.hid (V0.out.gro hg (by have := M12.out; have := Q0.out; have := Q1.out; omega))
  replace V1 := Lib.hid (V1.out.gro hg (by have := M12.out; have := Q0.out; have := Q1.out; omega))
  replace RX := Lib.hid (RX.out.grR X1.out hg)
  replace RP := Lib.hid (RP.out.grR X1.out hg)
  replace HY := Lib.hid (HY.out.grR X1.out hg)
  replace HQ := Lib.hid (HQ.out.grR X1.out hg)
  replace C1 := Lib.hid (C1.out.grR X1.out hg)
  replace C2 := Lib.hid (C2.out.grR X1.out hg)
  replace B1 := Lib.hid (Below.gr B1.out (by have := M12.out; have := Q0.out; have := Q1.out; omega) hg B1.out.size)
  replace X1 := Lib.hid hz
  refine hK.out _ _ ⟨HB.out, HB.out⟩ (fun _ => ?_)
  clear hK K hg hz
  try simp only [Act.put]
  refine wpAnyH_done (by kernel_rfl) ?_ _
  clear HB
  have KX := Lib.hid X1.out
  have BL := Lib.hid (Below.refl ws0.heap.size ws0)
  have HX := Lib.hid (zin_copy (s := s) C1.out LX.out EX.out)
  have HP := Lib.hid (nin_copy C2.out LP.out EP.out)
  have KHX := Lib.hid HX.out
  have KHP := Lib.hid HP.out
  clear Q0 Q1 M12
  have V1x := Lib.hid V1.out
  have pc0 := Lib.hid trivial
  go_wp2_with (first
    | (clear pc0; refine wpList_ldR (by rfl) _ rfl (by rfl) X1.out ?_; have pc1 := Lib.hid trivial)
    | (clear pc1; refine wpList_ldR (by rfl) _ rfl (by rfl) V1x.out ?_; have pc2 := Lib.hid trivial)
    | (clear pc2; have SZ : Hid (ws0.heap.size ≤ ws0.heap.size) := BL.out.size; go_at_call 27; refine Calls.mono (qdiv_loose (x := x) (p := p) (y := y) (q := q) HX.out HP.out HY.out HQ.out LN.out LM.out LN2.out LM2.out LL.out) ?_; rintro e w3 ⟨s_20, R_20, n_20, c_20, Q_20, m_20, k_20, ok20, rfl, ho, ho2, hb⟩; replace X1 := Lib.hid (X1.out.below hb X1.out.lt); replace V1x := Lib.hid (V1x.out.below hb V1x.out.lt); replace HX := Lib.hid (HX.out.below hb); replace HP := Lib.hid (HP.out.below hb); replace HY := Lib.hid (HY.out.below hb); replace HQ := Lib.hid (HQ.out.below hb); replace BL := Lib.hid (BL.out.trans (hb.mono BL.out.size)); have P20 := Lib.hid (WpS.lower ho SZ.out); have T20 := Lib.hid (WpS.lower ho2 SZ.out); clear ho ho2 SZ; clear hb; have pc3 := Lib.hid trivial)
    | (clear pc3; have hb : Below w3.heap.size w3 (w3.alloc (.cells #[.bool s_20, .slice R_20 n_20 c_20, .slice Q_20 m_20 k_20] 26)) := (Below.refl _ _).alloc (Nat.le_refl _) _; have U20 := Lib.hid (Rb.new w3 s_20 R_20 n_20 c_20 Q_20 m_20 k_20); generalize w3.alloc (.cells #[.bool s_20, .slice R_20 n_20 c_20, .slice Q_20 m_20 k_20] 26) = w4 at *; replace X1 := Lib.hid (X1.out.below hb X1.out.lt); replace V1x := Lib.hid (V1x.out.below hb V1x.out.lt); replace HX := Lib.hid (HX.out.below hb); replace HP := Lib.hid (HP.out.below hb); replace HY := Lib.hid (HY.out.below hb); replace HQ := Lib.hid (HQ.out.below hb); replace P20 := Lib.hid (P20.out.below hb); replace T20 := Lib.hid (T20.out.below hb); replace BL := Lib.hid (BL.out.trans (hb.mono BL.out.size)); clear hb; obtain ⟨u20, hgg⟩ : ∃ z0 : Nat, w3.heap.size = z0 := ⟨_, rfl⟩; rw [hgg]; rw [hgg] at U20; clear hgg; refine wpList_ldR (by rfl) _ rfl (by rfl) X1.out ?_; have pc4 := Lib.hid trivial)
    | (clear pc4; have SZ : Hid (ws0.heap.size ≤ w4.heap.size) := BL.out.size; go_at_call 28; refine Calls.mono (qinv_loose (x := x) (p := p) HX.out HP.out LN.out LM.out LL7.out) ?_; rintro e w5 ⟨s_21, R_21, n_21, c_21, Q_21, m_21, k_21, ok21, rfl, ho, ho2, hb⟩; replace X1 := Lib.hid (X1.out.below hb X1.out.lt); replace V1x := Lib.hid (V1x.out.below hb V1x.out.lt); replace HX := Lib.hid (HX.out.below hb); replace HP := Lib.hid (HP.out.below hb); replace HY := Lib.hid (HY.out.below hb); replace HQ := Lib.hid (HQ.out.below hb); replace P20 := Lib.hid (P20.out.below hb); replace T20 := Lib.hid (T20.out.below hb); replace U20 := Lib.hid (U20.out.below hb U20.out.lt); replace BL := Lib.hid (BL.out.trans (hb.mono BL.out.size)); have P21 := Lib.hid (WpS.lower ho SZ.out); have T21 := Lib.hid (WpS.lower ho2 SZ.out); clear ho ho2 SZ; clear hb; have pc5 := Lib.hid trivial)
    | (clear pc5; have hb : Below w5.heap.size w5 (w5.alloc (.cells #[.bool s_21, .slice R_21 n_21 c_21, .slice Q_21 m_21 k_21] 26)) := (Below.refl _ _).alloc (Nat.le_refl _) _; have U21 := Lib.hid (Rb.new w5 s_21 R_21 n_21 c_21 Q_21 m_21 k_21); generalize w5.alloc (.cells #[.bool s_21, .slice R_21 n_21 c_21, .slice Q_21 m_21 k_21] 26) = w6 at *; replace X1 := Lib.hid (X1.out.below hb X1.out.lt); replace V1x := Lib.hid (V1x.out.below hb V1x.out.lt); replace HX := Lib.hid (HX.out.below hb); replace HP := Lib.hid (HP.out.below hb); replace HY := Lib.hid (HY.out.below hb); replace HQ := Lib.hid (HQ.out.below hb); replace P20 := Lib.hid (P20.out.below hb); replace T20 := Lib.hid (T20.out.below hb); replace U20 := Lib.hid (U20.out.below hb U20.out.lt); replace P21 := Lib.hid (P21.out.below hb); replace T21 := Lib.hid (T21.out.below hb); replace BL := Lib.hid (BL.out.trans (hb.mono BL.out.size)); clear hb; obtain ⟨u21, hgg⟩ : ∃ z0 : Nat, w5.heap.size = z0 := ⟨_, rfl⟩; rw [hgg]; rw [hgg] at U21; clear hgg; refine wpList_ldR (by rfl) _ rfl (by rfl) X1.out ?_; have pc6 := Lib.hid trivial)
    | (clear pc6; have hb : Below w6.heap.size w6 (w6.alloc (.cells #[.bool s, .slice (some ⟨g11, 0, none⟩) n (n + 3), .slice (some ⟨h11, 0, none⟩) m (m + 3)] 26)) := (Below.refl _ _).alloc (Nat.le_refl _) _; have L1 := Lib.hid (Rb.new w6 s (some ⟨g11, 0, none⟩) n (n + 3) (some ⟨h11, 0, none⟩) m (m + 3)); generalize w6.alloc (.cells #[.bool s, .slice (some ⟨g11, 0, none⟩) n (n + 3), .slice (some ⟨h11, 0, none⟩) m (m + 3)] 26) = w7 at *; replace X1 := Lib.hid (X1.out.below hb X1.out.lt); replace V1x := Lib.hid (V1x.out.below hb V1x.out.lt); replace HX := Lib.hid (HX.out.below hb); replace HP := Lib.hid (HP.out.below hb); replace HY := Lib.hid (HY.out.below hb); replace HQ := Lib.hid (HQ.out.below hb); replace P20 := Lib.hid (P20.out.below hb); replace T20 := Lib.hid (T20.out.below hb); replace U20 := Lib.hid (U20.out.below hb U20.out.lt); replace P21 := Lib.hid (P21.out.below hb); replace T21 := Lib.hid (T21.out.below hb); replace U21 := Lib.hid (U21.out.below hb U21.out.lt); replace BL := Lib.hid (BL.out.trans (hb.mono BL.out.size)); clear hb; obtain ⟨l1, hgg⟩ : ∃ z0 : Nat, w6.heap.size = z0 := ⟨_, rfl⟩; rw [hgg]; rw [hgg] at L1; clear hgg; refine wpList_ldR (by rfl) _ rfl (by rfl) V1x.out ?_; have pc7 := Lib.hid trivial)
    | (clear pc7; have hb : Below w7.heap.size w7 (w7.alloc (.cells #[.bool t, .slice B n2 c2, .slice E m2 k2] 26)) := (Below.refl _ _).alloc (Nat.le_refl _) _; have L2 := Lib.hid (Rb.new w7 t B n2 c2 E m2 k2); generalize w7.alloc (.cells #[.bool t, .slice B n2 c2, .slice E m2 k2] 26) = w8 at *; replace X1 := Lib.hid (X1.out.below hb X1.out.lt); replace V1x := Lib.hid (V1x.out.below hb V1x.out.lt); replace HX := Lib.hid (HX.out.below hb); replace HP := Lib.hid (HP.out.below hb); replace HY := Lib.hid (HY.out.below hb); replace HQ := Lib.hid (HQ.out.below hb); replace P20 := Lib.hid (P20.out.below hb); replace T20 := Lib.hid (T20.out.below hb); replace U20 := Lib.hid (U20.out.below hb U20.out.lt); replace P21 := Lib.hid (P21.out.below hb); replace T21 := Lib.hid (T21.out.below hb); replace U21 := Lib.hid (U21.out.below hb U21.out.lt); replace L1 := Lib.hid (L1.out.below hb L1.out.lt); replace BL := Lib.hid (BL.out.trans (hb.mono BL.out.size)); clear hb; obtain ⟨l2, hgg⟩ : ∃ z0 : Nat, w7.heap.size = z0 := ⟨_, rfl⟩; rw [hgg]; rw [hgg] at L2; clear hgg; have SZ : Hid (ws0.heap.size ≤ w8.heap.size) := BL.out.size; go_at_call 29; refine Calls.mono ((dot_one (x := x) (p := p) (y := y) (q := q) L1.out L2.out HX.out HP.out HY.out HQ.out LN.out LM.out LN2.out LM2.out LL.out rfl rfl).mono fun _ _ h => h.loose) ?_; rintro e w9 ⟨s_22, R_22, n_22, c_22, Q_22, m_22, k_22, ok22, rfl, ho, ho2, hb⟩; replace X1 := Lib.hid (X1.out.below hb X1.out.lt); replace V1x := Lib.hid (V1x.out.below hb V1x.out.lt); replace HX := Lib.hid (HX.out.below hb); replace HP := Lib.hid (HP.out.below hb); replace HY := Lib.hid (HY.out.below hb); replace HQ := Lib.hid (HQ.out.below hb); replace P20 := Lib.hid (P20.out.below hb); replace T20 := Lib.hid (T20.out.below hb); replace U20 := Lib.hid (U20.out.below hb U20.out.lt); replace P21 := Lib.hid (P21.out.below hb); replace T21 := Lib.hid (T21.out.below hb); replace U21 := Lib.hid (U21.out.below hb U21.out.lt); replace L1 := Lib.hid (L1.out.below hb L1.out.lt); replace L2 := Lib.hid (L2.out.below hb L2.out.lt); replace BL := Lib.hid (BL.out.trans (hb.mono BL.out.size)); have P22 := Lib.hid (WpS.lower ho SZ.out); have T22 := Lib.hid (WpS.lower ho2 SZ.out); clear ho ho2 SZ; clear hb; have pc8 := Lib.hid trivial))
  clear pc8
  have hb : Below w9.heap.size w9 (w9.alloc (.cells #[.bool s_22, .slice R_22 n_22 c_22, .slice Q_22 m_22 k_22] 26)) := (Below.refl _ _).alloc (Nat.le_refl _) _
  have U22 := Lib.hid (Rb.new w9 s_22 R_22 n_22 c_22 Q_22 m_22 k_22)
  generalize w9.alloc (.cells #[.bool s_22, .slice R_22 n_22 c_22, .slice Q_22 m_22 k_22] 26) = wk at *
  replace X1 := Lib.hid (X1.out.below hb X1.out.lt)
  replace V1x := Lib.hid (V1x.out.below hb V1x.out.lt)
  replace HX := Lib.hid (HX.out.below hb)
  replace HP := Lib.hid (HP.out.below hb)
  replace HY := Lib.hid (HY.out.below hb)
  replace HQ := Lib.hid (HQ.out.below hb)
  replace P20 := Lib.hid (P20.out.below hb)
  replace T20 := Lib.hid (T20.out.below hb)
  replace U20 := Lib.hid (U20.out.below hb U20.out.lt)
  replace P21 := Lib.hid (P21.out.below hb)
  replace T21 := Lib.hid (T21.out.below hb)
  replace U21 := Lib.hid (U21.out.below hb U21.out.lt)
  replace L1 := Lib.hid (L1.out.below hb L1.out.lt)
  replace L2 := Lib.hid (L2.out.below hb L2.out.lt)
  replace P22 := Lib.hid (P22.out.below hb)
  replace T22 := Lib.hid (T22.out.below hb)
  replace BL := Lib.hid (BL.out.trans (hb.mono BL.out.size))
  clear hb
  obtain ⟨u22, hgg⟩ : ∃ z0 : Nat, w9.heap.size = z0 := ⟨_, rfl⟩
  rw [hgg]
  rw [hgg] at U22
  clear hgg
  have SK : Hid (ws0.heap.size ≤ wk.heap.size) := BL.out.size
  have HB : Hid (Below wk.heap.size wk wk.drew) := below_drewN _ wk 1
  refine wp_region_held_drew (S := fun w' => Below wk.heap.size wk w') (by kernel_rfl) (HB.out) (fun hHeld => ?_)
  refine wpAnyH_takeL (i := 0) (oi := _) rfl (by kernel_rfl) (by kernel_rfl) (by kernel_rfl) (fun _ _ _ h => h) (yields_ldR (by rfl) _ rfl (by rfl) (fun _ hb => X1.out.below hb X1.out.lt)) hHeld ?_
  try simp only [Act.put, List.setIfInBounds_toArray, List.set_cons_zero, List.set_cons_succ]
  refine wpAnyH_takeL (i := 2) (oi := _) rfl (by kernel_rfl) (by kernel_rfl) (by kernel_rfl) (fun _ _ _ h => h) (yields_ldR (by rfl) _ rfl (by rfl) (fun _ hb => X1.out.below hb X1.out.lt)) hHeld ?_
  try simp only [Act.put, List.setIfInBounds_toArray, List.set_cons_zero, List.set_cons_succ]
  refine wpAnyH_takeL (i := 4) (oi := _) rfl (by kernel_rfl) (by kernel_rfl) (by kernel_rfl) (fun _ _ _ h => h) (yields_ldR (by rfl) _ rfl (by rfl) (fun _ hb => X1.out.below hb X1.out.lt)) hHeld ?_
  try simp only [Act.put, List.setIfInBounds_toArray, List.set_cons_zero, List.set_cons_succ]
  refine wpAnyH_takeL (i := 5) (oi := _) rfl (by kernel_rfl) (by kernel_rfl) (by kernel_rfl) (fun _ _ _ h => h) (yields_ldR (by rfl) _ rfl (by rfl) (fun _ hb => V1x.out.below hb V1x.out.lt)) hHeld ?_
  try simp only [Act.put, List.setIfInBounds_toArray, List.set_cons_zero, List.set_cons_succ]
  refine wpAnyH_takeL (i := 7) (oi := _) rfl (by kernel_rfl) (by kernel_rfl) (by kernel_rfl) (fun _ _ _ h => h) (yields_ldR (by rfl) _ rfl (by rfl) (fun _ hb => X1.out.below hb X1.out.lt)) hHeld ?_
  try simp only [Act.put, List.setIfInBounds_toArray, List.set_cons_zero, List.set_cons_succ]
  refine wpAnyH_takeL (i := 8) (oi := _) rfl (by kernel_rfl) (by kernel_rfl) (by kernel_rfl) (fun _ _ _ h => h) (yields_ldR (by rfl) _ rfl (by rfl) (fun _ hb => V1x.out.below hb V1x.out.lt)) hHeld ?_
  try simp only [Act.put, List.setIfInBounds_toArray, List.set_cons_zero, List.set_cons_succ]
  refine wpAnyH_takeL (i := 10) (oi := _) rfl (by kernel_rfl) (by kernel_rfl) (by kernel_rfl) (fun _ _ _ h => h) (yields_ldR (by rfl) _ rfl (by rfl) (fun _ hb => X1.out.below hb X1.out.lt)) hHeld ?_
  try simp only [Act.put, List.setIfInBounds_toArray, List.set_cons_zero, List.set_cons_succ]
  refine wpAnyH_takeL (i := 11) (oi := _) rfl (by kernel_rfl) (by kernel_rfl) (by kernel_rfl) (fun _ _ _ h => h) (yields_ldR (by rfl) _ rfl (by rfl) (fun _ hb => V1x.out.below hb V1x.out.lt)) hHeld ?_
  try simp only [Act.put, List.setIfInBounds_toArray, List.set_cons_zero, List.set_cons_succ]
  refine wpAnyH_takeL (i := 13) (oi := _) rfl (by kernel_rfl) (by kernel_rfl) (by kernel_rfl) (fun _ _ _ h => h) (yields_ldR (by rfl) _ rfl (by rfl) (fun _ hb => X1.out.below hb X1.out.lt)) hHeld ?_
  try simp only [Act.put, List.setIfInBounds_toArray, List.set_cons_zero, List.set_cons_succ]
  refine wpAnyH_takeL (i := 14) (oi := _) rfl (by kernel_rfl) (by kernel_rfl) (by kernel_rfl) (fun _ _ _ h => h) (yields_ldR (by rfl) _ rfl (by rfl) (fun _ hb => V1x.out.below hb V1x.out.lt)) hHeld ?_
  try simp only [Act.put, List.setIfInBounds_toArray, List.set_cons_zero, List.set_cons_succ]
  refine wpAnyH_takeL (i := 16) (oi := _) rfl (by kernel_rfl) (by kernel_rfl) (by kernel_rfl) (fun _ _ _ h => h) (yields_ldR (by rfl) _ rfl (by rfl) (fun _ hb => X1.out.below hb X1.out.lt)) hHeld ?_
  try simp only [Act.put, List.setIfInBounds_toArray, List.set_cons_zero, List.set_cons_succ]
  refine wpAnyH_takeL (i := 17) (oi := _) rfl (by kernel_rfl) (by kernel_rfl) (by kernel_rfl) (fun _ _ _ h => h) (yields_ldR (by rfl) _ rfl (by rfl) (fun _ hb => V1x.out.below hb V1x.out.lt)) hHeld ?_
  try simp only [Act.put, List.setIfInBounds_toArray, List.set_cons_zero, List.set_cons_succ]
  refine wpAnyH_takeL (i := 19) (oi := _) rfl (by kernel_rfl) (by kernel_rfl) (by kernel_rfl) (fun _ _ _ h => h) (yields_ldR (by rfl) _ rfl (by rfl) (fun _ hb => X1.out.below hb X1.out.lt)) hHeld ?_
  try simp only [Act.put, List.setIfInBounds_toArray, List.set_cons_zero, List.set_cons_succ]
  refine wpAnyH_takeL (i := 22) (oi := _) rfl (by kernel_rfl) (by kernel_rfl) (by kernel_rfl) (fun _ _ _ h => h) (yields_ldR (by rfl) _ rfl (by rfl) (fun _ hb => U20.out.below hb U20.out.lt)) hHeld ?_
  try simp only [Act.put, List.setIfInBounds_toArray, List.set_cons_zero, List.set_cons_succ]
  refine wpAnyH_takeL (i := 23) (oi := _) rfl (by kernel_rfl) (by kernel_rfl) (by kernel_rfl) (fun _ _ _ h => h) (yields_ldR (by rfl) _ rfl (by rfl) (fun _ hb => U21.out.below hb U21.out.lt)) hHeld ?_
  try simp only [Act.put, List.setIfInBounds_toArray, List.set_cons_zero, List.set_cons_succ]
  refine wpAnyH_takeL (i := 24) (oi := _) rfl (by kernel_rfl) (by kernel_rfl) (by kernel_rfl) (fun _ _ _ h => h) (yields_ldR (by rfl) _ rfl (by rfl) (fun _ hb => U22.out.below hb U22.out.lt)) hHeld ?_
  try simp only [Act.put, List.setIfInBounds_toArray, List.set_cons_zero, List.set_cons_succ]
  refine wpAnyH_takeL (i := 27) (oi := _) (v := ?_) rfl (by kernel_rfl) (by kernel_rfl) (by kernel_rfl) (fun _ _ _ h => h) (Or.inl ⟨by rfl, ?_⟩) hHeld ?_
  rotate_left
  · (intro w' hSw; (try dsimp only at hSw); go_simp; try (with_reducible rfl))
  try simp only [Act.put, List.setIfInBounds_toArray, List.set_cons_zero, List.set_cons_succ]
  refine wpAnyH_rgt [(1, some 48), (3, some 50), (6, some 53), (9, some 56), (12, some 59), (15, some 62), (18, some 65), (20, some 67), (21, some 68), (25, some 72), (26, some 73)] [26] (isLr ws0.heap.size) [(20, isXl s (some ⟨g11, 0, none⟩) n (n + 3) (some ⟨h11, 0, none⟩) m (m + 3)), (25, isL11 ws0.heap.size), (26, isV (.int .i64 11))] wk (f0 := 0) (by kernel_rfl) (by kernel_rfl) (by rfl) HB.out (fun _ h => h) (fun _ _ _ _ _ h => h) (isLr_good _) ⟨isXl_good _ _ _ _ _ _ _, isL11_good _, isV_good _, trivial⟩ ?_ ?_ ?_
  · clear hHeld HB
    show RgOps _ _ _ _ _ _ _ _ _ [1, 3, 6, 9, 12, 15, 18, 20, 21, 25]
    refine RgOps.consL (o := _) (ds := []) rfl rfl (by kernel_rfl) (fun vals wr hbr hC hdep K hK => ?_) ?_
    · have BB := Lib.hid hbr
      clear hdep
      clear hbr hC
      simp only [Upd2, Act.put, List.setIfInBounds_toArray, List.set_cons_zero, List.set_cons_succ] at hK ⊢
      go_simp
      go_at_call 30
      refine Calls.mono ((norm_any (x := x) (HX.out.below BB.out) (HP.out.below BB.out) LN.out LM.out LL7.out rfl rfl).mono fun _ _ h => h.loose) ?_
      rintro e wq ⟨s, R, n, c, Q, m, k, rfl, ho, ho2, hb⟩
      exact hK.out _ _ (LeavesB.behind hb ⟨_, _, _, _, _, _, _, rfl, WpS.lower ho (Nat.le_trans SK.out BB.out.size), WpS.lower ho2 (Nat.le_trans SK.out BB.out.size)⟩ rfl)
    refine RgOps.consL (o := _) (ds := [1]) rfl rfl (by kernel_rfl) (fun vals wr hbr hC hdep K hK => ?_) ?_
    · have BB := Lib.hid hbr
      obtain ⟨⟨s1, R1, n1, c1, Q1, m1, k1, e1, o1, v1⟩, -⟩ := hdep
      clear hbr hC
      simp only [e1, Upd2, Act.put, List.setIfInBounds_toArray, List.set_cons_zero, List.set_cons_succ] at hK ⊢
      clear e1
      go_simp
      go_at_call 31
      refine Calls.mono ((qneg_any (x := x) (HX.out.below BB.out) (HP.out.below BB.out) LN.out LM.out LL7.out rfl rfl).mono fun _ _ h => h.loose) ?_
      rintro e wq ⟨s, R, n, c, Q, m, k, rfl, ho, ho2, hb⟩
      exact hK.out _ _ (LeavesB.behind hb ⟨_, _, _, _, _, _, _, rfl, WpS.lower ho (Nat.le_trans SK.out BB.out.size), WpS.lower ho2 (Nat.le_trans SK.out BB.out.size)⟩ rfl)
    refine RgOps.consL (o := _) (ds := [3]) rfl rfl (by kernel_rfl) (fun vals wr hbr hC hdep K hK => ?_) ?_
    · have BB := Lib.hid hbr
      obtain ⟨⟨s3, R3, n3, c3, Q3, m3, k3, e3, o3, v3⟩, -⟩ := hdep
      clear hbr hC
      simp only [e3, Upd2, Act.put, List.setIfInBounds_toArray, List.set_cons_zero, List.set_cons_succ] at hK ⊢
      clear e3
      go_simp
      go_at_call 32
      refine Calls.mono ((qadd_any (x := x) (HX.out.below BB.out) (HP.out.below BB.out) (HY.out.below BB.out) (HQ.out.below BB.out) LN.out LM.out LN2.out LM2.out LL.out rfl rfl).mono fun _ _ h => h.loose) ?_
      rintro e wq ⟨s, R, n, c, Q, m, k, rfl, ho, ho2, hb⟩
      exact hK.out _ _ (LeavesB.behind hb ⟨_, _, _, _, _, _, _, rfl, WpS.lower ho (Nat.le_trans SK.out BB.out.size), WpS.lower ho2 (Nat.le_trans SK.out BB.out.size)⟩ rfl)
    refine RgOps.consL (o := _) (ds := [6]) rfl rfl (by kernel_rfl) (fun vals wr hbr hC hdep K hK => ?_) ?_
    · have BB := Lib.hid hbr
      obtain ⟨⟨s6, R6, n6, c6, Q6, m6, k6, e6, o6, v6⟩, -⟩ := hdep
      clear hbr hC
      simp only [e6, Upd2, Act.put, List.setIfInBounds_toArray, List.set_cons_zero, List.set_cons_succ] at hK ⊢
      clear e6
      go_simp
      go_at_call 33
      refine Calls.mono ((qsub_any (x := x) (HX.out.below BB.out) (HP.out.below BB.out) (HY.out.below BB.out) (HQ.out.below BB.out) LN.out LM.out LN2.out LM2.out LL.out rfl rfl).mono fun _ _ h => h.loose) ?_
      rintro e wq ⟨s, R, n, c, Q, m, k, rfl, ho, ho2, hb⟩
      exact hK.out _ _ (LeavesB.behind hb ⟨_, _, _, _, _, _, _, rfl, WpS.lower ho (Nat.le_trans SK.out BB.out.size), WpS.lower ho2 (Nat.le_trans SK.out BB.out.size)⟩ rfl)
    refine RgOps.consL (o := _) (ds := [9]) rfl rfl (by kernel_rfl) (fun vals wr hbr hC hdep K hK => ?_) ?_
    · have BB := Lib.hid hbr
      obtain ⟨⟨s9, R9, n9, c9, Q9, m9, k9, e9, o9, v9⟩, -⟩ := hdep
      clear hbr hC
      simp only [e9, Upd2, Act.put, List.setIfInBounds_toArray, List.set_cons_zero, List.set_cons_succ] at hK ⊢
      clear e9
      go_simp
      go_at_call 34
      refine Calls.mono ((qmul_any (x := x) (HX.out.below BB.out) (HP.out.below BB.out) (HY.out.below BB.out) (HQ.out.below BB.out) LN.out LM.out LN2.out LM2.out LL.out rfl rfl).mono fun _ _ h => h.loose) ?_
      rintro e wq ⟨s, R, n, c, Q, m, k, rfl, ho, ho2, hb⟩
      exact hK.out _ _ (LeavesB.behind hb ⟨_, _, _, _, _, _, _, rfl, WpS.lower ho (Nat.le_trans SK.out BB.out.size), WpS.lower ho2 (Nat.le_trans SK.out BB.out.size)⟩ rfl)
    refine RgOps.consL (o := _) (ds := [12]) rfl rfl (by kernel_rfl) (fun vals wr hbr hC hdep K hK => ?_) ?_
    · have BB := Lib.hid hbr
      obtain ⟨⟨s12, R12, n12, c12, Q12, m12, k12, e12, o12, v12⟩, -⟩ := hdep
      clear hbr hC
      simp only [e12, Upd2, Act.put, List.setIfInBounds_toArray, List.set_cons_zero, List.set_cons_succ] at hK ⊢
      clear e12
      go_simp
      go_at_call 35
      refine Calls.mono ((qmin_any (x := x) (HX.out.below BB.out) (HP.out.below BB.out) (HY.out.below BB.out) (HQ.out.below BB.out) LN.out LM.out LN2.out LM2.out LL.out rfl rfl).mono fun _ _ h => h.loose) ?_
      rintro e wq ⟨s, R, n, c, Q, m, k, rfl, ho, ho2, hb⟩
      exact hK.out _ _ (LeavesB.behind hb ⟨_, _, _, _, _, _, _, rfl, WpS.lower ho (Nat.le_trans SK.out BB.out.size), WpS.lower ho2 (Nat.le_trans SK.out BB.out.size)⟩ rfl)
    refine RgOps.consL (o := _) (ds := [15]) rfl rfl (by kernel_rfl) (fun vals wr hbr hC hdep K hK => ?_) ?_
    · have BB := Lib.hid hbr
      obtain ⟨⟨s15, R15, n15, c15, Q15, m15, k15, e15, o15, v15⟩, -⟩ := hdep
      clear hbr hC
      simp only [e15, Upd2, Act.put, List.setIfInBounds_toArray, List.set_cons_zero, List.set_cons_succ] at hK ⊢
      clear e15
      go_simp
      go_at_call 36
      refine Calls.mono ((qmax_any (x := x) (HX.out.below BB.out) (HP.out.below BB.out) (HY.out.below BB.out) (HQ.out.below BB.out) LN.out LM.out LN2.out LM2.out LL.out rfl rfl).mono fun _ _ h => h.loose) ?_
      rintro e wq ⟨s, R, n, c, Q, m, k, rfl, ho, ho2, hb⟩
      exact hK.out _ _ (LeavesB.behind hb ⟨_, _, _, _, _, _, _, rfl, WpS.lower ho (Nat.le_trans SK.out BB.out.size), WpS.lower ho2 (Nat.le_trans SK.out BB.out.size)⟩ rfl)
    refine RgOps.consL (o := _) (ds := []) rfl rfl (by kernel_rfl) (fun vals wr hbr hC hdep K hK => ?_) ?_
    · have BB := Lib.hid hbr
      clear hdep
      clear hbr hC
      simp only [Upd2, Act.put, List.setIfInBounds_toArray, List.set_cons_zero, List.set_cons_succ] at hK ⊢
      go_simp
      exact hK.out _ _ (LeavesB.behind ((Below.refl _ _).alloc (Nat.le_refl _) _) ⟨_, rfl, Rb.new _ _ _ _ _ _ _ _⟩ rfl)
    refine RgOps.consL (o := _) (ds := [18, 20]) rfl rfl (by kernel_rfl) (fun vals wr hbr hC hdep K hK => ?_) ?_
    · have BB := Lib.hid hbr
      obtain ⟨⟨s18, R18, n18, c18, Q18, m18, k18, e18, o18, v18⟩, ⟨g20, e20, z20⟩, -⟩ := hdep
      clear hbr hC
      simp only [e18, e20, Upd2, Act.put, List.setIfInBounds_toArray, List.set_cons_zero, List.set_cons_succ] at hK ⊢
      clear e18 e20
      go_simp
      go_at_call 37
      refine Calls.mono ((sum_one z20 (x := x) (HX.out.below BB.out) (HP.out.below BB.out) LN.out LM.out LL7.out rfl rfl).mono fun _ _ h => h.loose) ?_
      rintro e wq ⟨s, R, n, c, Q, m, k, rfl, ho, ho2, hb⟩
      exact hK.out _ _ (LeavesB.behind hb ⟨_, _, _, _, _, _, _, rfl, WpS.lower ho (Nat.le_trans SK.out BB.out.size), WpS.lower ho2 (Nat.le_trans SK.out BB.out.size)⟩ rfl)
    refine RgOps.consL (o := _) (ds := [1, 3, 6, 9, 12, 15, 18, 21]) rfl rfl (by kernel_rfl) (fun vals wr hbr hC hdep K hK => ?_) RgOps.nil
    · have BB := Lib.hid hbr
      obtain ⟨⟨s1, R1, n1, c1, Q1, m1, k1, e1, o1, v1⟩, ⟨s3, R3, n3, c3, Q3, m3, k3, e3, o3, v3⟩, ⟨s6, R6, n6, c6, Q6, m6, k6, e6, o6, v6⟩, ⟨s9, R9, n9, c9, Q9, m9, k9, e9, o9, v9⟩, ⟨s12, R12, n12, c12, Q12, m12, k12, e12, o12, v12⟩, ⟨s15, R15, n15, c15, Q15, m15, k15, e15, o15, v15⟩, ⟨s18, R18, n18, c18, Q18, m18, k18, e18, o18, v18⟩, ⟨s21, R21, n21, c21, Q21, m21, k21, e21, o21, v21⟩, -⟩ := hdep
      clear hbr hC
      simp only [e1, e3, e6, e9, e12, e15, e18, e21, Upd2, Act.put, List.setIfInBounds_toArray, List.set_cons_zero, List.set_cons_succ] at hK ⊢
      clear e1 e3 e6 e9 e12 e15 e18 e21
      go_simp
      exact hK.out _ _ (LeavesB.behind ((Below.refl _ _).alloc (Nat.le_refl _) _) ⟨_, _, rfl, heap_alloc_new _ _, fun j hj => by match j, hj with | 0, _ => exact ⟨_, _, _, _, _, _, _, rfl, rfl, rfl, o1.below ((Below.refl _ _).alloc (Nat.le_refl _) _), v1.below ((Below.refl _ _).alloc (Nat.le_refl _) _)⟩ | 1, _ => exact ⟨_, _, _, _, _, _, _, rfl, rfl, rfl, o3.below ((Below.refl _ _).alloc (Nat.le_refl _) _), v3.below ((Below.refl _ _).alloc (Nat.le_refl _) _)⟩ | 2, _ => exact ⟨_, _, _, _, _, _, _, rfl, rfl, rfl, o6.below ((Below.refl _ _).alloc (Nat.le_refl _) _), v6.below ((Below.refl _ _).alloc (Nat.le_refl _) _)⟩ | 3, _ => exact ⟨_, _, _, _, _, _, _, rfl, rfl, rfl, o9.below ((Below.refl _ _).alloc (Nat.le_refl _) _), v9.below ((Below.refl _ _).alloc (Nat.le_refl _) _)⟩ | 4, _ => exact ⟨_, _, _, _, _, _, _, rfl, rfl, rfl, o12.below ((Below.refl _ _).alloc (Nat.le_refl _) _), v12.below ((Below.refl _ _).alloc (Nat.le_refl _) _)⟩ | 5, _ => exact ⟨_, _, _, _, _, _, _, rfl, rfl, rfl, o15.below ((Below.refl _ _).alloc (Nat.le_refl _) _), v15.below ((Below.refl _ _).alloc (Nat.le_refl _) _)⟩ | 6, _ => exact ⟨_, _, _, _, _, _, _, rfl, rfl, rfl, o18.below ((Below.refl _ _).alloc (Nat.le_refl _) _), v18.below ((Below.refl _ _).alloc (Nat.le_refl _) _)⟩ | 7, _ => exact ⟨_, _, _, _, _, _, _, rfl, rfl, rfl, o21.below ((Below.refl _ _).alloc (Nat.le_refl _) _), v21.below ((Below.refl _ _).alloc (Nat.le_refl _) _)⟩ | 8, _ => exact ⟨_, _, _, _, _, _, _, rfl, rfl, rfl, (P20.out.below BB.out).below ((Below.refl _ _).alloc (Nat.le_refl _) _), (T20.out.below BB.out).below ((Below.refl _ _).alloc (Nat.le_refl _) _)⟩ | 9, _ => exact ⟨_, _, _, _, _, _, _, rfl, rfl, rfl, (P21.out.below BB.out).below ((Below.refl _ _).alloc (Nat.le_refl _) _), (T21.out.below BB.out).below ((Below.refl _ _).alloc (Nat.le_refl _) _)⟩ | 10, _ => exact ⟨_, _, _, _, _, _, _, rfl, rfl, rfl, (P22.out.below BB.out).below ((Below.refl _ _).alloc (Nat.le_refl _) _), (T22.out.below BB.out).below ((Below.refl _ _).alloc (Nat.le_refl _) _)⟩⟩ rfl)
  · clear hHeld HB
    show TaAll _ _ _ _ _ [26]
    refine TaAll.cons (o := _) (ds := [25]) rfl rfl (by kernel_rfl) (fun vals wr hdep => ?_) TaAll.nil
    · obtain ⟨⟨gh, cs, e25, ch, cc⟩, -⟩ := hdep
      refine ⟨_, fun S => Or.inl ⟨by rfl, ?_⟩, ⟨rfl, rfl⟩, rfl⟩
      intro w' _
      simp only [e25, Upd2, Act.put, List.setIfInBounds_toArray, List.set_cons_zero, List.set_cons_succ]
      go_simp
  clear hHeld HB
  intro vals wr hb hdep hD
  obtain ⟨⟨s1, R1, n1, c1, Q1, m1, k1, e1, o1, v1⟩, ⟨s3, R3, n3, c3, Q3, m3, k3, e3, o3, v3⟩, ⟨s6, R6, n6, c6, Q6, m6, k6, e6, o6, v6⟩, ⟨s9, R9, n9, c9, Q9, m9, k9, e9, o9, v9⟩, ⟨s12, R12, n12, c12, Q12, m12, k12, e12, o12, v12⟩, ⟨s15, R15, n15, c15, Q15, m15, k15, e15, o15, v15⟩, ⟨s18, R18, n18, c18, Q18, m18, k18, e18, o18, v18⟩, ⟨g20, e20, z20⟩, ⟨s21, R21, n21, c21, Q21, m21, k21, e21, o21, v21⟩, ⟨gh, cs, e25, ch, cc⟩, ⟨e26, -⟩, -⟩ := hdep
  simp only [Upd2, e1, e3, e6, e9, e12, e15, e18, e20, e21, e25, e26, Act.put, List.setIfInBounds_toArray, List.set_cons_zero, List.set_cons_succ]
  clear e1 e3 e6 e9 e12 e15 e18 e20 e21 e25 e26
  clear hD vals
  replace X1 := Lib.hid (X1.out.below hb X1.out.lt)
  replace V1x := Lib.hid (V1x.out.below hb V1x.out.lt)
  replace HX := Lib.hid (HX.out.below hb)
  replace HP := Lib.hid (HP.out.below hb)
  replace HY := Lib.hid (HY.out.below hb)
  replace HQ := Lib.hid (HQ.out.below hb)
  replace P20 := Lib.hid (P20.out.below hb)
  replace T20 := Lib.hid (T20.out.below hb)
  replace U20 := Lib.hid (U20.out.below hb U20.out.lt)
  replace P21 := Lib.hid (P21.out.below hb)
  replace T21 := Lib.hid (T21.out.below hb)
  replace U21 := Lib.hid (U21.out.below hb U21.out.lt)
  replace L1 := Lib.hid (L1.out.below hb L1.out.lt)
  replace L2 := Lib.hid (L2.out.below hb L2.out.lt)
  replace P22 := Lib.hid (P22.out.below hb)
  replace T22 := Lib.hid (T22.out.below hb)
  replace U22 := Lib.hid (U22.out.below hb U22.out.lt)
  replace BL := Lib.hid (BL.out.trans (hb.mono BL.out.size))
  have HB := Lib.hid hb
  clear hb
  have CH := Lib.hid ch; have CELL := Lib.hid cc
  clear ch cc z20 o1 v1 o3 v3 o6 v6 o9 v9 o12 v12 o15 v15 o18 v18 o21 v21
  have SL : Hid (ws0.heap.size ≤ wr.heap.size) := BL.out.size
  refine wpAnyH_done (by kernel_rfl) ?_ _
  clear HB
  clear SK X1 V1x HX HP HY HQ P20 T20 U20 P21 T21 U21 L1 L2 P22 T22 U22
  obtain ⟨wh, hwh⟩ : ∃ z0, z0 = wr := ⟨_, rfl⟩
  subst hwh
  go_wp2_with fail
  go_loopw [74] (fun i wr => ∃ k : Nat, k ≤ 11 ∧ i = .int .i64 k ∧ Hid (WKz ws0.heap.size wh wr)) (fun i _ => 11 - (intOf i).toNat)
  case atStart => exact ⟨0, by omega, rfl, WKz.refl _ _⟩
  case round =>
    obtain ⟨k, hk, rfl, hw⟩ := hrel
    by_cases hlt : k < 11
    · obtain ⟨so, R, nn, cc, Qa, mm, kk, hc1, hc2, hc3, hwp, hwq⟩ := CELL.out k hlt
      have RA : Hid (wr.rangeAt gh (k * 3) [.bool so, .slice R nn cc, .slice Qa mm kk]) := by
        intro q u hq
        rw [cell_of_row wr gh _ _ _ (0, 0) (hw.out.2.2 _ _ _ (by decide) CH.out)]
        match q, hq with
        | 0, hq => simp at hq; subst hq; exact hc1
        | 1, hq => simp at hq; subst hq; exact hc2
        | 2, hq => simp at hq; subst hq; exact hc3
      have WP := Lib.hid (hw.out.2.1 _ _ _ hwp)
      have WQ := Lib.hid (hw.out.2.1 _ _ _ hwq)
      have SR : Hid (ws0.heap.size ≤ wr.heap.size) := Nat.le_trans SL.out hw.out.1.size
      clear hc1 hc2 hc3 hwp hwq
      have pc0 := Lib.hid trivial
      go_wp2_with (first
        | (clear pc0; refine wpList_lre (by rfl) _ rfl (by rfl) RA.out ?_; have pc1 := Lib.hid trivial)
        | (clear pc1; refine wpList_ldRm (by rfl) _ rfl (by rfl) (Rb.new wr so R nn cc Qa mm kk) ?_; have pc2 := Lib.hid trivial)
        | (clear pc2; go_at_call 38; refine Calls.mono (wipe_z R nn cc ws0.heap.size _ (WP.out.below ((Below.refl _ _).alloc (Nat.le_refl _) _))) ?_; rintro e wn ⟨rfl, hk2⟩; have RB2 : Hid (Rb wn wr.heap.size so R nn cc Qa mm kk) := hk2.2.2 _ _ _ (by decide) (Rb.new wr so R nn cc Qa mm kk); have WQ2 := Lib.hid (hk2.2.1 _ _ _ (WQ.out.below ((Below.refl _ _).alloc (Nat.le_refl _) _))); have NX := Lib.hid ((hw.out.trans (WKz.of_below ((Below.refl _ _).alloc (Nat.le_refl _) _) SR.out)).trans hk2); clear hk2; have pc3 := Lib.hid trivial)
        | (clear pc3; refine wpList_ldRd (by rfl) _ rfl (by rfl) RB2.out ?_; have pc4 := Lib.hid trivial)
        | (clear pc4; go_at_call 38; refine Calls.mono (wipe_z Qa mm kk ws0.heap.size _ WQ2.out) ?_; rintro e wm ⟨rfl, hk3⟩; have NY := Lib.hid (NX.out.trans hk3); clear hk3; have pc5 := Lib.hid trivial))
      clear pc5
      go_roundw
      case rel => exact ⟨k + 1, by omega, by go_num, NY.out⟩
      case measure => simp [intOf]; omega
    · obtain ⟨wl, hwl⟩ : ∃ z0, z0 = wr := ⟨_, rfl⟩
      subst hwl
      replace BL : Hid (Below ws0.heap.size ws0 wl) := BL.out.trans hw.out.1
      clear hw CELL CH SL
      have X1 := Lib.hid (KX.out.below BL.out KX.out.lt)
      have HX := Lib.hid (KHX.out.below BL.out)
      have HP := Lib.hid (KHP.out.below BL.out)
      go_wp2_with fail
      have hb := below_drewN wl.heap.size wl 1
      replace X1 := Lib.hid (X1.out.below hb X1.out.lt)
      replace HX := Lib.hid (HX.out.below hb)
      replace HP := Lib.hid (HP.out.below hb)
      replace BL := Lib.hid (BL.out.trans (hb.mono BL.out.size))
      clear hb
      refine wp_region_held_drew (S := fun w' => Rb w' g12 s (some ⟨g11, 0, none⟩) n (n + 3) (some ⟨h11, 0, none⟩) m (m + 3)) (by kernel_rfl) X1.out (fun hHeld => ?_)
      refine wpAnyH_takeL (i := 0) (oi := _) rfl (by kernel_rfl) (by kernel_rfl) (by kernel_rfl) (fun _ _ _ h => h) (yields_ldR (by rfl) _ rfl (by rfl) (fun _ hS => hS)) hHeld ?_
      try simp only [Act.put, List.setIfInBounds_toArray, List.set_cons_zero, List.set_cons_succ]
      refine wpAnyH_takeL (i := 2) (oi := _) rfl (by kernel_rfl) (by kernel_rfl) (by kernel_rfl) (fun _ _ _ h => h) (yields_ldR (by rfl) _ rfl (by rfl) (fun _ hS => hS)) hHeld ?_
      try simp only [Act.put, List.setIfInBounds_toArray, List.set_cons_zero, List.set_cons_succ]
      refine wpAnyH_takeL (i := 4) (oi := _) rfl (by kernel_rfl) (by kernel_rfl) (by kernel_rfl) (fun _ _ _ h => h) (yields_ldR (by rfl) _ rfl (by rfl) (fun _ hS => hS)) hHeld ?_
      try simp only [Act.put, List.setIfInBounds_toArray, List.set_cons_zero, List.set_cons_succ]
      refine wpAnyH_takeL (i := 8) (oi := _) (v := ?_) rfl (by kernel_rfl) (by kernel_rfl) (by kernel_rfl) (fun _ _ _ h => h) (Or.inl ⟨by rfl, ?_⟩) hHeld ?_
      rotate_left
      · (intro w' hSw; (try dsimp only at hSw); go_simp; try (with_reducible rfl))
      try simp only [Act.put, List.setIfInBounds_toArray, List.set_cons_zero, List.set_cons_succ]
      refine wpAnyH_ready (rs := [1]) (by kernel_rfl) (by simp) ?_
      refine AllReadyH.consL (o := _) rfl (fun K hK => ?_) AllReadyH.nil
      clear hHeld
      have SZ := Lib.hid BL.out.size
      go_simp
      go_at_call 39
      refine Calls.mono ((qfloor_any (x := x) (p := p) HX.out HP.out LN.out LM.out LL7.out rfl).mono fun _ _ h => h.loose) ?_
      rintro e wa1 ⟨s1, R1, n1, c1, rfl, ho, hb⟩
      replace X1 := Lib.hid (X1.out.below hb X1.out.lt)
      replace HX := Lib.hid (HX.out.below hb)
      replace HP := Lib.hid (HP.out.below hb)
      replace BL := Lib.hid (BL.out.trans (hb.mono BL.out.size))
      have P1 := Lib.hid (WpS.lower ho SZ.out)
      clear ho SZ
      clear hb
      refine hK.out _ _ X1.out (fun hHeld => ?_)
      clear hK K
      try simp only [Act.put, List.setIfInBounds_toArray, List.set_cons_zero, List.set_cons_succ]
      refine wpAnyH_ready (rs := [3]) (by kernel_rfl) (by simp) ?_
      refine AllReadyH.consL (o := _) rfl (fun K hK => ?_) AllReadyH.nil
      clear hHeld
      have SZ := Lib.hid BL.out.size
      go_simp
      go_at_call 40
      refine Calls.mono ((qceil_any (x := x) (p := p) HX.out HP.out LN.out LM.out LL7.out rfl).mono fun _ _ h => h.loose) ?_
      rintro e wa2 ⟨s2, R2, n2, c2, rfl, ho, hb⟩
      replace X1 := Lib.hid (X1.out.below hb X1.out.lt)
      replace HX := Lib.hid (HX.out.below hb)
      replace HP := Lib.hid (HP.out.below hb)
      replace P1 := Lib.hid (P1.out.below hb)
      replace BL := Lib.hid (BL.out.trans (hb.mono BL.out.size))
      have P2 := Lib.hid (WpS.lower ho SZ.out)
      clear ho SZ
      clear hb
      refine hK.out _ _ X1.out (fun hHeld => ?_)
      clear hK K
      try simp only [Act.put, List.setIfInBounds_toArray, List.set_cons_zero, List.set_cons_succ]
      refine wpAnyH_ready (rs := [5]) (by kernel_rfl) (by simp) ?_
      refine AllReadyH.consL (o := _) rfl (fun K hK => ?_) AllReadyH.nil
      clear hHeld
      have SZ := Lib.hid BL.out.size
      go_simp
      go_at_call 41
      refine Calls.mono ((qround_any (x := x) (p := p) HX.out HP.out LN.out LM.out LL7.out rfl).mono fun _ _ h => h.loose) ?_
      rintro e wa3 ⟨s3, R3, n3, c3, rfl, ho, hb⟩
      replace X1 := Lib.hid (X1.out.below hb X1.out.lt)
      replace HX := Lib.hid (HX.out.below hb)
      replace HP := Lib.hid (HP.out.below hb)
      replace P1 := Lib.hid (P1.out.below hb)
      replace P2 := Lib.hid (P2.out.below hb)
      replace BL := Lib.hid (BL.out.trans (hb.mono BL.out.size))
      have P3 := Lib.hid (WpS.lower ho SZ.out)
      clear ho SZ
      clear hb
      refine hK.out _ _ X1.out (fun hHeld => ?_)
      clear hK K
      try simp only [Act.put, List.setIfInBounds_toArray, List.set_cons_zero, List.set_cons_succ]
      refine wpAnyH_ready (rs := [6]) (by kernel_rfl) (by simp) ?_
      refine AllReadyH.consL (o := _) rfl (fun K hK => ?_) AllReadyH.nil
      clear hHeld
      go_simp
      have hb : Below wa3.heap.size wa3 (wa3.alloc (.cells #[.bool s1, .slice R1 n1 c1, .bool s2, .slice R2 n2 c2, .bool s3, .slice R3 n3 c3] 24)) := (Below.refl _ _).alloc (Nat.le_refl _) _
      have CH := Lib.hid (heap_alloc_new wa3 (.cells #[.bool s1, .slice R1 n1 c1, .bool s2, .slice R2 n2 c2, .bool s3, .slice R3 n3 c3] 24))
      generalize wa3.alloc (.cells #[.bool s1, .slice R1 n1 c1, .bool s2, .slice R2 n2 c2, .bool s3, .slice R3 n3 c3] 24) = wg at *
      replace X1 := Lib.hid (X1.out.below hb X1.out.lt)
      replace HX := Lib.hid (HX.out.below hb)
      replace HP := Lib.hid (HP.out.below hb)
      replace P1 := Lib.hid (P1.out.below hb)
      replace P2 := Lib.hid (P2.out.below hb)
      replace P3 := Lib.hid (P3.out.below hb)
      replace BL := Lib.hid (BL.out.trans (hb.mono BL.out.size))
      clear hb
      generalize wa3.heap.size = gi at *
      refine hK.out _ _ X1.out (fun hHeld => ?_)
      clear hK K
      try simp only [Act.put, List.setIfInBounds_toArray, List.set_cons_zero, List.set_cons_succ]
      refine wpAnyH_takeL (i := 7) (oi := _) (v := ?_) rfl (by kernel_rfl) (by kernel_rfl) (by kernel_rfl) (fun _ _ _ h => h) (Or.inl ⟨by rfl, ?_⟩) hHeld ?_
      rotate_left
      · (intro w' hSw; (try dsimp only at hSw); go_simp; try (with_reducible rfl))
      try simp only [Act.put, List.setIfInBounds_toArray, List.set_cons_zero, List.set_cons_succ]
      clear hHeld
      refine wpAnyH_done (by kernel_rfl) ?_ _
      go_wp2_with fail
      obtain ⟨ds, eds⟩ : ∃ z0 : Array Value, #[.bool s1, .slice R1 n1 c1, .bool s2, .slice R2 n2 c2, .bool s3, .slice R3 n3 c3] = z0 := ⟨_, rfl⟩
      replace CH : Hid (wg.heap[gi]? = some (.cells ds 24 (0, 0))) := by rw [← eds]; exact CH
      have CELL : Hid (∀ k, k < 3 → ∃ s R n c, ds[k * 2]? = some (.bool s) ∧ ds[k * 2 + 1]? = some (.slice R n c) ∧ WpS wg ws0.heap.size R n c) := by
        intro k hk
        rw [← eds]
        match k, hk with
        | 0, _ => exact ⟨_, _, _, _, rfl, rfl, P1.out⟩
        | 1, _ => exact ⟨_, _, _, _, rfl, rfl, P2.out⟩
        | 2, _ => exact ⟨_, _, _, _, rfl, rfl, P3.out⟩
      clear eds X1 HX HP P1 P2 P3
      have SL : Hid (ws0.heap.size ≤ wg.heap.size) := BL.out.size
      go_loopw [94] (fun i wr => ∃ k : Nat, k ≤ 3 ∧ i = .int .i64 k ∧ Hid (WKz ws0.heap.size wg wr)) (fun i _ => 3 - (intOf i).toNat)
      case atStart => exact ⟨0, by omega, rfl, WKz.refl _ _⟩
      case round =>
        obtain ⟨k, hk, rfl, hw⟩ := hrel
        by_cases hlt : k < 3
        · obtain ⟨so, R, nn, cc, hc1, hc2, hwp⟩ := CELL.out k hlt
          have RA : Hid (wr.rangeAt gi (k * 2) [.bool so, .slice R nn cc]) := by
            intro q u hq
            rw [cell_of_row wr gi _ _ _ (0, 0) (hw.out.2.2 _ _ _ (by decide) CH.out)]
            match q, hq with
            | 0, hq => simp at hq; subst hq; exact hc1
            | 1, hq => simp at hq; subst hq; exact hc2
          have WP := Lib.hid (hw.out.2.1 _ _ _ hwp)
          have SR : Hid (ws0.heap.size ≤ wr.heap.size) := Nat.le_trans SL.out hw.out.1.size
          clear hc1 hc2 hwp
          have pc0 := Lib.hid trivial
          go_wp2_with (first
            | (clear pc0; refine wpList_lke (by rfl) _ rfl (by rfl) RA.out ?_; have pc1 := Lib.hid trivial)
            | (clear pc1; refine wpList_lkm (by rfl) _ rfl (by rfl) (Zb.new wr so R nn cc) ?_; have pc2 := Lib.hid trivial)
            | (clear pc2; go_at_call 38; refine Calls.mono (wipe_z R nn cc ws0.heap.size _ (WP.out.below ((Below.refl _ _).alloc (Nat.le_refl _) _))) ?_; rintro e wn ⟨rfl, hk2⟩; have NX := Lib.hid ((hw.out.trans (WKz.of_below ((Below.refl _ _).alloc (Nat.le_refl _) _) SR.out)).trans hk2); clear hk2; have pc3 := Lib.hid trivial))
          clear pc3
          go_roundw
          case rel => exact ⟨k + 1, by omega, by go_num, NX.out⟩
          case measure => simp [intOf]; omega
        · have BR : Hid (Below ws0.heap.size ws0 wr) := BL.out.trans hw.out.1
          clear hw CELL CH BL SL
          have pc0 := Lib.hid trivial
          go_wp2_with (first
            | (clear pc0; go_at_call 42; refine Calls.mono (rawake_any _) ?_; rintro e wb ⟨rfl, hb⟩; replace BR := Lib.hid (BR.out.trans (hb.mono BR.out.size)); clear hb; have pc1 := Lib.hid trivial)
            | (clear pc1; refine wpList_ldRm (by rfl) _ rfl (by rfl) (KX.out.below BR.out KX.out.lt) ?_; have pc2 := Lib.hid trivial)
            | (clear pc2; refine wpList_ldRm (by rfl) _ rfl (by rfl) (V0.out.below BR.out V0.out.lt) ?_; have pc3 := Lib.hid trivial)
            | (clear pc3; go_at_call 43; refine Calls.mono (kept_z (C1.out.below BR.out) (RX.out.below BR.out) LX.out (by have := LN.out; omega)) ?_; rintro e wc ⟨rfl, hb⟩; replace BR := Lib.hid (BR.out.trans (hb.mono BR.out.size)); clear hb; have pc4 := Lib.hid trivial)
            | (clear pc4; refine wpList_ldRd (by rfl) _ rfl (by rfl) (KX.out.below BR.out KX.out.lt) ?_; have pc5 := Lib.hid trivial)
            | (clear pc5; refine wpList_ldRd (by rfl) _ rfl (by rfl) (V0.out.below BR.out V0.out.lt) ?_; have pc6 := Lib.hid trivial)
            | (clear pc6; go_at_call 43; refine Calls.mono (kept_z (C2.out.below BR.out) (RP.out.below BR.out) LP.out (by have := LM.out; omega)) ?_; rintro e wd ⟨rfl, hb⟩; replace BR := Lib.hid (BR.out.trans (hb.mono BR.out.size)); clear hb; have pc7 := Lib.hid trivial))
          clear pc7
          go_ret
          exact ⟨rfl, B1.out.trans (BR.out.mono B1.out.size)⟩
end Go.Proofs.YtfmgbfdnmconiaaGreat
