/-
  Contract of integer.Extended.
-/
import Derived.Test.YtfmgbfdnmconiaaVar
namespace Go.Proofs.Ytfmgbfdnmconiaa
open Go.RowKit
set_option linter.unusedVariables false

/-- The two factors: they express the divisor, and are bounded. -/
def ExtOk (x y g u v : Int) : Prop := g = ((Int.gcd x y : Nat) : Int) ∧ x * u + y * v = g ∧ ((y = 0 ∧ v = 0 ∧ u.natAbs ≤ 1) ∨ (y ≠ 0 ∧ x = 0 ∧ u = 0 ∧ v.natAbs = 1) ∨ (y ≠ 0 ∧ x ≠ 0 ∧ ((u.natAbs : Nat) : Int) * g ≤ ((y.natAbs : Nat) : Int) ∧ ((v.natAbs : Nat) : Int) * g ≤ ((x.natAbs : Nat) : Int)))
/-- Three canonical integers in new memory. -/
def GivesE (w : World) (g u v : Int) (e : Ending) (w' : World) : Prop :=
  ∃ R c R' c' Q k, e = .returned (.tuple #[.agg #[.bool (decide (g < 0)), .slice R (ofv g.natAbs).length c], .agg #[.bool (decide (u < 0)), .slice R' (ofv u.natAbs).length c'], .agg #[.bool (decide (v < 0)), .slice Q (ofv v.natAbs).length k]]) ∧
    Own w' w.heap.size R c (ofv g.natAbs) ∧ Own w' w.heap.size R' c' (ofv u.natAbs) ∧ Own w' w.heap.size Q k (ofv v.natAbs) ∧ Below w.heap.size w w'
theorem ret_zbE {fn : Func} {R : Ending → World → Prop} {a : Act} {w : World} {k l j g g' g'' n c n' c' n'' c'' : Nat} {s s' s'' : Bool} {A A' A'' : Option Addr} (hf : fn.results = #[.cell k 24, .cell l 24, .cell j 24]) (hd : a.defers = [])
    (hk : (a.tmps[k]?).getD undef = .pointer (some ⟨g, 0, none⟩)) (hl : (a.tmps[l]?).getD undef = .pointer (some ⟨g', 0, none⟩)) (hj : (a.tmps[j]?).getD undef = .pointer (some ⟨g'', 0, none⟩)) (h : Zb w g s A n c) (h' : Zb w g' s' A' n' c') (h'' : Zb w g'' s'' A'' n'' c'')
    (hR : R (.returned (.tuple #[.agg #[.bool s, .slice A n c], .agg #[.bool s', .slice A' n' c'], .agg #[.bool s'', .slice A'' n'' c'']])) w) : bodyPost Try.prog fn R .ret a w := by
  obtain ⟨z1, z2⟩ := h.cells
  obtain ⟨z3, z4⟩ := h'.cells
  obtain ⟨z5, z6⟩ := h''.cells
  exact bodyPost_ret_by (v := .tuple #[.agg #[.bool s, .slice A n c], .agg #[.bool s', .slice A' n' c'], .agg #[.bool s'', .slice A'' n'' c'']]) (by simp [results, hf, go_sem, hk, hl, hj, z1, z2, z3, z4, z5, z6]) hd hR
theorem start5 (w : World) (s : Bool) (A : Option Addr) (n c : Nat) (t : Bool) (B : Option Addr) (m d : Nat) :
    Hid (Below w.heap.size w (((((w.alloc (.cells #[.bool s, .slice A n c] 24)).alloc (.cells #[.bool t, .slice B m d] 24)).alloc (.cells #[.bool false, .slice none 0 0] 24)).alloc (.cells #[.bool false, .slice none 0 0] 24)).alloc (.cells #[.bool false, .slice none 0 0] 24))) ∧ Hid (Zb (((((w.alloc (.cells #[.bool s, .slice A n c] 24)).alloc (.cells #[.bool t, .slice B m d] 24)).alloc (.cells #[.bool false, .slice none 0 0] 24)).alloc (.cells #[.bool false, .slice none 0 0] 24)).alloc (.cells #[.bool false, .slice none 0 0] 24)) w.heap.size s A n c) ∧ Hid (Zb (((((w.alloc (.cells #[.bool s, .slice A n c] 24)).alloc (.cells #[.bool t, .slice B m d] 24)).alloc (.cells #[.bool false, .slice none 0 0] 24)).alloc (.cells #[.bool false, .slice none 0 0] 24)).alloc (.cells #[.bool false, .slice none 0 0] 24)) (w.heap.size + 1) t B m d) ∧ Hid (Zb (((((w.alloc (.cells #[.bool s, .slice A n c] 24)).alloc (.cells #[.bool t, .slice B m d] 24)).alloc (.cells #[.bool false, .slice none 0 0] 24)).alloc (.cells #[.bool false, .slice none 0 0] 24)).alloc (.cells #[.bool false, .slice none 0 0] 24)) (w.heap.size + 2) false none 0 0) ∧ Hid (Zb (((((w.alloc (.cells #[.bool s, .slice A n c] 24)).alloc (.cells #[.bool t, .slice B m d] 24)).alloc (.cells #[.bool false, .slice none 0 0] 24)).alloc (.cells #[.bool false, .slice none 0 0] 24)).alloc (.cells #[.bool false, .slice none 0 0] 24)) (w.heap.size + 3) false none 0 0) ∧ Hid (Zb (((((w.alloc (.cells #[.bool s, .slice A n c] 24)).alloc (.cells #[.bool t, .slice B m d] 24)).alloc (.cells #[.bool false, .slice none 0 0] 24)).alloc (.cells #[.bool false, .slice none 0 0] 24)).alloc (.cells #[.bool false, .slice none 0 0] 24)) (w.heap.size + 4) false none 0 0) := by
  obtain ⟨b, x, y, z, u⟩ := start4 w s A n c t B m d
  refine ⟨b.out.alloc b.out.size _, x.out.alloc _, y.out.alloc _, z.out.alloc _, u.out.alloc _, ?_⟩
  have := Zb.new ((((w.alloc (.cells #[.bool s, .slice A n c] 24)).alloc (.cells #[.bool t, .slice B m d] 24)).alloc (.cells #[.bool false, .slice none 0 0] 24)).alloc (.cells #[.bool false, .slice none 0 0] 24)) false none 0 0
  simp only [World.size_alloc] at this
  exact this
theorem sg_abs (x : Int) (u : Int) : (if sg x < 0 then -u else u) * x = ((x.natAbs : Nat) : Int) * u := by
  rcases sg_cases x with ⟨e, h⟩ | ⟨e, h⟩ | ⟨e, h⟩ <;> rw [e]
  · rw [if_pos (by decide)]
    have : ((x.natAbs : Nat) : Int) = -x := by omega
    rw [this, Int.neg_mul, Int.neg_mul, Int.mul_comm]
  · rw [if_neg (by decide), h]; simp
  · rw [if_neg (by decide)]
    have : ((x.natAbs : Nat) : Int) = x := by omega
    rw [this, Int.mul_comm]
theorem ext_ok {x y ax ay g u k uu vv p q : Int} (hx : x ≠ 0) (hy : y ≠ 0) (ex : ((x.natAbs : Nat) : Int) = ax) (ey : ((y.natAbs : Nat) : Int) = ay) (kp : sg x = p) (kq : sg y = q) (eg : g = ((Int.gcd ax ay : Nat) : Int)) (ek : g = ax * u + ay * k)
    (b1 : ((u.natAbs : Nat) : Int) * g ≤ ay) (b2 : ((k.natAbs : Nat) : Int) * g ≤ ax) (eu : (if p < 0 then -u else u) = uu) (ev : (if q < 0 then -k else k) = vv) : ExtOk x y g uu vv := by
  subst ex ey kp kq
  have h1 := sg_abs x u
  have h2 := sg_abs y k
  rw [eu] at h1
  rw [ev] at h2
  have n1 : uu.natAbs = u.natAbs := by rw [← eu]; split <;> omega
  have n2 : vv.natAbs = k.natAbs := by rw [← ev]; split <;> omega
  refine ⟨by rw [eg]; simp [Int.gcd, Int.natAbs_natCast], ?_, .inr (.inr ⟨hy, hx, by rw [n1]; exact b1, by rw [n2]; exact b2⟩)⟩
  rw [Int.mul_comm x uu, Int.mul_comm y vv, h1, h2, ek]
/-- What the first factor and its bound give. -/
theorem ext_facts {ax ay g u k : Int} (hA : 0 < ax) (hB : 0 < ay) (eg : g = ((Int.gcd ax ay : Nat) : Int)) (ek : g = ax * u + ay * k) (hu : u = 0 ∨ 2 * (((u.natAbs : Nat) : Int) * g) ≤ ay) :
    (g - ax * u) / ay = k ∧ ((u.natAbs : Nat) : Int) * g ≤ ay ∧ ((k.natAbs : Nat) : Int) * g ≤ ax ∧ u.natAbs ≤ ay.natAbs ∧ k.natAbs ≤ ax.natAbs ∧ g.natAbs ≤ ax.natAbs ∧ (g - ax * u).natAbs = ay.natAbs * k.natAbs := by
  have g1 : g ≤ ax := by rw [eg]; exact Int.le_of_dvd hA (Int.gcd_dvd_left ..)
  have g2 : g ≤ ay := by rw [eg]; exact Int.le_of_dvd hB (Int.gcd_dvd_right ..)
  have g0 : 0 < g := by
    rw [eg]
    have : 0 < Int.gcd ax ay := Int.gcd_pos_of_ne_zero_left _ (by omega)
    omega
  obtain ⟨a1, a2, a3⟩ := other_factor hA hB g0 g1 ek hu g2
  have up : ∀ z : Int, ((z.natAbs : Nat) : Int) ≤ ((z.natAbs : Nat) : Int) * g := fun z => by
    have := Int.mul_le_mul_of_nonneg_left (show (1 : Int) ≤ g by omega) (show 0 ≤ ((z.natAbs : Nat) : Int) by omega)
    omega
  have u1 := up u
  have u2 := up k
  refine ⟨a1, a2, a3, by omega, by omega, by omega, ?_⟩
  rw [show g - ax * u = ay * k by omega, Int.natAbs_mul]

set_option maxRecDepth 100000 in
set_option maxHeartbeats 16000000 in
theorem ext_pos {s t : Bool} {A B : Option Addr} {n c m d : Nat} {x y : Int} {w : World} (h : Zin w s A n c x) (hn : n ≤ 35184372087808) (h' : Zin w t B m d y) (hm : m ≤ 35184372087808) (hx : x ≠ 0) (hy : y ≠ 0) :
    Calls Try.prog 6 #[.agg #[.bool s, .slice A n c], .agg #[.bool t, .slice B m d]] w fun e w' => ∃ g u v, ExtOk x y g u v ∧ GivesE w g u v e w' := by
  obtain ⟨B5, V0, V1, V2, V3, V4⟩ := start5 w s A n c t B m d
  have HX := Lib.hid (h.below B5.out)
  have HY := Lib.hid (h'.below B5.out)
  have lx := Nat.le_trans h.len hn
  have ly := Nat.le_trans h'.len hm
  obtain ⟨p, kp⟩ : ∃ v, sg x = v := ⟨_, rfl⟩
  obtain ⟨q, kq⟩ : ∃ v, sg y = v := ⟨_, rfl⟩
  obtain ⟨ax, ex⟩ : ∃ v, ((x.natAbs : Nat) : Int) = v := ⟨_, rfl⟩
  obtain ⟨ay, ey⟩ : ∃ v, ((y.natAbs : Nat) : Int) = v := ⟨_, rfl⟩
  have hp0 : (p == 0) = false := by rcases sg_cases x with ⟨e, h⟩ | ⟨e, h⟩ | ⟨e, h⟩ <;> simp <;> omega
  have hq0 : (q == 0) = false := by rcases sg_cases y with ⟨e, h⟩ | ⟨e, h⟩ | ⟨e, h⟩ <;> simp <;> omega
  have AX : Hid (0 < ax) := by show _ < _; omega
  have AY : Hid (0 < ay) := by show _ < _; omega
  have KP := Lib.hid kp
  have KQ := Lib.hid kq
  have EX := Lib.hid ex
  have EY := Lib.hid ey
  have NX := Lib.hid hx
  have NY := Lib.hid hy
  have LX : Hid ((ofv ax.natAbs).length ≤ 35184372087808) := by show _ ≤ _; rw [← ex]; exact lx
  have LY : Hid ((ofv ay.natAbs).length ≤ 35184372087808) := by show _ ≤ _; rw [← ey]; exact ly
  have LN : Hid (n ≤ 70368744177664) := by show _ ≤ _; omega
  have LM : Hid (m ≤ 70368744177664) := by show _ ≤ _; omega
  clear h h' hn hm lx ly kp kq ex ey hx hy
  go_enter Try.func6, Try.ntmps6
  go_wp2_with fail
  generalize (((((w.alloc (.cells #[.bool s, .slice A n c] 24)).alloc (.cells #[.bool t, .slice B m d] 24)).alloc (.cells #[.bool false, .slice none 0 0] 24)).alloc (.cells #[.bool false, .slice none 0 0] 24)).alloc (.cells #[.bool false, .slice none 0 0] 24)) = w2 at *
  have LT : Hid (w.heap.size + 4 < w2.heap.size) := V4.out.lt
  have HB : Hid (Below w2.heap.size w2 w2.drew) := below_drewN _ w2 1
  have hHeld := HB.out
  refine wp_region_held_split (S := fun w' => Below w2.heap.size w2 w') 4 (by kernel_rfl) (by kernel_rfl) ?_
  simp only [List.take_succ_cons, List.take_zero, List.drop_succ_cons, List.drop_zero]
  refine wpAnyH_takeL (i := 0) (oi := _) rfl (by kernel_rfl) (by kernel_rfl) (by kernel_rfl) (fun _ _ _ h => h) (yields_ldZ (by rfl) _ rfl (by rfl) (fun _ hb => V0.out.below hb V0.out.lt)) hHeld ?_
  try simp only [Act.put, List.setIfInBounds_toArray, List.set_cons_zero, List.set_cons_succ]
  refine wpAnyH_takeL (i := 2) (oi := _) rfl (by kernel_rfl) (by kernel_rfl) (by kernel_rfl) (fun _ _ _ h => h) (yields_ldZ (by rfl) _ rfl (by rfl) (fun _ hb => V1.out.below hb V1.out.lt)) hHeld ?_
  try simp only [Act.put, List.setIfInBounds_toArray, List.set_cons_zero, List.set_cons_succ]
  refine wpAnyH_ready (rs := [1]) (by kernel_rfl) (by simp) ?_
  refine AllReadyH.consL (o := _) rfl (fun K hK => ?_) AllReadyH.nil
  clear hHeld
  go_simp
  go_at_call 22
  refine Calls.mono (sign_k (z := x) (r := p) (HX.out.below HB.out) KP.out) ?_
  rintro e wa ⟨rfl, hb⟩
  replace HB := Lib.hid (HB.out.trans (hb.mono HB.out.size))
  clear hb
  refine hK.out _ _ HB.out (fun hHeld => ?_)
  clear hK K
  try simp only [Act.put, List.setIfInBounds_toArray, List.set_cons_zero, List.set_cons_succ]
  refine wpAnyH_ready (rs := [3]) (by kernel_rfl) (by simp) ?_
  refine AllReadyH.consL (o := _) rfl (fun K hK => ?_) AllReadyH.nil
  clear hHeld
  go_simp
  go_at_call 22
  refine Calls.mono (sign_k (z := y) (r := q) (HY.out.below HB.out) KQ.out) ?_
  rintro e w3 ⟨rfl, hb⟩
  replace HB := Lib.hid (HB.out.trans (hb.mono HB.out.size))
  clear hb
  refine hK.out _ _ HB.out (fun hHeld => ?_)
  clear hK K
  try simp only [Act.put, List.setIfInBounds_toArray, List.set_cons_zero, List.set_cons_succ]
  refine wpAnyH_done (by kernel_rfl) ?_ _
  show wpList _ _ _ _ _ _
  have hb := HB.out
  replace V0 := Lib.hid (V0.out.below hb V0.out.lt)
  replace V1 := Lib.hid (V1.out.below hb V1.out.lt)
  replace V2 := Lib.hid (V2.out.below hb V2.out.lt)
  replace V3 := Lib.hid (V3.out.below hb V3.out.lt)
  replace V4 := Lib.hid (V4.out.below hb V4.out.lt)
  replace HX := Lib.hid (HX.out.below hb)
  replace HY := Lib.hid (HY.out.below hb)
  replace B5 := Lib.hid (B5.out.trans (hb.mono B5.out.size))
  clear hb HB hHeld
  go_wp2_with fail
  have LO : Hid (w.heap.size ≤ w3.heap.size) := B5.out.size
  have LT3 : Hid (w.heap.size + 4 < w3.heap.size) := V4.out.lt
  have HB : Hid (Below w3.heap.size w3 w3.drew) := below_drewN _ w3 1
  have hHeld := HB.out
  refine wp_region_held_split (S := fun w' => Below w3.heap.size w3 w') 6 (by kernel_rfl) (by kernel_rfl) ?_
  simp only [List.take_succ_cons, List.take_zero, List.drop_succ_cons, List.drop_zero]
  refine wpAnyH_takeL (i := 0) (oi := _) rfl (by kernel_rfl) (by kernel_rfl) (by kernel_rfl) (fun _ _ _ h => h) (yields_ldZ (by rfl) _ rfl (by rfl) (fun _ hb => V0.out.below hb V0.out.lt)) hHeld ?_
  try simp only [Act.put, List.setIfInBounds_toArray, List.set_cons_zero, List.set_cons_succ]
  refine wpAnyH_takeL (i := 2) (oi := _) rfl (by kernel_rfl) (by kernel_rfl) (by kernel_rfl) (fun _ _ _ h => h) (yields_ldZ (by rfl) _ rfl (by rfl) (fun _ hb => V1.out.below hb V1.out.lt)) hHeld ?_
  try simp only [Act.put, List.setIfInBounds_toArray, List.set_cons_zero, List.set_cons_succ]
  refine wpAnyH_rgb [(1, some 30), (3, some 32), (4, some 9), (5, some 10)] (isNewZ w3.heap.size) [(1, isZ ax w.heap.size), (3, isZ ay w.heap.size)] w3 (by kernel_rfl) (by kernel_rfl) (by decide) HB.out (fun _ h => h) (isNewZ_good _) ⟨isZ_good _ _, isZ_good _ _, trivial⟩ ?_ ?_
  · clear hHeld HB
    refine RgOps.consL (o := _) rfl rfl rfl (fun vals w4 hb hC hdep K hK => ?_) ?_
    · have BB := Lib.hid hb
      clear hb hC hdep
      simp only [Upd2, Act.put, List.setIfInBounds_toArray, List.set_cons_zero, List.set_cons_succ] at hK ⊢
      go_simp
      go_at_call 9
      refine Calls.mono (abs_z (x := x) (z := ax) (HX.out.below BB.out) LN.out EX.out) ?_
      rintro e w5 ⟨R, cR, rfl, ho, hb⟩
      exact hK.out _ _ (LeavesB.giveZ (Nat.le_trans LO.out BB.out.size) ho hb)
    refine RgOps.consL (o := _) rfl rfl rfl (fun vals w4 hb hC hdep K hK => ?_) ?_
    · have BB := Lib.hid hb
      clear hb hC hdep
      simp only [Upd2, Act.put, List.setIfInBounds_toArray, List.set_cons_zero, List.set_cons_succ] at hK ⊢
      go_simp
      go_at_call 9
      refine Calls.mono (abs_z (x := y) (z := ay) (HY.out.below BB.out) LM.out EY.out) ?_
      rintro e w5 ⟨R, cR, rfl, ho, hb⟩
      exact hK.out _ _ (LeavesB.giveZ (Nat.le_trans LO.out BB.out.size) ho hb)
    refine RgOps.consL (o := _) rfl rfl rfl (fun vals w4 hb hC hdep K hK => ?_) ?_
    · have BB := Lib.hid hb
      clear hb hC hdep
      simp only [Upd2, Act.put, List.setIfInBounds_toArray, List.set_cons_zero, List.set_cons_succ] at hK ⊢
      go_simp
      exact hK.out _ _ (LeavesB.newZ BB.out.size)
    refine RgOps.consL (o := _) rfl rfl rfl (fun vals w4 hb hC hdep K hK => ?_) RgOps.nil
    · have BB := Lib.hid hb
      clear hb hC hdep
      simp only [Upd2, Act.put, List.setIfInBounds_toArray, List.set_cons_zero, List.set_cons_succ] at hK ⊢
      go_simp
      exact hK.out _ _ (LeavesB.newZ BB.out.size)
  clear hHeld HB
  intro vals w4 hb hdep hD
  have NE := Lib.hid (hD 4 (by decide) 5 (by decide) (by decide))
  obtain ⟨⟨P1, c1, e1, o1⟩, ⟨P2, c2, e2, o2⟩, ⟨g1, e3, l1, z1⟩, ⟨g2, e4, l2, z2⟩, -⟩ := hdep
  have NG : Hid (g1 ≠ g2) := fun e => NE.out g1 (by rw [e3]; rfl) (by rw [e4, e]; rfl)
  simp only [Upd2, e1, e2, e3, e4, Act.put, List.setIfInBounds_toArray, List.set_cons_zero, List.set_cons_succ]
  have OA := Lib.hid o1; have OB := Lib.hid o2; have G1 := Lib.hid z1; have G2 := Lib.hid z2
  have LG1 : Hid (w.heap.size + 4 < g1) := Nat.lt_of_lt_of_le LT3.out l1
  have LG2 : Hid (w.heap.size + 4 < g2) := Nat.lt_of_lt_of_le LT3.out l2
  replace V0 := Lib.hid (V0.out.below hb V0.out.lt)
  replace V1 := Lib.hid (V1.out.below hb V1.out.lt)
  replace V2 := Lib.hid (V2.out.below hb V2.out.lt)
  replace V3 := Lib.hid (V3.out.below hb V3.out.lt)
  replace V4 := Lib.hid (V4.out.below hb V4.out.lt)
  replace HX := Lib.hid (HX.out.below hb)
  replace HY := Lib.hid (HY.out.below hb)
  replace B5 := Lib.hid (B5.out.trans (hb.mono B5.out.size))
  clear hb hD NE e1 e2 e3 e4 o1 o2 z1 z2 l1 l2 vals LT3 LO
  show wpList _ _ _ _ _ _
  refine wpList_stZ (by rfl) _ _ rfl (by rfl) (by rfl) G1.out ?_
  intro w5 hz hg
  replace V0 := Lib.hid (V0.out.gr hg (by have := LG1.out; have := LG2.out; have := NG.out; omega))
  replace V1 := Lib.hid (V1.out.gr hg (by have := LG1.out; have := LG2.out; have := NG.out; omega))
  replace V2 := Lib.hid (V2.out.gr hg (by have := LG1.out; have := LG2.out; have := NG.out; omega))
  replace V3 := Lib.hid (V3.out.gr hg (by have := LG1.out; have := LG2.out; have := NG.out; omega))
  replace V4 := Lib.hid (V4.out.gr hg (by have := LG1.out; have := LG2.out; have := NG.out; omega))
  replace HX := Lib.hid (HX.out.gr G1.out hg)
  replace HY := Lib.hid (HY.out.gr G1.out hg)
  replace OA := Lib.hid (OA.out.gr G1.out hg)
  replace OB := Lib.hid (OB.out.gr G1.out hg)
  replace G2 := Lib.hid (G2.out.gr hg (by have := LG1.out; have := LG2.out; have := NG.out; omega))
  replace B5 := Lib.hid (Below.gr B5.out (by have := LG1.out; have := LG2.out; omega) hg B5.out.size)
  replace G1 := Lib.hid hz
  clear hz hg
  refine wpList_stZ (by rfl) _ _ rfl (by rfl) (by rfl) G2.out ?_
  intro w6 hz hg
  replace V0 := Lib.hid (V0.out.gr hg (by have := LG1.out; have := LG2.out; have := NG.out; omega))
  replace V1 := Lib.hid (V1.out.gr hg (by have := LG1.out; have := LG2.out; have := NG.out; omega))
  replace V2 := Lib.hid (V2.out.gr hg (by have := LG1.out; have := LG2.out; have := NG.out; omega))
  replace V3 := Lib.hid (V3.out.gr hg (by have := LG1.out; have := LG2.out; have := NG.out; omega))
  replace V4 := Lib.hid (V4.out.gr hg (by have := LG1.out; have := LG2.out; have := NG.out; omega))
  replace HX := Lib.hid (HX.out.gr G2.out hg)
  replace HY := Lib.hid (HY.out.gr G2.out hg)
  replace OA := Lib.hid (OA.out.gr G2.out hg)
  replace OB := Lib.hid (OB.out.gr G2.out hg)
  replace G1 := Lib.hid (G1.out.gr hg (by have := LG1.out; have := LG2.out; have := NG.out; omega))
  replace B5 := Lib.hid (Below.gr B5.out (by have := LG1.out; have := LG2.out; omega) hg B5.out.size)
  replace G2 := Lib.hid hz
  clear hz hg
  have pc0 := Lib.hid trivial
  go_wp2_with (first
    | (clear pc0; refine wpList_ldZ (by rfl) _ rfl (by rfl) G1.out ?_; have pc1 := Lib.hid trivial)
    | (clear pc1; refine wpList_ldZ (by rfl) _ rfl (by rfl) G2.out ?_; have pc2 := Lib.hid trivial)
    | (clear pc2; go_at_call 24; refine Calls.mono (ff_any (lo := w.heap.size) AX.out AY.out OA.out OB.out B5.out.size LX.out LY.out) ?_; rintro e w7 ⟨gg, u, k, eg, ek, hu, R1, d1, R2, d2, rfl, ho, ho2, hb⟩; replace V0 := Lib.hid (V0.out.below hb V0.out.lt); replace V1 := Lib.hid (V1.out.below hb V1.out.lt); replace V2 := Lib.hid (V2.out.below hb V2.out.lt); replace V3 := Lib.hid (V3.out.below hb V3.out.lt); replace V4 := Lib.hid (V4.out.below hb V4.out.lt); replace HX := Lib.hid (HX.out.below hb); replace HY := Lib.hid (HY.out.below hb); replace OA := Lib.hid (OA.out.below hb); replace OB := Lib.hid (OB.out.below hb); replace G1 := Lib.hid (G1.out.below hb G1.out.lt); replace G2 := Lib.hid (G2.out.below hb G2.out.lt); replace B5 := Lib.hid (B5.out.trans (hb.mono B5.out.size)); have OG := Lib.hid ho; have OU := Lib.hid ho2; have EG := Lib.hid eg; have EK := Lib.hid ek; have HU := Lib.hid hu; clear ho ho2 eg ek hu; clear hb; have pc3 := Lib.hid trivial)
    | (clear pc3; refine wpList_stZ (by rfl) _ _ rfl (by rfl) (by rfl) V2.out ?_; intro w8 hz hg; replace V0 := Lib.hid (V0.out.gr hg (by have := LG1.out; have := LG2.out; have := NG.out; omega)); replace V1 := Lib.hid (V1.out.gr hg (by have := LG1.out; have := LG2.out; have := NG.out; omega)); replace V3 := Lib.hid (V3.out.gr hg (by have := LG1.out; have := LG2.out; have := NG.out; omega)); replace V4 := Lib.hid (V4.out.gr hg (by have := LG1.out; have := LG2.out; have := NG.out; omega)); replace HX := Lib.hid (HX.out.gr V2.out hg); replace HY := Lib.hid (HY.out.gr V2.out hg); replace OA := Lib.hid (OA.out.gr V2.out hg); replace OB := Lib.hid (OB.out.gr V2.out hg); replace G1 := Lib.hid (G1.out.gr hg (by have := LG1.out; have := LG2.out; have := NG.out; omega)); replace G2 := Lib.hid (G2.out.gr hg (by have := LG1.out; have := LG2.out; have := NG.out; omega)); replace OG := Lib.hid (OG.out.gr V2.out hg); replace OU := Lib.hid (OU.out.gr V2.out hg); replace B5 := Lib.hid (Below.gr B5.out (by have := LG1.out; have := LG2.out; omega) hg B5.out.size); replace V2 := Lib.hid hz; clear hz hg; have pc4 := Lib.hid trivial)
    | (clear pc4; refine wpList_stZ (by rfl) _ _ rfl (by rfl) (by rfl) V3.out ?_; intro w9 hz hg; replace V0 := Lib.hid (V0.out.gr hg (by have := LG1.out; have := LG2.out; have := NG.out; omega)); replace V1 := Lib.hid (V1.out.gr hg (by have := LG1.out; have := LG2.out; have := NG.out; omega)); replace V2 := Lib.hid (V2.out.gr hg (by have := LG1.out; have := LG2.out; have := NG.out; omega)); replace V4 := Lib.hid (V4.out.gr hg (by have := LG1.out; have := LG2.out; have := NG.out; omega)); replace HX := Lib.hid (HX.out.gr V3.out hg); replace HY := Lib.hid (HY.out.gr V3.out hg); replace OA := Lib.hid (OA.out.gr V3.out hg); replace OB := Lib.hid (OB.out.gr V3.out hg); replace G1 := Lib.hid (G1.out.gr hg (by have := LG1.out; have := LG2.out; have := NG.out; omega)); replace G2 := Lib.hid (G2.out.gr hg (by have := LG1.out; have := LG2.out; have := NG.out; omega)); replace OG := Lib.hid (OG.out.gr V3.out hg); replace OU := Lib.hid (OU.out.gr V3.out hg); replace B5 := Lib.hid (Below.gr B5.out (by have := LG1.out; have := LG2.out; omega) hg B5.out.size); replace V3 := Lib.hid hz; clear hz hg; have pc5 := Lib.hid trivial))
  clear pc5
  obtain ⟨f1, f2, f3, f4, f5, f6, f7⟩ := ext_facts AX.out AY.out EG.out EK.out HU.out
  obtain ⟨m1, em⟩ : ∃ v, ax * u = v := ⟨_, rfl⟩
  obtain ⟨d0, ed⟩ : ∃ v, gg - m1 = v := ⟨_, rfl⟩
  obtain ⟨r0, er⟩ : ∃ v, d0 % ay = v := ⟨_, rfl⟩
  have LU : Hid ((ofv u.natAbs).length ≤ 35184372087808) := Nat.le_trans (len_mono f4) LY.out
  have LK : Hid ((ofv k.natAbs).length ≤ 35184372087808) := Nat.le_trans (len_mono f5) LX.out
  have LG : Hid ((ofv gg.natAbs).length ≤ 70368744177663) := Nat.le_trans (len_mono f6) (Nat.le_trans LX.out (by decide))
  have LAU : Hid ((ofv ax.natAbs).length + (ofv u.natAbs).length ≤ 70368744177664) := by have := LX.out; have := LU.out; show _ ≤ _; omega
  have LM1 : Hid ((ofv m1.natAbs).length ≤ 70368744177663) := by have := zlen_mul (x := ax) (y := u) LX.out LU.out; rw [em] at this; show _ ≤ _; omega
  have LD : Hid ((ofv d0.natAbs).length ≤ 70368744177660) := by
    rw [em, ed] at f7
    show _ ≤ _
    rw [f7]
    have := len_mul ay.natAbs k.natAbs
    have := LY.out
    have := LK.out
    omega
  have LAY : Hid ((ofv ay.natAbs).length ≤ 70368744177660) := Nat.le_trans LY.out (by decide)
  have LU4 : Hid ((ofv u.natAbs).length ≤ 70368744177664) := Nat.le_trans LU.out (by decide)
  have LK4 : Hid ((ofv k.natAbs).length ≤ 70368744177664) := Nat.le_trans LK.out (by decide)
  have EM := Lib.hid em
  have ED := Lib.hid ed
  have EQ : Hid (d0 / ay = k) := by show _ = _; rw [← ed, ← em]; exact f1
  have ER := Lib.hid er
  have NAY : Hid (ay ≠ 0) := by have := AY.out; show _ ≠ _; omega
  have F2 := Lib.hid f2
  have F3 := Lib.hid f3
  clear f1 f2 f3 f4 f5 f6 f7 em ed er
  have HB : Hid (Below w9.heap.size w9 w9.drew) := below_drewN _ w9 1
  refine wp_region_held_drew (S := fun w' => w9.grownBy w' (some (w.heap.size + 4))) (by kernel_rfl) ((grown_below HB.out : World.grownBy _ _ (some (w.heap.size + 4)))) (fun hHeld => ?_)
  refine wpAnyH_takeL (i := 0) (oi := _) rfl (by kernel_rfl) (by kernel_rfl) (by kernel_rfl) (fun _ _ _ h => h) (yields_ldZ (by rfl) _ rfl (by rfl) (fun _ hb => V2.out.gr hb (by have := LG1.out; have := LG2.out; have := NG.out; omega))) hHeld ?_
  try simp only [Act.put, List.setIfInBounds_toArray, List.set_cons_zero, List.set_cons_succ]
  refine wpAnyH_takeL (i := 1) (oi := _) rfl (by kernel_rfl) (by kernel_rfl) (by kernel_rfl) (fun _ _ _ h => h) (yields_ldZ (by rfl) _ rfl (by rfl) (fun _ hb => G1.out.gr hb (by have := LG1.out; have := LG2.out; have := NG.out; omega))) hHeld ?_
  try simp only [Act.put, List.setIfInBounds_toArray, List.set_cons_zero, List.set_cons_succ]
  refine wpAnyH_takeL (i := 2) (oi := _) rfl (by kernel_rfl) (by kernel_rfl) (by kernel_rfl) (fun _ _ _ h => h) (yields_ldZ (by rfl) _ rfl (by rfl) (fun _ hb => V3.out.gr hb (by have := LG1.out; have := LG2.out; have := NG.out; omega))) hHeld ?_
  try simp only [Act.put, List.setIfInBounds_toArray, List.set_cons_zero, List.set_cons_succ]
  refine wpAnyH_takeL (i := 5) (oi := _) rfl (by kernel_rfl) (by kernel_rfl) (by kernel_rfl) (fun _ _ _ h => h) (yields_ldZ (by rfl) _ rfl (by rfl) (fun _ hb => G2.out.gr hb (by have := LG1.out; have := LG2.out; have := NG.out; omega))) hHeld ?_
  try simp only [Act.put, List.setIfInBounds_toArray, List.set_cons_zero, List.set_cons_succ]
  refine wpAnyH_ready (rs := [3]) (by kernel_rfl) (by simp) ?_
  refine AllReadyH.consL (o := _) rfl (fun K hK => ?_) AllReadyH.nil
  clear hHeld
  go_simp
  go_at_call 12
  refine Calls.mono (mul_z (x := ax) (y := u) (z := m1) (Zo.of_own (OA.out.below HB.out)).in_ (Zo.of_own (OU.out.below HB.out)).in_ LAU.out EM.out) ?_
  rintro e wa ⟨PM, cM, rfl, ho, hb⟩
  replace HB := Lib.hid (HB.out.trans (hb.mono HB.out.size))
  have ZM := Lib.hid (Zo.of_own ho)
  clear ho
  clear hb
  refine hK.out _ _ (grown_below HB.out : World.grownBy _ _ (some (w.heap.size + 4))) (fun hHeld => ?_)
  clear hK K
  try simp only [Act.put, List.setIfInBounds_toArray, List.set_cons_zero, List.set_cons_succ]
  refine wpAnyH_ready (rs := [4]) (by kernel_rfl) (by simp) ?_
  refine AllReadyH.consL (o := _) rfl (fun K hK => ?_) AllReadyH.nil
  clear hHeld
  go_simp
  go_at_call 11
  refine Calls.mono (sub_z (x := gg) (y := m1) (z := d0) (Zo.of_own (OG.out.below HB.out)).in_ ZM.out.in_ LG.out LM1.out ED.out) ?_
  rintro e wb ⟨PD, cD, rfl, ho, hb⟩
  replace HB := Lib.hid (HB.out.trans (hb.mono HB.out.size))
  have ZD := Lib.hid (Zo.of_own ho)
  clear ho ZM
  clear hb
  refine hK.out _ _ (grown_below HB.out : World.grownBy _ _ (some (w.heap.size + 4))) (fun hHeld => ?_)
  clear hK K
  try simp only [Act.put, List.setIfInBounds_toArray, List.set_cons_zero, List.set_cons_succ]
  refine wpAnyH_ready (rs := [6]) (by kernel_rfl) (by simp) ?_
  refine AllReadyH.consL (o := _) rfl (fun K hK => ?_) AllReadyH.nil
  clear hHeld
  have HBS := Lib.hid (Nat.le_trans B5.out.size HB.out.size)
  go_simp
  go_at_call 5
  refine Calls.mono (dm_z (x := d0) (y := ay) (q := k) (r := r0) ZD.out.in_ (Zo.of_own (OB.out.below HB.out)).in_ LD.out LAY.out NAY.out EQ.out ER.out) ?_
  rintro e wc ⟨PK, cK, PR, cR, rfl, ho, ho2, hb⟩
  replace HB := Lib.hid (HB.out.trans (hb.mono HB.out.size))
  have OK := Lib.hid (ho.mono HBS.out)
  clear ho ho2 ZD HBS
  clear hb
  refine hK.out _ _ (grown_below HB.out : World.grownBy _ _ (some (w.heap.size + 4))) (fun hHeld => ?_)
  clear hK K
  try simp only [Act.put, List.setIfInBounds_toArray, List.set_cons_zero, List.set_cons_succ]
  refine wpAnyH_takeL (i := 7) (oi := _) (v := ?_) rfl (by kernel_rfl) (by kernel_rfl) (by kernel_rfl) (fun _ _ _ h => h) (Or.inl ⟨by rfl, ?_⟩) hHeld ?_
  rotate_left
  · (intro w' hSw; (try dsimp only at hSw); go_simp; try (with_reducible rfl))
  try simp only [Act.put, List.setIfInBounds_toArray, List.set_cons_zero, List.set_cons_succ]
  refine wpAnyH_takeL (i := 8) (oi := _) (v := ?_) rfl (by kernel_rfl) (by kernel_rfl) (by kernel_rfl) (fun _ _ _ h => h) (Or.inl ⟨by rfl, ?_⟩) hHeld ?_
  rotate_left
  · (intro w' hSw; (try dsimp only at hSw); go_simp; try (with_reducible rfl))
  try simp only [Act.put, List.setIfInBounds_toArray, List.set_cons_zero, List.set_cons_succ]
  refine wpAnyH_takeL (i := 9) (oi := _) (v := ?_) rfl (by kernel_rfl) (by kernel_rfl) (by kernel_rfl) (fun _ _ _ h => h) (Or.inl ⟨by rfl, ?_⟩) hHeld ?_
  rotate_left
  · (intro w' hSw; (try dsimp only at hSw); go_simp; try (with_reducible rfl))
  try simp only [Act.put, List.setIfInBounds_toArray, List.set_cons_zero, List.set_cons_succ]
  refine wpAnyH_takeL (i := 10) (oi := _) (v := ?_) rfl (by kernel_rfl) (by kernel_rfl) (by kernel_rfl) (fun _ _ _ h => h) (Or.inl ⟨by rfl, ?_⟩) hHeld ?_
  rotate_left
  · (intro w' hSw; (try dsimp only at hSw); go_simp; try (with_reducible rfl))
  try simp only [Act.put, List.setIfInBounds_toArray, List.set_cons_zero, List.set_cons_succ]
  refine wpAnyH_ready (rs := [11]) (by kernel_rfl) (by simp) ?_
  refine AllReadyH.consL (o := _) rfl (fun K hK => ?_) AllReadyH.nil
  clear hHeld
  have hb := HB.out
  replace V0 := Lib.hid (V0.out.below hb V0.out.lt)
  replace V1 := Lib.hid (V1.out.below hb V1.out.lt)
  replace V2 := Lib.hid (V2.out.below hb V2.out.lt)
  replace V3 := Lib.hid (V3.out.below hb V3.out.lt)
  replace V4 := Lib.hid (V4.out.below hb V4.out.lt)
  replace HX := Lib.hid (HX.out.below hb)
  replace HY := Lib.hid (HY.out.below hb)
  replace OA := Lib.hid (OA.out.below hb)
  replace OB := Lib.hid (OB.out.below hb)
  replace G1 := Lib.hid (G1.out.below hb G1.out.lt)
  replace G2 := Lib.hid (G2.out.below hb G2.out.lt)
  replace OG := Lib.hid (OG.out.below hb)
  replace OU := Lib.hid (OU.out.below hb)
  replace B5 := Lib.hid (B5.out.trans (hb.mono B5.out.size))
  rw [if_pos (by rfl)]
  refine wp_stZ _ _ rfl (by rfl) (by rfl) V4.out ?_
  intro w10 hz hg
  replace V0 := Lib.hid (V0.out.gr hg (by have := LG1.out; have := LG2.out; have := NG.out; omega))
  replace V1 := Lib.hid (V1.out.gr hg (by have := LG1.out; have := LG2.out; have := NG.out; omega))
  replace V2 := Lib.hid (V2.out.gr hg (by have := LG1.out; have := LG2.out; have := NG.out; omega))
  replace V3 := Lib.hid (V3.out.gr hg (by have := LG1.out; have := LG2.out; have := NG.out; omega))
  replace HX := Lib.hid (HX.out.gr V4.out hg)
  replace HY := Lib.hid (HY.out.gr V4.out hg)
  replace OA := Lib.hid (OA.out.gr V4.out hg)
  replace OB := Lib.hid (OB.out.gr V4.out hg)
  replace G1 := Lib.hid (G1.out.gr hg (by have := LG1.out; have := LG2.out; have := NG.out; omega))
  replace G2 := Lib.hid (G2.out.gr hg (by have := LG1.out; have := LG2.out; have := NG.out; omega))
  replace OG := Lib.hid (OG.out.gr V4.out hg)
  replace OU := Lib.hid (OU.out.gr V4.out hg)
  replace OK := Lib.hid (OK.out.gr V4.out hg)
  replace B5 := Lib.hid (Below.gr B5.out (by have := LG1.out; have := LG2.out; omega) hg B5.out.size)
  replace V4 := Lib.hid hz
  refine hK.out _ _ (World.grownBy.trans (grown_below hb) hg) (fun hHeld => ?_)
  clear hK K hg hb HB hz hHeld
  try simp only [Act.put]
  refine wpAnyH_done (by kernel_rfl) ?_ _
  have KPR : Hid (p < 0 ∨ 0 ≤ p) := by show _ ∨ _; omega
  have KQR : Hid (q < 0 ∨ 0 ≤ q) := by show _ ∨ _; omega
  rcases KPR.out with hp | hp
  · rcases KQR.out with hq | hq
    · clear KPR KQR
      obtain ⟨uu, eu⟩ : ∃ z, -u = z := ⟨_, rfl⟩
      have EU := Lib.hid eu
      clear eu
      obtain ⟨vv, ev⟩ : ∃ z, -k = z := ⟨_, rfl⟩
      have EV := Lib.hid ev
      clear ev
      have OK0 : Hid (ExtOk x y gg uu vv) := ext_ok NX.out NY.out EX.out EY.out KP.out KQ.out EG.out EK.out F2.out F3.out (by rw [if_pos hp]; exact EU.out) (by rw [if_pos hq]; exact EV.out)
      have pc0 := Lib.hid trivial
      go_wp2_with (first
        | (clear pc0; refine wpList_ldZ (by rfl) _ rfl (by rfl) V3.out ?_; have pc1 := Lib.hid trivial)
        | (clear pc1; go_at_call 8; refine Calls.mono (neg_z (x := u) (z := uu) (Zo.of_own OU.out).in_ LU4.out EU.out) ?_; rintro e w11 ⟨PU, cPU, rfl, ho, hb⟩; replace V0 := Lib.hid (V0.out.below hb V0.out.lt); replace V1 := Lib.hid (V1.out.below hb V1.out.lt); replace V2 := Lib.hid (V2.out.below hb V2.out.lt); replace V3 := Lib.hid (V3.out.below hb V3.out.lt); replace V4 := Lib.hid (V4.out.below hb V4.out.lt); replace HX := Lib.hid (HX.out.below hb); replace HY := Lib.hid (HY.out.below hb); replace OA := Lib.hid (OA.out.below hb); replace OB := Lib.hid (OB.out.below hb); replace G1 := Lib.hid (G1.out.below hb G1.out.lt); replace G2 := Lib.hid (G2.out.below hb G2.out.lt); replace OG := Lib.hid (OG.out.below hb); replace OU := Lib.hid (OU.out.below hb); replace OK := Lib.hid (OK.out.below hb); have Ouu := Lib.hid (ho.mono B5.out.size); skip; clear ho; replace B5 := Lib.hid (B5.out.trans (hb.mono B5.out.size)); clear hb; have pc2 := Lib.hid trivial)
        | (clear pc2; refine wpList_stZ (by rfl) _ _ rfl (by rfl) (by rfl) V3.out ?_; intro w12 hz hg; replace V0 := Lib.hid (V0.out.gr hg (by have := LG1.out; have := LG2.out; have := NG.out; omega)); replace V1 := Lib.hid (V1.out.gr hg (by have := LG1.out; have := LG2.out; have := NG.out; omega)); replace V2 := Lib.hid (V2.out.gr hg (by have := LG1.out; have := LG2.out; have := NG.out; omega)); replace V4 := Lib.hid (V4.out.gr hg (by have := LG1.out; have := LG2.out; have := NG.out; omega)); replace HX := Lib.hid (HX.out.gr V3.out hg); replace HY := Lib.hid (HY.out.gr V3.out hg); replace OA := Lib.hid (OA.out.gr V3.out hg); replace OB := Lib.hid (OB.out.gr V3.out hg); replace G1 := Lib.hid (G1.out.gr hg (by have := LG1.out; have := LG2.out; have := NG.out; omega)); replace G2 := Lib.hid (G2.out.gr hg (by have := LG1.out; have := LG2.out; have := NG.out; omega)); replace OG := Lib.hid (OG.out.gr V3.out hg); replace OU := Lib.hid (OU.out.gr V3.out hg); replace OK := Lib.hid (OK.out.gr V3.out hg); replace Ouu := Lib.hid (Ouu.out.gr V3.out hg); replace B5 := Lib.hid (Below.gr B5.out (by have := LG1.out; have := LG2.out; omega) hg B5.out.size); replace V3 := Lib.hid hz; clear hz hg; have pc3 := Lib.hid trivial)
        | (clear pc3; refine wpList_ldZ (by rfl) _ rfl (by rfl) V4.out ?_; have pc4 := Lib.hid trivial)
        | (clear pc4; go_at_call 8; refine Calls.mono (neg_z (x := k) (z := vv) (Zo.of_own OK.out).in_ LK4.out EV.out) ?_; rintro e w13 ⟨PV, cPV, rfl, ho, hb⟩; replace V0 := Lib.hid (V0.out.below hb V0.out.lt); replace V1 := Lib.hid (V1.out.below hb V1.out.lt); replace V2 := Lib.hid (V2.out.below hb V2.out.lt); replace V3 := Lib.hid (V3.out.below hb V3.out.lt); replace V4 := Lib.hid (V4.out.below hb V4.out.lt); replace HX := Lib.hid (HX.out.below hb); replace HY := Lib.hid (HY.out.below hb); replace OA := Lib.hid (OA.out.below hb); replace OB := Lib.hid (OB.out.below hb); replace G1 := Lib.hid (G1.out.below hb G1.out.lt); replace G2 := Lib.hid (G2.out.below hb G2.out.lt); replace OG := Lib.hid (OG.out.below hb); replace OU := Lib.hid (OU.out.below hb); replace OK := Lib.hid (OK.out.below hb); replace Ouu := Lib.hid (Ouu.out.below hb); have Ovv := Lib.hid (ho.mono B5.out.size); skip; clear ho; replace B5 := Lib.hid (B5.out.trans (hb.mono B5.out.size)); clear hb; have pc5 := Lib.hid trivial)
        | (clear pc5; refine wpList_stZ (by rfl) _ _ rfl (by rfl) (by rfl) V4.out ?_; intro w14 hz hg; replace V0 := Lib.hid (V0.out.gr hg (by have := LG1.out; have := LG2.out; have := NG.out; omega)); replace V1 := Lib.hid (V1.out.gr hg (by have := LG1.out; have := LG2.out; have := NG.out; omega)); replace V2 := Lib.hid (V2.out.gr hg (by have := LG1.out; have := LG2.out; have := NG.out; omega)); replace V3 := Lib.hid (V3.out.gr hg (by have := LG1.out; have := LG2.out; have := NG.out; omega)); replace HX := Lib.hid (HX.out.gr V4.out hg); replace HY := Lib.hid (HY.out.gr V4.out hg); replace OA := Lib.hid (OA.out.gr V4.out hg); replace OB := Lib.hid (OB.out.gr V4.out hg); replace G1 := Lib.hid (G1.out.gr hg (by have := LG1.out; have := LG2.out; have := NG.out; omega)); replace G2 := Lib.hid (G2.out.gr hg (by have := LG1.out; have := LG2.out; have := NG.out; omega)); replace OG := Lib.hid (OG.out.gr V4.out hg); replace OU := Lib.hid (OU.out.gr V4.out hg); replace OK := Lib.hid (OK.out.gr V4.out hg); replace Ouu := Lib.hid (Ouu.out.gr V4.out hg); replace Ovv := Lib.hid (Ovv.out.gr V4.out hg); replace B5 := Lib.hid (Below.gr B5.out (by have := LG1.out; have := LG2.out; omega) hg B5.out.size); replace V4 := Lib.hid hz; clear hz hg; have pc6 := Lib.hid trivial))
      clear pc6
      have hb := below_drewN w14.heap.size w14 1
      replace V0 := Lib.hid (V0.out.below hb V0.out.lt)
      replace V1 := Lib.hid (V1.out.below hb V1.out.lt)
      replace V2 := Lib.hid (V2.out.below hb V2.out.lt)
      replace V3 := Lib.hid (V3.out.below hb V3.out.lt)
      replace V4 := Lib.hid (V4.out.below hb V4.out.lt)
      replace HX := Lib.hid (HX.out.below hb)
      replace HY := Lib.hid (HY.out.below hb)
      replace OA := Lib.hid (OA.out.below hb)
      replace OB := Lib.hid (OB.out.below hb)
      replace G1 := Lib.hid (G1.out.below hb G1.out.lt)
      replace G2 := Lib.hid (G2.out.below hb G2.out.lt)
      replace OG := Lib.hid (OG.out.below hb)
      replace OU := Lib.hid (OU.out.below hb)
      replace OK := Lib.hid (OK.out.below hb)
      replace Ouu := Lib.hid (Ouu.out.below hb)
      replace Ovv := Lib.hid (Ovv.out.below hb)
      replace B5 := Lib.hid (B5.out.trans (hb.mono B5.out.size))
      clear hb
      refine wp_region_held_drew (S := fun w' => Zb w' (w.heap.size + 2) (decide (gg < 0)) R1 (ofv gg.natAbs).length d1 ∧ Zb w' (w.heap.size + 3) (decide (uu < 0)) PU (ofv uu.natAbs).length cPU ∧ Zb w' (w.heap.size + 4) (decide (vv < 0)) PV (ofv vv.natAbs).length cPV) (by kernel_rfl) ⟨V2.out, V3.out, V4.out⟩ (fun hHeld => ?_)
      refine wpAnyH_takeL (i := 0) (oi := _) rfl (by kernel_rfl) (by kernel_rfl) (by kernel_rfl) (fun _ _ _ h => h) (yields_ldZ (by rfl) _ rfl (by rfl) (fun _ hS => hS.1)) hHeld ?_
      try simp only [Act.put, List.setIfInBounds_toArray, List.set_cons_zero, List.set_cons_succ]
      refine wpAnyH_takeL (i := 1) (oi := _) rfl (by kernel_rfl) (by kernel_rfl) (by kernel_rfl) (fun _ _ _ h => h) (yields_ldZ (by rfl) _ rfl (by rfl) (fun _ hS => hS.2.1)) hHeld ?_
      try simp only [Act.put, List.setIfInBounds_toArray, List.set_cons_zero, List.set_cons_succ]
      refine wpAnyH_takeL (i := 2) (oi := _) rfl (by kernel_rfl) (by kernel_rfl) (by kernel_rfl) (fun _ _ _ h => h) (yields_ldZ (by rfl) _ rfl (by rfl) (fun _ hS => hS.2.2)) hHeld ?_
      try simp only [Act.put, List.setIfInBounds_toArray, List.set_cons_zero, List.set_cons_succ]
      refine wpAnyH_ready (rs := [3]) (by kernel_rfl) (by simp) ?_
      refine AllReadyH.consL (o := _) rfl (fun K hK => ?_) AllReadyH.nil
      clear hHeld
      rw [if_pos (by rfl)]
      refine wp_stZ _ _ rfl (by rfl) (by rfl) V2.out ?_
      intro ws0 hz hg
      replace V0 := Lib.hid (V0.out.gr hg (by have := LG1.out; have := LG2.out; have := NG.out; omega))
      replace V1 := Lib.hid (V1.out.gr hg (by have := LG1.out; have := LG2.out; have := NG.out; omega))
      replace V3 := Lib.hid (V3.out.gr hg (by have := LG1.out; have := LG2.out; have := NG.out; omega))
      replace V4 := Lib.hid (V4.out.gr hg (by have := LG1.out; have := LG2.out; have := NG.out; omega))
      replace HX := Lib.hid (HX.out.gr V2.out hg)
      replace HY := Lib.hid (HY.out.gr V2.out hg)
      replace OA := Lib.hid (OA.out.gr V2.out hg)
      replace OB := Lib.hid (OB.out.gr V2.out hg)
      replace G1 := Lib.hid (G1.out.gr hg (by have := LG1.out; have := LG2.out; have := NG.out; omega))
      replace G2 := Lib.hid (G2.out.gr hg (by have := LG1.out; have := LG2.out; have := NG.out; omega))
      replace OG := Lib.hid (OG.out.gr V2.out hg)
      replace OU := Lib.hid (OU.out.gr V2.out hg)
      replace OK := Lib.hid (OK.out.gr V2.out hg)
      replace Ouu := Lib.hid (Ouu.out.gr V2.out hg)
      replace Ovv := Lib.hid (Ovv.out.gr V2.out hg)
      replace B5 := Lib.hid (Below.gr B5.out (by have := LG1.out; have := LG2.out; omega) hg B5.out.size)
      replace V2 := Lib.hid hz
      refine hK.out _ _ ⟨V2.out, V3.out, V4.out⟩ (fun hHeld => ?_)
      clear hK K hg hz
      try simp only [Act.put]
      refine wpAnyH_ready (rs := [4]) (by kernel_rfl) (by simp) ?_
      refine AllReadyH.consL (o := _) rfl (fun K hK => ?_) AllReadyH.nil
      clear hHeld
      rw [if_pos (by rfl)]
      refine wp_stZ _ _ rfl (by rfl) (by rfl) V3.out ?_
      intro ws1 hz hg
      replace V0 := Lib.hid (V0.out.gr hg (by have := LG1.out; have := LG2.out; have := NG.out; omega))
      replace V1 := Lib.hid (V1.out.gr hg (by have := LG1.out; have := LG2.out; have := NG.out; omega))
      replace V2 := Lib.hid (V2.out.gr hg (by have := LG1.out; have := LG2.out; have := NG.out; omega))
      replace V4 := Lib.hid (V4.out.gr hg (by have := LG1.out; have := LG2.out; have := NG.out; omega))
      replace HX := Lib.hid (HX.out.gr V3.out hg)
      replace HY := Lib.hid (HY.out.gr V3.out hg)
      replace OA := Lib.hid (OA.out.gr V3.out hg)
      replace OB := Lib.hid (OB.out.gr V3.out hg)
      replace G1 := Lib.hid (G1.out.gr hg (by have := LG1.out; have := LG2.out; have := NG.out; omega))
      replace G2 := Lib.hid (G2.out.gr hg (by have := LG1.out; have := LG2.out; have := NG.out; omega))
      replace OG := Lib.hid (OG.out.gr V3.out hg)
      replace OU := Lib.hid (OU.out.gr V3.out hg)
      replace OK := Lib.hid (OK.out.gr V3.out hg)
      replace Ouu := Lib.hid (Ouu.out.gr V3.out hg)
      replace Ovv := Lib.hid (Ovv.out.gr V3.out hg)
      replace B5 := Lib.hid (Below.gr B5.out (by have := LG1.out; have := LG2.out; omega) hg B5.out.size)
      replace V3 := Lib.hid hz
      refine hK.out _ _ ⟨V2.out, V3.out, V4.out⟩ (fun hHeld => ?_)
      clear hK K hg hz
      try simp only [Act.put]
      refine wpAnyH_ready (rs := [5]) (by kernel_rfl) (by simp) ?_
      refine AllReadyH.consL (o := _) rfl (fun K hK => ?_) AllReadyH.nil
      clear hHeld
      rw [if_pos (by rfl)]
      refine wp_stZ _ _ rfl (by rfl) (by rfl) V4.out ?_
      intro ws2 hz hg
      replace V0 := Lib.hid (V0.out.gr hg (by have := LG1.out; have := LG2.out; have := NG.out; omega))
      replace V1 := Lib.hid (V1.out.gr hg (by have := LG1.out; have := LG2.out; have := NG.out; omega))
      replace V2 := Lib.hid (V2.out.gr hg (by have := LG1.out; have := LG2.out; have := NG.out; omega))
      replace V3 := Lib.hid (V3.out.gr hg (by have := LG1.out; have := LG2.out; have := NG.out; omega))
      replace HX := Lib.hid (HX.out.gr V4.out hg)
      replace HY := Lib.hid (HY.out.gr V4.out hg)
      replace OA := Lib.hid (OA.out.gr V4.out hg)
      replace OB := Lib.hid (OB.out.gr V4.out hg)
      replace G1 := Lib.hid (G1.out.gr hg (by have := LG1.out; have := LG2.out; have := NG.out; omega))
      replace G2 := Lib.hid (G2.out.gr hg (by have := LG1.out; have := LG2.out; have := NG.out; omega))
      replace OG := Lib.hid (OG.out.gr V4.out hg)
      replace OU := Lib.hid (OU.out.gr V4.out hg)
      replace OK := Lib.hid (OK.out.gr V4.out hg)
      replace Ouu := Lib.hid (Ouu.out.gr V4.out hg)
      replace Ovv := Lib.hid (Ovv.out.gr V4.out hg)
      replace B5 := Lib.hid (Below.gr B5.out (by have := LG1.out; have := LG2.out; omega) hg B5.out.size)
      replace V4 := Lib.hid hz
      refine hK.out _ _ ⟨V2.out, V3.out, V4.out⟩ (fun hHeld => ?_)
      clear hK K hg hz
      try simp only [Act.put]
      clear hHeld
      refine wpAnyH_done (by kernel_rfl) ?_ _
      go_wp2
      exact ret_zbE Try.results6 rfl rfl rfl rfl V2.out V3.out V4.out ⟨gg, uu, vv, OK0.out, _, _, _, _, _, _, rfl, OG.out, Ouu.out, Ovv.out, B5.out⟩
    · clear KPR KQR
      obtain ⟨uu, eu⟩ : ∃ z, -u = z := ⟨_, rfl⟩
      have EU := Lib.hid eu
      clear eu
      have OK0 : Hid (ExtOk x y gg uu k) := ext_ok NX.out NY.out EX.out EY.out KP.out KQ.out EG.out EK.out F2.out F3.out (by rw [if_pos hp]; exact EU.out) (by rw [if_neg (by omega)])
      have pc0 := Lib.hid trivial
      go_wp2_with (first
        | (clear pc0; refine wpList_ldZ (by rfl) _ rfl (by rfl) V3.out ?_; have pc1 := Lib.hid trivial)
        | (clear pc1; go_at_call 8; refine Calls.mono (neg_z (x := u) (z := uu) (Zo.of_own OU.out).in_ LU4.out EU.out) ?_; rintro e w11 ⟨PU, cPU, rfl, ho, hb⟩; replace V0 := Lib.hid (V0.out.below hb V0.out.lt); replace V1 := Lib.hid (V1.out.below hb V1.out.lt); replace V2 := Lib.hid (V2.out.below hb V2.out.lt); replace V3 := Lib.hid (V3.out.below hb V3.out.lt); replace V4 := Lib.hid (V4.out.below hb V4.out.lt); replace HX := Lib.hid (HX.out.below hb); replace HY := Lib.hid (HY.out.below hb); replace OA := Lib.hid (OA.out.below hb); replace OB := Lib.hid (OB.out.below hb); replace G1 := Lib.hid (G1.out.below hb G1.out.lt); replace G2 := Lib.hid (G2.out.below hb G2.out.lt); replace OG := Lib.hid (OG.out.below hb); replace OU := Lib.hid (OU.out.below hb); replace OK := Lib.hid (OK.out.below hb); have Ouu := Lib.hid (ho.mono B5.out.size); skip; clear ho; replace B5 := Lib.hid (B5.out.trans (hb.mono B5.out.size)); clear hb; have pc2 := Lib.hid trivial)
        | (clear pc2; refine wpList_stZ (by rfl) _ _ rfl (by rfl) (by rfl) V3.out ?_; intro w12 hz hg; replace V0 := Lib.hid (V0.out.gr hg (by have := LG1.out; have := LG2.out; have := NG.out; omega)); replace V1 := Lib.hid (V1.out.gr hg (by have := LG1.out; have := LG2.out; have := NG.out; omega)); replace V2 := Lib.hid (V2.out.gr hg (by have := LG1.out; have := LG2.out; have := NG.out; omega)); replace V4 := Lib.hid (V4.out.gr hg (by have := LG1.out; have := LG2.out; have := NG.out; omega)); replace HX := Lib.hid (HX.out.gr V3.out hg); replace HY := Lib.hid (HY.out.gr V3.out hg); replace OA := Lib.hid (OA.out.gr V3.out hg); replace OB := Lib.hid (OB.out.gr V3.out hg); replace G1 := Lib.hid (G1.out.gr hg (by have := LG1.out; have := LG2.out; have := NG.out; omega)); replace G2 := Lib.hid (G2.out.gr hg (by have := LG1.out; have := LG2.out; have := NG.out; omega)); replace OG := Lib.hid (OG.out.gr V3.out hg); replace OU := Lib.hid (OU.out.gr V3.out hg); replace OK := Lib.hid (OK.out.gr V3.out hg); replace Ouu := Lib.hid (Ouu.out.gr V3.out hg); replace B5 := Lib.hid (Below.gr B5.out (by have := LG1.out; have := LG2.out; omega) hg B5.out.size); replace V3 := Lib.hid hz; clear hz hg; have pc3 := Lib.hid trivial))
      clear pc3
      have hb := below_drewN w12.heap.size w12 1
      replace V0 := Lib.hid (V0.out.below hb V0.out.lt)
      replace V1 := Lib.hid (V1.out.below hb V1.out.lt)
      replace V2 := Lib.hid (V2.out.below hb V2.out.lt)
      replace V3 := Lib.hid (V3.out.below hb V3.out.lt)
      replace V4 := Lib.hid (V4.out.below hb V4.out.lt)
      replace HX := Lib.hid (HX.out.below hb)
      replace HY := Lib.hid (HY.out.below hb)
      replace OA := Lib.hid (OA.out.below hb)
      replace OB := Lib.hid (OB.out.below hb)
      replace G1 := Lib.hid (G1.out.below hb G1.out.lt)
      replace G2 := Lib.hid (G2.out.below hb G2.out.lt)
      replace OG := Lib.hid (OG.out.below hb)
      replace OU := Lib.hid (OU.out.below hb)
      replace OK := Lib.hid (OK.out.below hb)
      replace Ouu := Lib.hid (Ouu.out.below hb)
      replace B5 := Lib.hid (B5.out.trans (hb.mono B5.out.size))
      clear hb
      refine wp_region_held_drew (S := fun w' => Zb w' (w.heap.size + 2) (decide (gg < 0)) R1 (ofv gg.natAbs).length d1 ∧ Zb w' (w.heap.size + 3) (decide (uu < 0)) PU (ofv uu.natAbs).length cPU ∧ Zb w' (w.heap.size + 4) (decide (k < 0)) PK (ofv k.natAbs).length cK) (by kernel_rfl) ⟨V2.out, V3.out, V4.out⟩ (fun hHeld => ?_)
      refine wpAnyH_takeL (i := 0) (oi := _) rfl (by kernel_rfl) (by kernel_rfl) (by kernel_rfl) (fun _ _ _ h => h) (yields_ldZ (by rfl) _ rfl (by rfl) (fun _ hS => hS.1)) hHeld ?_
      try simp only [Act.put, List.setIfInBounds_toArray, List.set_cons_zero, List.set_cons_succ]
      refine wpAnyH_takeL (i := 1) (oi := _) rfl (by kernel_rfl) (by kernel_rfl) (by kernel_rfl) (fun _ _ _ h => h) (yields_ldZ (by rfl) _ rfl (by rfl) (fun _ hS => hS.2.1)) hHeld ?_
      try simp only [Act.put, List.setIfInBounds_toArray, List.set_cons_zero, List.set_cons_succ]
      refine wpAnyH_takeL (i := 2) (oi := _) rfl (by kernel_rfl) (by kernel_rfl) (by kernel_rfl) (fun _ _ _ h => h) (yields_ldZ (by rfl) _ rfl (by rfl) (fun _ hS => hS.2.2)) hHeld ?_
      try simp only [Act.put, List.setIfInBounds_toArray, List.set_cons_zero, List.set_cons_succ]
      refine wpAnyH_ready (rs := [3]) (by kernel_rfl) (by simp) ?_
      refine AllReadyH.consL (o := _) rfl (fun K hK => ?_) AllReadyH.nil
      clear hHeld
      rw [if_pos (by rfl)]
      refine wp_stZ _ _ rfl (by rfl) (by rfl) V2.out ?_
      intro ws0 hz hg
      replace V0 := Lib.hid (V0.out.gr hg (by have := LG1.out; have := LG2.out; have := NG.out; omega))
      replace V1 := Lib.hid (V1.out.gr hg (by have := LG1.out; have := LG2.out; have := NG.out; omega))
      replace V3 := Lib.hid (V3.out.gr hg (by have := LG1.out; have := LG2.out; have := NG.out; omega))
      replace V4 := Lib.hid (V4.out.gr hg (by have := LG1.out; have := LG2.out; have := NG.out; omega))
      replace HX := Lib.hid (HX.out.gr V2.out hg)
      replace HY := Lib.hid (HY.out.gr V2.out hg)
      replace OA := Lib.hid (OA.out.gr V2.out hg)
      replace OB := Lib.hid (OB.out.gr V2.out hg)
      replace G1 := Lib.hid (G1.out.gr hg (by have := LG1.out; have := LG2.out; have := NG.out; omega))
      replace G2 := Lib.hid (G2.out.gr hg (by have := LG1.out; have := LG2.out; have := NG.out; omega))
      replace OG := Lib.hid (OG.out.gr V2.out hg)
      replace OU := Lib.hid (OU.out.gr V2.out hg)
      replace OK := Lib.hid (OK.out.gr V2.out hg)
      replace Ouu := Lib.hid (Ouu.out.gr V2.out hg)
      replace B5 := Lib.hid (Below.gr B5.out (by have := LG1.out; have := LG2.out; omega) hg B5.out.size)
      replace V2 := Lib.hid hz
      refine hK.out _ _ ⟨V2.out, V3.out, V4.out⟩ (fun hHeld => ?_)
      clear hK K hg hz
      try simp only [Act.put]
      refine wpAnyH_ready (rs := [4]) (by kernel_rfl) (by simp) ?_
      refine AllReadyH.consL (o := _) rfl (fun K hK => ?_) AllReadyH.nil
      clear hHeld
      rw [if_pos (by rfl)]
      refine wp_stZ _ _ rfl (by rfl) (by rfl) V3.out ?_
      intro ws1 hz hg
      replace V0 := Lib.hid (V0.out.gr hg (by have := LG1.out; have := LG2.out; have := NG.out; omega))
      replace V1 := Lib.hid (V1.out.gr hg (by have := LG1.out; have := LG2.out; have := NG.out; omega))
      replace V2 := Lib.hid (V2.out.gr hg (by have := LG1.out; have := LG2.out; have := NG.out; omega))
      replace V4 := Lib.hid (V4.out.gr hg (by have := LG1.out; have := LG2.out; have := NG.out; omega))
      replace HX := Lib.hid (HX.out.gr V3.out hg)
      replace HY := Lib.hid (HY.out.gr V3.out hg)
      replace OA := Lib.hid (OA.out.gr V3.out hg)
      replace OB := Lib.hid (OB.out.gr V3.out hg)
      replace G1 := Lib.hid (G1.out.gr hg (by have := LG1.out; have := LG2.out; have := NG.out; omega))
      replace G2 := Lib.hid (G2.out.gr hg (by have := LG1.out; have := LG2.out; have := NG.out; omega))
      replace OG := Lib.hid (OG.out.gr V3.out hg)
      replace OU := Lib.hid (OU.out.gr V3.out hg)
      replace OK := Lib.hid (OK.out.gr V3.out hg)
      replace Ouu := Lib.hid (Ouu.out.gr V3.out hg)
      replace B5 := Lib.hid (Below.gr B5.out (by have := LG1.out; have := LG2.out; omega) hg B5.out.size)
      replace V3 := Lib.hid hz
      refine hK.out _ _ ⟨V2.out, V3.out, V4.out⟩ (fun hHeld => ?_)
      clear hK K hg hz
      try simp only [Act.put]
      refine wpAnyH_ready (rs := [5]) (by kernel_rfl) (by simp) ?_
      refine AllReadyH.consL (o := _) rfl (fun K hK => ?_) AllReadyH.nil
      clear hHeld
      rw [if_pos (by rfl)]
      refine wp_stZ _ _ rfl (by rfl) (by rfl) V4.out ?_
      intro ws2 hz hg
      replace V0 := Lib.hid (V0.out.gr hg (by have := LG1.out; have := LG2.out; have := NG.out; omega))
      replace V1 := Lib.hid (V1.out.gr hg (by have := LG1.out; have := LG2.out; have := NG.out; omega))
      replace V2 := Lib.hid (V2.out.gr hg (by have := LG1.out; have := LG2.out; have := NG.out; omega))
      replace V3 := Lib.hid (V3.out.gr hg (by have := LG1.out; have := LG2.out; have := NG.out; omega))
      replace HX := Lib.hid (HX.out.gr V4.out hg)
      replace HY := Lib.hid (HY.out.gr V4.out hg)
      replace OA := Lib.hid (OA.out.gr V4.out hg)
      replace OB := Lib.hid (OB.out.gr V4.out hg)
      replace G1 := Lib.hid (G1.out.gr hg (by have := LG1.out; have := LG2.out; have := NG.out; omega))
      replace G2 := Lib.hid (G2.out.gr hg (by have := LG1.out; have := LG2.out; have := NG.out; omega))
      replace OG := Lib.hid (OG.out.gr V4.out hg)
      replace OU := Lib.hid (OU.out.gr V4.out hg)
      replace OK := Lib.hid (OK.out.gr V4.out hg)
      replace Ouu := Lib.hid (Ouu.out.gr V4.out hg)
      replace B5 := Lib.hid (Below.gr B5.out (by have := LG1.out; have := LG2.out; omega) hg B5.out.size)
      replace V4 := Lib.hid hz
      refine hK.out _ _ ⟨V2.out, V3.out, V4.out⟩ (fun hHeld => ?_)
      clear hK K hg hz
      try simp only [Act.put]
      clear hHeld
      refine wpAnyH_done (by kernel_rfl) ?_ _
      go_wp2
      exact ret_zbE Try.results6 rfl rfl rfl rfl V2.out V3.out V4.out ⟨gg, uu, k, OK0.out, _, _, _, _, _, _, rfl, OG.out, Ouu.out, OK.out, B5.out⟩
  · rcases KQR.out with hq | hq
    · clear KPR KQR
      obtain ⟨vv, ev⟩ : ∃ z, -k = z := ⟨_, rfl⟩
      have EV := Lib.hid ev
      clear ev
      have OK0 : Hid (ExtOk x y gg u vv) := ext_ok NX.out NY.out EX.out EY.out KP.out KQ.out EG.out EK.out F2.out F3.out (by rw [if_neg (by omega)]) (by rw [if_pos hq]; exact EV.out)
      have pc0 := Lib.hid trivial
      go_wp2_with (first
        | (clear pc0; refine wpList_ldZ (by rfl) _ rfl (by rfl) V4.out ?_; have pc1 := Lib.hid trivial)
        | (clear pc1; go_at_call 8; refine Calls.mono (neg_z (x := k) (z := vv) (Zo.of_own OK.out).in_ LK4.out EV.out) ?_; rintro e w13 ⟨PV, cPV, rfl, ho, hb⟩; replace V0 := Lib.hid (V0.out.below hb V0.out.lt); replace V1 := Lib.hid (V1.out.below hb V1.out.lt); replace V2 := Lib.hid (V2.out.below hb V2.out.lt); replace V3 := Lib.hid (V3.out.below hb V3.out.lt); replace V4 := Lib.hid (V4.out.below hb V4.out.lt); replace HX := Lib.hid (HX.out.below hb); replace HY := Lib.hid (HY.out.below hb); replace OA := Lib.hid (OA.out.below hb); replace OB := Lib.hid (OB.out.below hb); replace G1 := Lib.hid (G1.out.below hb G1.out.lt); replace G2 := Lib.hid (G2.out.below hb G2.out.lt); replace OG := Lib.hid (OG.out.below hb); replace OU := Lib.hid (OU.out.below hb); replace OK := Lib.hid (OK.out.below hb); have Ovv := Lib.hid (ho.mono B5.out.size); skip; clear ho; replace B5 := Lib.hid (B5.out.trans (hb.mono B5.out.size)); clear hb; have pc2 := Lib.hid trivial)
        | (clear pc2; refine wpList_stZ (by rfl) _ _ rfl (by rfl) (by rfl) V4.out ?_; intro w14 hz hg; replace V0 := Lib.hid (V0.out.gr hg (by have := LG1.out; have := LG2.out; have := NG.out; omega)); replace V1 := Lib.hid (V1.out.gr hg (by have := LG1.out; have := LG2.out; have := NG.out; omega)); replace V2 := Lib.hid (V2.out.gr hg (by have := LG1.out; have := LG2.out; have := NG.out; omega)); replace V3 := Lib.hid (V3.out.gr hg (by have := LG1.out; have := LG2.out; have := NG.out; omega)); replace HX := Lib.hid (HX.out.gr V4.out hg); replace HY := Lib.hid (HY.out.gr V4.out hg); replace OA := Lib.hid (OA.out.gr V4.out hg); replace OB := Lib.hid (OB.out.gr V4.out hg); replace G1 := Lib.hid (G1.out.gr hg (by have := LG1.out; have := LG2.out; have := NG.out; omega)); replace G2 := Lib.hid (G2.out.gr hg (by have := LG1.out; have := LG2.out; have := NG.out; omega)); replace OG := Lib.hid (OG.out.gr V4.out hg); replace OU := Lib.hid (OU.out.gr V4.out hg); replace OK := Lib.hid (OK.out.gr V4.out hg); replace Ovv := Lib.hid (Ovv.out.gr V4.out hg); replace B5 := Lib.hid (Below.gr B5.out (by have := LG1.out; have := LG2.out; omega) hg B5.out.size); replace V4 := Lib.hid hz; clear hz hg; have pc3 := Lib.hid trivial))
      clear pc3
      have hb := below_drewN w14.heap.size w14 1
      replace V0 := Lib.hid (V0.out.below hb V0.out.lt)
      replace V1 := Lib.hid (V1.out.below hb V1.out.lt)
      replace V2 := Lib.hid (V2.out.below hb V2.out.lt)
      replace V3 := Lib.hid (V3.out.below hb V3.out.lt)
      replace V4 := Lib.hid (V4.out.below hb V4.out.lt)
      replace HX := Lib.hid (HX.out.below hb)
      replace HY := Lib.hid (HY.out.below hb)
      replace OA := Lib.hid (OA.out.below hb)
      replace OB := Lib.hid (OB.out.below hb)
      replace G1 := Lib.hid (G1.out.below hb G1.out.lt)
      replace G2 := Lib.hid (G2.out.below hb G2.out.lt)
      replace OG := Lib.hid (OG.out.below hb)
      replace OU := Lib.hid (OU.out.below hb)
      replace OK := Lib.hid (OK.out.below hb)
      replace Ovv := Lib.hid (Ovv.out.below hb)
      replace B5 := Lib.hid (B5.out.trans (hb.mono B5.out.size))
      clear hb
      refine wp_region_held_drew (S := fun w' => Zb w' (w.heap.size + 2) (decide (gg < 0)) R1 (ofv gg.natAbs).length d1 ∧ Zb w' (w.heap.size + 3) (decide (u < 0)) R2 (ofv u.natAbs).length d2 ∧ Zb w' (w.heap.size + 4) (decide (vv < 0)) PV (ofv vv.natAbs).length cPV) (by kernel_rfl) ⟨V2.out, V3.out, V4.out⟩ (fun hHeld => ?_)
      refine wpAnyH_takeL (i := 0) (oi := _) rfl (by kernel_rfl) (by kernel_rfl) (by kernel_rfl) (fun _ _ _ h => h) (yields_ldZ (by rfl) _ rfl (by rfl) (fun _ hS => hS.1)) hHeld ?_
      try simp only [Act.put, List.setIfInBounds_toArray, List.set_cons_zero, List.set_cons_succ]
      refine wpAnyH_takeL (i := 1) (oi := _) rfl (by kernel_rfl) (by kernel_rfl) (by kernel_rfl) (fun _ _ _ h => h) (yields_ldZ (by rfl) _ rfl (by rfl) (fun _ hS => hS.2.1)) hHeld ?_
      try simp only [Act.put, List.setIfInBounds_toArray, List.set_cons_zero, List.set_cons_succ]
      refine wpAnyH_takeL (i := 2) (oi := _) rfl (by kernel_rfl) (by kernel_rfl) (by kernel_rfl) (fun _ _ _ h => h) (yields_ldZ (by rfl) _ rfl (by rfl) (fun _ hS => hS.2.2)) hHeld ?_
      try simp only [Act.put, List.setIfInBounds_toArray, List.set_cons_zero, List.set_cons_succ]
      refine wpAnyH_ready (rs := [3]) (by kernel_rfl) (by simp) ?_
      refine AllReadyH.consL (o := _) rfl (fun K hK => ?_) AllReadyH.nil
      clear hHeld
      rw [if_pos (by rfl)]
      refine wp_stZ _ _ rfl (by rfl) (by rfl) V2.out ?_
      intro ws0 hz hg
      replace V0 := Lib.hid (V0.out.gr hg (by have := LG1.out; have := LG2.out; have := NG.out; omega))
      replace V1 := Lib.hid (V1.out.gr hg (by have := LG1.out; have := LG2.out; have := NG.out; omega))
      replace V3 := Lib.hid (V3.out.gr hg (by have := LG1.out; have := LG2.out; have := NG.out; omega))
      replace V4 := Lib.hid (V4.out.gr hg (by have := LG1.out; have := LG2.out; have := NG.out; omega))
      replace HX := Lib.hid (HX.out.gr V2.out hg)
      replace HY := Lib.hid (HY.out.gr V2.out hg)
      replace OA := Lib.hid (OA.out.gr V2.out hg)
      replace OB := Lib.hid (OB.out.gr V2.out hg)
      replace G1 := Lib.hid (G1.out.gr hg (by have := LG1.out; have := LG2.out; have := NG.out; omega))
      replace G2 := Lib.hid (G2.out.gr hg (by have := LG1.out; have := LG2.out; have := NG.out; omega))
      replace OG := Lib.hid (OG.out.gr V2.out hg)
      replace OU := Lib.hid (OU.out.gr V2.out hg)
      replace OK := Lib.hid (OK.out.gr V2.out hg)
      replace Ovv := Lib.hid (Ovv.out.gr V2.out hg)
      replace B5 := Lib.hid (Below.gr B5.out (by have := LG1.out; have := LG2.out; omega) hg B5.out.size)
      replace V2 := Lib.hid hz
      refine hK.out _ _ ⟨V2.out, V3.out, V4.out⟩ (fun hHeld => ?_)
      clear hK K hg hz
      try simp only [Act.put]
      refine wpAnyH_ready (rs := [4]) (by kernel_rfl) (by simp) ?_
      refine AllReadyH.consL (o := _) rfl (fun K hK => ?_) AllReadyH.nil
      clear hHeld
      rw [if_pos (by rfl)]
      refine wp_stZ _ _ rfl (by rfl) (by rfl) V3.out ?_
      intro ws1 hz hg
      replace V0 := Lib.hid (V0.out.gr hg (by have := LG1.out; have := LG2.out; have := NG.out; omega))
      replace V1 := Lib.hid (V1.out.gr hg (by have := LG1.out; have := LG2.out; have := NG.out; omega))
      replace V2 := Lib.hid (V2.out.gr hg (by have := LG1.out; have := LG2.out; have := NG.out; omega))
      replace V4 := Lib.hid (V4.out.gr hg (by have := LG1.out; have := LG2.out; have := NG.out; omega))
      replace HX := Lib.hid (HX.out.gr V3.out hg)
      replace HY := Lib.hid (HY.out.gr V3.out hg)
      replace OA := Lib.hid (OA.out.gr V3.out hg)
      replace OB := Lib.hid (OB.out.gr V3.out hg)
      replace G1 := Lib.hid (G1.out.gr hg (by have := LG1.out; have := LG2.out; have := NG.out; omega))
      replace G2 := Lib.hid (G2.out.gr hg (by have := LG1.out; have := LG2.out; have := NG.out; omega))
      replace OG := Lib.hid (OG.out.gr V3.out hg)
      replace OU := Lib.hid (OU.out.gr V3.out hg)
      replace OK := Lib.hid (OK.out.gr V3.out hg)
      replace Ovv := Lib.hid (Ovv.out.gr V3.out hg)
      replace B5 := Lib.hid (Below.gr B5.out (by have := LG1.out; have := LG2.out; omega) hg B5.out.size)
      replace V3 := Lib.hid hz
      refine hK.out _ _ ⟨V2.out, V3.out, V4.out⟩ (fun hHeld => ?_)
      clear hK K hg hz
      try simp only [Act.put]
      refine wpAnyH_ready (rs := [5]) (by kernel_rfl) (by simp) ?_
      refine AllReadyH.consL (o := _) rfl (fun K hK => ?_) AllReadyH.nil
      clear hHeld
      rw [if_pos (by rfl)]
      refine wp_stZ _ _ rfl (by rfl) (by rfl) V4.out ?_
      intro ws2 hz hg
      replace V0 := Lib.hid (V0.out.gr hg (by have := LG1.out; have := LG2.out; have := NG.out; omega))
      replace V1 := Lib.hid (V1.out.gr hg (by have := LG1.out; have := LG2.out; have := NG.out; omega))
      replace V2 := Lib.hid (V2.out.gr hg (by have := LG1.out; have := LG2.out; have := NG.out; omega))
      replace V3 := Lib.hid (V3.out.gr hg (by have := LG1.out; have := LG2.out; have := NG.out; omega))
      replace HX := Lib.hid (HX.out.gr V4.out hg)
      replace HY := Lib.hid (HY.out.gr V4.out hg)
      replace OA := Lib.hid (OA.out.gr V4.out hg)
      replace OB := Lib.hid (OB.out.gr V4.out hg)
      replace G1 := Lib.hid (G1.out.gr hg (by have := LG1.out; have := LG2.out; have := NG.out; omega))
      replace G2 := Lib.hid (G2.out.gr hg (by have := LG1.out; have := LG2.out; have := NG.out; omega))
      replace OG := Lib.hid (OG.out.gr V4.out hg)
      replace OU := Lib.hid (OU.out.gr V4.out hg)
      replace OK := Lib.hid (OK.out.gr V4.out hg)
      replace Ovv := Lib.hid (Ovv.out.gr V4.out hg)
      replace B5 := Lib.hid (Below.gr B5.out (by have := LG1.out; have := LG2.out; omega) hg B5.out.size)
      replace V4 := Lib.hid hz
      refine hK.out _ _ ⟨V2.out, V3.out, V4.out⟩ (fun hHeld => ?_)
      clear hK K hg hz
      try simp only [Act.put]
      clear hHeld
      refine wpAnyH_done (by kernel_rfl) ?_ _
      go_wp2
      exact ret_zbE Try.results6 rfl rfl rfl rfl V2.out V3.out V4.out ⟨gg, u, vv, OK0.out, _, _, _, _, _, _, rfl, OG.out, OU.out, Ovv.out, B5.out⟩
    · clear KPR KQR
      have OK0 : Hid (ExtOk x y gg u k) := ext_ok NX.out NY.out EX.out EY.out KP.out KQ.out EG.out EK.out F2.out F3.out (by rw [if_neg (by omega)]) (by rw [if_neg (by omega)])
      go_wp2_with fail
      have hb := below_drewN w10.heap.size w10 1
      replace V0 := Lib.hid (V0.out.below hb V0.out.lt)
      replace V1 := Lib.hid (V1.out.below hb V1.out.lt)
      replace V2 := Lib.hid (V2.out.below hb V2.out.lt)
      replace V3 := Lib.hid (V3.out.below hb V3.out.lt)
      replace V4 := Lib.hid (V4.out.below hb V4.out.lt)
      replace HX := Lib.hid (HX.out.below hb)
      replace HY := Lib.hid (HY.out.below hb)
      replace OA := Lib.hid (OA.out.below hb)
      replace OB := Lib.hid (OB.out.below hb)
      replace G1 := Lib.hid (G1.out.below hb G1.out.lt)
      replace G2 := Lib.hid (G2.out.below hb G2.out.lt)
      replace OG := Lib.hid (OG.out.below hb)
      replace OU := Lib.hid (OU.out.below hb)
      replace OK := Lib.hid (OK.out.below hb)
      replace B5 := Lib.hid (B5.out.trans (hb.mono B5.out.size))
      clear hb
      refine wp_region_held_drew (S := fun w' => Zb w' (w.heap.size + 2) (decide (gg < 0)) R1 (ofv gg.natAbs).length d1 ∧ Zb w' (w.heap.size + 3) (decide (u < 0)) R2 (ofv u.natAbs).length d2 ∧ Zb w' (w.heap.size + 4) (decide (k < 0)) PK (ofv k.natAbs).length cK) (by kernel_rfl) ⟨V2.out, V3.out, V4.out⟩ (fun hHeld => ?_)
      refine wpAnyH_takeL (i := 0) (oi := _) rfl (by kernel_rfl) (by kernel_rfl) (by kernel_rfl) (fun _ _ _ h => h) (yields_ldZ (by rfl) _ rfl (by rfl) (fun _ hS => hS.1)) hHeld ?_
      try simp only [Act.put, List.setIfInBounds_toArray, List.set_cons_zero, List.set_cons_succ]
      refine wpAnyH_takeL (i := 1) (oi := _) rfl (by kernel_rfl) (by kernel_rfl) (by kernel_rfl) (fun _ _ _ h => h) (yields_ldZ (by rfl) _ rfl (by rfl) (fun _ hS => hS.2.1)) hHeld ?_
      try simp only [Act.put, List.setIfInBounds_toArray, List.set_cons_zero, List.set_cons_succ]
      refine wpAnyH_takeL (i := 2) (oi := _) rfl (by kernel_rfl) (by kernel_rfl) (by kernel_rfl) (fun _ _ _ h => h) (yields_ldZ (by rfl) _ rfl (by rfl) (fun _ hS => hS.2.2)) hHeld ?_
      try simp only [Act.put, List.setIfInBounds_toArray, List.set_cons_zero, List.set_cons_succ]
      refine wpAnyH_ready (rs := [3]) (by kernel_rfl) (by simp) ?_
      refine AllReadyH.consL (o := _) rfl (fun K hK => ?_) AllReadyH.nil
      clear hHeld
      rw [if_pos (by rfl)]
      refine wp_stZ _ _ rfl (by rfl) (by rfl) V2.out ?_
      intro ws0 hz hg
      replace V0 := Lib.hid (V0.out.gr hg (by have := LG1.out; have := LG2.out; have := NG.out; omega))
      replace V1 := Lib.hid (V1.out.gr hg (by have := LG1.out; have := LG2.out; have := NG.out; omega))
      replace V3 := Lib.hid (V3.out.gr hg (by have := LG1.out; have := LG2.out; have := NG.out; omega))
      replace V4 := Lib.hid (V4.out.gr hg (by have := LG1.out; have := LG2.out; have := NG.out; omega))
      replace HX := Lib.hid (HX.out.gr V2.out hg)
      replace HY := Lib.hid (HY.out.gr V2.out hg)
      replace OA := Lib.hid (OA.out.gr V2.out hg)
      replace OB := Lib.hid (OB.out.gr V2.out hg)
      replace G1 := Lib.hid (G1.out.gr hg (by have := LG1.out; have := LG2.out; have := NG.out; omega))
      replace G2 := Lib.hid (G2.out.gr hg (by have := LG1.out; have := LG2.out; have := NG.out; omega))
      replace OG := Lib.hid (OG.out.gr V2.out hg)
      replace OU := Lib.hid (OU.out.gr V2.out hg)
      replace OK := Lib.hid (OK.out.gr V2.out hg)
      replace B5 := Lib.hid (Below.gr B5.out (by have := LG1.out; have := LG2.out; omega) hg B5.out.size)
      replace V2 := Lib.hid hz
      refine hK.out _ _ ⟨V2.out, V3.out, V4.out⟩ (fun hHeld => ?_)
      clear hK K hg hz
      try simp only [Act.put]
      refine wpAnyH_ready (rs := [4]) (by kernel_rfl) (by simp) ?_
      refine AllReadyH.consL (o := _) rfl (fun K hK => ?_) AllReadyH.nil
      clear hHeld
      rw [if_pos (by rfl)]
      refine wp_stZ _ _ rfl (by rfl) (by rfl) V3.out ?_
      intro ws1 hz hg
      replace V0 := Lib.hid (V0.out.gr hg (by have := LG1.out; have := LG2.out; have := NG.out; omega))
      replace V1 := Lib.hid (V1.out.gr hg (by have := LG1.out; have := LG2.out; have := NG.out; omega))
      replace V2 := Lib.hid (V2.out.gr hg (by have := LG1.out; have := LG2.out; have := NG.out; omega))
      replace V4 := Lib.hid (V4.out.gr hg (by have := LG1.out; have := LG2.out; have := NG.out; omega))
      replace HX := Lib.hid (HX.out.gr V3.out hg)
      replace HY := Lib.hid (HY.out.gr V3.out hg)
      replace OA := Lib.hid (OA.out.gr V3.out hg)
      replace OB := Lib.hid (OB.out.gr V3.out hg)
      replace G1 := Lib.hid (G1.out.gr hg (by have := LG1.out; have := LG2.out; have := NG.out; omega))
      replace G2 := Lib.hid (G2.out.gr hg (by have := LG1.out; have := LG2.out; have := NG.out; omega))
      replace OG := Lib.hid (OG.out.gr V3.out hg)
      replace OU := Lib.hid (OU.out.gr V3.out hg)
      replace OK := Lib.hid (OK.out.gr V3.out hg)
      replace B5 := Lib.hid (Below.gr B5.out (by have := LG1.out; have := LG2.out; omega) hg B5.out.size)
      replace V3 := Lib.hid hz
      refine hK.out _ _ ⟨V2.out, V3.out, V4.out⟩ (fun hHeld => ?_)
      clear hK K hg hz
      try simp only [Act.put]
      refine wpAnyH_ready (rs := [5]) (by kernel_rfl) (by simp) ?_
      refine AllReadyH.consL (o := _) rfl (fun K hK => ?_) AllReadyH.nil
      clear hHeld
      rw [if_pos (by rfl)]
      refine wp_stZ _ _ rfl (by rfl) (by rfl) V4.out ?_
      intro ws2 hz hg
      replace V0 := Lib.hid (V0.out.gr hg (by have := LG1.out; have := LG2.out; have := NG.out; omega))
      replace V1 := Lib.hid (V1.out.gr hg (by have := LG1.out; have := LG2.out; have := NG.out; omega))
      replace V2 := Lib.hid (V2.out.gr hg (by have := LG1.out; have := LG2.out; have := NG.out; omega))
      replace V3 := Lib.hid (V3.out.gr hg (by have := LG1.out; have := LG2.out; have := NG.out; omega))
      replace HX := Lib.hid (HX.out.gr V4.out hg)
      replace HY := Lib.hid (HY.out.gr V4.out hg)
      replace OA := Lib.hid (OA.out.gr V4.out hg)
      replace OB := Lib.hid (OB.out.gr V4.out hg)
      replace G1 := Lib.hid (G1.out.gr hg (by have := LG1.out; have := LG2.out; have := NG.out; omega))
      replace G2 := Lib.hid (G2.out.gr hg (by have := LG1.out; have := LG2.out; have := NG.out; omega))
      replace OG := Lib.hid (OG.out.gr V4.out hg)
      replace OU := Lib.hid (OU.out.gr V4.out hg)
      replace OK := Lib.hid (OK.out.gr V4.out hg)
      replace B5 := Lib.hid (Below.gr B5.out (by have := LG1.out; have := LG2.out; omega) hg B5.out.size)
      replace V4 := Lib.hid hz
      refine hK.out _ _ ⟨V2.out, V3.out, V4.out⟩ (fun hHeld => ?_)
      clear hK K hg hz
      try simp only [Act.put]
      clear hHeld
      refine wpAnyH_done (by kernel_rfl) ?_ _
      go_wp2
      exact ret_zbE Try.results6 rfl rfl rfl rfl V2.out V3.out V4.out ⟨gg, u, k, OK0.out, _, _, _, _, _, _, rfl, OG.out, OU.out, OK.out, B5.out⟩

set_option maxRecDepth 100000 in
set_option maxHeartbeats 16000000 in
theorem ext_zero {s t : Bool} {A B : Option Addr} {n c m d : Nat} {x y : Int} {w : World} (h : Zin w s A n c x) (hn : n ≤ 35184372087808) (h' : Zin w t B m d y) (hm : m ≤ 35184372087808) (hxy : x = 0 ∨ y = 0) :
    Calls Try.prog 6 #[.agg #[.bool s, .slice A n c], .agg #[.bool t, .slice B m d]] w fun e w' => ∃ g u v, ExtOk x y g u v ∧ GivesE w g u v e w' := by
  obtain ⟨B5, V0, V1, V2, V3, V4⟩ := start5 w s A n c t B m d
  have HX := Lib.hid (h.below B5.out)
  have HY := Lib.hid (h'.below B5.out)
  have lx := Nat.le_trans h.len hn
  have ly := Nat.le_trans h'.len hm
  obtain ⟨p, kp⟩ : ∃ v, sg x = v := ⟨_, rfl⟩
  obtain ⟨q, kq⟩ : ∃ v, sg y = v := ⟨_, rfl⟩
  obtain ⟨p1, ep⟩ : ∃ v, p = v := ⟨_, rfl⟩
  obtain ⟨q1, eq⟩ : ∃ v, q = v := ⟨_, rfl⟩
  obtain ⟨z, ez⟩ : ∃ v, x + y = v := ⟨_, rfl⟩
  obtain ⟨az, ea⟩ : ∃ v, ((z.natAbs : Nat) : Int) = v := ⟨_, rfl⟩
  have OK0 : Hid (ExtOk x y az p1 q1) := by
    show ExtOk _ _ _ _ _
    subst ep eq kp kq ez ea
    unfold ExtOk
    rcases sg_cases x with ⟨e1, h1⟩ | ⟨e1, h1⟩ | ⟨e1, h1⟩ <;> rcases sg_cases y with ⟨e2, h2⟩ | ⟨e2, h2⟩ | ⟨e2, h2⟩ <;> rw [e1, e2] <;> (try (exfalso; omega))
    all_goals (first | (subst h1; subst h2; refine ⟨rfl, rfl, .inl ⟨rfl, rfl, by decide⟩⟩) | (subst h2; refine ⟨by rw [Int.gcd_zero_right, Int.add_zero], by omega, .inl ⟨rfl, rfl, by decide⟩⟩) | (subst h1; refine ⟨by rw [Int.gcd_zero_left, Int.zero_add], by omega, .inr (.inl ⟨by omega, rfl, rfl, by decide⟩)⟩))
  have rp := sg_range x
  have rq := sg_range y
  have IP : Hid (-9223372036854775808 ≤ p ∧ p ≤ 9223372036854775807) := by show _ ∧ _; omega
  have IQ : Hid (-9223372036854775808 ≤ q ∧ q ≤ 9223372036854775807) := by show _ ∧ _; omega
  have hpq : ((p == 0) = true) ∨ ((p == 0) = false ∧ (q == 0) = true) := by
    rcases sg_cases x with ⟨e, h⟩ | ⟨e, h⟩ | ⟨e, h⟩ <;> rcases sg_cases y with ⟨e', h'⟩ | ⟨e', h'⟩ | ⟨e', h'⟩ <;> simp <;> omega
  have PQ := Lib.hid hpq
  have LS : Hid ((ofv z.natAbs).length ≤ 70368744177664) := by
    show _ ≤ _
    rw [← ez]
    have := zlen_add (x := x) (y := y) lx ly
    omega
  have KP := Lib.hid kp
  have KQ := Lib.hid kq
  have EP := Lib.hid ep
  have EQ := Lib.hid eq
  have EZ := Lib.hid ez
  have EA := Lib.hid ea
  have LN : Hid (n ≤ 70368744177663) := by show _ ≤ _; omega
  have LM : Hid (m ≤ 70368744177663) := by show _ ≤ _; omega
  clear h h' hn hm lx ly kp kq ep eq ez ea rp rq hpq hxy
  go_enter Try.func6, Try.ntmps6
  go_wp2_with fail
  generalize (((((w.alloc (.cells #[.bool s, .slice A n c] 24)).alloc (.cells #[.bool t, .slice B m d] 24)).alloc (.cells #[.bool false, .slice none 0 0] 24)).alloc (.cells #[.bool false, .slice none 0 0] 24)).alloc (.cells #[.bool false, .slice none 0 0] 24)) = w2 at *
  have LT : Hid (w.heap.size + 4 < w2.heap.size) := V4.out.lt
  have HB : Hid (Below w2.heap.size w2 w2.drew) := below_drewN _ w2 1
  have hHeld := HB.out
  refine wp_region_held_split (S := fun w' => Below w2.heap.size w2 w') 4 (by kernel_rfl) (by kernel_rfl) ?_
  simp only [List.take_succ_cons, List.take_zero, List.drop_succ_cons, List.drop_zero]
  refine wpAnyH_takeL (i := 0) (oi := _) rfl (by kernel_rfl) (by kernel_rfl) (by kernel_rfl) (fun _ _ _ h => h) (yields_ldZ (by rfl) _ rfl (by rfl) (fun _ hb => V0.out.below hb V0.out.lt)) hHeld ?_
  try simp only [Act.put, List.setIfInBounds_toArray, List.set_cons_zero, List.set_cons_succ]
  refine wpAnyH_takeL (i := 2) (oi := _) rfl (by kernel_rfl) (by kernel_rfl) (by kernel_rfl) (fun _ _ _ h => h) (yields_ldZ (by rfl) _ rfl (by rfl) (fun _ hb => V1.out.below hb V1.out.lt)) hHeld ?_
  try simp only [Act.put, List.setIfInBounds_toArray, List.set_cons_zero, List.set_cons_succ]
  refine wpAnyH_ready (rs := [1]) (by kernel_rfl) (by simp) ?_
  refine AllReadyH.consL (o := _) rfl (fun K hK => ?_) AllReadyH.nil
  clear hHeld
  go_simp
  go_at_call 22
  refine Calls.mono (sign_k (z := x) (r := p) (HX.out.below HB.out) KP.out) ?_
  rintro e wa ⟨rfl, hb⟩
  replace HB := Lib.hid (HB.out.trans (hb.mono HB.out.size))
  clear hb
  refine hK.out _ _ HB.out (fun hHeld => ?_)
  clear hK K
  try simp only [Act.put, List.setIfInBounds_toArray, List.set_cons_zero, List.set_cons_succ]
  refine wpAnyH_ready (rs := [3]) (by kernel_rfl) (by simp) ?_
  refine AllReadyH.consL (o := _) rfl (fun K hK => ?_) AllReadyH.nil
  clear hHeld
  go_simp
  go_at_call 22
  refine Calls.mono (sign_k (z := y) (r := q) (HY.out.below HB.out) KQ.out) ?_
  rintro e w3 ⟨rfl, hb⟩
  replace HB := Lib.hid (HB.out.trans (hb.mono HB.out.size))
  clear hb
  refine hK.out _ _ HB.out (fun hHeld => ?_)
  clear hK K
  try simp only [Act.put, List.setIfInBounds_toArray, List.set_cons_zero, List.set_cons_succ]
  refine wpAnyH_done (by kernel_rfl) ?_ _
  show wpList _ _ _ _ _ _
  have hb := HB.out
  replace V0 := Lib.hid (V0.out.below hb V0.out.lt)
  replace V1 := Lib.hid (V1.out.below hb V1.out.lt)
  replace V2 := Lib.hid (V2.out.below hb V2.out.lt)
  replace V3 := Lib.hid (V3.out.below hb V3.out.lt)
  replace V4 := Lib.hid (V4.out.below hb V4.out.lt)
  replace HX := Lib.hid (HX.out.below hb)
  replace HY := Lib.hid (HY.out.below hb)
  replace B5 := Lib.hid (B5.out.trans (hb.mono B5.out.size))
  clear hb HB hHeld
  rcases PQ.out with hp0 | ⟨hp0, hq0⟩
  all_goals
    have pc0 := Lib.hid trivial
    go_wp2_with (first
      | (clear pc0; refine wpList_ldZ (by rfl) _ rfl (by rfl) V0.out ?_; have pc1 := Lib.hid trivial)
      | (clear pc1; refine wpList_ldZ (by rfl) _ rfl (by rfl) V1.out ?_; have pc2 := Lib.hid trivial)
      | (clear pc2; go_at_call 10; refine Calls.mono (add_z (x := x) (y := y) (z := z) HX.out HY.out LN.out LM.out EZ.out) ?_; rintro e w4 ⟨P1, c1, rfl, ho, hb⟩; replace V0 := Lib.hid (V0.out.below hb V0.out.lt); replace V1 := Lib.hid (V1.out.below hb V1.out.lt); replace V2 := Lib.hid (V2.out.below hb V2.out.lt); replace V3 := Lib.hid (V3.out.below hb V3.out.lt); replace V4 := Lib.hid (V4.out.below hb V4.out.lt); replace HX := Lib.hid (HX.out.below hb); replace HY := Lib.hid (HY.out.below hb); replace B5 := Lib.hid (B5.out.trans (hb.mono B5.out.size)); have ZZ := Lib.hid (Zo.of_own ho); clear ho; clear hb; have pc3 := Lib.hid trivial)
      | (clear pc3; have SZ := Lib.hid B5.out.size; go_at_call 9; refine Calls.mono (abs_z (x := z) (z := az) ZZ.out.in_ LS.out EA.out) ?_; rintro e w6 ⟨P2, c2, rfl, ho, hb⟩; replace V0 := Lib.hid (V0.out.below hb V0.out.lt); replace V1 := Lib.hid (V1.out.below hb V1.out.lt); replace V2 := Lib.hid (V2.out.below hb V2.out.lt); replace V3 := Lib.hid (V3.out.below hb V3.out.lt); replace V4 := Lib.hid (V4.out.below hb V4.out.lt); replace HX := Lib.hid (HX.out.below hb); replace HY := Lib.hid (HY.out.below hb); replace ZZ := Lib.hid (ZZ.out.below hb); replace B5 := Lib.hid (B5.out.trans (hb.mono B5.out.size)); have OG := Lib.hid (ho.mono SZ.out); clear ho; clear hb; have pc4 := Lib.hid trivial)
      | (clear pc4; have SY := Lib.hid B5.out.size; go_at_call 23; refine Calls.mono (fromInt_z (v := p) (z := p1) IP.out EP.out _) ?_; rintro e w7 ⟨P3, c3, rfl, ho, hb⟩; replace V0 := Lib.hid (V0.out.below hb V0.out.lt); replace V1 := Lib.hid (V1.out.below hb V1.out.lt); replace V2 := Lib.hid (V2.out.below hb V2.out.lt); replace V3 := Lib.hid (V3.out.below hb V3.out.lt); replace V4 := Lib.hid (V4.out.below hb V4.out.lt); replace HX := Lib.hid (HX.out.below hb); replace HY := Lib.hid (HY.out.below hb); replace ZZ := Lib.hid (ZZ.out.below hb); replace OG := Lib.hid (OG.out.below hb); replace B5 := Lib.hid (B5.out.trans (hb.mono B5.out.size)); have OU := Lib.hid (ho.mono SY.out); clear ho; clear hb; have pc5 := Lib.hid trivial)
      | (clear pc5; have SX := Lib.hid B5.out.size; go_at_call 23; refine Calls.mono (fromInt_z (v := q) (z := q1) IQ.out EQ.out _) ?_; rintro e w8 ⟨P4, c4, rfl, ho, hb⟩; replace V0 := Lib.hid (V0.out.below hb V0.out.lt); replace V1 := Lib.hid (V1.out.below hb V1.out.lt); replace V2 := Lib.hid (V2.out.below hb V2.out.lt); replace V3 := Lib.hid (V3.out.below hb V3.out.lt); replace V4 := Lib.hid (V4.out.below hb V4.out.lt); replace HX := Lib.hid (HX.out.below hb); replace HY := Lib.hid (HY.out.below hb); replace ZZ := Lib.hid (ZZ.out.below hb); replace OG := Lib.hid (OG.out.below hb); replace OU := Lib.hid (OU.out.below hb); replace B5 := Lib.hid (B5.out.trans (hb.mono B5.out.size)); have OK := Lib.hid (ho.mono SX.out); clear ho; clear hb; have pc6 := Lib.hid trivial)
      | (clear pc6; refine wpList_stZ (by rfl) _ _ rfl (by rfl) (by rfl) V2.out ?_; intro wx hz hg; replace V0 := Lib.hid (V0.out.gr hg (by omega)); replace V1 := Lib.hid (V1.out.gr hg (by omega)); replace V3 := Lib.hid (V3.out.gr hg (by omega)); replace V4 := Lib.hid (V4.out.gr hg (by omega)); replace HX := Lib.hid (HX.out.gr V2.out hg); replace HY := Lib.hid (HY.out.gr V2.out hg); replace ZZ := Lib.hid (ZZ.out.gr V2.out hg); replace OG := Lib.hid (OG.out.gr V2.out hg); replace OU := Lib.hid (OU.out.gr V2.out hg); replace OK := Lib.hid (OK.out.gr V2.out hg); replace B5 := Lib.hid (Below.gr B5.out (by omega) hg B5.out.size); replace V2 := Lib.hid hz; clear hz hg; have pc7 := Lib.hid trivial)
      | (clear pc7; refine wpList_stZ (by rfl) _ _ rfl (by rfl) (by rfl) V3.out ?_; intro wy hz hg; replace V0 := Lib.hid (V0.out.gr hg (by omega)); replace V1 := Lib.hid (V1.out.gr hg (by omega)); replace V2 := Lib.hid (V2.out.gr hg (by omega)); replace V4 := Lib.hid (V4.out.gr hg (by omega)); replace HX := Lib.hid (HX.out.gr V3.out hg); replace HY := Lib.hid (HY.out.gr V3.out hg); replace ZZ := Lib.hid (ZZ.out.gr V3.out hg); replace OG := Lib.hid (OG.out.gr V3.out hg); replace OU := Lib.hid (OU.out.gr V3.out hg); replace OK := Lib.hid (OK.out.gr V3.out hg); replace B5 := Lib.hid (Below.gr B5.out (by omega) hg B5.out.size); replace V3 := Lib.hid hz; clear hz hg; have pc8 := Lib.hid trivial)
      | (clear pc8; refine wpList_stZ (by rfl) _ _ rfl (by rfl) (by rfl) V4.out ?_; intro wz hz hg; replace V0 := Lib.hid (V0.out.gr hg (by omega)); replace V1 := Lib.hid (V1.out.gr hg (by omega)); replace V2 := Lib.hid (V2.out.gr hg (by omega)); replace V3 := Lib.hid (V3.out.gr hg (by omega)); replace HX := Lib.hid (HX.out.gr V4.out hg); replace HY := Lib.hid (HY.out.gr V4.out hg); replace ZZ := Lib.hid (ZZ.out.gr V4.out hg); replace OG := Lib.hid (OG.out.gr V4.out hg); replace OU := Lib.hid (OU.out.gr V4.out hg); replace OK := Lib.hid (OK.out.gr V4.out hg); replace B5 := Lib.hid (Below.gr B5.out (by omega) hg B5.out.size); replace V4 := Lib.hid hz; clear hz hg; have pc9 := Lib.hid trivial))
    clear pc9
    exact ret_zbE Try.results6 rfl rfl rfl rfl V2.out V3.out V4.out ⟨az, p1, q1, OK0.out, _, _, _, _, _, _, rfl, OG.out, OU.out, OK.out, B5.out⟩
theorem ext_any {s t : Bool} {A B : Option Addr} {n c m d : Nat} {x y : Int} {w : World} (h : Zin w s A n c x) (hn : n ≤ 35184372087808) (h' : Zin w t B m d y) (hm : m ≤ 35184372087808) :
    Calls Try.prog 6 #[.agg #[.bool s, .slice A n c], .agg #[.bool t, .slice B m d]] w fun e w' => ∃ g u v, ExtOk x y g u v ∧ GivesE w g u v e w' := by
  by_cases hx : x = 0
  · exact ext_zero h hn h' hm (.inl hx)
  · by_cases hy : y = 0
    · exact ext_zero h hn h' hm (.inr hy)
    · exact ext_pos h hn h' hm hx hy
end Go.Proofs.Ytfmgbfdnmconiaa
