/-
  Contract of package approx: around.
-/
import Derived.Test.YtfmgbfdnmconiaaGreatApl
import Derived.Test.YtfmgbfdnmconiaaGreatRS
namespace Go.Proofs.YtfmgbfdnmconiaaGreat
open Go.RowKit
set_option linter.unusedVariables false

/-- What Below and Above give for z / d: two neighbours with denominators of at most M. -/
structure Encl (z d M z1 d1 z2 d2 : Int) : Prop where
  p1 : 0 < d1
  p2 : 0 < d2
  g1 : Int.gcd z1 d1 = 1
  g2 : Int.gcd z2 d2 = 1
  lo : z1 * d ≤ z * d1
  hi : z * d2 ≤ z2 * d
  m1 : d1 ≤ M
  m2 : d2 ≤ M
  nb : ∀ N D, 0 < D → z1 * D < N * d1 → N * d2 < z2 * D → M < D
  eq : (z1 = z ∧ d1 = d ∧ z2 = z ∧ d2 = d) ∨ (z1 * d < z * d1 ∧ z * d2 < z2 * d)
theorem Encl.same {z d M : Int} (hd : 0 < d) (hg : Int.gcd z d = 1) (h : d ≤ M) : Encl z d M z d z d :=
  ⟨hd, hd, hg, hg, Int.le_refl _, Int.le_refl _, h, h, fun N D _ h1 h2 => by omega, .inl ⟨rfl, rfl, rfl, rfl⟩⟩
theorem Lok.encl_t {x y m X Y p q o r s u v : Int} (h : Lok x y m X Y p q o r true) (hm : 0 < m) (hs : (m - r) / q = s) (hu : s * p + o = u) (hv : s * q + r = v) : Encl x y m p q u v := by
  obtain ⟨v0, v1, v2, s0, _, dt, ⟨c1, c2⟩, _⟩ := h.encl hm hs hu hv
  have q1 := h.q1
  simp only [if_true] at dt
  have e1 : x * v = v * x := Int.mul_comm ..
  have e2 : x * q = q * x := Int.mul_comm ..
  refine ⟨by omega, v0, gcd_det (u := u) (v := v) (by left; omega), gcd_det (p := u) (q := v) (u := p) (v := q) (by right; have : v * p = p * v := Int.mul_comm ..; have : u * q = q * u := Int.mul_comm ..; omega), by omega, by omega, h.l.qm, v1, fun N D hD h1 h2 => ?_, .inr ⟨by omega, by omega⟩⟩
  have := between (p := p) (q := q) (u := u) (v := v) (by omega) (by omega) v0 h1 h2
  omega
theorem Lok.encl_f {x y m X Y p q o r s u v : Int} (h : Lok x y m X Y p q o r false) (hm : 0 < m) (hs : (m - r) / q = s) (hu : s * p + o = u) (hv : s * q + r = v) : Encl x y m u v p q := by
  obtain ⟨v0, v1, v2, s0, _, dt, ⟨c1, c2⟩, _⟩ := h.encl hm hs hu hv
  have q1 := h.q1
  simp only [Bool.false_eq_true, if_false] at dt
  have e1 : x * v = v * x := Int.mul_comm ..
  have e2 : x * q = q * x := Int.mul_comm ..
  have e3 : v * p = p * v := Int.mul_comm ..
  have e4 : u * q = q * u := Int.mul_comm ..
  refine ⟨v0, by omega, gcd_det (u := p) (v := q) (by left; omega), gcd_det (p := p) (q := q) (u := u) (v := v) (by right; omega), by omega, by omega, v1, h.l.qm, fun N D hD h1 h2 => ?_, .inr ⟨by omega, by omega⟩⟩
  have := between (p := u) (q := v) (u := p) (v := q) (by omega) v0 (by omega) h1 h2
  omega
/-- Two numbers, and whether there are any. -/
def GivesA (w : World) (z1 : Int) (d1 : Nat) (z2 : Int) (d2 : Nat) (e : Ending) (w' : World) : Prop :=
  ∃ P c Q k P' c' Q' k', e = .returned (.tuple #[.agg #[.bool (decide (z1 < 0)), .slice P (ofv z1.natAbs).length c, .slice Q (ofv d1).length k], .agg #[.bool (decide (z2 < 0)), .slice P' (ofv z2.natAbs).length c', .slice Q' (ofv d2).length k'], .bool true]) ∧ Zo w' P c z1 ∧ Rd w' Q k (ofv d1) ∧ Zo w' P' c' z2 ∧ Rd w' Q' k' (ofv d2) ∧ Below w.heap.size w w'
def ZR : Value := .agg #[.bool false, .slice none 0 0, .slice none 0 0]
theorem ret_rr {fn : Func} {R : Ending → World → Prop} {a : Act} {w : World} {j l i g g2 n c m k n2 c2 m2 k2 : Nat} {s s2 b : Bool} {A D A2 D2 : Option Addr} (hf : fn.results = #[.cell j 26, .cell l 26, .tmp i]) (hd : a.defers = [])
    (hk : (a.tmps[j]?).getD undef = .pointer (some ⟨g, 0, none⟩)) (hl : (a.tmps[l]?).getD undef = .pointer (some ⟨g2, 0, none⟩)) (hi : (a.tmps[i]?).getD undef = .bool b) (h : Rb w g s A n c D m k) (h' : Rb w g2 s2 A2 n2 c2 D2 m2 k2)
    (hR : R (.returned (.tuple #[.agg #[.bool s, .slice A n c, .slice D m k], .agg #[.bool s2, .slice A2 n2 c2, .slice D2 m2 k2], .bool b])) w) : bodyPost Tryz.prog fn R .ret a w := by
  have z1 := cell_of_row w g 0 _ _ _ h
  have z2 := cell_of_row w g 1 _ _ _ h
  have z3 := cell_of_row w g 2 _ _ _ h
  have z4 := cell_of_row w g2 0 _ _ _ h'
  have z5 := cell_of_row w g2 1 _ _ _ h'
  have z6 := cell_of_row w g2 2 _ _ _ h'
  exact bodyPost_ret_by (v := .tuple #[.agg #[.bool s, .slice A n c, .slice D m k], .agg #[.bool s2, .slice A2 n2 c2, .slice D2 m2 k2], .bool b]) (by simp [results, hf, go_sem, hk, hl, hi, z1, z2, z3, z4, z5, z6]) hd hR
theorem gcd_canon (r : Rat) {z : Int} {d : Nat} (hz : r.num = z) (hd : r.den = d) : Int.gcd z (d : Int) = 1 ∧ 0 < d := by
  subst hz hd
  exact ⟨by simpa [Int.gcd, Nat.Coprime] using r.reduced, Nat.pos_of_ne_zero r.den_nz⟩
theorem start_RZRR (w : World) (s0 : Bool) (A0 : Option Addr) (n0 c0 : Nat) (D0 : Option Addr) (m0 k0 : Nat) (s1 : Bool) (A1 : Option Addr) (n1 c1 : Nat) :
    Hid (Below w.heap.size w ((((w.alloc (.cells #[.bool s0, .slice A0 n0 c0, .slice D0 m0 k0] 26)).alloc (.cells #[.bool s1, .slice A1 n1 c1] 24)).alloc (.cells #[.bool false, .slice none 0 0, .slice none 0 0] 26)).alloc (.cells #[.bool false, .slice none 0 0, .slice none 0 0] 26))) ∧ Hid (Rb ((((w.alloc (.cells #[.bool s0, .slice A0 n0 c0, .slice D0 m0 k0] 26)).alloc (.cells #[.bool s1, .slice A1 n1 c1] 24)).alloc (.cells #[.bool false, .slice none 0 0, .slice none 0 0] 26)).alloc (.cells #[.bool false, .slice none 0 0, .slice none 0 0] 26)) (w.heap.size) s0 A0 n0 c0 D0 m0 k0) ∧ Hid (Zb ((((w.alloc (.cells #[.bool s0, .slice A0 n0 c0, .slice D0 m0 k0] 26)).alloc (.cells #[.bool s1, .slice A1 n1 c1] 24)).alloc (.cells #[.bool false, .slice none 0 0, .slice none 0 0] 26)).alloc (.cells #[.bool false, .slice none 0 0, .slice none 0 0] 26)) (w.heap.size + 1) s1 A1 n1 c1) ∧ Hid (Rb ((((w.alloc (.cells #[.bool s0, .slice A0 n0 c0, .slice D0 m0 k0] 26)).alloc (.cells #[.bool s1, .slice A1 n1 c1] 24)).alloc (.cells #[.bool false, .slice none 0 0, .slice none 0 0] 26)).alloc (.cells #[.bool false, .slice none 0 0, .slice none 0 0] 26)) (w.heap.size + 2) false none 0 0 none 0 0) ∧ Hid (Rb ((((w.alloc (.cells #[.bool s0, .slice A0 n0 c0, .slice D0 m0 k0] 26)).alloc (.cells #[.bool s1, .slice A1 n1 c1] 24)).alloc (.cells #[.bool false, .slice none 0 0, .slice none 0 0] 26)).alloc (.cells #[.bool false, .slice none 0 0, .slice none 0 0] 26)) (w.heap.size + 3) false none 0 0 none 0 0) := by
  refine ⟨?_, ?_, ?_, ?_, ?_⟩
  · exact (((((Below.refl _ _).alloc (by first | exact Nat.le_refl _ | (simp; done) | (simp; omega)) _).alloc (by first | exact Nat.le_refl _ | (simp; done) | (simp; omega)) _).alloc (by first | exact Nat.le_refl _ | (simp; done) | (simp; omega)) _).alloc (by first | exact Nat.le_refl _ | (simp; done) | (simp; omega)) _)
  · have := Rb.new w s0 A0 n0 c0 D0 m0 k0
    exact (((this.alloc _).alloc _).alloc _)
  · have := Zb.new (w.alloc (.cells #[.bool s0, .slice A0 n0 c0, .slice D0 m0 k0] 26)) s1 A1 n1 c1
    simp only [World.size_alloc] at this
    exact ((this.alloc _).alloc _)
  · have := Rb.new ((w.alloc (.cells #[.bool s0, .slice A0 n0 c0, .slice D0 m0 k0] 26)).alloc (.cells #[.bool s1, .slice A1 n1 c1] 24)) false none 0 0 none 0 0
    simp only [World.size_alloc] at this
    exact (this.alloc _)
  · have := Rb.new (((w.alloc (.cells #[.bool s0, .slice A0 n0 c0, .slice D0 m0 k0] 26)).alloc (.cells #[.bool s1, .slice A1 n1 c1] 24)).alloc (.cells #[.bool false, .slice none 0 0, .slice none 0 0] 26)) false none 0 0 none 0 0
    simp only [World.size_alloc] at this
    exact this
set_option maxRecDepth 100000 in
set_option maxHeartbeats 16000000 in
theorem around_yes {s t : Bool} {A D B : Option Addr} {n c m k m2 c2 : Nat} {x M : Int} {p : Nat} {w : World} (h : Zin w s A n c x) (h' : Nin w D m k p) (hm : Zin w t B m2 c2 M) (ln : n ≤ 1048576) (lm : m ≤ 1048576) (l2 : m2 ≤ 1048576) {z : Int} {d : Nat} (hz : (mkRat x p).num = z) (hd : (mkRat x p).den = d) (hM : 0 < M) :
    Calls Tryz.prog 73 #[.agg #[.bool s, .slice A n c, .slice D m k], .agg #[.bool t, .slice B m2 c2]] w fun e w' => ∃ z1 d1 z2 d2, Encl z d M z1 ((d1 : Nat) : Int) z2 ((d2 : Nat) : Int) ∧ ((ofv z1.natAbs).length ≤ 100000000 ∧ (ofv d1).length ≤ 100000000 ∧ (ofv z2.natAbs).length ≤ 100000000 ∧ (ofv d2).length ≤ 100000000) ∧ GivesA w z1 d1 z2 d2 e w' := by
  obtain ⟨B1, V0, V1, V2, V3⟩ := start_RZRR w s A n c D m k t B m2 c2
  have HX := Lib.hid (h.below B1.out)
  have HP := Lib.hid (h'.below B1.out)
  have HM := Lib.hid (hm.below B1.out)
  have LN := Lib.hid ln
  have LM := Lib.hid lm
  have L2 := Lib.hid l2
  have rl := rl_mk (N := 1048576) (Nat.le_trans h.len ln) (Nat.le_trans h'.len lm) (by decide)
  obtain ⟨hg, d0⟩ := gcd_canon (mkRat x p) hz hd
  have HG := Lib.hid hg
  have D0 := Lib.hid d0
  have lz := rl.1
  have ld := rl.2
  rw [hz] at lz
  rw [hd] at ld
  have LZ := Lib.hid lz
  have LD := Lib.hid ld
  have LMM := Lib.hid (Nat.le_trans hm.len l2)
  have HZ := Lib.hid hz
  have HD := Lib.hid hd
  have HM0 := Lib.hid hM
  have SM : Hid (sg M = 1) := by show _ = _; rcases sg_cases M with ⟨_, e⟩ | ⟨_, e⟩ | ⟨e, _⟩ <;> first | exact e | omega
  obtain ⟨dz, edz⟩ : ∃ z0 : Int, (d : Int) = z0 := ⟨_, rfl⟩
  have EDZ := Lib.hid edz
  have LL : Hid (1 ≤ 1048576 ∧ 1048576 ≤ 70368744177660) := by show _ ∧ _; omega
  clear h h' hm ln lm l2 hM rl hg d0 lz ld edz
  go_enter Tryz.func73, Tryz.ntmps73
  go_wp2_with fail
  generalize ((((w.alloc (.cells #[.bool s, .slice A n c, .slice D m k] 26)).alloc (.cells #[.bool t, .slice B m2 c2] 24)).alloc (.cells #[.bool false, .slice none 0 0, .slice none 0 0] 26)).alloc (.cells #[.bool false, .slice none 0 0, .slice none 0 0] 26)) = w2 at *
  have pc0 := Lib.hid trivial
  go_wp2_with (first
    | (clear pc0; go_at_call 49; refine Calls.mono (sign_k (r := 1) HM.out SM.out) ?_; rintro e wa ⟨rfl, hb⟩; replace V0 := Lib.hid (V0.out.below hb V0.out.lt); replace V1 := Lib.hid (V1.out.below hb V1.out.lt); replace V2 := Lib.hid (V2.out.below hb V2.out.lt); replace V3 := Lib.hid (V3.out.below hb V3.out.lt); replace HX := Lib.hid (HX.out.below hb); replace HP := Lib.hid (HP.out.below hb); replace HM := Lib.hid (HM.out.below hb); replace B1 := Lib.hid (B1.out.trans (hb.mono B1.out.size)); clear hb; have pc1 := Lib.hid trivial)
    | (clear pc1; refine wpList_ldR (by rfl) _ rfl (by rfl) V0.out ?_; have pc2 := Lib.hid trivial)
    | (clear pc2; go_at_call 30; refine Calls.mono (norm_any (L := 1048576) (z := z) (d := d) HX.out HP.out LN.out LM.out LL.out HZ.out HD.out) ?_; rintro e wb ⟨P1, c1, Q1, k1, rfl, ho, ho2, hb⟩; replace V0 := Lib.hid (V0.out.below hb V0.out.lt); replace V1 := Lib.hid (V1.out.below hb V1.out.lt); replace V2 := Lib.hid (V2.out.below hb V2.out.lt); replace V3 := Lib.hid (V3.out.below hb V3.out.lt); replace HX := Lib.hid (HX.out.below hb); replace HP := Lib.hid (HP.out.below hb); replace HM := Lib.hid (HM.out.below hb); replace B1 := Lib.hid (B1.out.trans (hb.mono B1.out.size)); have ZZ := Lib.hid (Zo.of_own ho); have ND := Lib.hid ho2.rd; clear ho ho2; clear hb; have pc3 := Lib.hid trivial)
    | (clear pc3; refine wpList_stR (by rfl) _ _ rfl (by rfl) (by rfl) V0.out ?_; intro wc hz hg; have bx := V0.out.bx; replace V1 := Lib.hid (V1.out.gro hg (by omega)); replace V2 := Lib.hid (V2.out.gro hg (by omega)); replace V3 := Lib.hid (V3.out.gro hg (by omega)); replace HX := Lib.hid (HX.out.grB bx hg); replace HP := Lib.hid (HP.out.grB bx hg); replace HM := Lib.hid (HM.out.grB bx hg); replace ZZ := Lib.hid (ZZ.out.grB bx hg); replace ND := Lib.hid (ND.out.grB bx hg); replace B1 := Lib.hid (Below.gr B1.out (by omega) hg B1.out.size); clear bx; replace V0 := Lib.hid hz; clear hz hg; have pc4 := Lib.hid trivial))
  clear pc4
  try simp only [Act.put]
  rcases sg_cases (dz - M) with ⟨hk, hxy⟩ | ⟨hk, hxy⟩ | ⟨hk, hxy⟩
  · have HK := Lib.hid hk
    have HXY := Lib.hid hxy
    clear hk hxy
    go_wp2_with fail
    have hb := below_drewN wc.heap.size wc 1
    replace V0 := Lib.hid (V0.out.below hb V0.out.lt)
    replace V1 := Lib.hid (V1.out.below hb V1.out.lt)
    replace V2 := Lib.hid (V2.out.below hb V2.out.lt)
    replace V3 := Lib.hid (V3.out.below hb V3.out.lt)
    replace HX := Lib.hid (HX.out.below hb)
    replace HP := Lib.hid (HP.out.below hb)
    replace HM := Lib.hid (HM.out.below hb)
    replace ZZ := Lib.hid (ZZ.out.below hb)
    replace ND := Lib.hid (ND.out.below hb)
    replace B1 := Lib.hid (B1.out.trans (hb.mono B1.out.size))
    clear hb
    refine wp_region_held_drew (S := fun w' => Rb w' w.heap.size (decide (z < 0)) P1 (ofv z.natAbs).length c1 Q1 (ofv d).length k1 ∧ Zb w' (w.heap.size + 1) t B m2 c2) (by kernel_rfl) ⟨V0.out, V1.out⟩ (fun hHeld => ?_)
    refine wpAnyH_takeL (i := 0) (oi := _) rfl (by kernel_rfl) (by kernel_rfl) (by kernel_rfl) (fun _ _ _ h => h) (yields_ldR (by rfl) _ rfl (by rfl) (fun _ hS => hS.1)) hHeld ?_
    try simp only [Act.put, List.setIfInBounds_toArray, List.set_cons_zero, List.set_cons_succ]
    refine wpAnyH_takeL (i := 2) (oi := _) rfl (by kernel_rfl) (by kernel_rfl) (by kernel_rfl) (fun _ _ _ h => h) (yields_ldZ (by rfl) _ rfl (by rfl) (fun _ hS => hS.2)) hHeld ?_
    try simp only [Act.put, List.setIfInBounds_toArray, List.set_cons_zero, List.set_cons_succ]
    refine wpAnyH_ready (rs := [1]) (by kernel_rfl) (by simp) ?_
    refine AllReadyH.consL (o := _) rfl (fun K hK => ?_) AllReadyH.nil
    clear hHeld
    go_simp
    go_at_call 92
    refine Calls.mono (denominator_any _ _ _ _ _ _ _ _) ?_
    rintro e wd ⟨rfl, hb⟩
    replace V0 := Lib.hid (V0.out.below hb V0.out.lt)
    replace V1 := Lib.hid (V1.out.below hb V1.out.lt)
    replace V2 := Lib.hid (V2.out.below hb V2.out.lt)
    replace V3 := Lib.hid (V3.out.below hb V3.out.lt)
    replace HX := Lib.hid (HX.out.below hb)
    replace HP := Lib.hid (HP.out.below hb)
    replace HM := Lib.hid (HM.out.below hb)
    replace ZZ := Lib.hid (ZZ.out.below hb)
    replace ND := Lib.hid (ND.out.below hb)
    replace B1 := Lib.hid (B1.out.trans (hb.mono B1.out.size))
    clear hb
    refine hK.out _ _ ⟨V0.out, V1.out⟩ (fun hHeld => ?_)
    clear hK K
    try simp only [Act.put, List.setIfInBounds_toArray, List.set_cons_zero, List.set_cons_succ]
    refine wpAnyH_ready (rs := [3]) (by kernel_rfl) (by simp) ?_
    refine AllReadyH.consL (o := _) rfl (fun K hK => ?_) AllReadyH.nil
    clear hHeld
    go_simp
    go_at_call 105
    refine Calls.mono (compare_k (x := dz) (r := (-1)) ((Nin.of_rd ND.out).int EDZ.out) HM.out HK.out) ?_
    rintro e we ⟨rfl, hb⟩
    replace V0 := Lib.hid (V0.out.below hb V0.out.lt)
    replace V1 := Lib.hid (V1.out.below hb V1.out.lt)
    replace V2 := Lib.hid (V2.out.below hb V2.out.lt)
    replace V3 := Lib.hid (V3.out.below hb V3.out.lt)
    replace HX := Lib.hid (HX.out.below hb)
    replace HP := Lib.hid (HP.out.below hb)
    replace HM := Lib.hid (HM.out.below hb)
    replace ZZ := Lib.hid (ZZ.out.below hb)
    replace ND := Lib.hid (ND.out.below hb)
    replace B1 := Lib.hid (B1.out.trans (hb.mono B1.out.size))
    clear hb
    refine hK.out _ _ ⟨V0.out, V1.out⟩ (fun hHeld => ?_)
    clear hK K
    try simp only [Act.put, List.setIfInBounds_toArray, List.set_cons_zero, List.set_cons_succ]
    refine wpAnyH_takeL (i := 4) (oi := _) (v := ?_) rfl (by kernel_rfl) (by kernel_rfl) (by kernel_rfl) (fun _ _ _ h => h) (Or.inl ⟨by rfl, ?_⟩) hHeld ?_
    rotate_left
    · (intro w' hSw; (try dsimp only at hSw); go_simp; try (with_reducible rfl))
    try simp only [Act.put, List.setIfInBounds_toArray, List.set_cons_zero, List.set_cons_succ]
    clear hHeld
    refine wpAnyH_done (by kernel_rfl) ?_ _
    go_wp2_with fail
    have hb := below_drewN we.heap.size we 1
    replace V0 := Lib.hid (V0.out.below hb V0.out.lt)
    replace V1 := Lib.hid (V1.out.below hb V1.out.lt)
    replace V2 := Lib.hid (V2.out.below hb V2.out.lt)
    replace V3 := Lib.hid (V3.out.below hb V3.out.lt)
    replace HX := Lib.hid (HX.out.below hb)
    replace HP := Lib.hid (HP.out.below hb)
    replace HM := Lib.hid (HM.out.below hb)
    replace ZZ := Lib.hid (ZZ.out.below hb)
    replace ND := Lib.hid (ND.out.below hb)
    replace B1 := Lib.hid (B1.out.trans (hb.mono B1.out.size))
    clear hb
    refine wp_region_held_drew (S := fun w' => Rb w' w.heap.size (decide (z < 0)) P1 (ofv z.natAbs).length c1 Q1 (ofv d).length k1) (by kernel_rfl) V0.out (fun hHeld => ?_)
    refine wpAnyH_takeL (i := 0) (oi := _) rfl (by kernel_rfl) (by kernel_rfl) (by kernel_rfl) (fun _ _ _ h => h) (yields_ldR (by rfl) _ rfl (by rfl) (fun _ hS => hS)) hHeld ?_
    try simp only [Act.put, List.setIfInBounds_toArray, List.set_cons_zero, List.set_cons_succ]
    refine wpAnyH_takeL (i := 1) (oi := _) rfl (by kernel_rfl) (by kernel_rfl) (by kernel_rfl) (fun _ _ _ h => h) (yields_ldR (by rfl) _ rfl (by rfl) (fun _ hS => hS)) hHeld ?_
    try simp only [Act.put, List.setIfInBounds_toArray, List.set_cons_zero, List.set_cons_succ]
    refine wpAnyH_ready (rs := [2]) (by kernel_rfl) (by simp) ?_
    refine AllReadyH.consL (o := _) rfl (fun K hK => ?_) AllReadyH.nil
    clear hHeld
    rw [if_pos (by rfl)]
    refine wp_stR _ _ rfl (by rfl) (by rfl) V2.out ?_
    intro wv0 hz hg
    have bx := V2.out.bx
    replace V0 := Lib.hid (V0.out.gro hg (by omega))
    replace V1 := Lib.hid (V1.out.gro hg (by omega))
    replace V3 := Lib.hid (V3.out.gro hg (by omega))
    replace HX := Lib.hid (HX.out.grB bx hg)
    replace HP := Lib.hid (HP.out.grB bx hg)
    replace HM := Lib.hid (HM.out.grB bx hg)
    replace ZZ := Lib.hid (ZZ.out.grB bx hg)
    replace ND := Lib.hid (ND.out.grB bx hg)
    replace B1 := Lib.hid (Below.gr B1.out (by omega) hg B1.out.size)
    clear bx
    replace V2 := Lib.hid hz
    refine hK.out _ _ V0.out (fun hHeld => ?_)
    clear hK K hg hz
    try simp only [Act.put]
    refine wpAnyH_ready (rs := [3]) (by kernel_rfl) (by simp) ?_
    refine AllReadyH.consL (o := _) rfl (fun K hK => ?_) AllReadyH.nil
    clear hHeld
    rw [if_pos (by rfl)]
    refine wp_stR _ _ rfl (by rfl) (by rfl) V3.out ?_
    intro wv1 hz hg
    have bx := V3.out.bx
    replace V0 := Lib.hid (V0.out.gro hg (by omega))
    replace V1 := Lib.hid (V1.out.gro hg (by omega))
    replace V2 := Lib.hid (V2.out.gro hg (by omega))
    replace HX := Lib.hid (HX.out.grB bx hg)
    replace HP := Lib.hid (HP.out.grB bx hg)
    replace HM := Lib.hid (HM.out.grB bx hg)
    replace ZZ := Lib.hid (ZZ.out.grB bx hg)
    replace ND := Lib.hid (ND.out.grB bx hg)
    replace B1 := Lib.hid (Below.gr B1.out (by omega) hg B1.out.size)
    clear bx
    replace V3 := Lib.hid hz
    refine hK.out _ _ V0.out (fun hHeld => ?_)
    clear hK K hg hz
    try simp only [Act.put]
    refine wpAnyH_takeL (i := 4) (oi := _) (v := ?_) rfl (by kernel_rfl) (by kernel_rfl) (by kernel_rfl) (fun _ _ _ h => h) (Or.inl ⟨by rfl, ?_⟩) hHeld ?_
    rotate_left
    · (intro w' hSw; (try dsimp only at hSw); go_simp; try (with_reducible rfl))
    try simp only [Act.put, List.setIfInBounds_toArray, List.set_cons_zero, List.set_cons_succ]
    clear hHeld
    refine wpAnyH_done (by kernel_rfl) ?_ _
    go_wp2_with fail
    exact ret_rr Tryz.results73 rfl rfl rfl rfl V2.out V3.out ⟨z, d, z, d, Encl.same (by have := D0.out; omega) HG.out (by have := HXY.out; have := EDZ.out; omega), ⟨Nat.le_trans LZ.out (by decide), Nat.le_trans LD.out (by decide), Nat.le_trans LZ.out (by decide), Nat.le_trans LD.out (by decide)⟩, _, _, _, _, _, _, _, _, rfl, ZZ.out, ND.out, ZZ.out, ND.out, B1.out⟩
  · have HK := Lib.hid hk
    have HXY := Lib.hid hxy
    clear hk hxy
    go_wp2_with fail
    have hb := below_drewN wc.heap.size wc 1
    replace V0 := Lib.hid (V0.out.below hb V0.out.lt)
    replace V1 := Lib.hid (V1.out.below hb V1.out.lt)
    replace V2 := Lib.hid (V2.out.below hb V2.out.lt)
    replace V3 := Lib.hid (V3.out.below hb V3.out.lt)
    replace HX := Lib.hid (HX.out.below hb)
    replace HP := Lib.hid (HP.out.below hb)
    replace HM := Lib.hid (HM.out.below hb)
    replace ZZ := Lib.hid (ZZ.out.below hb)
    replace ND := Lib.hid (ND.out.below hb)
    replace B1 := Lib.hid (B1.out.trans (hb.mono B1.out.size))
    clear hb
    refine wp_region_held_drew (S := fun w' => Rb w' w.heap.size (decide (z < 0)) P1 (ofv z.natAbs).length c1 Q1 (ofv d).length k1 ∧ Zb w' (w.heap.size + 1) t B m2 c2) (by kernel_rfl) ⟨V0.out, V1.out⟩ (fun hHeld => ?_)
    refine wpAnyH_takeL (i := 0) (oi := _) rfl (by kernel_rfl) (by kernel_rfl) (by kernel_rfl) (fun _ _ _ h => h) (yields_ldR (by rfl) _ rfl (by rfl) (fun _ hS => hS.1)) hHeld ?_
    try simp only [Act.put, List.setIfInBounds_toArray, List.set_cons_zero, List.set_cons_succ]
    refine wpAnyH_takeL (i := 2) (oi := _) rfl (by kernel_rfl) (by kernel_rfl) (by kernel_rfl) (fun _ _ _ h => h) (yields_ldZ (by rfl) _ rfl (by rfl) (fun _ hS => hS.2)) hHeld ?_
    try simp only [Act.put, List.setIfInBounds_toArray, List.set_cons_zero, List.set_cons_succ]
    refine wpAnyH_ready (rs := [1]) (by kernel_rfl) (by simp) ?_
    refine AllReadyH.consL (o := _) rfl (fun K hK => ?_) AllReadyH.nil
    clear hHeld
    go_simp
    go_at_call 92
    refine Calls.mono (denominator_any _ _ _ _ _ _ _ _) ?_
    rintro e wd ⟨rfl, hb⟩
    replace V0 := Lib.hid (V0.out.below hb V0.out.lt)
    replace V1 := Lib.hid (V1.out.below hb V1.out.lt)
    replace V2 := Lib.hid (V2.out.below hb V2.out.lt)
    replace V3 := Lib.hid (V3.out.below hb V3.out.lt)
    replace HX := Lib.hid (HX.out.below hb)
    replace HP := Lib.hid (HP.out.below hb)
    replace HM := Lib.hid (HM.out.below hb)
    replace ZZ := Lib.hid (ZZ.out.below hb)
    replace ND := Lib.hid (ND.out.below hb)
    replace B1 := Lib.hid (B1.out.trans (hb.mono B1.out.size))
    clear hb
    refine hK.out _ _ ⟨V0.out, V1.out⟩ (fun hHeld => ?_)
    clear hK K
    try simp only [Act.put, List.setIfInBounds_toArray, List.set_cons_zero, List.set_cons_succ]
    refine wpAnyH_ready (rs := [3]) (by kernel_rfl) (by simp) ?_
    refine AllReadyH.consL (o := _) rfl (fun K hK => ?_) AllReadyH.nil
    clear hHeld
    go_simp
    go_at_call 105
    refine Calls.mono (compare_k (x := dz) (r := 0) ((Nin.of_rd ND.out).int EDZ.out) HM.out HK.out) ?_
    rintro e we ⟨rfl, hb⟩
    replace V0 := Lib.hid (V0.out.below hb V0.out.lt)
    replace V1 := Lib.hid (V1.out.below hb V1.out.lt)
    replace V2 := Lib.hid (V2.out.below hb V2.out.lt)
    replace V3 := Lib.hid (V3.out.below hb V3.out.lt)
    replace HX := Lib.hid (HX.out.below hb)
    replace HP := Lib.hid (HP.out.below hb)
    replace HM := Lib.hid (HM.out.below hb)
    replace ZZ := Lib.hid (ZZ.out.below hb)
    replace ND := Lib.hid (ND.out.below hb)
    replace B1 := Lib.hid (B1.out.trans (hb.mono B1.out.size))
    clear hb
    refine hK.out _ _ ⟨V0.out, V1.out⟩ (fun hHeld => ?_)
    clear hK K
    try simp only [Act.put, List.setIfInBounds_toArray, List.set_cons_zero, List.set_cons_succ]
    refine wpAnyH_takeL (i := 4) (oi := _) (v := ?_) rfl (by kernel_rfl) (by kernel_rfl) (by kernel_rfl) (fun _ _ _ h => h) (Or.inl ⟨by rfl, ?_⟩) hHeld ?_
    rotate_left
    · (intro w' hSw; (try dsimp only at hSw); go_simp; try (with_reducible rfl))
    try simp only [Act.put, List.setIfInBounds_toArray, List.set_cons_zero, List.set_cons_succ]
    clear hHeld
    refine wpAnyH_done (by kernel_rfl) ?_ _
    go_wp2_with fail
    have hb := below_drewN we.heap.size we 1
    replace V0 := Lib.hid (V0.out.below hb V0.out.lt)
    replace V1 := Lib.hid (V1.out.below hb V1.out.lt)
    replace V2 := Lib.hid (V2.out.below hb V2.out.lt)
    replace V3 := Lib.hid (V3.out.below hb V3.out.lt)
    replace HX := Lib.hid (HX.out.below hb)
    replace HP := Lib.hid (HP.out.below hb)
    replace HM := Lib.hid (HM.out.below hb)
    replace ZZ := Lib.hid (ZZ.out.below hb)
    replace ND := Lib.hid (ND.out.below hb)
    replace B1 := Lib.hid (B1.out.trans (hb.mono B1.out.size))
    clear hb
    refine wp_region_held_drew (S := fun w' => Rb w' w.heap.size (decide (z < 0)) P1 (ofv z.natAbs).length c1 Q1 (ofv d).length k1) (by kernel_rfl) V0.out (fun hHeld => ?_)
    refine wpAnyH_takeL (i := 0) (oi := _) rfl (by kernel_rfl) (by kernel_rfl) (by kernel_rfl) (fun _ _ _ h => h) (yields_ldR (by rfl) _ rfl (by rfl) (fun _ hS => hS)) hHeld ?_
    try simp only [Act.put, List.setIfInBounds_toArray, List.set_cons_zero, List.set_cons_succ]
    refine wpAnyH_takeL (i := 1) (oi := _) rfl (by kernel_rfl) (by kernel_rfl) (by kernel_rfl) (fun _ _ _ h => h) (yields_ldR (by rfl) _ rfl (by rfl) (fun _ hS => hS)) hHeld ?_
    try simp only [Act.put, List.setIfInBounds_toArray, List.set_cons_zero, List.set_cons_succ]
    refine wpAnyH_ready (rs := [2]) (by kernel_rfl) (by simp) ?_
    refine AllReadyH.consL (o := _) rfl (fun K hK => ?_) AllReadyH.nil
    clear hHeld
    rw [if_pos (by rfl)]
    refine wp_stR _ _ rfl (by rfl) (by rfl) V2.out ?_
    intro wv0 hz hg
    have bx := V2.out.bx
    replace V0 := Lib.hid (V0.out.gro hg (by omega))
    replace V1 := Lib.hid (V1.out.gro hg (by omega))
    replace V3 := Lib.hid (V3.out.gro hg (by omega))
    replace HX := Lib.hid (HX.out.grB bx hg)
    replace HP := Lib.hid (HP.out.grB bx hg)
    replace HM := Lib.hid (HM.out.grB bx hg)
    replace ZZ := Lib.hid (ZZ.out.grB bx hg)
    replace ND := Lib.hid (ND.out.grB bx hg)
    replace B1 := Lib.hid (Below.gr B1.out (by omega) hg B1.out.size)
    clear bx
    replace V2 := Lib.hid hz
    refine hK.out _ _ V0.out (fun hHeld => ?_)
    clear hK K hg hz
    try simp only [Act.put]
    refine wpAnyH_ready (rs := [3]) (by kernel_rfl) (by simp) ?_
    refine AllReadyH.consL (o := _) rfl (fun K hK => ?_) AllReadyH.nil
    clear hHeld
    rw [if_pos (by rfl)]
    refine wp_stR _ _ rfl (by rfl) (by rfl) V3.out ?_
    intro wv1 hz hg
    have bx := V3.out.bx
    replace V0 := Lib.hid (V0.out.gro hg (by omega))
    replace V1 := Lib.hid (V1.out.gro hg (by omega))
    replace V2 := Lib.hid (V2.out.gro hg (by omega))
    replace HX := Lib.hid (HX.out.grB bx hg)
    replace HP := Lib.hid (HP.out.grB bx hg)
    replace HM := Lib.hid (HM.out.grB bx hg)
    replace ZZ := Lib.hid (ZZ.out.grB bx hg)
    replace ND := Lib.hid (ND.out.grB bx hg)
    replace B1 := Lib.hid (Below.gr B1.out (by omega) hg B1.out.size)
    clear bx
    replace V3 := Lib.hid hz
    refine hK.out _ _ V0.out (fun hHeld => ?_)
    clear hK K hg hz
    try simp only [Act.put]
    refine wpAnyH_takeL (i := 4) (oi := _) (v := ?_) rfl (by kernel_rfl) (by kernel_rfl) (by kernel_rfl) (fun _ _ _ h => h) (Or.inl ⟨by rfl, ?_⟩) hHeld ?_
    rotate_left
    · (intro w' hSw; (try dsimp only at hSw); go_simp; try (with_reducible rfl))
    try simp only [Act.put, List.setIfInBounds_toArray, List.set_cons_zero, List.set_cons_succ]
    clear hHeld
    refine wpAnyH_done (by kernel_rfl) ?_ _
    go_wp2_with fail
    exact ret_rr Tryz.results73 rfl rfl rfl rfl V2.out V3.out ⟨z, d, z, d, Encl.same (by have := D0.out; omega) HG.out (by have := HXY.out; have := EDZ.out; omega), ⟨Nat.le_trans LZ.out (by decide), Nat.le_trans LD.out (by decide), Nat.le_trans LZ.out (by decide), Nat.le_trans LD.out (by decide)⟩, _, _, _, _, _, _, _, _, rfl, ZZ.out, ND.out, ZZ.out, ND.out, B1.out⟩
  · have HK := Lib.hid hk
    have HXY := Lib.hid hxy
    clear hk hxy
    go_wp2_with fail
    have hb := below_drewN wc.heap.size wc 1
    replace V0 := Lib.hid (V0.out.below hb V0.out.lt)
    replace V1 := Lib.hid (V1.out.below hb V1.out.lt)
    replace V2 := Lib.hid (V2.out.below hb V2.out.lt)
    replace V3 := Lib.hid (V3.out.below hb V3.out.lt)
    replace HX := Lib.hid (HX.out.below hb)
    replace HP := Lib.hid (HP.out.below hb)
    replace HM := Lib.hid (HM.out.below hb)
    replace ZZ := Lib.hid (ZZ.out.below hb)
    replace ND := Lib.hid (ND.out.below hb)
    replace B1 := Lib.hid (B1.out.trans (hb.mono B1.out.size))
    clear hb
    refine wp_region_held_drew (S := fun w' => Rb w' w.heap.size (decide (z < 0)) P1 (ofv z.natAbs).length c1 Q1 (ofv d).length k1 ∧ Zb w' (w.heap.size + 1) t B m2 c2) (by kernel_rfl) ⟨V0.out, V1.out⟩ (fun hHeld => ?_)
    refine wpAnyH_takeL (i := 0) (oi := _) rfl (by kernel_rfl) (by kernel_rfl) (by kernel_rfl) (fun _ _ _ h => h) (yields_ldR (by rfl) _ rfl (by rfl) (fun _ hS => hS.1)) hHeld ?_
    try simp only [Act.put, List.setIfInBounds_toArray, List.set_cons_zero, List.set_cons_succ]
    refine wpAnyH_takeL (i := 2) (oi := _) rfl (by kernel_rfl) (by kernel_rfl) (by kernel_rfl) (fun _ _ _ h => h) (yields_ldZ (by rfl) _ rfl (by rfl) (fun _ hS => hS.2)) hHeld ?_
    try simp only [Act.put, List.setIfInBounds_toArray, List.set_cons_zero, List.set_cons_succ]
    refine wpAnyH_ready (rs := [1]) (by kernel_rfl) (by simp) ?_
    refine AllReadyH.consL (o := _) rfl (fun K hK => ?_) AllReadyH.nil
    clear hHeld
    go_simp
    go_at_call 92
    refine Calls.mono (denominator_any _ _ _ _ _ _ _ _) ?_
    rintro e wd ⟨rfl, hb⟩
    replace V0 := Lib.hid (V0.out.below hb V0.out.lt)
    replace V1 := Lib.hid (V1.out.below hb V1.out.lt)
    replace V2 := Lib.hid (V2.out.below hb V2.out.lt)
    replace V3 := Lib.hid (V3.out.below hb V3.out.lt)
    replace HX := Lib.hid (HX.out.below hb)
    replace HP := Lib.hid (HP.out.below hb)
    replace HM := Lib.hid (HM.out.below hb)
    replace ZZ := Lib.hid (ZZ.out.below hb)
    replace ND := Lib.hid (ND.out.below hb)
    replace B1 := Lib.hid (B1.out.trans (hb.mono B1.out.size))
    clear hb
    refine hK.out _ _ ⟨V0.out, V1.out⟩ (fun hHeld => ?_)
    clear hK K
    try simp only [Act.put, List.setIfInBounds_toArray, List.set_cons_zero, List.set_cons_succ]
    refine wpAnyH_ready (rs := [3]) (by kernel_rfl) (by simp) ?_
    refine AllReadyH.consL (o := _) rfl (fun K hK => ?_) AllReadyH.nil
    clear hHeld
    go_simp
    go_at_call 105
    refine Calls.mono (compare_k (x := dz) (r := 1) ((Nin.of_rd ND.out).int EDZ.out) HM.out HK.out) ?_
    rintro e we ⟨rfl, hb⟩
    replace V0 := Lib.hid (V0.out.below hb V0.out.lt)
    replace V1 := Lib.hid (V1.out.below hb V1.out.lt)
    replace V2 := Lib.hid (V2.out.below hb V2.out.lt)
    replace V3 := Lib.hid (V3.out.below hb V3.out.lt)
    replace HX := Lib.hid (HX.out.below hb)
    replace HP := Lib.hid (HP.out.below hb)
    replace HM := Lib.hid (HM.out.below hb)
    replace ZZ := Lib.hid (ZZ.out.below hb)
    replace ND := Lib.hid (ND.out.below hb)
    replace B1 := Lib.hid (B1.out.trans (hb.mono B1.out.size))
    clear hb
    refine hK.out _ _ ⟨V0.out, V1.out⟩ (fun hHeld => ?_)
    clear hK K
    try simp only [Act.put, List.setIfInBounds_toArray, List.set_cons_zero, List.set_cons_succ]
    refine wpAnyH_takeL (i := 4) (oi := _) (v := ?_) rfl (by kernel_rfl) (by kernel_rfl) (by kernel_rfl) (fun _ _ _ h => h) (Or.inl ⟨by rfl, ?_⟩) hHeld ?_
    rotate_left
    · (intro w' hSw; (try dsimp only at hSw); go_simp; try (with_reducible rfl))
    try simp only [Act.put, List.setIfInBounds_toArray, List.set_cons_zero, List.set_cons_succ]
    clear hHeld
    refine wpAnyH_done (by kernel_rfl) ?_ _
    have pc0 := Lib.hid trivial
    go_wp2_with (first
      | (clear pc0; refine wpList_ldR (by rfl) _ rfl (by rfl) V0.out ?_; have pc1 := Lib.hid trivial)
      | (clear pc1; refine wpList_ldZ (by rfl) _ rfl (by rfl) V1.out ?_; have pc2 := Lib.hid trivial)
      | (clear pc2; go_at_call 117; refine Calls.mono (lastConvergent_any (x := z) (y := dz) (M := M) ZZ.out.in_ ((Nin.of_rd ND.out).int EDZ.out) HM.out LZ.out LD.out (by rw [← EDZ.out]; exact HG.out) HM0.out (by have := HXY.out; omega)) ?_; rintro e wf ⟨X, Y, p', q', o', r', b, lok, ⟨pb, ob⟩, PU1, cu1, PU2, cu2, PU3, cu3, PU4, cu4, rfl, z3, z4, z5, z6, hb⟩; replace V0 := Lib.hid (V0.out.below hb V0.out.lt); replace V1 := Lib.hid (V1.out.below hb V1.out.lt); replace V2 := Lib.hid (V2.out.below hb V2.out.lt); replace V3 := Lib.hid (V3.out.below hb V3.out.lt); replace HX := Lib.hid (HX.out.below hb); replace HP := Lib.hid (HP.out.below hb); replace HM := Lib.hid (HM.out.below hb); replace ZZ := Lib.hid (ZZ.out.below hb); replace ND := Lib.hid (ND.out.below hb); replace B1 := Lib.hid (B1.out.trans (hb.mono B1.out.size)); have LOK := Lib.hid lok; have PB := Lib.hid pb; have OB := Lib.hid ob; have Z3 := Lib.hid z3; have Z4 := Lib.hid z4; have Z5 := Lib.hid z5; have Z6 := Lib.hid z6; clear lok pb ob z3 z4 z5 z6; clear hb; have pc3 := Lib.hid trivial))
    clear pc3
    have LG : Hid (w.heap.size + 3 < wf.heap.size) := V3.out.lt
    have hb : Below wf.heap.size wf (wf.alloc (.cells #[.bool (decide (p' < 0)), .slice PU1 (ofv (p').natAbs).length cu1, .bool (decide (q' < 0)), .slice PU2 (ofv (q').natAbs).length cu2, .bool (decide (o' < 0)), .slice PU3 (ofv (o').natAbs).length cu3, .bool (decide (r' < 0)), .slice PU4 (ofv (r').natAbs).length cu4] 111)) := ((Below.refl _ _).alloc (by first | exact Nat.le_refl _ | (simp; done) | (simp; omega)) _)
    replace V0 := Lib.hid (V0.out.below hb V0.out.lt)
    replace V1 := Lib.hid (V1.out.below hb V1.out.lt)
    replace V2 := Lib.hid (V2.out.below hb V2.out.lt)
    replace V3 := Lib.hid (V3.out.below hb V3.out.lt)
    replace HX := Lib.hid (HX.out.below hb)
    replace HP := Lib.hid (HP.out.below hb)
    replace HM := Lib.hid (HM.out.below hb)
    replace ZZ := Lib.hid (ZZ.out.below hb)
    replace ND := Lib.hid (ND.out.below hb)
    replace Z3 := Lib.hid (Z3.out.below hb)
    replace Z4 := Lib.hid (Z4.out.below hb)
    replace Z5 := Lib.hid (Z5.out.below hb)
    replace Z6 := Lib.hid (Z6.out.below hb)
    replace B1 := Lib.hid (B1.out.trans (hb.mono B1.out.size))
    have V7 := Lib.hid (Vb.new wf (decide (p' < 0)) PU1 (ofv (p').natAbs).length cu1 (decide (q' < 0)) PU2 (ofv (q').natAbs).length cu2 (decide (o' < 0)) PU3 (ofv (o').natAbs).length cu3 (decide (r' < 0)) PU4 (ofv (r').natAbs).length cu4)
    clear hb
    generalize (wf.alloc (.cells #[.bool (decide (p' < 0)), .slice PU1 (ofv (p').natAbs).length cu1, .bool (decide (q' < 0)), .slice PU2 (ofv (q').natAbs).length cu2, .bool (decide (o' < 0)), .slice PU3 (ofv (o').natAbs).length cu3, .bool (decide (r' < 0)), .slice PU4 (ofv (r').natAbs).length cu4] 111)) = wg at *
    generalize wf.heap.size = g7 at *
    obtain ⟨m1, em1⟩ : ∃ z0 : Int, M - r' = z0 := ⟨_, rfl⟩
    obtain ⟨sv, esv⟩ : ∃ z0 : Int, m1 / q' = z0 := ⟨_, rfl⟩
    obtain ⟨rv, erv⟩ : ∃ z0 : Int, m1 % q' = z0 := ⟨_, rfl⟩
    obtain ⟨u, eu⟩ : ∃ z0 : Int, sv * p' + o' = z0 := ⟨_, rfl⟩
    obtain ⟨v, ev⟩ : ∃ z0 : Int, sv * q' + r' = z0 := ⟨_, rfl⟩
    have EM1 := Lib.hid em1
    have ESV := Lib.hid esv
    have ERV := Lib.hid erv
    have EU := Lib.hid eu
    have EV := Lib.hid ev
    obtain ⟨k0, k1', k2, k3, k4, _, _, k5, k6⟩ := LOK.out.encl HM0.out (by rw [em1]; exact esv) eu ev
    have q1 := LOK.out.q1
    have qm := LOK.out.l.qm
    have r0 := LOK.out.l.r0
    have rm := LOK.out.l.rm
    have lM := LMM.out
    have lp : (ofv p'.natAbs).length ≤ 1048577 := Nat.le_trans (len_mono PB.out) (len_succ LZ.out (by decide))
    have lo' : (ofv o'.natAbs).length ≤ 1048577 := Nat.le_trans (len_mono OB.out) (len_succ LZ.out (by decide))
    have lq : (ofv q'.natAbs).length ≤ 1048576 := Nat.le_trans (len_mono (by omega)) lM
    have lr : (ofv r'.natAbs).length ≤ 1048576 := Nat.le_trans (len_mono (by omega)) lM
    have ls : (ofv sv.natAbs).length ≤ 1048576 := by
      have : sv * 1 ≤ sv * q' := Int.mul_le_mul_of_nonneg_left q1 k3
      exact Nat.le_trans (len_mono (by omega)) lM
    have lu : (ofv u.natAbs).length ≤ 2097155 := by
      have h1 := zlen_mul ls lp
      have h2 := zlen_add (x := sv * p') (y := o') (n := 2097153) h1 (Nat.le_trans lo' (by decide))
      rw [eu] at h2
      exact Nat.le_trans h2 (by decide)
    have lv : (ofv v.natAbs).length ≤ 1048576 := Nat.le_trans (len_mono (by omega)) lM
    have lm1 : (ofv m1.natAbs).length ≤ 1048576 := Nat.le_trans (len_mono (by omega)) lM
    have LP := Lib.hid lp
    have LO := Lib.hid lo'
    have LQ := Lib.hid lq
    have LR := Lib.hid lr
    have LS := Lib.hid ls
    have LU := Lib.hid lu
    have LV := Lib.hid lv
    have LM1 := Lib.hid lm1
    have NQ : Hid (q' ≠ 0) := by show _ ≠ _; omega
    have V0' : Hid (0 < v) := k0
    have Q0' : Hid (0 < q') := by show _ < _; omega
    clear em1 esv erv eu ev k0 k1' k2 k3 k4 k5 k6 q1 qm r0 rm lM lp lo' lq lr ls lu lv lm1
    have LT : Hid (g7 < wg.heap.size) := V7.out.lt
    go_wp2_with fail
    have HB : Hid (Below wg.heap.size wg wg.drew) := below_drewN _ wg 1
    refine wp_region_held_drew (S := fun w' => Below wg.heap.size wg w') (by kernel_rfl) (HB.out) (fun hHeld => ?_)
    refine wpAnyH_takeL (i := 0) (oi := _) rfl (by kernel_rfl) (by kernel_rfl) (by kernel_rfl) (fun _ _ _ h => h) (yields_ldZ (by rfl) _ rfl (by rfl) (fun _ hb => V1.out.below hb V1.out.lt)) hHeld ?_
    try simp only [Act.put, List.setIfInBounds_toArray, List.set_cons_zero, List.set_cons_succ]
    refine wpAnyH_takeL (i := 1) (oi := _) (v := ?_) rfl (by kernel_rfl) (by kernel_rfl) (by kernel_rfl) (fun _ _ _ h => h) (Or.inl ⟨by rfl, ?_⟩) hHeld ?_
    rotate_left
    · (intro w' hSw; (try dsimp only at hSw); go_simp; try (with_reducible rfl))
    try simp only [Act.put, List.setIfInBounds_toArray, List.set_cons_zero, List.set_cons_succ]
    refine wpAnyH_takeL (i := 2) (oi := _) rfl (by kernel_rfl) (by kernel_rfl) (by kernel_rfl) (fun _ _ _ h => h) (yields_ldV3 (by rfl) _ rfl (by rfl) (fun _ hb => V7.out.below hb V7.out.lt)) hHeld ?_
    try simp only [Act.put, List.setIfInBounds_toArray, List.set_cons_zero, List.set_cons_succ]
    refine wpAnyH_takeL (i := 4) (oi := _) (v := ?_) rfl (by kernel_rfl) (by kernel_rfl) (by kernel_rfl) (fun _ _ _ h => h) (Or.inl ⟨by rfl, ?_⟩) hHeld ?_
    rotate_left
    · (intro w' hSw; (try dsimp only at hSw); go_simp; try (with_reducible rfl))
    try simp only [Act.put, List.setIfInBounds_toArray, List.set_cons_zero, List.set_cons_succ]
    refine wpAnyH_takeL (i := 5) (oi := _) rfl (by kernel_rfl) (by kernel_rfl) (by kernel_rfl) (fun _ _ _ h => h) (yields_ldV1 (by rfl) _ rfl (by rfl) (fun _ hb => V7.out.below hb V7.out.lt)) hHeld ?_
    try simp only [Act.put, List.setIfInBounds_toArray, List.set_cons_zero, List.set_cons_succ]
    refine wpAnyH_rgt [(3, some 37), (6, some 40), (7, some 33), (8, some 41), (9, some 42), (10, some 43), (11, some 9), (12, some 10)] [7, 8, 9, 10] (isNewZ wg.heap.size) [(3, isZ m1 wg.heap.size), (6, isQ sv rv wg.heap.size), (7, isQ sv rv wg.heap.size), (8, isZ sv wg.heap.size), (9, isZ rv wg.heap.size), (10, isV (.bool true))] wg (f0 := 3) (by kernel_rfl) (by kernel_rfl) (by rfl) HB.out (fun _ h => h) (fun _ _ _ _ _ h => h) (isNewZ_good _) ⟨isZ_good _ _, isQ_good _ _ _, isQ_good _ _ _, isZ_good _ _, isZ_good _ _, isV_good _, trivial⟩ ?_ ?_ ?_
    · clear hHeld HB
      show RgOps _ _ _ _ _ _ _ _ _ [3, 6, 11, 12]
      refine RgOps.consL (o := _) (ds := []) rfl rfl (by kernel_rfl) (fun vals wr hbr hC hdep K hK => ?_) ?_
      · have BB := Lib.hid hbr
        clear hdep
        clear hbr hC
        simp only [Upd2, Act.put, List.setIfInBounds_toArray, List.set_cons_zero, List.set_cons_succ] at hK ⊢
        go_simp
        go_at_call 118
        refine Calls.mono (sub_z (x := M) (y := r') (z := m1) (HM.out.below BB.out) (Z6.out.below BB.out).in_ (Nat.le_trans L2.out (by decide)) (Nat.le_trans LR.out (by decide)) EM1.out) ?_
        rintro e wq ⟨R, cR, rfl, ho, hb⟩
        exact hK.out _ _ (LeavesB.giveZ BB.out.size ho hb)
      refine RgOps.consL (o := _) (ds := [3]) rfl rfl (by kernel_rfl) (fun vals wr hbr hC hdep K hK => ?_) ?_
      · have BB := Lib.hid hbr
        obtain ⟨⟨P3, c3, e3, o3⟩, -⟩ := hdep
        clear hbr hC
        simp only [e3, Upd2, Act.put, List.setIfInBounds_toArray, List.set_cons_zero, List.set_cons_succ] at hK ⊢
        clear e3
        go_simp
        go_at_call 93
        refine Calls.mono (dm_z (x := m1) (y := q') (q := sv) (r := rv) (Zo.of_own o3).in_ (Z4.out.below BB.out).in_ (Nat.le_trans LM1.out (by decide)) (Nat.le_trans LQ.out (by decide)) NQ.out ESV.out ERV.out) ?_
        rintro e wq ⟨R, cR, R2, cR2, rfl, ho, ho2, hb⟩
        exact hK.out _ _ (LeavesB.behind hb ⟨_, _, _, _, rfl, ho.mono BB.out.size, ho2.mono BB.out.size⟩ rfl)
      refine RgOps.consL (o := _) (ds := []) rfl rfl (by kernel_rfl) (fun vals wr hbr hC hdep K hK => ?_) ?_
      · have BB := Lib.hid hbr
        clear hdep
        clear hbr hC
        simp only [Upd2, Act.put, List.setIfInBounds_toArray, List.set_cons_zero, List.set_cons_succ] at hK ⊢
        go_simp
        exact hK.out _ _ (LeavesB.newZ BB.out.size)
      refine RgOps.consL (o := _) (ds := []) rfl rfl (by kernel_rfl) (fun vals wr hbr hC hdep K hK => ?_) RgOps.nil
      · have BB := Lib.hid hbr
        clear hdep
        clear hbr hC
        simp only [Upd2, Act.put, List.setIfInBounds_toArray, List.set_cons_zero, List.set_cons_succ] at hK ⊢
        go_simp
        exact hK.out _ _ (LeavesB.newZ BB.out.size)
    · clear hHeld HB
      show TaAll _ _ _ _ _ [7, 8, 9, 10]
      refine TaAll.cons (o := _) (ds := [6]) rfl rfl (by kernel_rfl) (fun vals wr hdep => ?_) ?_
      · obtain ⟨⟨P6, c6, Q6, k6, e6, o6, u6⟩, -⟩ := hdep
        refine ⟨_, fun S => Or.inl ⟨by rfl, ?_⟩, ⟨_, _, _, _, rfl, o6, u6⟩, rfl⟩
        intro w' _
        simp only [e6, Upd2, Act.put, List.setIfInBounds_toArray, List.set_cons_zero, List.set_cons_succ]
        go_simp
      refine TaAll.cons (o := _) (ds := [7]) rfl rfl (by kernel_rfl) (fun vals wr hdep => ?_) ?_
      · obtain ⟨⟨P7, c7, Q7, k7, e7, o7, u7⟩, -⟩ := hdep
        refine ⟨_, fun S => Or.inl ⟨by rfl, ?_⟩, ⟨_, _, rfl, o7⟩, rfl⟩
        intro w' _
        simp only [e7, Upd2, Act.put, List.setIfInBounds_toArray, List.set_cons_zero, List.set_cons_succ]
        go_simp
      refine TaAll.cons (o := _) (ds := [7]) rfl rfl (by kernel_rfl) (fun vals wr hdep => ?_) ?_
      · obtain ⟨⟨P7, c7, Q7, k7, e7, o7, u7⟩, -⟩ := hdep
        refine ⟨_, fun S => Or.inl ⟨by rfl, ?_⟩, ⟨_, _, rfl, u7⟩, rfl⟩
        intro w' _
        simp only [e7, Upd2, Act.put, List.setIfInBounds_toArray, List.set_cons_zero, List.set_cons_succ]
        go_simp
      refine TaAll.cons (o := _) (ds := [7]) rfl rfl (by kernel_rfl) (fun vals wr hdep => ?_) TaAll.nil
      · obtain ⟨⟨P7, c7, Q7, k7, e7, o7, u7⟩, -⟩ := hdep
        refine ⟨_, fun S => Or.inl ⟨by rfl, ?_⟩, ⟨rfl, rfl⟩, rfl⟩
        intro w' _
        simp only [e7, Upd2, Act.put, List.setIfInBounds_toArray, List.set_cons_zero, List.set_cons_succ]
        go_simp
    clear hHeld HB
    intro vals wr hb hdep hD
    have NG0 := Lib.hid (hD 11 (by decide) 12 (by decide) (by decide))
    obtain ⟨⟨P3, c3, e3, o3⟩, ⟨P6, c6, Q6, k6, e6, o6, u6⟩, ⟨P7, c7, Q7, k7, e7, o7, u7⟩, ⟨P8, c8, e8, o8⟩, ⟨P9, c9, e9, o9⟩, ⟨e10, -⟩, ⟨g11, e11, l11, z11⟩, ⟨g12, e12, l12, z12⟩, -⟩ := hdep
    have NG : Hid (g11 ≠ g12) := fun e => NG0.out g11 (by rw [e11]; rfl) (by rw [e12, e]; rfl)
    simp only [Upd2, e3, e6, e7, e8, e9, e10, e11, e12, Act.put, List.setIfInBounds_toArray, List.set_cons_zero, List.set_cons_succ]
    clear NG0 e3 e6 e7 e8 e9 e10 e11 e12
    clear hD vals
    replace V0 := Lib.hid (V0.out.below hb V0.out.lt)
    replace V1 := Lib.hid (V1.out.below hb V1.out.lt)
    replace V2 := Lib.hid (V2.out.below hb V2.out.lt)
    replace V3 := Lib.hid (V3.out.below hb V3.out.lt)
    replace HX := Lib.hid (HX.out.below hb)
    replace HP := Lib.hid (HP.out.below hb)
    replace HM := Lib.hid (HM.out.below hb)
    replace ZZ := Lib.hid (ZZ.out.below hb)
    replace ND := Lib.hid (ND.out.below hb)
    replace Z3 := Lib.hid (Z3.out.below hb)
    replace Z4 := Lib.hid (Z4.out.below hb)
    replace Z5 := Lib.hid (Z5.out.below hb)
    replace Z6 := Lib.hid (Z6.out.below hb)
    replace V7 := Lib.hid (V7.out.below hb V7.out.lt)
    replace B1 := Lib.hid (B1.out.trans (hb.mono B1.out.size))
    have HB := Lib.hid hb
    clear hb
    have ZS := Lib.hid (Zo.of_own o8); have G1 := Lib.hid z11; have G2 := Lib.hid z12; have LL1 := Lib.hid l11; have LL2 := Lib.hid l12; have LG1 : Hid (g7 < g11) := Nat.lt_of_lt_of_le LT.out l11; have LG2 : Hid (g7 < g12) := Nat.lt_of_lt_of_le LT.out l12
    clear o3 o6 u6 o7 u7 o8 o9 z11 z12 l11 l12
    refine wpAnyH_ready (rs := [13]) (by kernel_rfl) (by simp) ?_
    refine AllReadyH.consL (o := _) rfl (fun K hK => ?_) AllReadyH.nil
    rw [if_pos (by rfl)]
    refine wp_stZ _ _ rfl (by rfl) (by rfl) G1.out ?_
    intro ws0 hz hg
    replace HB := Lib.hid (Below.gr HB.out (by have := LL1.out; have := LL2.out; omega) hg HB.out.size)
    have bx := G1.out.bx
    replace V0 := Lib.hid (V0.out.gro hg (by have := LG1.out; have := LG2.out; have := NG.out; have := LG.out; omega))
    replace V1 := Lib.hid (V1.out.gro hg (by have := LG1.out; have := LG2.out; have := NG.out; have := LG.out; omega))
    replace V2 := Lib.hid (V2.out.gro hg (by have := LG1.out; have := LG2.out; have := NG.out; have := LG.out; omega))
    replace V3 := Lib.hid (V3.out.gro hg (by have := LG1.out; have := LG2.out; have := NG.out; have := LG.out; omega))
    replace HX := Lib.hid (HX.out.grB bx hg)
    replace HP := Lib.hid (HP.out.grB bx hg)
    replace HM := Lib.hid (HM.out.grB bx hg)
    replace ZZ := Lib.hid (ZZ.out.grB bx hg)
    replace ND := Lib.hid (ND.out.grB bx hg)
    replace Z3 := Lib.hid (Z3.out.grB bx hg)
    replace Z4 := Lib.hid (Z4.out.grB bx hg)
    replace Z5 := Lib.hid (Z5.out.grB bx hg)
    replace Z6 := Lib.hid (Z6.out.grB bx hg)
    replace V7 := Lib.hid (V7.out.gro hg (by have := LG1.out; have := LG2.out; have := NG.out; have := LG.out; omega))
    replace ZS := Lib.hid (ZS.out.grB bx hg)
    replace G2 := Lib.hid (G2.out.gro hg (by have := LG1.out; have := LG2.out; have := NG.out; have := LG.out; omega))
    replace B1 := Lib.hid (Below.gr B1.out (by have := LG1.out; have := LG2.out; have := NG.out; have := LG.out; omega) hg B1.out.size)
    clear bx
    replace G1 := Lib.hid hz
    refine hK.out _ _ ⟨HB.out, HB.out⟩ (fun _ => ?_)
    clear hK K hg hz
    try simp only [Act.put]
    refine wpAnyH_ready (rs := [14]) (by kernel_rfl) (by simp) ?_
    refine AllReadyH.consL (o := _) rfl (fun K hK => ?_) AllReadyH.nil
    rw [if_pos (by rfl)]
    refine wp_stZ _ _ rfl (by rfl) (by rfl) G2.out ?_
    intro ws1 hz hg
    replace HB := Lib.hid (Below.gr HB.out (by have := LL1.out; have := LL2.out; omega) hg HB.out.size)
    have bx := G2.out.bx
    replace V0 := Lib.hid (V0.out.gro hg (by have := LG1.out; have := LG2.out; have := NG.out; have := LG.out; omega))
    replace V1 := Lib.hid (V1.out.gro hg (by have := LG1.out; have := LG2.out; have := NG.out; have := LG.out; omega))
    replace V2 := Lib.hid (V2.out.gro hg (by have := LG1.out; have := LG2.out; have := NG.out; have := LG.out; omega))
    replace V3 := Lib.hid (V3.out.gro hg (by have := LG1.out; have := LG2.out; have := NG.out; have := LG.out; omega))
    replace HX := Lib.hid (HX.out.grB bx hg)
    replace HP := Lib.hid (HP.out.grB bx hg)
    replace HM := Lib.hid (HM.out.grB bx hg)
    replace ZZ := Lib.hid (ZZ.out.grB bx hg)
    replace ND := Lib.hid (ND.out.grB bx hg)
    replace Z3 := Lib.hid (Z3.out.grB bx hg)
    replace Z4 := Lib.hid (Z4.out.grB bx hg)
    replace Z5 := Lib.hid (Z5.out.grB bx hg)
    replace Z6 := Lib.hid (Z6.out.grB bx hg)
    replace V7 := Lib.hid (V7.out.gro hg (by have := LG1.out; have := LG2.out; have := NG.out; have := LG.out; omega))
    replace ZS := Lib.hid (ZS.out.grB bx hg)
    replace G1 := Lib.hid (G1.out.gro hg (by have := LG1.out; have := LG2.out; have := NG.out; have := LG.out; omega))
    replace B1 := Lib.hid (Below.gr B1.out (by have := LG1.out; have := LG2.out; have := NG.out; have := LG.out; omega) hg B1.out.size)
    clear bx
    replace G2 := Lib.hid hz
    refine hK.out _ _ ⟨HB.out, HB.out⟩ (fun _ => ?_)
    clear hK K hg hz
    try simp only [Act.put]
    have hHeld : Below wg.heap.size wg _ ∧ Below wg.heap.size wg _ := ⟨HB.out, HB.out⟩
    refine wpAnyH_takeL (i := 15) (oi := _) (v := ?_) rfl (by kernel_rfl) (by kernel_rfl) (by kernel_rfl) (fun _ _ _ h => h) (Or.inl ⟨by rfl, ?_⟩) hHeld ?_
    rotate_left
    · (intro w' hSw; (try dsimp only at hSw); go_simp; try (with_reducible rfl))
    try simp only [Act.put, List.setIfInBounds_toArray, List.set_cons_zero, List.set_cons_succ]
    clear hHeld
    refine wpAnyH_done (by kernel_rfl) ?_ _
    clear HB
    cases b
    · have pc0 := Lib.hid trivial
      go_wp2_with (first
        | (clear pc0; refine wpList_ldV (by rfl) _ rfl (by rfl) V7.out ?_; have pc1 := Lib.hid trivial)
        | (clear pc1; refine wpList_ldZ (by rfl) _ rfl (by rfl) G1.out ?_; have pc2 := Lib.hid trivial)
        | (clear pc2; go_at_call 109; refine Calls.mono (extended_any (p := p') (q := q') (o := o') (r := r') (t := sv) (u := u) (v := v) Z3.out Z4.out Z5.out Z6.out ZS.out (Nat.le_trans LS.out (by decide)) (Nat.le_trans LP.out (by decide)) (Nat.le_trans LQ.out (by decide)) (Nat.le_trans LO.out (by decide)) (Nat.le_trans LR.out (by decide)) EU.out EV.out) ?_; rintro e wh ⟨P8, c8, P9, c9, P10, c10, P11, c11, rfl, z8, z9, z10, z11, hb⟩; replace V0 := Lib.hid (V0.out.below hb V0.out.lt); replace V1 := Lib.hid (V1.out.below hb V1.out.lt); replace V2 := Lib.hid (V2.out.below hb V2.out.lt); replace V3 := Lib.hid (V3.out.below hb V3.out.lt); replace HX := Lib.hid (HX.out.below hb); replace HP := Lib.hid (HP.out.below hb); replace HM := Lib.hid (HM.out.below hb); replace ZZ := Lib.hid (ZZ.out.below hb); replace ND := Lib.hid (ND.out.below hb); replace Z3 := Lib.hid (Z3.out.below hb); replace Z4 := Lib.hid (Z4.out.below hb); replace Z5 := Lib.hid (Z5.out.below hb); replace Z6 := Lib.hid (Z6.out.below hb); replace V7 := Lib.hid (V7.out.below hb V7.out.lt); replace ZS := Lib.hid (ZS.out.below hb); replace G1 := Lib.hid (G1.out.below hb G1.out.lt); replace G2 := Lib.hid (G2.out.below hb G2.out.lt); replace B1 := Lib.hid (B1.out.trans (hb.mono B1.out.size)); have Z8 := Lib.hid z8; have Z9 := Lib.hid z9; clear z8 z9 z10 z11; clear hb; have pc3 := Lib.hid trivial))
      clear pc3
      have LG3 : Hid (g7 < wh.heap.size) := V7.out.lt
      have hb : Below wh.heap.size wh (wh.alloc (.cells #[.bool (decide (u < 0)), .slice P8 (ofv u.natAbs).length c8, .bool (decide (v < 0)), .slice P9 (ofv v.natAbs).length c9, .bool (decide (p' < 0)), .slice P10 (ofv (p').natAbs).length c10, .bool (decide (q' < 0)), .slice P11 (ofv (q').natAbs).length c11] 111)) := ((Below.refl _ _).alloc (by first | exact Nat.le_refl _ | (simp; done) | (simp; omega)) _)
      replace V0 := Lib.hid (V0.out.below hb V0.out.lt)
      replace V1 := Lib.hid (V1.out.below hb V1.out.lt)
      replace V2 := Lib.hid (V2.out.below hb V2.out.lt)
      replace V3 := Lib.hid (V3.out.below hb V3.out.lt)
      replace HX := Lib.hid (HX.out.below hb)
      replace HP := Lib.hid (HP.out.below hb)
      replace HM := Lib.hid (HM.out.below hb)
      replace ZZ := Lib.hid (ZZ.out.below hb)
      replace ND := Lib.hid (ND.out.below hb)
      replace Z3 := Lib.hid (Z3.out.below hb)
      replace Z4 := Lib.hid (Z4.out.below hb)
      replace Z5 := Lib.hid (Z5.out.below hb)
      replace Z6 := Lib.hid (Z6.out.below hb)
      replace V7 := Lib.hid (V7.out.below hb V7.out.lt)
      replace ZS := Lib.hid (ZS.out.below hb)
      replace G1 := Lib.hid (G1.out.below hb G1.out.lt)
      replace G2 := Lib.hid (G2.out.below hb G2.out.lt)
      replace Z8 := Lib.hid (Z8.out.below hb)
      replace Z9 := Lib.hid (Z9.out.below hb)
      replace B1 := Lib.hid (B1.out.trans (hb.mono B1.out.size))
      have V12 := Lib.hid (Vb.new wh (decide (u < 0)) P8 (ofv u.natAbs).length c8 (decide (v < 0)) P9 (ofv v.natAbs).length c9 (decide (p' < 0)) P10 (ofv (p').natAbs).length c10 (decide (q' < 0)) P11 (ofv (q').natAbs).length c11)
      clear hb
      generalize (wh.alloc (.cells #[.bool (decide (u < 0)), .slice P8 (ofv u.natAbs).length c8, .bool (decide (v < 0)), .slice P9 (ofv v.natAbs).length c9, .bool (decide (p' < 0)), .slice P10 (ofv (p').natAbs).length c10, .bool (decide (q' < 0)), .slice P11 (ofv (q').natAbs).length c11] 111)) = wi at *
      generalize wh.heap.size = g12b at *
      have hb := below_drewN wi.heap.size wi 1
      replace V0 := Lib.hid (V0.out.below hb V0.out.lt)
      replace V1 := Lib.hid (V1.out.below hb V1.out.lt)
      replace V2 := Lib.hid (V2.out.below hb V2.out.lt)
      replace V3 := Lib.hid (V3.out.below hb V3.out.lt)
      replace HX := Lib.hid (HX.out.below hb)
      replace HP := Lib.hid (HP.out.below hb)
      replace HM := Lib.hid (HM.out.below hb)
      replace ZZ := Lib.hid (ZZ.out.below hb)
      replace ND := Lib.hid (ND.out.below hb)
      replace Z3 := Lib.hid (Z3.out.below hb)
      replace Z4 := Lib.hid (Z4.out.below hb)
      replace Z5 := Lib.hid (Z5.out.below hb)
      replace Z6 := Lib.hid (Z6.out.below hb)
      replace V7 := Lib.hid (V7.out.below hb V7.out.lt)
      replace ZS := Lib.hid (ZS.out.below hb)
      replace G1 := Lib.hid (G1.out.below hb G1.out.lt)
      replace G2 := Lib.hid (G2.out.below hb G2.out.lt)
      replace Z8 := Lib.hid (Z8.out.below hb)
      replace Z9 := Lib.hid (Z9.out.below hb)
      replace V12 := Lib.hid (V12.out.below hb V12.out.lt)
      replace B1 := Lib.hid (B1.out.trans (hb.mono B1.out.size))
      clear hb
      refine wp_region_held_drew (S := fun w' => Vb w' g12b (decide (u < 0)) P8 (ofv u.natAbs).length c8 (decide (v < 0)) P9 (ofv v.natAbs).length c9 (decide (p' < 0)) P10 (ofv (p').natAbs).length c10 (decide (q' < 0)) P11 (ofv (q').natAbs).length c11 ∧ Vb w' g7 (decide (p' < 0)) PU1 (ofv (p').natAbs).length cu1 (decide (q' < 0)) PU2 (ofv (q').natAbs).length cu2 (decide (o' < 0)) PU3 (ofv (o').natAbs).length cu3 (decide (r' < 0)) PU4 (ofv (r').natAbs).length cu4) (by kernel_rfl) ⟨V12.out, V7.out⟩ (fun hHeld => ?_)
      refine wpAnyH_takeL (i := 0) (oi := _) rfl (by kernel_rfl) (by kernel_rfl) (by kernel_rfl) (fun _ _ _ h => h) (yields_ldV (by rfl) _ rfl (by rfl) (fun _ hS => hS.1)) hHeld ?_
      try simp only [Act.put, List.setIfInBounds_toArray, List.set_cons_zero, List.set_cons_succ]
      refine wpAnyH_takeL (i := 2) (oi := _) rfl (by kernel_rfl) (by kernel_rfl) (by kernel_rfl) (fun _ _ _ h => h) (yields_ldV (by rfl) _ rfl (by rfl) (fun _ hS => hS.2)) hHeld ?_
      try simp only [Act.put, List.setIfInBounds_toArray, List.set_cons_zero, List.set_cons_succ]
      refine wpAnyH_ready (rs := [1]) (by kernel_rfl) (by simp) ?_
      refine AllReadyH.consL (o := _) rfl (fun K hK => ?_) AllReadyH.nil
      clear hHeld
      go_simp
      go_at_call 110
      refine Calls.mono (value_any _ _ _ _ _ _ _ _ _ _ _ _ _) ?_
      rintro e wj ⟨rfl, hb⟩
      replace V0 := Lib.hid (V0.out.below hb V0.out.lt)
      replace V1 := Lib.hid (V1.out.below hb V1.out.lt)
      replace V2 := Lib.hid (V2.out.below hb V2.out.lt)
      replace V3 := Lib.hid (V3.out.below hb V3.out.lt)
      replace HX := Lib.hid (HX.out.below hb)
      replace HP := Lib.hid (HP.out.below hb)
      replace HM := Lib.hid (HM.out.below hb)
      replace ZZ := Lib.hid (ZZ.out.below hb)
      replace ND := Lib.hid (ND.out.below hb)
      replace Z3 := Lib.hid (Z3.out.below hb)
      replace Z4 := Lib.hid (Z4.out.below hb)
      replace Z5 := Lib.hid (Z5.out.below hb)
      replace Z6 := Lib.hid (Z6.out.below hb)
      replace V7 := Lib.hid (V7.out.below hb V7.out.lt)
      replace ZS := Lib.hid (ZS.out.below hb)
      replace G1 := Lib.hid (G1.out.below hb G1.out.lt)
      replace G2 := Lib.hid (G2.out.below hb G2.out.lt)
      replace Z8 := Lib.hid (Z8.out.below hb)
      replace Z9 := Lib.hid (Z9.out.below hb)
      replace V12 := Lib.hid (V12.out.below hb V12.out.lt)
      replace B1 := Lib.hid (B1.out.trans (hb.mono B1.out.size))
      clear hb
      refine hK.out _ _ ⟨V12.out, V7.out⟩ (fun hHeld => ?_)
      clear hK K
      try simp only [Act.put, List.setIfInBounds_toArray, List.set_cons_zero, List.set_cons_succ]
      refine wpAnyH_ready (rs := [3]) (by kernel_rfl) (by simp) ?_
      refine AllReadyH.consL (o := _) rfl (fun K hK => ?_) AllReadyH.nil
      clear hHeld
      go_simp
      go_at_call 110
      refine Calls.mono (value_any _ _ _ _ _ _ _ _ _ _ _ _ _) ?_
      rintro e wk ⟨rfl, hb⟩
      replace V0 := Lib.hid (V0.out.below hb V0.out.lt)
      replace V1 := Lib.hid (V1.out.below hb V1.out.lt)
      replace V2 := Lib.hid (V2.out.below hb V2.out.lt)
      replace V3 := Lib.hid (V3.out.below hb V3.out.lt)
      replace HX := Lib.hid (HX.out.below hb)
      replace HP := Lib.hid (HP.out.below hb)
      replace HM := Lib.hid (HM.out.below hb)
      replace ZZ := Lib.hid (ZZ.out.below hb)
      replace ND := Lib.hid (ND.out.below hb)
      replace Z3 := Lib.hid (Z3.out.below hb)
      replace Z4 := Lib.hid (Z4.out.below hb)
      replace Z5 := Lib.hid (Z5.out.below hb)
      replace Z6 := Lib.hid (Z6.out.below hb)
      replace V7 := Lib.hid (V7.out.below hb V7.out.lt)
      replace ZS := Lib.hid (ZS.out.below hb)
      replace G1 := Lib.hid (G1.out.below hb G1.out.lt)
      replace G2 := Lib.hid (G2.out.below hb G2.out.lt)
      replace Z8 := Lib.hid (Z8.out.below hb)
      replace Z9 := Lib.hid (Z9.out.below hb)
      replace V12 := Lib.hid (V12.out.below hb V12.out.lt)
      replace B1 := Lib.hid (B1.out.trans (hb.mono B1.out.size))
      clear hb
      refine hK.out _ _ ⟨V12.out, V7.out⟩ (fun hHeld => ?_)
      clear hK K
      try simp only [Act.put, List.setIfInBounds_toArray, List.set_cons_zero, List.set_cons_succ]
      refine wpAnyH_ready (rs := [4]) (by kernel_rfl) (by simp) ?_
      refine AllReadyH.consL (o := _) rfl (fun K hK => ?_) AllReadyH.nil
      clear hHeld
      rw [if_pos (by rfl)]
      refine wp_stR _ _ rfl (by rfl) (by rfl) V2.out ?_
      intro wv0 hz hg
      have bx := V2.out.bx
      replace V0 := Lib.hid (V0.out.gro hg (by have := LG.out; have := LG3.out; have := LG1.out; have := LG2.out; omega))
      replace V1 := Lib.hid (V1.out.gro hg (by have := LG.out; have := LG3.out; have := LG1.out; have := LG2.out; omega))
      replace V3 := Lib.hid (V3.out.gro hg (by have := LG.out; have := LG3.out; have := LG1.out; have := LG2.out; omega))
      replace HX := Lib.hid (HX.out.grB bx hg)
      replace HP := Lib.hid (HP.out.grB bx hg)
      replace HM := Lib.hid (HM.out.grB bx hg)
      replace ZZ := Lib.hid (ZZ.out.grB bx hg)
      replace ND := Lib.hid (ND.out.grB bx hg)
      replace Z3 := Lib.hid (Z3.out.grB bx hg)
      replace Z4 := Lib.hid (Z4.out.grB bx hg)
      replace Z5 := Lib.hid (Z5.out.grB bx hg)
      replace Z6 := Lib.hid (Z6.out.grB bx hg)
      replace V7 := Lib.hid (V7.out.gro hg (by have := LG.out; have := LG3.out; have := LG1.out; have := LG2.out; omega))
      replace ZS := Lib.hid (ZS.out.grB bx hg)
      replace G1 := Lib.hid (G1.out.gro hg (by have := LG.out; have := LG3.out; have := LG1.out; have := LG2.out; omega))
      replace G2 := Lib.hid (G2.out.gro hg (by have := LG.out; have := LG3.out; have := LG1.out; have := LG2.out; omega))
      replace Z8 := Lib.hid (Z8.out.grB bx hg)
      replace Z9 := Lib.hid (Z9.out.grB bx hg)
      replace V12 := Lib.hid (V12.out.gro hg (by have := LG.out; have := LG3.out; have := LG1.out; have := LG2.out; omega))
      replace B1 := Lib.hid (Below.gr B1.out (by omega) hg B1.out.size)
      clear bx
      replace V2 := Lib.hid hz
      refine hK.out _ _ ⟨V12.out, V7.out⟩ (fun hHeld => ?_)
      clear hK K hg hz
      try simp only [Act.put]
      refine wpAnyH_ready (rs := [5]) (by kernel_rfl) (by simp) ?_
      refine AllReadyH.consL (o := _) rfl (fun K hK => ?_) AllReadyH.nil
      clear hHeld
      rw [if_pos (by rfl)]
      refine wp_stR _ _ rfl (by rfl) (by rfl) V3.out ?_
      intro wv1 hz hg
      have bx := V3.out.bx
      replace V0 := Lib.hid (V0.out.gro hg (by have := LG.out; have := LG3.out; have := LG1.out; have := LG2.out; omega))
      replace V1 := Lib.hid (V1.out.gro hg (by have := LG.out; have := LG3.out; have := LG1.out; have := LG2.out; omega))
      replace V2 := Lib.hid (V2.out.gro hg (by have := LG.out; have := LG3.out; have := LG1.out; have := LG2.out; omega))
      replace HX := Lib.hid (HX.out.grB bx hg)
      replace HP := Lib.hid (HP.out.grB bx hg)
      replace HM := Lib.hid (HM.out.grB bx hg)
      replace ZZ := Lib.hid (ZZ.out.grB bx hg)
      replace ND := Lib.hid (ND.out.grB bx hg)
      replace Z3 := Lib.hid (Z3.out.grB bx hg)
      replace Z4 := Lib.hid (Z4.out.grB bx hg)
      replace Z5 := Lib.hid (Z5.out.grB bx hg)
      replace Z6 := Lib.hid (Z6.out.grB bx hg)
      replace V7 := Lib.hid (V7.out.gro hg (by have := LG.out; have := LG3.out; have := LG1.out; have := LG2.out; omega))
      replace ZS := Lib.hid (ZS.out.grB bx hg)
      replace G1 := Lib.hid (G1.out.gro hg (by have := LG.out; have := LG3.out; have := LG1.out; have := LG2.out; omega))
      replace G2 := Lib.hid (G2.out.gro hg (by have := LG.out; have := LG3.out; have := LG1.out; have := LG2.out; omega))
      replace Z8 := Lib.hid (Z8.out.grB bx hg)
      replace Z9 := Lib.hid (Z9.out.grB bx hg)
      replace V12 := Lib.hid (V12.out.gro hg (by have := LG.out; have := LG3.out; have := LG1.out; have := LG2.out; omega))
      replace B1 := Lib.hid (Below.gr B1.out (by omega) hg B1.out.size)
      clear bx
      replace V3 := Lib.hid hz
      refine hK.out _ _ ⟨V12.out, V7.out⟩ (fun hHeld => ?_)
      clear hK K hg hz
      try simp only [Act.put]
      refine wpAnyH_takeL (i := 6) (oi := _) (v := ?_) rfl (by kernel_rfl) (by kernel_rfl) (by kernel_rfl) (fun _ _ _ h => h) (Or.inl ⟨by rfl, ?_⟩) hHeld ?_
      rotate_left
      · (intro w' hSw; (try dsimp only at hSw); go_simp; try (with_reducible rfl))
      try simp only [Act.put, List.setIfInBounds_toArray, List.set_cons_zero, List.set_cons_succ]
      clear hHeld
      refine wpAnyH_done (by kernel_rfl) ?_ _
      go_wp2_with fail
      have en := LOK.out.encl_f HM0.out (by rw [EM1.out]; exact ESV.out) EU.out EV.out
      have k1 : ((v.natAbs : Nat) : Int) = v := by have := V0'.out; have := Q0'.out; omega
      have k2 : ((q'.natAbs : Nat) : Int) = q' := by have := V0'.out; have := Q0'.out; omega
      exact ret_rr Tryz.results73 rfl rfl rfl rfl V2.out V3.out ⟨u, v.natAbs, p', q'.natAbs, by rw [k1, k2, EDZ.out]; exact en, ⟨(Nat.le_trans LU.out (by decide)), (Nat.le_trans LV.out (by decide)), (Nat.le_trans LP.out (by decide)), (Nat.le_trans LQ.out (by decide))⟩, _, _, _, _, _, _, _, _, rfl, Z8.out, Z9.out, Z3.out, Z4.out, B1.out⟩
    · have pc0 := Lib.hid trivial
      go_wp2_with (first
        | (clear pc0; refine wpList_ldV (by rfl) _ rfl (by rfl) V7.out ?_; have pc1 := Lib.hid trivial)
        | (clear pc1; refine wpList_ldZ (by rfl) _ rfl (by rfl) G1.out ?_; have pc2 := Lib.hid trivial)
        | (clear pc2; go_at_call 109; refine Calls.mono (extended_any (p := p') (q := q') (o := o') (r := r') (t := sv) (u := u) (v := v) Z3.out Z4.out Z5.out Z6.out ZS.out (Nat.le_trans LS.out (by decide)) (Nat.le_trans LP.out (by decide)) (Nat.le_trans LQ.out (by decide)) (Nat.le_trans LO.out (by decide)) (Nat.le_trans LR.out (by decide)) EU.out EV.out) ?_; rintro e wh ⟨P8, c8, P9, c9, P10, c10, P11, c11, rfl, z8, z9, z10, z11, hb⟩; replace V0 := Lib.hid (V0.out.below hb V0.out.lt); replace V1 := Lib.hid (V1.out.below hb V1.out.lt); replace V2 := Lib.hid (V2.out.below hb V2.out.lt); replace V3 := Lib.hid (V3.out.below hb V3.out.lt); replace HX := Lib.hid (HX.out.below hb); replace HP := Lib.hid (HP.out.below hb); replace HM := Lib.hid (HM.out.below hb); replace ZZ := Lib.hid (ZZ.out.below hb); replace ND := Lib.hid (ND.out.below hb); replace Z3 := Lib.hid (Z3.out.below hb); replace Z4 := Lib.hid (Z4.out.below hb); replace Z5 := Lib.hid (Z5.out.below hb); replace Z6 := Lib.hid (Z6.out.below hb); replace V7 := Lib.hid (V7.out.below hb V7.out.lt); replace ZS := Lib.hid (ZS.out.below hb); replace G1 := Lib.hid (G1.out.below hb G1.out.lt); replace G2 := Lib.hid (G2.out.below hb G2.out.lt); replace B1 := Lib.hid (B1.out.trans (hb.mono B1.out.size)); have Z8 := Lib.hid z8; have Z9 := Lib.hid z9; clear z8 z9 z10 z11; clear hb; have pc3 := Lib.hid trivial))
      clear pc3
      have LG3 : Hid (g7 < wh.heap.size) := V7.out.lt
      have hb : Below wh.heap.size wh (wh.alloc (.cells #[.bool (decide (u < 0)), .slice P8 (ofv u.natAbs).length c8, .bool (decide (v < 0)), .slice P9 (ofv v.natAbs).length c9, .bool (decide (p' < 0)), .slice P10 (ofv (p').natAbs).length c10, .bool (decide (q' < 0)), .slice P11 (ofv (q').natAbs).length c11] 111)) := ((Below.refl _ _).alloc (by first | exact Nat.le_refl _ | (simp; done) | (simp; omega)) _)
      replace V0 := Lib.hid (V0.out.below hb V0.out.lt)
      replace V1 := Lib.hid (V1.out.below hb V1.out.lt)
      replace V2 := Lib.hid (V2.out.below hb V2.out.lt)
      replace V3 := Lib.hid (V3.out.below hb V3.out.lt)
      replace HX := Lib.hid (HX.out.below hb)
      replace HP := Lib.hid (HP.out.below hb)
      replace HM := Lib.hid (HM.out.below hb)
      replace ZZ := Lib.hid (ZZ.out.below hb)
      replace ND := Lib.hid (ND.out.below hb)
      replace Z3 := Lib.hid (Z3.out.below hb)
      replace Z4 := Lib.hid (Z4.out.below hb)
      replace Z5 := Lib.hid (Z5.out.below hb)
      replace Z6 := Lib.hid (Z6.out.below hb)
      replace V7 := Lib.hid (V7.out.below hb V7.out.lt)
      replace ZS := Lib.hid (ZS.out.below hb)
      replace G1 := Lib.hid (G1.out.below hb G1.out.lt)
      replace G2 := Lib.hid (G2.out.below hb G2.out.lt)
      replace Z8 := Lib.hid (Z8.out.below hb)
      replace Z9 := Lib.hid (Z9.out.below hb)
      replace B1 := Lib.hid (B1.out.trans (hb.mono B1.out.size))
      have V12 := Lib.hid (Vb.new wh (decide (u < 0)) P8 (ofv u.natAbs).length c8 (decide (v < 0)) P9 (ofv v.natAbs).length c9 (decide (p' < 0)) P10 (ofv (p').natAbs).length c10 (decide (q' < 0)) P11 (ofv (q').natAbs).length c11)
      clear hb
      generalize (wh.alloc (.cells #[.bool (decide (u < 0)), .slice P8 (ofv u.natAbs).length c8, .bool (decide (v < 0)), .slice P9 (ofv v.natAbs).length c9, .bool (decide (p' < 0)), .slice P10 (ofv (p').natAbs).length c10, .bool (decide (q' < 0)), .slice P11 (ofv (q').natAbs).length c11] 111)) = wi at *
      generalize wh.heap.size = g12b at *
      have hb := below_drewN wi.heap.size wi 1
      replace V0 := Lib.hid (V0.out.below hb V0.out.lt)
      replace V1 := Lib.hid (V1.out.below hb V1.out.lt)
      replace V2 := Lib.hid (V2.out.below hb V2.out.lt)
      replace V3 := Lib.hid (V3.out.below hb V3.out.lt)
      replace HX := Lib.hid (HX.out.below hb)
      replace HP := Lib.hid (HP.out.below hb)
      replace HM := Lib.hid (HM.out.below hb)
      replace ZZ := Lib.hid (ZZ.out.below hb)
      replace ND := Lib.hid (ND.out.below hb)
      replace Z3 := Lib.hid (Z3.out.below hb)
      replace Z4 := Lib.hid (Z4.out.below hb)
      replace Z5 := Lib.hid (Z5.out.below hb)
      replace Z6 := Lib.hid (Z6.out.below hb)
      replace V7 := Lib.hid (V7.out.below hb V7.out.lt)
      replace ZS := Lib.hid (ZS.out.below hb)
      replace G1 := Lib.hid (G1.out.below hb G1.out.lt)
      replace G2 := Lib.hid (G2.out.below hb G2.out.lt)
      replace Z8 := Lib.hid (Z8.out.below hb)
      replace Z9 := Lib.hid (Z9.out.below hb)
      replace V12 := Lib.hid (V12.out.below hb V12.out.lt)
      replace B1 := Lib.hid (B1.out.trans (hb.mono B1.out.size))
      clear hb
      refine wp_region_held_drew (S := fun w' => Vb w' g7 (decide (p' < 0)) PU1 (ofv (p').natAbs).length cu1 (decide (q' < 0)) PU2 (ofv (q').natAbs).length cu2 (decide (o' < 0)) PU3 (ofv (o').natAbs).length cu3 (decide (r' < 0)) PU4 (ofv (r').natAbs).length cu4 ∧ Vb w' g12b (decide (u < 0)) P8 (ofv u.natAbs).length c8 (decide (v < 0)) P9 (ofv v.natAbs).length c9 (decide (p' < 0)) P10 (ofv (p').natAbs).length c10 (decide (q' < 0)) P11 (ofv (q').natAbs).length c11) (by kernel_rfl) ⟨V7.out, V12.out⟩ (fun hHeld => ?_)
      refine wpAnyH_takeL (i := 0) (oi := _) rfl (by kernel_rfl) (by kernel_rfl) (by kernel_rfl) (fun _ _ _ h => h) (yields_ldV (by rfl) _ rfl (by rfl) (fun _ hS => hS.1)) hHeld ?_
      try simp only [Act.put, List.setIfInBounds_toArray, List.set_cons_zero, List.set_cons_succ]
      refine wpAnyH_takeL (i := 2) (oi := _) rfl (by kernel_rfl) (by kernel_rfl) (by kernel_rfl) (fun _ _ _ h => h) (yields_ldV (by rfl) _ rfl (by rfl) (fun _ hS => hS.2)) hHeld ?_
      try simp only [Act.put, List.setIfInBounds_toArray, List.set_cons_zero, List.set_cons_succ]
      refine wpAnyH_ready (rs := [1]) (by kernel_rfl) (by simp) ?_
      refine AllReadyH.consL (o := _) rfl (fun K hK => ?_) AllReadyH.nil
      clear hHeld
      go_simp
      go_at_call 110
      refine Calls.mono (value_any _ _ _ _ _ _ _ _ _ _ _ _ _) ?_
      rintro e wj ⟨rfl, hb⟩
      replace V0 := Lib.hid (V0.out.below hb V0.out.lt)
      replace V1 := Lib.hid (V1.out.below hb V1.out.lt)
      replace V2 := Lib.hid (V2.out.below hb V2.out.lt)
      replace V3 := Lib.hid (V3.out.below hb V3.out.lt)
      replace HX := Lib.hid (HX.out.below hb)
      replace HP := Lib.hid (HP.out.below hb)
      replace HM := Lib.hid (HM.out.below hb)
      replace ZZ := Lib.hid (ZZ.out.below hb)
      replace ND := Lib.hid (ND.out.below hb)
      replace Z3 := Lib.hid (Z3.out.below hb)
      replace Z4 := Lib.hid (Z4.out.below hb)
      replace Z5 := Lib.hid (Z5.out.below hb)
      replace Z6 := Lib.hid (Z6.out.below hb)
      replace V7 := Lib.hid (V7.out.below hb V7.out.lt)
      replace ZS := Lib.hid (ZS.out.below hb)
      replace G1 := Lib.hid (G1.out.below hb G1.out.lt)
      replace G2 := Lib.hid (G2.out.below hb G2.out.lt)
      replace Z8 := Lib.hid (Z8.out.below hb)
      replace Z9 := Lib.hid (Z9.out.below hb)
      replace V12 := Lib.hid (V12.out.below hb V12.out.lt)
      replace B1 := Lib.hid (B1.out.trans (hb.mono B1.out.size))
      clear hb
      refine hK.out _ _ ⟨V7.out, V12.out⟩ (fun hHeld => ?_)
      clear hK K
      try simp only [Act.put, List.setIfInBounds_toArray, List.set_cons_zero, List.set_cons_succ]
      refine wpAnyH_ready (rs := [3]) (by kernel_rfl) (by simp) ?_
      refine AllReadyH.consL (o := _) rfl (fun K hK => ?_) AllReadyH.nil
      clear hHeld
      go_simp
      go_at_call 110
      refine Calls.mono (value_any _ _ _ _ _ _ _ _ _ _ _ _ _) ?_
      rintro e wk ⟨rfl, hb⟩
      replace V0 := Lib.hid (V0.out.below hb V0.out.lt)
      replace V1 := Lib.hid (V1.out.below hb V1.out.lt)
      replace V2 := Lib.hid (V2.out.below hb V2.out.lt)
      replace V3 := Lib.hid (V3.out.below hb V3.out.lt)
      replace HX := Lib.hid (HX.out.below hb)
      replace HP := Lib.hid (HP.out.below hb)
      replace HM := Lib.hid (HM.out.below hb)
      replace ZZ := Lib.hid (ZZ.out.below hb)
      replace ND := Lib.hid (ND.out.below hb)
      replace Z3 := Lib.hid (Z3.out.below hb)
      replace Z4 := Lib.hid (Z4.out.below hb)
      replace Z5 := Lib.hid (Z5.out.below hb)
      replace Z6 := Lib.hid (Z6.out.below hb)
      replace V7 := Lib.hid (V7.out.below hb V7.out.lt)
      replace ZS := Lib.hid (ZS.out.below hb)
      replace G1 := Lib.hid (G1.out.below hb G1.out.lt)
      replace G2 := Lib.hid (G2.out.below hb G2.out.lt)
      replace Z8 := Lib.hid (Z8.out.below hb)
      replace Z9 := Lib.hid (Z9.out.below hb)
      replace V12 := Lib.hid (V12.out.below hb V12.out.lt)
      replace B1 := Lib.hid (B1.out.trans (hb.mono B1.out.size))
      clear hb
      refine hK.out _ _ ⟨V7.out, V12.out⟩ (fun hHeld => ?_)
      clear hK K
      try simp only [Act.put, List.setIfInBounds_toArray, List.set_cons_zero, List.set_cons_succ]
      refine wpAnyH_ready (rs := [4]) (by kernel_rfl) (by simp) ?_
      refine AllReadyH.consL (o := _) rfl (fun K hK => ?_) AllReadyH.nil
      clear hHeld
      rw [if_pos (by rfl)]
      refine wp_stR _ _ rfl (by rfl) (by rfl) V2.out ?_
      intro wv0 hz hg
      have bx := V2.out.bx
      replace V0 := Lib.hid (V0.out.gro hg (by have := LG.out; have := LG3.out; have := LG1.out; have := LG2.out; omega))
      replace V1 := Lib.hid (V1.out.gro hg (by have := LG.out; have := LG3.out; have := LG1.out; have := LG2.out; omega))
      replace V3 := Lib.hid (V3.out.gro hg (by have := LG.out; have := LG3.out; have := LG1.out; have := LG2.out; omega))
      replace HX := Lib.hid (HX.out.grB bx hg)
      replace HP := Lib.hid (HP.out.grB bx hg)
      replace HM := Lib.hid (HM.out.grB bx hg)
      replace ZZ := Lib.hid (ZZ.out.grB bx hg)
      replace ND := Lib.hid (ND.out.grB bx hg)
      replace Z3 := Lib.hid (Z3.out.grB bx hg)
      replace Z4 := Lib.hid (Z4.out.grB bx hg)
      replace Z5 := Lib.hid (Z5.out.grB bx hg)
      replace Z6 := Lib.hid (Z6.out.grB bx hg)
      replace V7 := Lib.hid (V7.out.gro hg (by have := LG.out; have := LG3.out; have := LG1.out; have := LG2.out; omega))
      replace ZS := Lib.hid (ZS.out.grB bx hg)
      replace G1 := Lib.hid (G1.out.gro hg (by have := LG.out; have := LG3.out; have := LG1.out; have := LG2.out; omega))
      replace G2 := Lib.hid (G2.out.gro hg (by have := LG.out; have := LG3.out; have := LG1.out; have := LG2.out; omega))
      replace Z8 := Lib.hid (Z8.out.grB bx hg)
      replace Z9 := Lib.hid (Z9.out.grB bx hg)
      replace V12 := Lib.hid (V12.out.gro hg (by have := LG.out; have := LG3.out; have := LG1.out; have := LG2.out; omega))
      replace B1 := Lib.hid (Below.gr B1.out (by omega) hg B1.out.size)
      clear bx
      replace V2 := Lib.hid hz
      refine hK.out _ _ ⟨V7.out, V12.out⟩ (fun hHeld => ?_)
      clear hK K hg hz
      try simp only [Act.put]
      refine wpAnyH_ready (rs := [5]) (by kernel_rfl) (by simp) ?_
      refine AllReadyH.consL (o := _) rfl (fun K hK => ?_) AllReadyH.nil
      clear hHeld
      rw [if_pos (by rfl)]
      refine wp_stR _ _ rfl (by rfl) (by rfl) V3.out ?_
      intro wv1 hz hg
      have bx := V3.out.bx
      replace V0 := Lib.hid (V0.out.gro hg (by have := LG.out; have := LG3.out; have := LG1.out; have := LG2.out; omega))
      replace V1 := Lib.hid (V1.out.gro hg (by have := LG.out; have := LG3.out; have := LG1.out; have := LG2.out; omega))
      replace V2 := Lib.hid (V2.out.gro hg (by have := LG.out; have := LG3.out; have := LG1.out; have := LG2.out; omega))
      replace HX := Lib.hid (HX.out.grB bx hg)
      replace HP := Lib.hid (HP.out.grB bx hg)
      replace HM := Lib.hid (HM.out.grB bx hg)
      replace ZZ := Lib.hid (ZZ.out.grB bx hg)
      replace ND := Lib.hid (ND.out.grB bx hg)
      replace Z3 := Lib.hid (Z3.out.grB bx hg)
      replace Z4 := Lib.hid (Z4.out.grB bx hg)
      replace Z5 := Lib.hid (Z5.out.grB bx hg)
      replace Z6 := Lib.hid (Z6.out.grB bx hg)
      replace V7 := Lib.hid (V7.out.gro hg (by have := LG.out; have := LG3.out; have := LG1.out; have := LG2.out; omega))
      replace ZS := Lib.hid (ZS.out.grB bx hg)
      replace G1 := Lib.hid (G1.out.gro hg (by have := LG.out; have := LG3.out; have := LG1.out; have := LG2.out; omega))
      replace G2 := Lib.hid (G2.out.gro hg (by have := LG.out; have := LG3.out; have := LG1.out; have := LG2.out; omega))
      replace Z8 := Lib.hid (Z8.out.grB bx hg)
      replace Z9 := Lib.hid (Z9.out.grB bx hg)
      replace V12 := Lib.hid (V12.out.gro hg (by have := LG.out; have := LG3.out; have := LG1.out; have := LG2.out; omega))
      replace B1 := Lib.hid (Below.gr B1.out (by omega) hg B1.out.size)
      clear bx
      replace V3 := Lib.hid hz
      refine hK.out _ _ ⟨V7.out, V12.out⟩ (fun hHeld => ?_)
      clear hK K hg hz
      try simp only [Act.put]
      refine wpAnyH_takeL (i := 6) (oi := _) (v := ?_) rfl (by kernel_rfl) (by kernel_rfl) (by kernel_rfl) (fun _ _ _ h => h) (Or.inl ⟨by rfl, ?_⟩) hHeld ?_
      rotate_left
      · (intro w' hSw; (try dsimp only at hSw); go_simp; try (with_reducible rfl))
      try simp only [Act.put, List.setIfInBounds_toArray, List.set_cons_zero, List.set_cons_succ]
      clear hHeld
      refine wpAnyH_done (by kernel_rfl) ?_ _
      go_wp2_with fail
      have en := LOK.out.encl_t HM0.out (by rw [EM1.out]; exact ESV.out) EU.out EV.out
      have k1 : ((q'.natAbs : Nat) : Int) = q' := by have := V0'.out; have := Q0'.out; omega
      have k2 : ((v.natAbs : Nat) : Int) = v := by have := V0'.out; have := Q0'.out; omega
      exact ret_rr Tryz.results73 rfl rfl rfl rfl V2.out V3.out ⟨p', q'.natAbs, u, v.natAbs, by rw [k1, k2, EDZ.out]; exact en, ⟨(Nat.le_trans LP.out (by decide)), (Nat.le_trans LQ.out (by decide)), (Nat.le_trans LU.out (by decide)), (Nat.le_trans LV.out (by decide))⟩, _, _, _, _, _, _, _, _, rfl, Z3.out, Z4.out, Z8.out, Z9.out, B1.out⟩
end Go.Proofs.YtfmgbfdnmconiaaGreat
