/-
  Contracts of package rational: Sub, Neg, Sign, Inv, Div, Compare.
-/
import Derived.Test.YtfmgbfdnmconiaaGreatRato
namespace Go.Proofs.YtfmgbfdnmconiaaGreat
open Go.RowKit
set_option linter.unusedVariables false

theorem field0 (s : Bool) (A : Option Addr) (n c : Nat) (D : Option Addr) (m k : Nat) (w : World) : (Instr.field 26 (.agg #[.bool s, .slice A n c, .slice D m k]) 0).run Tryz.prog w = .ok (.agg #[.bool s, .slice A n c]) w := by kernel_rfl
theorem field1 (s : Bool) (A : Option Addr) (n c : Nat) (D : Option Addr) (m k : Nat) (w : World) : (Instr.field 26 (.agg #[.bool s, .slice A n c, .slice D m k]) 1).run Tryz.prog w = .ok (.slice D m k) w := by kernel_rfl
set_option maxRecDepth 100000 in
set_option maxHeartbeats 16000000 in
theorem qsub_any {s t : Bool} {A D B E : Option Addr} {n c m k n2 c2 m2 k2 L : Nat} {x y : Int} {p q : Nat} {w : World} (h : Zin w s A n c x) (hp : Nin w D m k p) (h' : Zin w t B n2 c2 y) (hq : Nin w E m2 k2 q) (hn : n ≤ L) (hm : m ≤ L) (hn2 : n2 ≤ L) (hm2 : m2 ≤ L) (hL : 1 ≤ L ∧ L ≤ 35184372088829) {z : Int} {d : Nat} (hz : (mkRat x p - mkRat y q).num = z) (hd : (mkRat x p - mkRat y q).den = d) :
    Calls Tryz.prog 33 #[.agg #[.bool s, .slice A n c, .slice D m k], .agg #[.bool t, .slice B n2 c2, .slice E m2 k2]] w (GivesR w z d) := by
  obtain ⟨B1, V0, V1, V2⟩ := start_RRR w s A n c D m k t B n2 c2 E m2 k2
  have HX := Lib.hid (h.below B1.out)
  have HP := Lib.hid (hp.below B1.out)
  have HY := Lib.hid (h'.below B1.out)
  have HQ := Lib.hid (hq.below B1.out)
  have LN := Lib.hid hn
  have LM := Lib.hid hm
  have LN2 := Lib.hid hn2
  have LM2 := Lib.hid hm2
  have L1 := Lib.hid hL.1
  have L2 := Lib.hid hL.2
  have L4 : Hid (L ≤ 70368744177664) := Nat.le_trans hL.2 (by decide)
  have HZ := Lib.hid hz
  have HD := Lib.hid hd
  clear h hp h' hq hn hm hn2 hm2 hL hz hd
  go_enter Tryz.func33, Tryz.ntmps33
  go_wp2_with fail
  generalize (((w.alloc (.cells #[.bool s, .slice A n c, .slice D m k] 26)).alloc (.cells #[.bool t, .slice B n2 c2, .slice E m2 k2] 26)).alloc (.cells #[.bool false, .slice none 0 0, .slice none 0 0] 26)) = w2 at *
  obtain ⟨ny, eny⟩ : ∃ z0 : Int, -y = z0 := ⟨_, rfl⟩
  have ENY := Lib.hid eny
  have HZ1 : Hid ((mkRat x p + mkRat ny q).num = z) := by show _ = _; rw [← eny, ← Rat.neg_mkRat, ← Rat.sub_eq_add_neg]; exact HZ.out
  have HD1 : Hid ((mkRat x p + mkRat ny q).den = d) := by show _ = _; rw [← eny, ← Rat.neg_mkRat, ← Rat.sub_eq_add_neg]; exact HD.out
  have LL : Hid (1 ≤ L ∧ L ≤ 35184372088829) := ⟨L1.out, L2.out⟩
  obtain ⟨t', et⟩ : ∃ b : Bool, (!t) = b := ⟨_, rfl⟩
  have ET := Lib.hid et
  clear eny
  have HB : Hid (Below w2.heap.size w2 w2.drew) := below_drewN _ w2 1
  refine wp_region_held_drew (S := fun w' => w2.grownBy w' (some (w.heap.size + 2))) (by kernel_rfl) ((grown_below HB.out : World.grownBy _ _ (some (w.heap.size + 2)))) (fun hHeld => ?_)
  refine wpAnyH_takeL (i := 0) (oi := _) rfl (by kernel_rfl) (by kernel_rfl) (by kernel_rfl) (fun _ _ _ h => h) (yields_ldR (by rfl) _ rfl (by rfl) (fun _ hb => V0.out.gro hb (by omega))) hHeld ?_
  try simp only [Act.put, List.setIfInBounds_toArray, List.set_cons_zero, List.set_cons_succ]
  refine wpAnyH_takeL (i := 1) (oi := _) rfl (by kernel_rfl) (by kernel_rfl) (by kernel_rfl) (fun _ _ _ h => h) (yields_ldR (by rfl) _ rfl (by rfl) (fun _ hb => V1.out.gro hb (by omega))) hHeld ?_
  try simp only [Act.put, List.setIfInBounds_toArray, List.set_cons_zero, List.set_cons_succ]
  refine wpAnyH_ready (rs := [2]) (by kernel_rfl) (by simp) ?_
  refine AllReadyH.consL (o := _) rfl (fun K hK => ?_) AllReadyH.nil
  clear hHeld
  go_simp
  go_at_call 78
  refine Calls.mono (opposite_any _ _ _ _ _ _ _ _) ?_
  rintro e wa ⟨rfl, hb⟩
  replace HB := Lib.hid (HB.out.trans (hb.mono HB.out.size))
  clear hb
  refine hK.out _ _ (grown_below HB.out : World.grownBy _ _ (some (w.heap.size + 2))) (fun hHeld => ?_)
  clear hK K
  try simp only [Act.put, List.setIfInBounds_toArray, List.set_cons_zero, List.set_cons_succ]
  refine wpAnyH_ready (rs := [3]) (by kernel_rfl) (by simp) ?_
  refine AllReadyH.consL (o := _) rfl (fun K hK => ?_) AllReadyH.nil
  clear hHeld
  have SZ := Lib.hid (Nat.le_trans B1.out.size HB.out.size)
  go_simp
  go_at_call 32
  refine Calls.mono (qadd_any (z := z) (d := d) (HX.out.below HB.out) (HP.out.below HB.out) ((HY.out.below HB.out).flip ET.out ENY.out) (HQ.out.below HB.out) LN.out LM.out LN2.out LM2.out LL.out HZ1.out HD1.out) ?_
  rintro e wb ⟨P1, c1, P2, c2, rfl, ho, ho2, hb⟩
  replace HB := Lib.hid (HB.out.trans (hb.mono HB.out.size))
  have OQ := Lib.hid (ho.mono SZ.out)
  have OD := Lib.hid (ho2.mono SZ.out)
  clear ho ho2 SZ
  clear hb
  refine hK.out _ _ (grown_below HB.out : World.grownBy _ _ (some (w.heap.size + 2))) (fun hHeld => ?_)
  clear hK K
  try simp only [Act.put, List.setIfInBounds_toArray, List.set_cons_zero, List.set_cons_succ]
  refine wpAnyH_ready (rs := [4]) (by kernel_rfl) (by simp) ?_
  refine AllReadyH.consL (o := _) rfl (fun K hK => ?_) AllReadyH.nil
  clear hHeld
  have hb := HB.out
  replace V0 := Lib.hid (V0.out.below hb V0.out.lt)
  replace V1 := Lib.hid (V1.out.below hb V1.out.lt)
  replace V2 := Lib.hid (V2.out.below hb V2.out.lt)
  replace HX := Lib.hid (HX.out.below hb)
  replace HP := Lib.hid (HP.out.below hb)
  replace HY := Lib.hid (HY.out.below hb)
  replace HQ := Lib.hid (HQ.out.below hb)
  replace B1 := Lib.hid (B1.out.trans (hb.mono B1.out.size))
  rw [if_pos (by rfl)]
  refine wp_stR _ _ rfl (by rfl) (by rfl) V2.out ?_
  intro wst hz hg
  replace V0 := Lib.hid (V0.out.gro hg (by omega))
  replace V1 := Lib.hid (V1.out.gro hg (by omega))
  replace HX := Lib.hid (HX.out.grR V2.out hg)
  replace HP := Lib.hid (HP.out.grR V2.out hg)
  replace HY := Lib.hid (HY.out.grR V2.out hg)
  replace HQ := Lib.hid (HQ.out.grR V2.out hg)
  replace OQ := Lib.hid (OQ.out.grR V2.out hg)
  replace OD := Lib.hid (OD.out.grR V2.out hg)
  replace B1 := Lib.hid (Below.gr B1.out (by omega) hg B1.out.size)
  replace V2 := Lib.hid hz
  refine hK.out _ _ (World.grownBy.trans (grown_below hb) hg) (fun hHeld => ?_)
  clear hK K hg hb HB hz
  try simp only [Act.put]
  skip
  refine wpAnyH_done (by kernel_rfl) ?_ _
  clear hHeld
  go_wp2
  exact ret_rb Tryz.results33 rfl rfl V2.out ⟨_, _, _, _, rfl, OQ.out, OD.out, B1.out⟩
theorem start_R (w : World) (s0 : Bool) (A0 : Option Addr) (n0 c0 : Nat) (D0 : Option Addr) (m0 k0 : Nat) :
    Hid (Below w.heap.size w (w.alloc (.cells #[.bool s0, .slice A0 n0 c0, .slice D0 m0 k0] 26))) ∧ Hid (Rb (w.alloc (.cells #[.bool s0, .slice A0 n0 c0, .slice D0 m0 k0] 26)) (w.heap.size) s0 A0 n0 c0 D0 m0 k0) := by
  refine ⟨?_, ?_⟩
  · exact ((Below.refl _ _).alloc (by first | exact Nat.le_refl _ | (simp; done) | (simp; omega)) _)
  · have := Rb.new w s0 A0 n0 c0 D0 m0 k0
    exact this
set_option maxRecDepth 100000 in
set_option maxHeartbeats 16000000 in
theorem qneg_any {s : Bool} {A D : Option Addr} {n c m k L : Nat} {x : Int} {p : Nat} {w : World} (h : Zin w s A n c x) (h' : Nin w D m k p) (hn : n ≤ L) (hm : m ≤ L) (hL : 1 ≤ L ∧ L ≤ 70368744177660) {z : Int} {d : Nat} (hz : (-mkRat x p).num = z) (hd : (-mkRat x p).den = d) :
    Calls Tryz.prog 31 #[.agg #[.bool s, .slice A n c, .slice D m k]] w (GivesR w z d) := by
  obtain ⟨B1, V0, V1⟩ := start_RR w s A n c D m k
  have HX := Lib.hid (h.below B1.out)
  have HP := Lib.hid (h'.below B1.out)
  have LN := Lib.hid hn
  have LM := Lib.hid hm
  have L1 := Lib.hid hL.1
  have L2 := Lib.hid hL.2
  have LL := Lib.hid hL
  have L4 : Hid (L ≤ 70368744177664) := Nat.le_trans hL.2 (by decide)
  obtain ⟨ny, eny⟩ : ∃ z0 : Int, -x = z0 := ⟨_, rfl⟩
  have ENY := Lib.hid eny
  have HZ1 : Hid ((mkRat ny p).num = z) := by show _ = _; rw [← eny, ← Rat.neg_mkRat]; exact hz
  have HD1 : Hid ((mkRat ny p).den = d) := by show _ = _; rw [← eny, ← Rat.neg_mkRat]; exact hd
  obtain ⟨t', et⟩ : ∃ b : Bool, (!s) = b := ⟨_, rfl⟩
  have ET := Lib.hid et
  clear eny hz hd
  clear h h' hn hm hL
  go_enter Tryz.func31, Tryz.ntmps31
  go_wp2_with fail
  generalize ((w.alloc (.cells #[.bool s, .slice A n c, .slice D m k] 26)).alloc (.cells #[.bool false, .slice none 0 0, .slice none 0 0] 26)) = w2 at *
  have pc0 := Lib.hid trivial
  go_wp2_with (first
    | (clear pc0; go_at_call 78; refine Calls.mono (opposite_any _ _ _ _ _ _ _ _) ?_; rintro e w3 ⟨rfl, hb⟩; replace V0 := Lib.hid (V0.out.below hb V0.out.lt); replace V1 := Lib.hid (V1.out.below hb V1.out.lt); replace HX := Lib.hid (HX.out.below hb); replace HP := Lib.hid (HP.out.below hb); replace B1 := Lib.hid (B1.out.trans (hb.mono B1.out.size)); clear hb; have pc1 := Lib.hid trivial)
    | (clear pc1; have SZ := Lib.hid B1.out.size; go_at_call 30; refine Calls.mono (norm_any (z := z) (d := d) (HX.out.flip ET.out ENY.out) HP.out LN.out LM.out LL.out HZ1.out HD1.out) ?_; rintro e w4 ⟨P1, c1, P2, c2, rfl, ho, ho2, hb⟩; replace V0 := Lib.hid (V0.out.below hb V0.out.lt); replace V1 := Lib.hid (V1.out.below hb V1.out.lt); replace HX := Lib.hid (HX.out.below hb); replace HP := Lib.hid (HP.out.below hb); replace B1 := Lib.hid (B1.out.trans (hb.mono B1.out.size)); have OQ := Lib.hid (ho.mono SZ.out); have OD := Lib.hid (ho2.mono SZ.out); clear ho ho2 SZ; clear hb; have pc2 := Lib.hid trivial)
    | (clear pc2; refine wpList_stR (by rfl) _ _ rfl (by rfl) (by rfl) V1.out ?_; intro w5 hz hg; replace V0 := Lib.hid (V0.out.gro hg (by omega)); replace HX := Lib.hid (HX.out.grR V1.out hg); replace HP := Lib.hid (HP.out.grR V1.out hg); replace OQ := Lib.hid (OQ.out.grR V1.out hg); replace OD := Lib.hid (OD.out.grR V1.out hg); replace B1 := Lib.hid (Below.gr B1.out (by omega) hg B1.out.size); replace V1 := Lib.hid hz; clear hz hg; have pc3 := Lib.hid trivial))
  clear pc3
  exact ret_rb Tryz.results31 rfl rfl V1.out ⟨_, _, _, _, rfl, OQ.out, OD.out, B1.out⟩
set_option maxRecDepth 100000 in
set_option maxHeartbeats 16000000 in
theorem qsign_any {s : Bool} {A D : Option Addr} {n c m k L : Nat} {x : Int} {p : Nat} {w : World} (h : Zin w s A n c x) (h' : Nin w D m k p) (hn : n ≤ L) (hm : m ≤ L) (hL : 1 ≤ L ∧ L ≤ 70368744177660) {r : Int} (hr : sgR (mkRat x p) = r) :
    Calls Tryz.prog 63 #[.agg #[.bool s, .slice A n c, .slice D m k]] w fun e w' => e = .returned (.int .i64 r) ∧ Below w.heap.size w w' := by
  obtain ⟨B1, V0⟩ := start_R w s A n c D m k
  have HX := Lib.hid (h.below B1.out)
  have HP := Lib.hid (h'.below B1.out)
  have LN := Lib.hid hn
  have LM := Lib.hid hm
  have L1 := Lib.hid hL.1
  have L2 := Lib.hid hL.2
  have LL := Lib.hid hL
  have L4 : Hid (L ≤ 70368744177664) := Nat.le_trans hL.2 (by decide)
  have HR := Lib.hid hr
  clear hr
  clear h h' hn hm hL
  go_enter Tryz.func63, Tryz.ntmps63
  go_wp2_with fail
  generalize (w.alloc (.cells #[.bool s, .slice A n c, .slice D m k] 26)) = w2 at *
  have hf0 := field0
  have pc0 := Lib.hid trivial
  go_wp2_with (first
    | (clear pc0; go_at_call 76; refine Calls.mono (proper_any HX.out HP.out LM.out L1.out L4.out) ?_; rintro e w3 ⟨Fs, FA, Fn, Fc, FD, Fm, Fk, Fx, Fp, rfl, q1, q2, q3, q4, q5, q6, hb⟩; replace V0 := Lib.hid (V0.out.below hb V0.out.lt); replace HX := Lib.hid (HX.out.below hb); replace HP := Lib.hid (HP.out.below hb); replace B1 := Lib.hid (B1.out.trans (hb.mono B1.out.size)); have FX := Lib.hid q1; have FP := Lib.hid q2; have F0 := Lib.hid q3; have FE := Lib.hid q4; have FN := Lib.hid (Nat.le_trans q5 LN.out); have FM := Lib.hid q6; clear q1 q2 q3 q4 q5 q6; clear hb; have pc1 := Lib.hid trivial))
  clear pc1
  clear hf0
  go_at_call 49
  refine Calls.mono (sign_k (z := Fx) (r := r) FX.out (by rw [← sgR_mk F0.out, FE.out]; exact HR.out)) ?_
  rintro e w4 ⟨rfl, hb⟩
  replace V0 := Lib.hid (V0.out.below hb V0.out.lt)
  replace HX := Lib.hid (HX.out.below hb)
  replace HP := Lib.hid (HP.out.below hb)
  replace FX := Lib.hid (FX.out.below hb)
  replace FP := Lib.hid (FP.out.below hb)
  replace B1 := Lib.hid (B1.out.trans (hb.mono B1.out.size))
  clear hb
  go_wp2
  go_ret
  exact ⟨rfl, B1.out⟩
theorem ret_rb2 {fn : Func} {R : Ending → World → Prop} {a : Act} {w : World} {j l g n c m k : Nat} {s b : Bool} {A D : Option Addr} (hf : fn.results = #[.cell j 26, .tmp l]) (hd : a.defers = [])
    (hk : (a.tmps[j]?).getD undef = .pointer (some ⟨g, 0, none⟩)) (hl : (a.tmps[l]?).getD undef = .bool b) (h : Rb w g s A n c D m k) (hR : R (.returned (.tuple #[.agg #[.bool s, .slice A n c, .slice D m k], .bool b])) w) : bodyPost Tryz.prog fn R .ret a w := by
  have z1 := cell_of_row w g 0 _ _ _ h
  have z2 := cell_of_row w g 1 _ _ _ h
  have z3 := cell_of_row w g 2 _ _ _ h
  exact bodyPost_ret_by (v := .tuple #[.agg #[.bool s, .slice A n c, .slice D m k], .bool b]) (by simp [results, hf, go_sem, hk, hl, z1, z2, z3]) hd hR
/-- A rational number and true. -/
def GivesRT (w : World) (z : Int) (d : Nat) (e : Ending) (w' : World) : Prop :=
  ∃ R c Q k, e = .returned (.tuple #[.agg #[.bool (decide (z < 0)), .slice R (ofv z.natAbs).length c, .slice Q (ofv d).length k], .bool true]) ∧ Own w' w.heap.size R c (ofv z.natAbs) ∧ Own w' w.heap.size Q k (ofv d) ∧ Below w.heap.size w w'
/-- The zero value and false. -/
def GivesRF (w : World) (e : Ending) (w' : World) : Prop := e = .returned (.tuple #[.agg #[.bool false, .slice none 0 0, .slice none 0 0], .bool false]) ∧ Below w.heap.size w w'
theorem sgR_zero {r : Rat} : sgR r = 0 ↔ r = 0 := by
  unfold sgR
  constructor
  · intro h
    rcases sg_cases r.num with ⟨e, h1⟩ | ⟨e, h1⟩ | ⟨e, h1⟩ <;> (try omega)
    exact Rat.num_eq_zero.1 h1
  · intro h; subst h; rfl
/-- The reciprocal's parts. -/
theorem recip_parts {w : World} {s : Bool} {A : Option Addr} {n c : Nat} {x : Int} {p : Nat} {D : Option Addr} {m k : Nat} (h : Zin w s A n c x) (h' : Nin w D m k p) (hx : mkRat x p ≠ 0) :
    Zin w s D m k (zv s p) ∧ Nin w A n c x.natAbs ∧ mkRat (zv s p) x.natAbs = (mkRat x p)⁻¹ := by
  have hp : p ≠ 0 := fun e => hx (by rw [e, Rat.mkRat_zero])
  have hx0 : x ≠ 0 := fun e => hx (by rw [e, Rat.zero_mkRat])
  obtain ⟨ys, k1, k2, k3⟩ := h'
  refine ⟨⟨ys, k1, k2, by rw [k3]⟩, h.mag rfl, ?_⟩
  obtain ⟨xs, l1, l2, l3⟩ := h
  have es : decide (x < 0) = s := by
    rw [← l3, zv_neg]
    have : val xs ≠ 0 := fun e => hx0 (by rw [← l3, e, zv_zero])
    cases s <;> simp; omega
  rw [mk_inv hx0 (by omega), es]
set_option maxRecDepth 100000 in
set_option maxHeartbeats 16000000 in
theorem qinv_zero {s : Bool} {A D : Option Addr} {n c m k L : Nat} {x : Int} {p : Nat} {w : World} (h : Zin w s A n c x) (h' : Nin w D m k p) (hn : n ≤ L) (hm : m ≤ L) (hL : 1 ≤ L ∧ L ≤ 70368744177660) (hx : mkRat x p = 0) :
    Calls Tryz.prog 28 #[.agg #[.bool s, .slice A n c, .slice D m k]] w (GivesRF w) := by
  obtain ⟨B1, V0, V1⟩ := start_RR w s A n c D m k
  have HX := Lib.hid (h.below B1.out)
  have HP := Lib.hid (h'.below B1.out)
  have LN := Lib.hid hn
  have LM := Lib.hid hm
  have L1 := Lib.hid hL.1
  have L2 := Lib.hid hL.2
  have LL := Lib.hid hL
  have L4 : Hid (L ≤ 70368744177664) := Nat.le_trans hL.2 (by decide)
  obtain ⟨r, hr⟩ : ∃ z0 : Int, sgR (mkRat x p) = z0 := ⟨_, rfl⟩
  have HR := Lib.hid hr
  have hr0 : (r == 0) = true := by
    have h1 := sgR_zero (r := mkRat x p)
    rw [hr] at h1
    simp
    exact h1.2 hx
  clear hr hx
  clear h h' hn hm hL
  go_enter Tryz.func28, Tryz.ntmps28
  go_wp2_with fail
  generalize ((w.alloc (.cells #[.bool s, .slice A n c, .slice D m k] 26)).alloc (.cells #[.bool false, .slice none 0 0, .slice none 0 0] 26)) = w2 at *
  have pc0 := Lib.hid trivial
  go_wp2_with (first
    | (clear pc0; go_at_call 63; refine Calls.mono (qsign_any (r := r) HX.out HP.out LN.out LM.out LL.out HR.out) ?_; rintro e w3 ⟨rfl, hb⟩; replace V0 := Lib.hid (V0.out.below hb V0.out.lt); replace V1 := Lib.hid (V1.out.below hb V1.out.lt); replace HX := Lib.hid (HX.out.below hb); replace HP := Lib.hid (HP.out.below hb); replace B1 := Lib.hid (B1.out.trans (hb.mono B1.out.size)); clear hb; have pc1 := Lib.hid trivial)
    | (clear pc1; refine wpList_stR (by rfl) _ _ rfl (by rfl) (by rfl) V1.out ?_; intro w4 hz hg; replace V0 := Lib.hid (V0.out.gro hg (by omega)); replace HX := Lib.hid (HX.out.grR V1.out hg); replace HP := Lib.hid (HP.out.grR V1.out hg); replace B1 := Lib.hid (Below.gr B1.out (by omega) hg B1.out.size); replace V1 := Lib.hid hz; clear hz hg; have pc2 := Lib.hid trivial))
  clear pc2
  exact ret_rb2 Tryz.results28 rfl rfl rfl V1.out ⟨rfl, B1.out⟩
set_option maxRecDepth 100000 in
set_option maxHeartbeats 16000000 in
theorem qinv_any {s : Bool} {A D : Option Addr} {n c m k L : Nat} {x : Int} {p : Nat} {w : World} (h : Zin w s A n c x) (h' : Nin w D m k p) (hn : n ≤ L) (hm : m ≤ L) (hL : 1 ≤ L ∧ L ≤ 70368744177660) {z : Int} {d : Nat} (hx : mkRat x p ≠ 0) (hz : (mkRat x p)⁻¹.num = z) (hd : (mkRat x p)⁻¹.den = d) :
    Calls Tryz.prog 28 #[.agg #[.bool s, .slice A n c, .slice D m k]] w (GivesRT w z d) := by
  obtain ⟨B1, V0, V1⟩ := start_RR w s A n c D m k
  have HX := Lib.hid (h.below B1.out)
  have HP := Lib.hid (h'.below B1.out)
  have LN := Lib.hid hn
  have LM := Lib.hid hm
  have L1 := Lib.hid hL.1
  have L2 := Lib.hid hL.2
  have LL := Lib.hid hL
  have L4 : Hid (L ≤ 70368744177664) := Nat.le_trans hL.2 (by decide)
  obtain ⟨r, hr⟩ : ∃ z0 : Int, sgR (mkRat x p) = z0 := ⟨_, rfl⟩
  have HR := Lib.hid hr
  have hr0 : (r == 0) = false := by
    have h1 := sgR_zero (r := mkRat x p)
    rw [hr] at h1
    simp
    intro e; exact hx (h1.1 e)
  obtain ⟨zp, ezp⟩ : ∃ z0 : Int, zv s p = z0 := ⟨_, rfl⟩
  obtain ⟨ax, eax⟩ : ∃ z0 : Nat, x.natAbs = z0 := ⟨_, rfl⟩
  obtain ⟨r1, r2, r3⟩ := recip_parts (h.below B1.out) (h'.below B1.out) hx
  rw [ezp, eax] at r3
  rw [ezp] at r1
  rw [eax] at r2
  have RX := Lib.hid r1
  have RP := Lib.hid r2
  have HZ1 : Hid ((mkRat zp ax).num = z) := by show _ = _; rw [r3]; exact hz
  have HD1 : Hid ((mkRat zp ax).den = d) := by show _ = _; rw [r3]; exact hd
  clear r1 r2 r3 ezp eax hz hd
  clear hr hx
  clear h h' hn hm hL
  go_enter Tryz.func28, Tryz.ntmps28
  go_wp2_with fail
  generalize ((w.alloc (.cells #[.bool s, .slice A n c, .slice D m k] 26)).alloc (.cells #[.bool false, .slice none 0 0, .slice none 0 0] 26)) = w2 at *
  have pc0 := Lib.hid trivial
  go_wp2_with (first
    | (clear pc0; go_at_call 63; refine Calls.mono (qsign_any (r := r) HX.out HP.out LN.out LM.out LL.out HR.out) ?_; rintro e w3 ⟨rfl, hb⟩; replace V0 := Lib.hid (V0.out.below hb V0.out.lt); replace V1 := Lib.hid (V1.out.below hb V1.out.lt); replace HX := Lib.hid (HX.out.below hb); replace HP := Lib.hid (HP.out.below hb); replace RX := Lib.hid (RX.out.below hb); replace RP := Lib.hid (RP.out.below hb); replace B1 := Lib.hid (B1.out.trans (hb.mono B1.out.size)); clear hb; have pc1 := Lib.hid trivial)
    | (clear pc1; refine wpList_ldR (by rfl) _ rfl (by rfl) V0.out ?_; have pc2 := Lib.hid trivial)
    | (clear pc2; go_at_call 74; refine Calls.mono (reciprocal_any _ _ _ _ _ _ _ _) ?_; rintro e w4 ⟨rfl, hb⟩; replace V0 := Lib.hid (V0.out.below hb V0.out.lt); replace V1 := Lib.hid (V1.out.below hb V1.out.lt); replace HX := Lib.hid (HX.out.below hb); replace HP := Lib.hid (HP.out.below hb); replace RX := Lib.hid (RX.out.below hb); replace RP := Lib.hid (RP.out.below hb); replace B1 := Lib.hid (B1.out.trans (hb.mono B1.out.size)); clear hb; have pc3 := Lib.hid trivial)
    | (clear pc3; have SZ := Lib.hid B1.out.size; go_at_call 30; refine Calls.mono (norm_any (z := z) (d := d) RX.out RP.out LM.out LN.out LL.out HZ1.out HD1.out) ?_; rintro e w5 ⟨P1, c1, P2, c2, rfl, ho, ho2, hb⟩; replace V0 := Lib.hid (V0.out.below hb V0.out.lt); replace V1 := Lib.hid (V1.out.below hb V1.out.lt); replace HX := Lib.hid (HX.out.below hb); replace HP := Lib.hid (HP.out.below hb); replace RX := Lib.hid (RX.out.below hb); replace RP := Lib.hid (RP.out.below hb); replace B1 := Lib.hid (B1.out.trans (hb.mono B1.out.size)); have OQ := Lib.hid (ho.mono SZ.out); have OD := Lib.hid (ho2.mono SZ.out); clear ho ho2 SZ; clear hb; have pc4 := Lib.hid trivial)
    | (clear pc4; refine wpList_stR (by rfl) _ _ rfl (by rfl) (by rfl) V1.out ?_; intro w6 hz hg; replace V0 := Lib.hid (V0.out.gro hg (by omega)); replace HX := Lib.hid (HX.out.grR V1.out hg); replace HP := Lib.hid (HP.out.grR V1.out hg); replace RX := Lib.hid (RX.out.grR V1.out hg); replace RP := Lib.hid (RP.out.grR V1.out hg); replace OQ := Lib.hid (OQ.out.grR V1.out hg); replace OD := Lib.hid (OD.out.grR V1.out hg); replace B1 := Lib.hid (Below.gr B1.out (by omega) hg B1.out.size); replace V1 := Lib.hid hz; clear hz hg; have pc5 := Lib.hid trivial))
  clear pc5
  exact ret_rb2 Tryz.results28 rfl rfl rfl V1.out ⟨_, _, _, _, rfl, OQ.out, OD.out, B1.out⟩
set_option maxRecDepth 100000 in
set_option maxHeartbeats 16000000 in
theorem qdiv_zero {s t : Bool} {A D B E : Option Addr} {n c m k n2 c2 m2 k2 L : Nat} {x y : Int} {p q : Nat} {w : World} (h : Zin w s A n c x) (hp : Nin w D m k p) (h' : Zin w t B n2 c2 y) (hq : Nin w E m2 k2 q) (hn : n ≤ L) (hm : m ≤ L) (hn2 : n2 ≤ L) (hm2 : m2 ≤ L) (hL : 1 ≤ L ∧ L ≤ 35184372088829) (hy : mkRat y q = 0) :
    Calls Tryz.prog 27 #[.agg #[.bool s, .slice A n c, .slice D m k], .agg #[.bool t, .slice B n2 c2, .slice E m2 k2]] w (GivesRF w) := by
  obtain ⟨B1, V0, V1, V2⟩ := start_RRR w s A n c D m k t B n2 c2 E m2 k2
  have HX := Lib.hid (h.below B1.out)
  have HP := Lib.hid (hp.below B1.out)
  have HY := Lib.hid (h'.below B1.out)
  have HQ := Lib.hid (hq.below B1.out)
  have LN := Lib.hid hn
  have LM := Lib.hid hm
  have LN2 := Lib.hid hn2
  have LM2 := Lib.hid hm2
  have L1 := Lib.hid hL.1
  have L2 := Lib.hid hL.2
  have L4 : Hid (L ≤ 70368744177664) := Nat.le_trans hL.2 (by decide)
  have LL : Hid (1 ≤ L ∧ L ≤ 35184372088829) := hL
  have LL2 : Hid (1 ≤ L ∧ L ≤ 70368744177660) := ⟨hL.1, Nat.le_trans hL.2 (by decide)⟩
  obtain ⟨r, hr⟩ : ∃ z0 : Int, sgR (mkRat y q) = z0 := ⟨_, rfl⟩
  have HR := Lib.hid hr
  have hr0 : (r == 0) = true := by
    have h1 := sgR_zero (r := mkRat y q)
    rw [hr] at h1
    simp
    exact h1.2 hy
  clear hr hy
  clear h hp h' hq hn hm hn2 hm2 hL
  go_enter Tryz.func27, Tryz.ntmps27
  go_wp2_with fail
  generalize (((w.alloc (.cells #[.bool s, .slice A n c, .slice D m k] 26)).alloc (.cells #[.bool t, .slice B n2 c2, .slice E m2 k2] 26)).alloc (.cells #[.bool false, .slice none 0 0, .slice none 0 0] 26)) = w2 at *
  have pc0 := Lib.hid trivial
  go_wp2_with (first
    | (clear pc0; go_at_call 63; refine Calls.mono (qsign_any (r := r) HY.out HQ.out LN2.out LM2.out LL2.out HR.out) ?_; rintro e w3 ⟨rfl, hb⟩; replace V0 := Lib.hid (V0.out.below hb V0.out.lt); replace V1 := Lib.hid (V1.out.below hb V1.out.lt); replace V2 := Lib.hid (V2.out.below hb V2.out.lt); replace HX := Lib.hid (HX.out.below hb); replace HP := Lib.hid (HP.out.below hb); replace HY := Lib.hid (HY.out.below hb); replace HQ := Lib.hid (HQ.out.below hb); replace B1 := Lib.hid (B1.out.trans (hb.mono B1.out.size)); clear hb; have pc1 := Lib.hid trivial)
    | (clear pc1; refine wpList_stR (by rfl) _ _ rfl (by rfl) (by rfl) V2.out ?_; intro w4 hz hg; replace V0 := Lib.hid (V0.out.gro hg (by omega)); replace V1 := Lib.hid (V1.out.gro hg (by omega)); replace HX := Lib.hid (HX.out.grR V2.out hg); replace HP := Lib.hid (HP.out.grR V2.out hg); replace HY := Lib.hid (HY.out.grR V2.out hg); replace HQ := Lib.hid (HQ.out.grR V2.out hg); replace B1 := Lib.hid (Below.gr B1.out (by omega) hg B1.out.size); replace V2 := Lib.hid hz; clear hz hg; have pc2 := Lib.hid trivial))
  clear pc2
  exact ret_rb2 Tryz.results27 rfl rfl rfl V2.out ⟨rfl, B1.out⟩
set_option maxRecDepth 100000 in
set_option maxHeartbeats 16000000 in
theorem qdiv_any {s t : Bool} {A D B E : Option Addr} {n c m k n2 c2 m2 k2 L : Nat} {x y : Int} {p q : Nat} {w : World} (h : Zin w s A n c x) (hp : Nin w D m k p) (h' : Zin w t B n2 c2 y) (hq : Nin w E m2 k2 q) (hn : n ≤ L) (hm : m ≤ L) (hn2 : n2 ≤ L) (hm2 : m2 ≤ L) (hL : 1 ≤ L ∧ L ≤ 35184372088829) {z : Int} {d : Nat} (hy : mkRat y q ≠ 0) (hz : (mkRat x p * (mkRat y q)⁻¹).num = z) (hd : (mkRat x p * (mkRat y q)⁻¹).den = d) :
    Calls Tryz.prog 27 #[.agg #[.bool s, .slice A n c, .slice D m k], .agg #[.bool t, .slice B n2 c2, .slice E m2 k2]] w (GivesRT w z d) := by
  obtain ⟨B1, V0, V1, V2⟩ := start_RRR w s A n c D m k t B n2 c2 E m2 k2
  have HX := Lib.hid (h.below B1.out)
  have HP := Lib.hid (hp.below B1.out)
  have HY := Lib.hid (h'.below B1.out)
  have HQ := Lib.hid (hq.below B1.out)
  have LN := Lib.hid hn
  have LM := Lib.hid hm
  have LN2 := Lib.hid hn2
  have LM2 := Lib.hid hm2
  have L1 := Lib.hid hL.1
  have L2 := Lib.hid hL.2
  have L4 : Hid (L ≤ 70368744177664) := Nat.le_trans hL.2 (by decide)
  have LL : Hid (1 ≤ L ∧ L ≤ 35184372088829) := hL
  have LL2 : Hid (1 ≤ L ∧ L ≤ 70368744177660) := ⟨hL.1, Nat.le_trans hL.2 (by decide)⟩
  obtain ⟨r, hr⟩ : ∃ z0 : Int, sgR (mkRat y q) = z0 := ⟨_, rfl⟩
  have HR := Lib.hid hr
  have hr0 : (r == 0) = false := by
    have h1 := sgR_zero (r := mkRat y q)
    rw [hr] at h1
    simp
    intro e; exact hy (h1.1 e)
  obtain ⟨zp, ezp⟩ : ∃ z0 : Int, zv t q = z0 := ⟨_, rfl⟩
  obtain ⟨ax, eax⟩ : ∃ z0 : Nat, y.natAbs = z0 := ⟨_, rfl⟩
  obtain ⟨r1, r2, r3⟩ := recip_parts (h'.below B1.out) (hq.below B1.out) hy
  rw [ezp, eax] at r3
  rw [ezp] at r1
  rw [eax] at r2
  have RX := Lib.hid r1
  have RP := Lib.hid r2
  have HZ1 : Hid ((mkRat x p * mkRat zp ax).num = z) := by show _ = _; rw [r3]; exact hz
  have HD1 : Hid ((mkRat x p * mkRat zp ax).den = d) := by show _ = _; rw [r3]; exact hd
  clear r1 r2 r3 ezp eax hz hd
  clear hr hy
  clear h hp h' hq hn hm hn2 hm2 hL
  go_enter Tryz.func27, Tryz.ntmps27
  go_wp2_with fail
  generalize (((w.alloc (.cells #[.bool s, .slice A n c, .slice D m k] 26)).alloc (.cells #[.bool t, .slice B n2 c2, .slice E m2 k2] 26)).alloc (.cells #[.bool false, .slice none 0 0, .slice none 0 0] 26)) = w2 at *
  have pc0 := Lib.hid trivial
  go_wp2_with (first
    | (clear pc0; go_at_call 63; refine Calls.mono (qsign_any (r := r) HY.out HQ.out LN2.out LM2.out LL2.out HR.out) ?_; rintro e w3 ⟨rfl, hb⟩; replace V0 := Lib.hid (V0.out.below hb V0.out.lt); replace V1 := Lib.hid (V1.out.below hb V1.out.lt); replace V2 := Lib.hid (V2.out.below hb V2.out.lt); replace HX := Lib.hid (HX.out.below hb); replace HP := Lib.hid (HP.out.below hb); replace HY := Lib.hid (HY.out.below hb); replace HQ := Lib.hid (HQ.out.below hb); replace RX := Lib.hid (RX.out.below hb); replace RP := Lib.hid (RP.out.below hb); replace B1 := Lib.hid (B1.out.trans (hb.mono B1.out.size)); clear hb; have pc1 := Lib.hid trivial))
  clear pc1
  have HB : Hid (Below w3.heap.size w3 w3.drew) := below_drewN _ w3 1
  refine wp_region_held_drew (S := fun w' => w3.grownBy w' (some (w.heap.size + 2))) (by kernel_rfl) ((grown_below HB.out : World.grownBy _ _ (some (w.heap.size + 2)))) (fun hHeld => ?_)
  refine wpAnyH_takeL (i := 0) (oi := _) rfl (by kernel_rfl) (by kernel_rfl) (by kernel_rfl) (fun _ _ _ h => h) (yields_ldR (by rfl) _ rfl (by rfl) (fun _ hb => V0.out.gro hb (by omega))) hHeld ?_
  try simp only [Act.put, List.setIfInBounds_toArray, List.set_cons_zero, List.set_cons_succ]
  refine wpAnyH_takeL (i := 1) (oi := _) rfl (by kernel_rfl) (by kernel_rfl) (by kernel_rfl) (fun _ _ _ h => h) (yields_ldR (by rfl) _ rfl (by rfl) (fun _ hb => V1.out.gro hb (by omega))) hHeld ?_
  try simp only [Act.put, List.setIfInBounds_toArray, List.set_cons_zero, List.set_cons_succ]
  refine wpAnyH_ready (rs := [2]) (by kernel_rfl) (by simp) ?_
  refine AllReadyH.consL (o := _) rfl (fun K hK => ?_) AllReadyH.nil
  clear hHeld
  go_simp
  go_at_call 74
  refine Calls.mono (reciprocal_any _ _ _ _ _ _ _ _) ?_
  rintro e w4 ⟨rfl, hb⟩
  replace HB := Lib.hid (HB.out.trans (hb.mono HB.out.size))
  clear hb
  refine hK.out _ _ (grown_below HB.out : World.grownBy _ _ (some (w.heap.size + 2))) (fun hHeld => ?_)
  clear hK K
  try simp only [Act.put, List.setIfInBounds_toArray, List.set_cons_zero, List.set_cons_succ]
  refine wpAnyH_ready (rs := [3]) (by kernel_rfl) (by simp) ?_
  refine AllReadyH.consL (o := _) rfl (fun K hK => ?_) AllReadyH.nil
  clear hHeld
  have SZ := Lib.hid (Nat.le_trans B1.out.size HB.out.size)
  go_simp
  go_at_call 34
  refine Calls.mono (qmul_any (z := z) (d := d) (HX.out.below HB.out) (HP.out.below HB.out) (RX.out.below HB.out) (RP.out.below HB.out) LN.out LM.out LM2.out LN2.out LL.out HZ1.out HD1.out) ?_
  rintro e w5 ⟨P1, c1, P2, c2, rfl, ho, ho2, hb⟩
  replace HB := Lib.hid (HB.out.trans (hb.mono HB.out.size))
  have OQ := Lib.hid (ho.mono SZ.out)
  have OD := Lib.hid (ho2.mono SZ.out)
  clear ho ho2 SZ
  clear hb
  refine hK.out _ _ (grown_below HB.out : World.grownBy _ _ (some (w.heap.size + 2))) (fun hHeld => ?_)
  clear hK K
  try simp only [Act.put, List.setIfInBounds_toArray, List.set_cons_zero, List.set_cons_succ]
  refine wpAnyH_ready (rs := [4]) (by kernel_rfl) (by simp) ?_
  refine AllReadyH.consL (o := _) rfl (fun K hK => ?_) AllReadyH.nil
  clear hHeld
  have hb := HB.out
  replace V0 := Lib.hid (V0.out.below hb V0.out.lt)
  replace V1 := Lib.hid (V1.out.below hb V1.out.lt)
  replace V2 := Lib.hid (V2.out.below hb V2.out.lt)
  replace HX := Lib.hid (HX.out.below hb)
  replace HP := Lib.hid (HP.out.below hb)
  replace HY := Lib.hid (HY.out.below hb)
  replace HQ := Lib.hid (HQ.out.below hb)
  replace RX := Lib.hid (RX.out.below hb)
  replace RP := Lib.hid (RP.out.below hb)
  replace B1 := Lib.hid (B1.out.trans (hb.mono B1.out.size))
  rw [if_pos (by rfl)]
  refine wp_stR _ _ rfl (by rfl) (by rfl) V2.out ?_
  intro wst hz hg
  replace V0 := Lib.hid (V0.out.gro hg (by omega))
  replace V1 := Lib.hid (V1.out.gro hg (by omega))
  replace HX := Lib.hid (HX.out.grR V2.out hg)
  replace HP := Lib.hid (HP.out.grR V2.out hg)
  replace HY := Lib.hid (HY.out.grR V2.out hg)
  replace HQ := Lib.hid (HQ.out.grR V2.out hg)
  replace RX := Lib.hid (RX.out.grR V2.out hg)
  replace RP := Lib.hid (RP.out.grR V2.out hg)
  replace OQ := Lib.hid (OQ.out.grR V2.out hg)
  replace OD := Lib.hid (OD.out.grR V2.out hg)
  replace B1 := Lib.hid (Below.gr B1.out (by omega) hg B1.out.size)
  replace V2 := Lib.hid hz
  refine hK.out _ _ (World.grownBy.trans (grown_below hb) hg) (fun hHeld => ?_)
  clear hK K hg hb HB hz
  try simp only [Act.put]
  refine wpAnyH_takeL (i := 5) (oi := _) (v := ?_) rfl (by kernel_rfl) (by kernel_rfl) (by kernel_rfl) (fun _ _ _ h => h) (Or.inl ⟨by rfl, ?_⟩) hHeld ?_
  rotate_left
  · (intro w' hSw; (try dsimp only at hSw); go_simp; try (with_reducible rfl))
  try simp only [Act.put, List.setIfInBounds_toArray, List.set_cons_zero, List.set_cons_succ]
  skip
  refine wpAnyH_done (by kernel_rfl) ?_ _
  clear hHeld
  go_wp2
  exact ret_rb2 Tryz.results27 rfl rfl rfl V2.out ⟨_, _, _, _, rfl, OQ.out, OD.out, B1.out⟩
end Go.Proofs.YtfmgbfdnmconiaaGreat
