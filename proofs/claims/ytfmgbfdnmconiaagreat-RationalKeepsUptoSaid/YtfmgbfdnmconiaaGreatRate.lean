/-
  Contracts of package rational: Floor, isEven, Round, Size.
-/
import Derived.Test.YtfmgbfdnmconiaaGreatRatt
namespace Go.Proofs.YtfmgbfdnmconiaaGreat
open Go.RowKit
set_option linter.unusedVariables false

set_option maxRecDepth 100000 in
set_option maxHeartbeats 16000000 in
theorem qfloor_any {s : Bool} {A D : Option Addr} {n c m k L : Nat} {x : Int} {p : Nat} {w : World} (h : Zin w s A n c x) (h' : Nin w D m k p) (hn : n ≤ L) (hm : m ≤ L) (hL : 1 ≤ L ∧ L ≤ 70368744177660) {v : Int} (hv : (mkRat x p).floor = v) :
    Calls Tryz.prog 39 #[.agg #[.bool s, .slice A n c, .slice D m k]] w (GivesZ w v) := by
  obtain ⟨B1, V0, V1⟩ := start_RZ w s A n c D m k
  have HX := Lib.hid (h.below B1.out)
  have HP := Lib.hid (h'.below B1.out)
  have LN := Lib.hid hn
  have LM := Lib.hid hm
  have L1 := Lib.hid hL.1
  have L2 := Lib.hid hL.2
  have LL := Lib.hid hL
  have L4 : Hid (L ≤ 70368744177664) := Nat.le_trans hL.2 (by decide)
  have HV := Lib.hid hv
  clear hv
  clear h h' hn hm hL
  go_enter Tryz.func39, Tryz.ntmps39
  go_wp2_with fail
  generalize ((w.alloc (.cells #[.bool s, .slice A n c, .slice D m k] 26)).alloc (.cells #[.bool false, .slice none 0 0] 24)) = w2 at *
  have pc0 := Lib.hid trivial
  go_wp2_with (first
    | (clear pc0; have SZ := Lib.hid B1.out.size; go_at_call 85; refine Calls.mono (split_any HX.out HP.out LN.out LM.out LL.out) ?_; rintro e w3 ⟨P1, c1, P2, c2, SD, Sm, Sk, f, r, x1, p1, rfl, ho, q1, q2, q3, q4, q5, q6, q7, q8, hb⟩; replace V0 := Lib.hid (V0.out.below hb V0.out.lt); replace V1 := Lib.hid (V1.out.below hb V1.out.lt); replace HX := Lib.hid (HX.out.below hb); replace HP := Lib.hid (HP.out.below hb); replace B1 := Lib.hid (B1.out.trans (hb.mono B1.out.size)); have OF := Lib.hid (ho.mono SZ.out); have EV : Hid (f = v) := (q5.trans (floor_mk q3).symm).trans ((congrArg Rat.floor q4).trans HV.out); clear ho q1 q2 q3 q4 q5 q6 q7 q8 SZ; clear hb; have pc1 := Lib.hid trivial)
    | (clear pc1; have hb : Below w3.heap.size w3 (w3.alloc (.cells #[.bool (decide (f < 0)), .slice P1 (ofv f.natAbs).length c1] 24)) := (Below.refl _ _).alloc (Nat.le_refl _) _; replace V0 := Lib.hid (V0.out.below hb V0.out.lt); replace V1 := Lib.hid (V1.out.below hb V1.out.lt); replace HX := Lib.hid (HX.out.below hb); replace HP := Lib.hid (HP.out.below hb); replace OF := Lib.hid (OF.out.below hb); replace B1 := Lib.hid (B1.out.trans (hb.mono B1.out.size)); clear hb; refine wpList_stZ (by rfl) _ _ rfl (by rfl) (by rfl) V1.out ?_; intro w4 hz hg; replace V0 := Lib.hid (V0.out.gro hg (by omega)); replace HX := Lib.hid (HX.out.gr V1.out hg); replace HP := Lib.hid (HP.out.gr V1.out hg); replace OF := Lib.hid (OF.out.gr V1.out hg); replace B1 := Lib.hid (Below.gr B1.out (by omega) hg B1.out.size); replace V1 := Lib.hid hz; clear hz hg; have pc2 := Lib.hid trivial))
  clear pc2
  have hv := EV.out
  subst hv
  exact ret_zb Tryz.results39 rfl rfl V1.out ⟨_, _, rfl, OF.out, B1.out⟩
theorem val_even (xs : List Nat) (h : 0 < xs.length) : val xs % 2 = lim xs 0 % 2 := by
  cases xs with
  | nil => simp at h
  | cons a l => simp [val, lim]; omega
theorem even_abs (z : Int) : (z % 2 = 0) ↔ z.natAbs % 2 = 0 := by omega
set_option maxRecDepth 100000 in
set_option maxHeartbeats 16000000 in
theorem isEven_nil (s : Bool) (A : Option Addr) (c : Nat) (w : World) :
    Calls Tryz.prog 89 #[.agg #[.bool s, .slice A 0 c]] w fun e w' => e = .returned (.bool true) ∧ Below w.heap.size w w' := by
  go_enter Tryz.func89, Tryz.ntmps89
  go_wp2
  go_ret
  exact ⟨rfl, (Below.refl _ _).alloc (Nat.le_refl _) _⟩
set_option maxRecDepth 100000 in
set_option maxHeartbeats 16000000 in
theorem isEven_cons (s : Bool) (bb oo n c : Nat) (l : Int) (b : Bool) (w : World) (hn : 0 < n) (hn2 : n ≤ 9223372036854775807) (hl : 0 ≤ l ∧ l ≤ 4294967295) (hc : w.cell? ⟨bb, oo, none⟩ = some (.int .u32 l)) (hlt : bb < w.heap.size) (hb : (l % 2 == 0) = b) :
    Calls Tryz.prog 89 #[.agg #[.bool s, .slice (some ⟨bb, oo, none⟩) n c]] w fun e w' => e = .returned (.bool b) ∧ Below w.heap.size w w' := by
  have hc2 : (w.alloc (.cells #[.bool s, .slice (some ⟨bb, oo, none⟩) n c] 24)).cell? ⟨bb, oo, none⟩ = some (.int .u32 l) := (World.cell?_alloc_lt _ _ _ hlt).trans hc
  have hl0 := hl.1
  have hl1 := hl.2
  have e0 : ((n : Int) == 0) = false := by simp; omega
  have e1 : (0 : Int) < n := by omega
  have e2 : ¬ n = 0 := by omega
  clear hc hl hlt
  go_enter Tryz.func89, Tryz.ntmps89
  go_wp2
  go_ret
  exact ⟨rfl, (Below.refl _ _).alloc (Nat.le_refl _) _⟩
theorem isEven_any {R : Option Addr} {c : Nat} {z : Int} {b : Bool} {w : World} (h : Zo w R c z) (hb : decide (z % 2 = 0) = b) :
    Calls Tryz.prog 89 #[.agg #[.bool (decide (z < 0)), .slice R (ofv z.natAbs).length c]] w fun e w' => e = .returned (.bool b) ∧ Below w.heap.size w w' := by
  rcases Nat.eq_zero_or_pos z.natAbs with h0 | h0
  · have hl : (ofv z.natAbs).length = 0 := len_zero_iff.2 h0
    have e0 : z = 0 := by omega
    have hb' : b = true := by rw [← hb, e0]; rfl
    rw [hl, hb']
    exact isEven_nil _ _ _ _
  · have hp := len_pos h0
    obtain ⟨bb, oo, hA, hlt, hc⟩ := Rd.at_ h (k := 0) hp
    have hc0 := hc 0 hp
    have hlim := lim_lt (Rd.ok h) 0
    have hev := val_even (ofv z.natAbs) hp
    have hcap := Rd.capLe h
    have hle := Rd.len h
    rw [val_ofv] at hev
    subst hA
    refine isEven_cons _ bb oo _ c _ b w hp (by omega) ⟨by omega, by omega⟩ hc0 hlt ?_
    rw [← hb]
    have := even_abs z
    rw [Bool.eq_iff_iff]
    simp
    omega
/-- The nearest integer; of two the even one. -/
def rndR (r : Rat) : Int := if sgR (r + r - mkRat (2 * r.floor + 1) 1) < 0 ∨ (sgR (r + r - mkRat (2 * r.floor + 1) 1) = 0 ∧ r.floor % 2 = 0) then r.floor else r.floor + 1
theorem mk_double {x : Int} {p : Nat} (hp : 0 < p) : mkRat x p + mkRat x p = mkRat (x + x) p := by
  rw [Rat.mkRat_add_mkRat _ _ (by omega) (by omega), ← Int.add_mul, Rat.mkRat_mul_right (by omega)]
theorem cmp_sg (a b : Nat) : cmp a b = sg ((a : Int) - b) := by
  rcases cmp_cases a b with ⟨e, h⟩ | ⟨e, h⟩ | ⟨e, h⟩ <;> rw [e]
  · exact (sg_neg (by omega)).symm
  · subst h; rw [Int.sub_self]; rfl
  · exact (sg_pos (by omega)).symm
theorem rnd_mk {x f : Int} {p r : Nat} (hp : 0 < p) (hf : f = x / (p : Int)) (hr : ((r : Nat) : Int) = x % (p : Int)) : rndR (mkRat x p) = if cmp (r + r) p < 0 ∨ (cmp (r + r) p = 0 ∧ f % 2 = 0) then f else f + 1 := by
  have h1 : (mkRat x p).floor = f := by rw [floor_mk hp, hf]
  have h2 : sgR (mkRat x p + mkRat x p - mkRat (2 * f + 1) 1) = cmp (r + r) p := by
    rw [mk_double hp, sgR_sub hp (by decide), cmp_sg]
    congr 1
    have h3 := Int.mul_ediv_add_emod x (p : Int)
    rw [← hf, ← hr] at h3
    rw [Int.natCast_add]
    have h4 : (2 * f + 1) * (p : Int) = 2 * ((p : Int) * f) + p := by rw [Int.add_mul, Int.mul_assoc, Int.mul_comm f, Int.one_mul]
    rw [h4]
    omega
  unfold rndR
  rw [h1, h2]
set_option maxRecDepth 100000 in
set_option maxHeartbeats 16000000 in
theorem qround_any {s : Bool} {A D : Option Addr} {n c m k L : Nat} {x : Int} {p : Nat} {w : World} (h : Zin w s A n c x) (h' : Nin w D m k p) (hn : n ≤ L) (hm : m ≤ L) (hL : 1 ≤ L ∧ L ≤ 70368744177660) {v : Int} (hv : rndR (mkRat x p) = v) :
    Calls Tryz.prog 41 #[.agg #[.bool s, .slice A n c, .slice D m k]] w (GivesZ w v) := by
  obtain ⟨B1, V0, V1⟩ := start_RZ w s A n c D m k
  have HX := Lib.hid (h.below B1.out)
  have HP := Lib.hid (h'.below B1.out)
  have LN := Lib.hid hn
  have LM := Lib.hid hm
  have L1 := Lib.hid hL.1
  have L2 := Lib.hid hL.2
  have LL := Lib.hid hL
  have L4 : Hid (L ≤ 70368744177664) := Nat.le_trans hL.2 (by decide)
  have HV := Lib.hid hv
  clear hv
  clear h h' hn hm hL
  go_enter Tryz.func41, Tryz.ntmps41
  go_wp2_with fail
  generalize ((w.alloc (.cells #[.bool s, .slice A n c, .slice D m k] 26)).alloc (.cells #[.bool false, .slice none 0 0] 24)) = w2 at *
  have SZ := Lib.hid B1.out.size
  refine (split_any HX.out HP.out LN.out LM.out LL.out).mono ?_
  rintro e w3 ⟨P1, c1, P2, c2, SD, Sm, Sk, f, r, x1, p1, rfl, ho, q1, q2, q3, q4, q5, q6, q7, q8, hb⟩
  replace V0 := Lib.hid (V0.out.below hb V0.out.lt)
  replace V1 := Lib.hid (V1.out.below hb V1.out.lt)
  replace HX := Lib.hid (HX.out.below hb)
  replace HP := Lib.hid (HP.out.below hb)
  replace B1 := Lib.hid (B1.out.trans (hb.mono B1.out.size))
  have OF := Lib.hid (ho.mono SZ.out)
  have NR := Lib.hid q1
  have ND := Lib.hid q2
  obtain ⟨sd, esd⟩ : ∃ z0 : Int, cmp (r + r) p1 = z0 := ⟨_, rfl⟩
  obtain ⟨dbl, edbl⟩ : ∃ z0 : Nat, r + r = z0 := ⟨_, rfl⟩
  obtain ⟨bev, ebev⟩ : ∃ b : Bool, decide (f % 2 = 0) = b := ⟨_, rfl⟩
  have EV : v = if sd < 0 ∨ (sd = 0 ∧ f % 2 = 0) then f else f + 1 := by rw [← esd, ← rnd_mk q3 q5 q6, q4]; exact HV.out.symm
  have lrr : r < p1 := by have := Int.emod_lt_of_pos x1 (show (0 : Int) < p1 by omega); omega
  have lr := len_mono (Nat.le_of_lt lrr)
  have lp := Nat.le_trans q2.len q7
  have K1 : Hid ((ofv r).length ≤ 70368744177663) := by have := L2.out; show _ ≤ _; omega
  have LF : Hid ((ofv f.natAbs).length ≤ 70368744177663) := by have := L2.out; show _ ≤ _; omega
  have EDBL := Lib.hid edbl
  have ESD : Hid (cmp dbl p1 = sd) := by show _ = _; rw [← edbl]; exact esd
  have EBEV := Lib.hid ebev
  have cases3 : sd = -1 ∨ sd = 0 ∨ sd = 1 := by
    rcases cmp_cases (r + r) p1 with ⟨e, _⟩ | ⟨e, _⟩ | ⟨e, _⟩ <;> rw [esd] at e <;> omega
  have CS : Hid ((sd = -1 ∧ v = f) ∨ (sd = 0 ∧ bev = true ∧ v = f) ∨ (sd = 0 ∧ bev = false ∧ v = f + 1) ∨ (sd = 1 ∧ v = f + 1)) := by
    show _ ∨ _
    rcases cases3 with e | e | e
    · exact .inl ⟨e, by rw [EV, if_pos (.inl (by omega))]⟩
    · by_cases hf : f % 2 = 0
      · exact .inr (.inl ⟨e, by rw [← ebev]; simpa using hf, by rw [EV, if_pos (.inr ⟨e, hf⟩)]⟩)
      · exact .inr (.inr (.inl ⟨e, by rw [← ebev]; simpa using hf, by rw [EV, if_neg (by omega)]⟩))
    · exact .inr (.inr (.inr ⟨e, by rw [EV, if_neg (by omega)]⟩))
  clear hb ho q1 q2 q3 q4 q5 q6 q7 q8 SZ esd edbl ebev EV lrr lr lp cases3
  have L5 : Hid (w.heap.size + 1 < w3.heap.size) := V1.out.lt
  have hb : Below w3.heap.size w3 (w3.alloc (.cells #[.bool (decide (f < 0)), .slice P1 (ofv f.natAbs).length c1] 24)) := (Below.refl _ _).alloc (Nat.le_refl _) _
  replace V0 := Lib.hid (V0.out.below hb V0.out.lt)
  replace V1 := Lib.hid (V1.out.below hb V1.out.lt)
  replace HX := Lib.hid (HX.out.below hb)
  replace HP := Lib.hid (HP.out.below hb)
  replace OF := Lib.hid (OF.out.below hb)
  replace NR := Lib.hid (NR.out.below hb)
  replace ND := Lib.hid (ND.out.below hb)
  replace B1 := Lib.hid (B1.out.trans (hb.mono B1.out.size))
  clear hb
  have V5 := Lib.hid (Zb.new w3 (decide (f < 0)) P1 (ofv f.natAbs).length c1)
  rcases CS.out with ⟨e1, ev⟩ | ⟨e1, e2, ev⟩ | ⟨e1, e2, ev⟩ | ⟨e1, ev⟩
  · have EV := Lib.hid ev
    clear ev CS
    subst e1
    have pc0 := Lib.hid trivial
    go_wp2_with (first
      | (clear pc0; go_at_call 88; refine Calls.mono (add_d NR.out NR.out K1.out K1.out EDBL.out) ?_; rintro e w4 ⟨P3, c3, rfl, ho, hb⟩; replace V0 := Lib.hid (V0.out.below hb V0.out.lt); replace V1 := Lib.hid (V1.out.below hb V1.out.lt); replace HX := Lib.hid (HX.out.below hb); replace HP := Lib.hid (HP.out.below hb); replace OF := Lib.hid (OF.out.below hb); replace NR := Lib.hid (NR.out.below hb); replace ND := Lib.hid (ND.out.below hb); replace V5 := Lib.hid (V5.out.below hb V5.out.lt); replace B1 := Lib.hid (B1.out.trans (hb.mono B1.out.size)); have NS := Lib.hid (Nin.of_own ho); clear ho; clear hb; have pc1 := Lib.hid trivial)
      | (clear pc1; go_at_call 87; refine Calls.mono (compare_d NS.out ND.out ESD.out) ?_; rintro e w5 ⟨rfl, hb⟩; replace V0 := Lib.hid (V0.out.below hb V0.out.lt); replace V1 := Lib.hid (V1.out.below hb V1.out.lt); replace HX := Lib.hid (HX.out.below hb); replace HP := Lib.hid (HP.out.below hb); replace OF := Lib.hid (OF.out.below hb); replace NR := Lib.hid (NR.out.below hb); replace ND := Lib.hid (ND.out.below hb); replace V5 := Lib.hid (V5.out.below hb V5.out.lt); replace NS := Lib.hid (NS.out.below hb); replace B1 := Lib.hid (B1.out.trans (hb.mono B1.out.size)); clear hb; have pc2 := Lib.hid trivial)
      | (clear pc2; refine wpList_ldZ (by rfl) _ rfl (by rfl) V5.out ?_; have pc3 := Lib.hid trivial)
      | (clear pc3; refine wpList_stZ (by rfl) _ _ rfl (by rfl) (by rfl) V1.out ?_; intro w7 hz hg; replace V0 := Lib.hid (V0.out.gro hg (by have := L5.out; omega)); replace HX := Lib.hid (HX.out.gr V1.out hg); replace HP := Lib.hid (HP.out.gr V1.out hg); replace OF := Lib.hid (OF.out.gr V1.out hg); replace NR := Lib.hid (NR.out.gr V1.out hg); replace ND := Lib.hid (ND.out.gr V1.out hg); replace V5 := Lib.hid (V5.out.gr hg (by have := L5.out; omega)); replace NS := Lib.hid (NS.out.gr V1.out hg); replace B1 := Lib.hid (Below.gr B1.out (by have := L5.out; omega) hg B1.out.size); replace V1 := Lib.hid hz; clear hz hg; have pc4 := Lib.hid trivial))
    clear pc4
    have hv := EV.out
    subst hv
    exact ret_zb Tryz.results41 rfl rfl V1.out ⟨_, _, rfl, OF.out, B1.out⟩
  · have EV := Lib.hid ev
    clear ev CS
    subst e1
    subst e2
    have pc0 := Lib.hid trivial
    go_wp2_with (first
      | (clear pc0; go_at_call 88; refine Calls.mono (add_d NR.out NR.out K1.out K1.out EDBL.out) ?_; rintro e w4 ⟨P3, c3, rfl, ho, hb⟩; replace V0 := Lib.hid (V0.out.below hb V0.out.lt); replace V1 := Lib.hid (V1.out.below hb V1.out.lt); replace HX := Lib.hid (HX.out.below hb); replace HP := Lib.hid (HP.out.below hb); replace OF := Lib.hid (OF.out.below hb); replace NR := Lib.hid (NR.out.below hb); replace ND := Lib.hid (ND.out.below hb); replace V5 := Lib.hid (V5.out.below hb V5.out.lt); replace B1 := Lib.hid (B1.out.trans (hb.mono B1.out.size)); have NS := Lib.hid (Nin.of_own ho); clear ho; clear hb; have pc1 := Lib.hid trivial)
      | (clear pc1; go_at_call 87; refine Calls.mono (compare_d NS.out ND.out ESD.out) ?_; rintro e w5 ⟨rfl, hb⟩; replace V0 := Lib.hid (V0.out.below hb V0.out.lt); replace V1 := Lib.hid (V1.out.below hb V1.out.lt); replace HX := Lib.hid (HX.out.below hb); replace HP := Lib.hid (HP.out.below hb); replace OF := Lib.hid (OF.out.below hb); replace NR := Lib.hid (NR.out.below hb); replace ND := Lib.hid (ND.out.below hb); replace V5 := Lib.hid (V5.out.below hb V5.out.lt); replace NS := Lib.hid (NS.out.below hb); replace B1 := Lib.hid (B1.out.trans (hb.mono B1.out.size)); clear hb; have pc2 := Lib.hid trivial)
      | (clear pc2; refine wpList_ldZ (by rfl) _ rfl (by rfl) V5.out ?_; have pc3 := Lib.hid trivial)
      | (clear pc3; go_at_call 89; refine Calls.mono (isEven_any (Zo.of_own OF.out) EBEV.out) ?_; rintro e w6 ⟨rfl, hb⟩; replace V0 := Lib.hid (V0.out.below hb V0.out.lt); replace V1 := Lib.hid (V1.out.below hb V1.out.lt); replace HX := Lib.hid (HX.out.below hb); replace HP := Lib.hid (HP.out.below hb); replace OF := Lib.hid (OF.out.below hb); replace NR := Lib.hid (NR.out.below hb); replace ND := Lib.hid (ND.out.below hb); replace V5 := Lib.hid (V5.out.below hb V5.out.lt); replace NS := Lib.hid (NS.out.below hb); replace B1 := Lib.hid (B1.out.trans (hb.mono B1.out.size)); clear hb; have pc4 := Lib.hid trivial)
      | (clear pc4; refine wpList_ldZ (by rfl) _ rfl (by rfl) V5.out ?_; have pc5 := Lib.hid trivial)
      | (clear pc5; refine wpList_stZ (by rfl) _ _ rfl (by rfl) (by rfl) V1.out ?_; intro w7 hz hg; replace V0 := Lib.hid (V0.out.gro hg (by have := L5.out; omega)); replace HX := Lib.hid (HX.out.gr V1.out hg); replace HP := Lib.hid (HP.out.gr V1.out hg); replace OF := Lib.hid (OF.out.gr V1.out hg); replace NR := Lib.hid (NR.out.gr V1.out hg); replace ND := Lib.hid (ND.out.gr V1.out hg); replace V5 := Lib.hid (V5.out.gr hg (by have := L5.out; omega)); replace NS := Lib.hid (NS.out.gr V1.out hg); replace B1 := Lib.hid (Below.gr B1.out (by have := L5.out; omega) hg B1.out.size); replace V1 := Lib.hid hz; clear hz hg; have pc6 := Lib.hid trivial))
    clear pc6
    have hv := EV.out
    subst hv
    exact ret_zb Tryz.results41 rfl rfl V1.out ⟨_, _, rfl, OF.out, B1.out⟩
  · have EV := Lib.hid ev
    clear ev CS
    subst e1
    subst e2
    have pc0 := Lib.hid trivial
    go_wp2_with (first
      | (clear pc0; go_at_call 88; refine Calls.mono (add_d NR.out NR.out K1.out K1.out EDBL.out) ?_; rintro e w4 ⟨P3, c3, rfl, ho, hb⟩; replace V0 := Lib.hid (V0.out.below hb V0.out.lt); replace V1 := Lib.hid (V1.out.below hb V1.out.lt); replace HX := Lib.hid (HX.out.below hb); replace HP := Lib.hid (HP.out.below hb); replace OF := Lib.hid (OF.out.below hb); replace NR := Lib.hid (NR.out.below hb); replace ND := Lib.hid (ND.out.below hb); replace V5 := Lib.hid (V5.out.below hb V5.out.lt); replace B1 := Lib.hid (B1.out.trans (hb.mono B1.out.size)); have NS := Lib.hid (Nin.of_own ho); clear ho; clear hb; have pc1 := Lib.hid trivial)
      | (clear pc1; go_at_call 87; refine Calls.mono (compare_d NS.out ND.out ESD.out) ?_; rintro e w5 ⟨rfl, hb⟩; replace V0 := Lib.hid (V0.out.below hb V0.out.lt); replace V1 := Lib.hid (V1.out.below hb V1.out.lt); replace HX := Lib.hid (HX.out.below hb); replace HP := Lib.hid (HP.out.below hb); replace OF := Lib.hid (OF.out.below hb); replace NR := Lib.hid (NR.out.below hb); replace ND := Lib.hid (ND.out.below hb); replace V5 := Lib.hid (V5.out.below hb V5.out.lt); replace NS := Lib.hid (NS.out.below hb); replace B1 := Lib.hid (B1.out.trans (hb.mono B1.out.size)); clear hb; have pc2 := Lib.hid trivial)
      | (clear pc2; refine wpList_ldZ (by rfl) _ rfl (by rfl) V5.out ?_; have pc3 := Lib.hid trivial)
      | (clear pc3; go_at_call 89; refine Calls.mono (isEven_any (Zo.of_own OF.out) EBEV.out) ?_; rintro e w6 ⟨rfl, hb⟩; replace V0 := Lib.hid (V0.out.below hb V0.out.lt); replace V1 := Lib.hid (V1.out.below hb V1.out.lt); replace HX := Lib.hid (HX.out.below hb); replace HP := Lib.hid (HP.out.below hb); replace OF := Lib.hid (OF.out.below hb); replace NR := Lib.hid (NR.out.below hb); replace ND := Lib.hid (ND.out.below hb); replace V5 := Lib.hid (V5.out.below hb V5.out.lt); replace NS := Lib.hid (NS.out.below hb); replace B1 := Lib.hid (B1.out.trans (hb.mono B1.out.size)); clear hb; have pc4 := Lib.hid trivial))
    clear pc4
    obtain ⟨one, e1⟩ : ∃ z0 : Int, 1 = z0 := ⟨_, rfl⟩
    have E1 := Lib.hid e1
    have IO : Hid (-9223372036854775808 ≤ (1 : Int) ∧ (1 : Int) ≤ 9223372036854775807) := by show _ ∧ _; omega
    have LO1 : Hid ((ofv one.natAbs).length ≤ 70368744177663) := by show _ ≤ _; rw [← e1]; show (ofv 1).length ≤ _; rw [len_one]; decide
    have ES : Hid (f + one = v) := by show _ = _; rw [← e1]; exact EV.out.symm
    clear e1
    have HB : Hid (Below w6.heap.size w6 w6.drew) := below_drewN _ w6 1
    refine wp_region_held_drew (S := fun w' => w6.grownBy w' (some (w.heap.size + 1))) (by kernel_rfl) ((grown_below HB.out : World.grownBy _ _ (some (w.heap.size + 1)))) (fun hHeld => ?_)
    refine wpAnyH_takeL (i := 0) (oi := _) rfl (by kernel_rfl) (by kernel_rfl) (by kernel_rfl) (fun _ _ _ h => h) (yields_ldZ (by rfl) _ rfl (by rfl) (fun _ hb => V5.out.gr hb (by have := L5.out; omega))) hHeld ?_
    try simp only [Act.put, List.setIfInBounds_toArray, List.set_cons_zero, List.set_cons_succ]
    refine wpAnyH_ready (rs := [1]) (by kernel_rfl) (by simp) ?_
    refine AllReadyH.consL (o := _) rfl (fun K hK => ?_) AllReadyH.nil
    clear hHeld
    go_simp
    go_at_call 47
    refine Calls.mono (fromInt_z (v := 1) (z := one) IO.out E1.out _) ?_
    rintro e wa ⟨P4, c4, rfl, ho, hb⟩
    replace HB := Lib.hid (HB.out.trans (hb.mono HB.out.size))
    have Z1 := Lib.hid (Zo.of_own ho)
    clear ho
    clear hb
    refine hK.out _ _ (grown_below HB.out : World.grownBy _ _ (some (w.heap.size + 1))) (fun hHeld => ?_)
    clear hK K
    try simp only [Act.put, List.setIfInBounds_toArray, List.set_cons_zero, List.set_cons_succ]
    refine wpAnyH_ready (rs := [2]) (by kernel_rfl) (by simp) ?_
    refine AllReadyH.consL (o := _) rfl (fun K hK => ?_) AllReadyH.nil
    clear hHeld
    have SZ := Lib.hid (Nat.le_trans B1.out.size HB.out.size)
    go_simp
    go_at_call 50
    refine Calls.mono (add_z (x := f) (y := one) (z := v) (Zo.of_own (OF.out.below HB.out)).in_ Z1.out.in_ LF.out LO1.out ES.out) ?_
    rintro e wb ⟨P5, c5, rfl, ho, hb⟩
    replace HB := Lib.hid (HB.out.trans (hb.mono HB.out.size))
    have OV := Lib.hid (ho.mono SZ.out)
    clear ho SZ
    clear hb
    refine hK.out _ _ (grown_below HB.out : World.grownBy _ _ (some (w.heap.size + 1))) (fun hHeld => ?_)
    clear hK K
    try simp only [Act.put, List.setIfInBounds_toArray, List.set_cons_zero, List.set_cons_succ]
    refine wpAnyH_ready (rs := [3]) (by kernel_rfl) (by simp) ?_
    refine AllReadyH.consL (o := _) rfl (fun K hK => ?_) AllReadyH.nil
    clear hHeld
    have hb := HB.out
    replace V0 := Lib.hid (V0.out.below hb V0.out.lt)
    replace V1 := Lib.hid (V1.out.below hb V1.out.lt)
    replace HX := Lib.hid (HX.out.below hb)
    replace HP := Lib.hid (HP.out.below hb)
    replace OF := Lib.hid (OF.out.below hb)
    replace NR := Lib.hid (NR.out.below hb)
    replace ND := Lib.hid (ND.out.below hb)
    replace V5 := Lib.hid (V5.out.below hb V5.out.lt)
    replace NS := Lib.hid (NS.out.below hb)
    replace B1 := Lib.hid (B1.out.trans (hb.mono B1.out.size))
    rw [if_pos (by rfl)]
    refine wp_stZ _ _ rfl (by rfl) (by rfl) V1.out ?_
    intro wst hz hg
    replace V0 := Lib.hid (V0.out.gro hg (by have := L5.out; omega))
    replace HX := Lib.hid (HX.out.gr V1.out hg)
    replace HP := Lib.hid (HP.out.gr V1.out hg)
    replace OF := Lib.hid (OF.out.gr V1.out hg)
    replace NR := Lib.hid (NR.out.gr V1.out hg)
    replace ND := Lib.hid (ND.out.gr V1.out hg)
    replace V5 := Lib.hid (V5.out.gr hg (by have := L5.out; omega))
    replace NS := Lib.hid (NS.out.gr V1.out hg)
    replace OV := Lib.hid (OV.out.gr V1.out hg)
    replace B1 := Lib.hid (Below.gr B1.out (by have := L5.out; omega) hg B1.out.size)
    replace V1 := Lib.hid hz
    refine hK.out _ _ (World.grownBy.trans (grown_below hb) hg) (fun hHeld => ?_)
    clear hK K hg hb HB hz
    try simp only [Act.put]
    skip
    refine wpAnyH_done (by kernel_rfl) ?_ _
    clear hHeld
    go_wp2
    exact ret_zb Tryz.results41 rfl rfl V1.out ⟨_, _, rfl, OV.out, B1.out⟩
  · have EV := Lib.hid ev
    clear ev CS
    subst e1
    have pc0 := Lib.hid trivial
    go_wp2_with (first
      | (clear pc0; go_at_call 88; refine Calls.mono (add_d NR.out NR.out K1.out K1.out EDBL.out) ?_; rintro e w4 ⟨P3, c3, rfl, ho, hb⟩; replace V0 := Lib.hid (V0.out.below hb V0.out.lt); replace V1 := Lib.hid (V1.out.below hb V1.out.lt); replace HX := Lib.hid (HX.out.below hb); replace HP := Lib.hid (HP.out.below hb); replace OF := Lib.hid (OF.out.below hb); replace NR := Lib.hid (NR.out.below hb); replace ND := Lib.hid (ND.out.below hb); replace V5 := Lib.hid (V5.out.below hb V5.out.lt); replace B1 := Lib.hid (B1.out.trans (hb.mono B1.out.size)); have NS := Lib.hid (Nin.of_own ho); clear ho; clear hb; have pc1 := Lib.hid trivial)
      | (clear pc1; go_at_call 87; refine Calls.mono (compare_d NS.out ND.out ESD.out) ?_; rintro e w5 ⟨rfl, hb⟩; replace V0 := Lib.hid (V0.out.below hb V0.out.lt); replace V1 := Lib.hid (V1.out.below hb V1.out.lt); replace HX := Lib.hid (HX.out.below hb); replace HP := Lib.hid (HP.out.below hb); replace OF := Lib.hid (OF.out.below hb); replace NR := Lib.hid (NR.out.below hb); replace ND := Lib.hid (ND.out.below hb); replace V5 := Lib.hid (V5.out.below hb V5.out.lt); replace NS := Lib.hid (NS.out.below hb); replace B1 := Lib.hid (B1.out.trans (hb.mono B1.out.size)); clear hb; have pc2 := Lib.hid trivial))
    clear pc2
    obtain ⟨one, e1⟩ : ∃ z0 : Int, 1 = z0 := ⟨_, rfl⟩
    have E1 := Lib.hid e1
    have IO : Hid (-9223372036854775808 ≤ (1 : Int) ∧ (1 : Int) ≤ 9223372036854775807) := by show _ ∧ _; omega
    have LO1 : Hid ((ofv one.natAbs).length ≤ 70368744177663) := by show _ ≤ _; rw [← e1]; show (ofv 1).length ≤ _; rw [len_one]; decide
    have ES : Hid (f + one = v) := by show _ = _; rw [← e1]; exact EV.out.symm
    clear e1
    have HB : Hid (Below w5.heap.size w5 w5.drew) := below_drewN _ w5 1
    refine wp_region_held_drew (S := fun w' => w5.grownBy w' (some (w.heap.size + 1))) (by kernel_rfl) ((grown_below HB.out : World.grownBy _ _ (some (w.heap.size + 1)))) (fun hHeld => ?_)
    refine wpAnyH_takeL (i := 0) (oi := _) rfl (by kernel_rfl) (by kernel_rfl) (by kernel_rfl) (fun _ _ _ h => h) (yields_ldZ (by rfl) _ rfl (by rfl) (fun _ hb => V5.out.gr hb (by have := L5.out; omega))) hHeld ?_
    try simp only [Act.put, List.setIfInBounds_toArray, List.set_cons_zero, List.set_cons_succ]
    refine wpAnyH_ready (rs := [1]) (by kernel_rfl) (by simp) ?_
    refine AllReadyH.consL (o := _) rfl (fun K hK => ?_) AllReadyH.nil
    clear hHeld
    go_simp
    go_at_call 47
    refine Calls.mono (fromInt_z (v := 1) (z := one) IO.out E1.out _) ?_
    rintro e wa ⟨P4, c4, rfl, ho, hb⟩
    replace HB := Lib.hid (HB.out.trans (hb.mono HB.out.size))
    have Z1 := Lib.hid (Zo.of_own ho)
    clear ho
    clear hb
    refine hK.out _ _ (grown_below HB.out : World.grownBy _ _ (some (w.heap.size + 1))) (fun hHeld => ?_)
    clear hK K
    try simp only [Act.put, List.setIfInBounds_toArray, List.set_cons_zero, List.set_cons_succ]
    refine wpAnyH_ready (rs := [2]) (by kernel_rfl) (by simp) ?_
    refine AllReadyH.consL (o := _) rfl (fun K hK => ?_) AllReadyH.nil
    clear hHeld
    have SZ := Lib.hid (Nat.le_trans B1.out.size HB.out.size)
    go_simp
    go_at_call 50
    refine Calls.mono (add_z (x := f) (y := one) (z := v) (Zo.of_own (OF.out.below HB.out)).in_ Z1.out.in_ LF.out LO1.out ES.out) ?_
    rintro e wb ⟨P5, c5, rfl, ho, hb⟩
    replace HB := Lib.hid (HB.out.trans (hb.mono HB.out.size))
    have OV := Lib.hid (ho.mono SZ.out)
    clear ho SZ
    clear hb
    refine hK.out _ _ (grown_below HB.out : World.grownBy _ _ (some (w.heap.size + 1))) (fun hHeld => ?_)
    clear hK K
    try simp only [Act.put, List.setIfInBounds_toArray, List.set_cons_zero, List.set_cons_succ]
    refine wpAnyH_ready (rs := [3]) (by kernel_rfl) (by simp) ?_
    refine AllReadyH.consL (o := _) rfl (fun K hK => ?_) AllReadyH.nil
    clear hHeld
    have hb := HB.out
    replace V0 := Lib.hid (V0.out.below hb V0.out.lt)
    replace V1 := Lib.hid (V1.out.below hb V1.out.lt)
    replace HX := Lib.hid (HX.out.below hb)
    replace HP := Lib.hid (HP.out.below hb)
    replace OF := Lib.hid (OF.out.below hb)
    replace NR := Lib.hid (NR.out.below hb)
    replace ND := Lib.hid (ND.out.below hb)
    replace V5 := Lib.hid (V5.out.below hb V5.out.lt)
    replace NS := Lib.hid (NS.out.below hb)
    replace B1 := Lib.hid (B1.out.trans (hb.mono B1.out.size))
    rw [if_pos (by rfl)]
    refine wp_stZ _ _ rfl (by rfl) (by rfl) V1.out ?_
    intro wst hz hg
    replace V0 := Lib.hid (V0.out.gro hg (by have := L5.out; omega))
    replace HX := Lib.hid (HX.out.gr V1.out hg)
    replace HP := Lib.hid (HP.out.gr V1.out hg)
    replace OF := Lib.hid (OF.out.gr V1.out hg)
    replace NR := Lib.hid (NR.out.gr V1.out hg)
    replace ND := Lib.hid (ND.out.gr V1.out hg)
    replace V5 := Lib.hid (V5.out.gr hg (by have := L5.out; omega))
    replace NS := Lib.hid (NS.out.gr V1.out hg)
    replace OV := Lib.hid (OV.out.gr V1.out hg)
    replace B1 := Lib.hid (Below.gr B1.out (by have := L5.out; omega) hg B1.out.size)
    replace V1 := Lib.hid hz
    refine hK.out _ _ (World.grownBy.trans (grown_below hb) hg) (fun hHeld => ?_)
    clear hK K hg hb HB hz
    try simp only [Act.put]
    skip
    refine wpAnyH_done (by kernel_rfl) ?_ _
    clear hHeld
    go_wp2
    exact ret_zb Tryz.results41 rfl rfl V1.out ⟨_, _, rfl, OV.out, B1.out⟩
set_option maxRecDepth 100000 in
set_option maxHeartbeats 16000000 in
theorem qsize_any {s : Bool} {A D : Option Addr} {n c m k L : Nat} {x : Int} {p : Nat} {w : World} (h : Zin w s A n c x) (h' : Nin w D m k p) (hn : n ≤ L) (hm : m ≤ L) (hL : 1 ≤ L ∧ L ≤ 70368744177660) {v : Int} (hv : ((nbits (mkRat x p).num.natAbs : Nat) : Int) + ((nbits (mkRat x p).den : Nat) : Int) = v) :
    Calls Tryz.prog 90 #[.agg #[.bool s, .slice A n c, .slice D m k]] w fun e w' => e = .returned (.int .i64 v) ∧ Below w.heap.size w w' := by
  obtain ⟨B1, V0⟩ := start_R w s A n c D m k
  have HX := Lib.hid (h.below B1.out)
  have HP := Lib.hid (h'.below B1.out)
  have LN := Lib.hid hn
  have LM := Lib.hid hm
  have L1 := Lib.hid hL.1
  have L2 := Lib.hid hL.2
  have LL := Lib.hid hL
  have L4 : Hid (L ≤ 70368744177664) := Nat.le_trans hL.2 (by decide)
  have lx := Nat.le_trans h.len hn
  have lp := Nat.le_trans h'.len hm
  obtain ⟨z, ez⟩ : ∃ z0 : Int, (mkRat x p).num = z0 := ⟨_, rfl⟩
  obtain ⟨d, ed⟩ : ∃ z0 : Nat, (mkRat x p).den = z0 := ⟨_, rfl⟩
  have lz : (ofv z.natAbs).length ≤ 70368744177664 ∧ (ofv d).length ≤ 70368744177664 := by
    rcases Nat.eq_zero_or_pos p with e | e
    · subst e
      rw [Rat.mkRat_zero] at ez ed
      rw [← ez, ← ed]
      have h0 : (ofv (0 : Rat).num.natAbs).length = 0 := len_zero_iff.2 rfl
      have h1 : (ofv (0 : Rat).den).length = 1 := len_one
      omega
    · have hl := num_len (z := x) e
      rw [ez, ed] at hl
      exact ⟨Nat.le_trans (len_mono hl.1) (Nat.le_trans lx (by omega)), Nat.le_trans (len_mono hl.2) (Nat.le_trans lp (by omega))⟩
  obtain ⟨b1, eb1⟩ : ∃ z0 : Int, ((nbits z.natAbs : Nat) : Int) = z0 := ⟨_, rfl⟩
  obtain ⟨b2, eb2⟩ : ∃ z0 : Int, ((nbits d : Nat) : Int) = z0 := ⟨_, rfl⟩
  have n1 := nbits_len z.natAbs
  have n2 := nbits_len d
  have p1 : 0 ≤ b1 := by omega
  have p2 : b1 ≤ 2251799813685248 := by omega
  have p3 : 0 ≤ b2 := by omega
  have p4 : b2 ≤ 2251799813685248 := by omega
  rw [ez, ed, eb1, eb2] at hv
  have EZ := Lib.hid ez
  have ED := Lib.hid ed
  have EB1 := Lib.hid eb1
  have EB2 := Lib.hid eb2
  have LZ := Lib.hid lz.1
  have LD := Lib.hid lz.2
  have HV := Lib.hid hv
  have hw : IntKind.i64.wrap (b1 + b2) = b1 + b2 := IntWalk.i64_in _ (by omega)
  clear lx lp ez ed lz eb1 eb2 n1 n2 hv
  clear h h' hn hm hL
  go_enter Tryz.func90, Tryz.ntmps90
  go_wp2_with fail
  generalize (w.alloc (.cells #[.bool s, .slice A n c, .slice D m k] 26)) = w2 at *
  have pc0 := Lib.hid trivial
  go_wp2_with (first
    | (clear pc0; go_at_call 30; refine Calls.mono (norm_any (z := z) (d := d) HX.out HP.out LN.out LM.out LL.out EZ.out ED.out) ?_; rintro e w3 ⟨P1, c1, P2, c2, rfl, ho, ho2, hb⟩; replace V0 := Lib.hid (V0.out.below hb V0.out.lt); replace HX := Lib.hid (HX.out.below hb); replace HP := Lib.hid (HP.out.below hb); replace B1 := Lib.hid (B1.out.trans (hb.mono B1.out.size)); have ZZ := Lib.hid (Nin.of_own ho); have ND := Lib.hid (Nin.of_own ho2); clear ho ho2; clear hb; have pc1 := Lib.hid trivial)
    | (clear pc1; refine wpList_stR (by rfl) _ _ rfl (by rfl) (by rfl) V0.out ?_; intro w4 hz hg; replace HX := Lib.hid (HX.out.grR V0.out hg); replace HP := Lib.hid (HP.out.grR V0.out hg); replace ZZ := Lib.hid (ZZ.out.grR V0.out hg); replace ND := Lib.hid (ND.out.grR V0.out hg); replace B1 := Lib.hid (Below.gr B1.out (by omega) hg B1.out.size); replace V0 := Lib.hid hz; clear hz hg; have pc2 := Lib.hid trivial))
  clear pc2
  have HB : Hid (Below w4.heap.size w4 w4.drew) := below_drewN _ w4 1
  refine wp_region_held_drew (S := fun w' => Below w4.heap.size w4 w') (by kernel_rfl) (HB.out) (fun hHeld => ?_)
  refine wpAnyH_takeL (i := 0) (oi := _) (v := ?_) rfl (by kernel_rfl) (by kernel_rfl) (by kernel_rfl) (fun _ _ _ h => h) (Or.inl ⟨by rfl, ?_⟩) hHeld ?_
  rotate_left
  · (intro w' hSw; (try dsimp only at hSw); go_simp; try (with_reducible rfl))
  try simp only [Act.put, List.setIfInBounds_toArray, List.set_cons_zero, List.set_cons_succ]
  refine wpAnyH_takeL (i := 1) (oi := _) (v := ?_) rfl (by kernel_rfl) (by kernel_rfl) (by kernel_rfl) (fun _ _ _ h => h) (Or.inl ⟨by rfl, ?_⟩) hHeld ?_
  rotate_left
  · (intro w' hSw; (try dsimp only at hSw); go_simp; try (with_reducible rfl))
  try simp only [Act.put, List.setIfInBounds_toArray, List.set_cons_zero, List.set_cons_succ]
  refine wpAnyH_takeL (i := 2) (oi := _) rfl (by kernel_rfl) (by kernel_rfl) (by kernel_rfl) (fun _ _ _ h => h) (yields_ldRm (by rfl) _ rfl (by rfl) (fun _ hb => V0.out.below hb V0.out.lt)) hHeld ?_
  try simp only [Act.put, List.setIfInBounds_toArray, List.set_cons_zero, List.set_cons_succ]
  refine wpAnyH_takeL (i := 4) (oi := _) (v := ?_) rfl (by kernel_rfl) (by kernel_rfl) (by kernel_rfl) (fun _ _ _ h => h) (Or.inl ⟨by rfl, ?_⟩) hHeld ?_
  rotate_left
  · (intro w' hSw; (try dsimp only at hSw); go_simp; try (with_reducible rfl))
  try simp only [Act.put, List.setIfInBounds_toArray, List.set_cons_zero, List.set_cons_succ]
  refine wpAnyH_takeL (i := 5) (oi := _) rfl (by kernel_rfl) (by kernel_rfl) (by kernel_rfl) (fun _ _ _ h => h) (yields_ldRd (by rfl) _ rfl (by rfl) (fun _ hb => V0.out.below hb V0.out.lt)) hHeld ?_
  try simp only [Act.put, List.setIfInBounds_toArray, List.set_cons_zero, List.set_cons_succ]
  refine wpAnyH_ready (rs := [3]) (by kernel_rfl) (by simp) ?_
  refine AllReadyH.consL (o := _) rfl (fun K hK => ?_) AllReadyH.nil
  clear hHeld
  go_simp
  go_at_call 119
  refine Calls.mono (bits_d (z := b1) (ZZ.out.below HB.out) LZ.out EB1.out) ?_
  rintro e w5 ⟨rfl, hb⟩
  replace HB := Lib.hid (HB.out.trans (hb.mono HB.out.size))
  clear hb
  refine hK.out _ _ HB.out (fun hHeld => ?_)
  clear hK K
  try simp only [Act.put, List.setIfInBounds_toArray, List.set_cons_zero, List.set_cons_succ]
  refine wpAnyH_ready (rs := [6]) (by kernel_rfl) (by simp) ?_
  refine AllReadyH.consL (o := _) rfl (fun K hK => ?_) AllReadyH.nil
  clear hHeld
  go_simp
  go_at_call 119
  refine Calls.mono (bits_d (z := b2) (ND.out.below HB.out) LD.out EB2.out) ?_
  rintro e w6 ⟨rfl, hb⟩
  replace HB := Lib.hid (HB.out.trans (hb.mono HB.out.size))
  clear hb
  refine hK.out _ _ HB.out (fun hHeld => ?_)
  clear hK K
  try simp only [Act.put, List.setIfInBounds_toArray, List.set_cons_zero, List.set_cons_succ]
  refine wpAnyH_takeL (i := 7) (oi := _) (v := ?_) rfl (by kernel_rfl) (by kernel_rfl) (by kernel_rfl) (fun _ _ _ h => h) (Or.inl ⟨by rfl, ?_⟩) hHeld ?_
  rotate_left
  · (intro w' hSw; (try dsimp only at hSw); go_simp; try (with_reducible rfl))
  try simp only [Act.put, List.setIfInBounds_toArray, List.set_cons_zero, List.set_cons_succ]
  refine wpAnyH_takeL (i := 8) (oi := _) (v := ?_) rfl (by kernel_rfl) (by kernel_rfl) (by kernel_rfl) (fun _ _ _ h => h) (Or.inl ⟨by rfl, ?_⟩) hHeld ?_
  rotate_left
  · (intro w' hSw; (try dsimp only at hSw); go_simp; try (with_reducible rfl))
  try simp only [Act.put, List.setIfInBounds_toArray, List.set_cons_zero, List.set_cons_succ]
  skip
  refine wpAnyH_done (by kernel_rfl) ?_ _
  have hb := HB.out
  replace B1 := Lib.hid (B1.out.trans (hb.mono B1.out.size))
  clear hHeld hb HB
  go_wp2
  go_ret
  exact ⟨ret_int HV.out, B1.out⟩
end Go.Proofs.YtfmgbfdnmconiaaGreat
