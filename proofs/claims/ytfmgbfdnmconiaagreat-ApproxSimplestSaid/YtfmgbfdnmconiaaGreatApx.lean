/-
  Contracts of package approx: Below and Above.
-/
import Derived.Test.YtfmgbfdnmconiaaGreatApr
namespace Go.Proofs.YtfmgbfdnmconiaaGreat
open Go.RowKit
set_option linter.unusedVariables false

theorem frac_trans {N D z d z2 d2 : Int} (hD : 0 < D) (hd : 0 < d) (h2 : 0 < d2) (a : N * d ≤ z * D) (b : z * d2 < z2 * d) : N * d2 < z2 * D := by
  have k1 : N * d * d2 ≤ z * D * d2 := Int.mul_le_mul_of_nonneg_right a (by omega)
  have k2 : z * d2 * D < z2 * d * D := Int.mul_lt_mul_of_pos_right b hD
  have e1 : N * d * d2 = N * d2 * d := by grind
  have e2 : z * D * d2 = z * d2 * D := by grind
  have e3 : z2 * d * D = z2 * D * d := by grind
  have k3 : N * d2 * d < z2 * D * d := by omega
  exact Int.lt_of_mul_lt_mul_right k3 (by omega)
theorem frac_trans2 {N D z d z1 d1 : Int} (hD : 0 < D) (hd : 0 < d) (h1 : 0 < d1) (a : z * D ≤ N * d) (b : z1 * d < z * d1) : z1 * D < N * d1 := by
  have k1 : z * D * d1 ≤ N * d * d1 := Int.mul_le_mul_of_nonneg_right a (by omega)
  have k2 : z1 * d * D < z * d1 * D := Int.mul_lt_mul_of_pos_right b hD
  have e1 : N * d * d1 = N * d1 * d := by grind
  have e2 : z * D * d1 = z * d1 * D := by grind
  have e3 : z1 * d * D = z1 * D * d := by grind
  have k3 : z1 * D * d < N * d1 * d := by omega
  exact Int.lt_of_mul_lt_mul_right k3 (by omega)
/-- The greatest number that is not greater, with a permitted denominator. -/
structure Bel (z d M z1 d1 : Int) : Prop where
  p : 0 < d1
  g : Int.gcd z1 d1 = 1
  le : z1 * d ≤ z * d1
  m : d1 ≤ M
  best : ∀ N D, 0 < D → D ≤ M → N * d ≤ z * D → N * d1 ≤ z1 * D
/-- The least number that is not less, with a permitted denominator. -/
structure Abo (z d M z2 d2 : Int) : Prop where
  p : 0 < d2
  g : Int.gcd z2 d2 = 1
  le : z * d2 ≤ z2 * d
  m : d2 ≤ M
  best : ∀ N D, 0 < D → D ≤ M → z * D ≤ N * d → z2 * D ≤ N * d2
theorem Encl.bel {z d M z1 d1 z2 d2 : Int} (h : Encl z d M z1 d1 z2 d2) (hd : 0 < d) : Bel z d M z1 d1 :=
  ⟨h.p1, h.g1, h.lo, h.m1, fun N D hD hM hN => by
    rcases h.eq with ⟨rfl, rfl, _, _⟩ | ⟨k1, k2⟩
    · exact hN
    · rcases Int.lt_or_le (z1 * D) (N * d1) with hh | hh
      · have := h.nb N D hD hh (frac_trans hD hd h.p2 hN k2); omega
      · exact hh⟩
theorem Encl.abo {z d M z1 d1 z2 d2 : Int} (h : Encl z d M z1 d1 z2 d2) (hd : 0 < d) : Abo z d M z2 d2 :=
  ⟨h.p2, h.g2, h.hi, h.m2, fun N D hD hM hN => by
    rcases h.eq with ⟨_, _, rfl, rfl⟩ | ⟨k1, k2⟩
    · exact hN
    · rcases Int.lt_or_le (N * d2) (z2 * D) with hh | hh
      · have := h.nb N D hD (frac_trans2 hD hd h.p1 hN k1) hh; omega
      · exact hh⟩
/-- A number, and that there is one. -/
def GivesK (w : World) (z1 : Int) (d1 : Nat) (e : Ending) (w' : World) : Prop :=
  ∃ P c Q k, e = .returned (.tuple #[.agg #[.bool (decide (z1 < 0)), .slice P (ofv z1.natAbs).length c, .slice Q (ofv d1).length k], .bool true]) ∧ Zo w' P c z1 ∧ Rd w' Q k (ofv d1) ∧ Below w.heap.size w w'
theorem ret_rk {fn : Func} {R : Ending → World → Prop} {a : Act} {w : World} {j i g n c m k : Nat} {s b : Bool} {A D : Option Addr} (hf : fn.results = #[.cell j 26, .tmp i]) (hd : a.defers = [])
    (hk : (a.tmps[j]?).getD undef = .pointer (some ⟨g, 0, none⟩)) (hi : (a.tmps[i]?).getD undef = .bool b) (h : Rb w g s A n c D m k) (hR : R (.returned (.tuple #[.agg #[.bool s, .slice A n c, .slice D m k], .bool b])) w) : bodyPost Tryz.prog fn R .ret a w := by
  have z1 := cell_of_row w g 0 _ _ _ h
  have z2 := cell_of_row w g 1 _ _ _ h
  have z3 := cell_of_row w g 2 _ _ _ h
  exact bodyPost_ret_by (v := .tuple #[.agg #[.bool s, .slice A n c, .slice D m k], .bool b]) (by simp [results, hf, go_sem, hk, hi, z1, z2, z3]) hd hR
theorem start_RZR (w : World) (s0 : Bool) (A0 : Option Addr) (n0 c0 : Nat) (D0 : Option Addr) (m0 k0 : Nat) (s1 : Bool) (A1 : Option Addr) (n1 c1 : Nat) :
    Hid (Below w.heap.size w (((w.alloc (.cells #[.bool s0, .slice A0 n0 c0, .slice D0 m0 k0] 26)).alloc (.cells #[.bool s1, .slice A1 n1 c1] 24)).alloc (.cells #[.bool false, .slice none 0 0, .slice none 0 0] 26))) ∧ Hid (Rb (((w.alloc (.cells #[.bool s0, .slice A0 n0 c0, .slice D0 m0 k0] 26)).alloc (.cells #[.bool s1, .slice A1 n1 c1] 24)).alloc (.cells #[.bool false, .slice none 0 0, .slice none 0 0] 26)) (w.heap.size) s0 A0 n0 c0 D0 m0 k0) ∧ Hid (Zb (((w.alloc (.cells #[.bool s0, .slice A0 n0 c0, .slice D0 m0 k0] 26)).alloc (.cells #[.bool s1, .slice A1 n1 c1] 24)).alloc (.cells #[.bool false, .slice none 0 0, .slice none 0 0] 26)) (w.heap.size + 1) s1 A1 n1 c1) ∧ Hid (Rb (((w.alloc (.cells #[.bool s0, .slice A0 n0 c0, .slice D0 m0 k0] 26)).alloc (.cells #[.bool s1, .slice A1 n1 c1] 24)).alloc (.cells #[.bool false, .slice none 0 0, .slice none 0 0] 26)) (w.heap.size + 2) false none 0 0 none 0 0) := by
  refine ⟨?_, ?_, ?_, ?_⟩
  · exact ((((Below.refl _ _).alloc (by first | exact Nat.le_refl _ | (simp; done) | (simp; omega)) _).alloc (by first | exact Nat.le_refl _ | (simp; done) | (simp; omega)) _).alloc (by first | exact Nat.le_refl _ | (simp; done) | (simp; omega)) _)
  · have := Rb.new w s0 A0 n0 c0 D0 m0 k0
    exact ((this.alloc _).alloc _)
  · have := Zb.new (w.alloc (.cells #[.bool s0, .slice A0 n0 c0, .slice D0 m0 k0] 26)) s1 A1 n1 c1
    simp only [World.size_alloc] at this
    exact (this.alloc _)
  · have := Rb.new ((w.alloc (.cells #[.bool s0, .slice A0 n0 c0, .slice D0 m0 k0] 26)).alloc (.cells #[.bool s1, .slice A1 n1 c1] 24)) false none 0 0 none 0 0
    simp only [World.size_alloc] at this
    exact this
set_option maxRecDepth 100000 in
set_option maxHeartbeats 16000000 in
theorem below_yes {s t : Bool} {A D B : Option Addr} {n c m k m2 c2 : Nat} {x M : Int} {p : Nat} {w : World} (h : Zin w s A n c x) (h' : Nin w D m k p) (hm : Zin w t B m2 c2 M) (ln : n ≤ 1048576) (lm : m ≤ 1048576) (l2 : m2 ≤ 1048576) {z : Int} {d : Nat} (hz : (mkRat x p).num = z) (hd : (mkRat x p).den = d) (hM : 0 < M) :
    Calls Tryz.prog 24 #[.agg #[.bool s, .slice A n c, .slice D m k], .agg #[.bool t, .slice B m2 c2]] w fun e w' => ∃ z1 d1, Bel z d M z1 ((d1 : Nat) : Int) ∧ ((ofv z1.natAbs).length ≤ 100000000 ∧ (ofv d1).length ≤ 100000000) ∧ GivesK w z1 d1 e w' := by
  obtain ⟨B1, V0, V1, V2⟩ := start_RZR w s A n c D m k t B m2 c2
  have HX := Lib.hid (h.below B1.out)
  have HP := Lib.hid (h'.below B1.out)
  have HM := Lib.hid (hm.below B1.out)
  have LN := Lib.hid ln
  have LM := Lib.hid lm
  have L2 := Lib.hid l2
  have HMN := Lib.hid hM
  have HZ := Lib.hid hz
  have HD := Lib.hid hd
  have D0 : Hid ((0 : Int) < d) := by show _ < _; have := (gcd_canon (mkRat x p) hz hd).2; omega
  clear h h' hm ln lm l2 hM
  go_enter Tryz.func24, Tryz.ntmps24
  go_wp2_with fail
  generalize (((w.alloc (.cells #[.bool s, .slice A n c, .slice D m k] 26)).alloc (.cells #[.bool t, .slice B m2 c2] 24)).alloc (.cells #[.bool false, .slice none 0 0, .slice none 0 0] 26)) = w2 at *
  have pc0 := Lib.hid trivial
  go_wp2_with (first
    | (clear pc0; go_at_call 73; refine Calls.mono (around_yes HX.out HP.out HM.out LN.out LM.out L2.out HZ.out HD.out HMN.out) ?_; rintro e wa ⟨z1, d1, z2, d2, en, lens, P1, e1, Q1, f1, P2, e2, Q2, f2, rfl, q1, q2, q3, q4, hb⟩; replace V0 := Lib.hid (V0.out.below hb V0.out.lt); replace V1 := Lib.hid (V1.out.below hb V1.out.lt); replace V2 := Lib.hid (V2.out.below hb V2.out.lt); replace HX := Lib.hid (HX.out.below hb); replace HP := Lib.hid (HP.out.below hb); replace HM := Lib.hid (HM.out.below hb); replace B1 := Lib.hid (B1.out.trans (hb.mono B1.out.size)); have EN := Lib.hid en; have LE := Lib.hid lens; have Q1z := Lib.hid q1; have Q2z := Lib.hid q2; have Q3z := Lib.hid q3; have Q4z := Lib.hid q4; clear en lens q1 q2 q3 q4; clear hb; have pc1 := Lib.hid trivial)
    | (clear pc1; have hb : Below wa.heap.size wa ((wa.alloc (.cells #[.bool (decide (z1 < 0)), .slice P1 (ofv z1.natAbs).length e1, .slice Q1 (ofv d1).length f1] 26)).alloc (.cells #[.bool (decide (z2 < 0)), .slice P2 (ofv z2.natAbs).length e2, .slice Q2 (ofv d2).length f2] 26)) := (((Below.refl _ _).alloc (by first | exact Nat.le_refl _ | (simp; done) | (simp; omega)) _).alloc (by first | exact Nat.le_refl _ | (simp; done) | (simp; omega)) _); replace V0 := Lib.hid (V0.out.below hb V0.out.lt); replace V1 := Lib.hid (V1.out.below hb V1.out.lt); replace V2 := Lib.hid (V2.out.below hb V2.out.lt); replace HX := Lib.hid (HX.out.below hb); replace HP := Lib.hid (HP.out.below hb); replace HM := Lib.hid (HM.out.below hb); replace Q1z := Lib.hid (Q1z.out.below hb); replace Q2z := Lib.hid (Q2z.out.below hb); replace Q3z := Lib.hid (Q3z.out.below hb); replace Q4z := Lib.hid (Q4z.out.below hb); replace B1 := Lib.hid (B1.out.trans (hb.mono B1.out.size)); clear hb; generalize ((wa.alloc (.cells #[.bool (decide (z1 < 0)), .slice P1 (ofv z1.natAbs).length e1, .slice Q1 (ofv d1).length f1] 26)).alloc (.cells #[.bool (decide (z2 < 0)), .slice P2 (ofv z2.natAbs).length e2, .slice Q2 (ofv d2).length f2] 26)) = wb at *; refine wpList_stR (by rfl) _ _ rfl (by rfl) (by rfl) V2.out ?_; intro wc hz hg; have bx := V2.out.bx; replace V0 := Lib.hid (V0.out.gro hg (by omega)); replace V1 := Lib.hid (V1.out.gro hg (by omega)); replace HX := Lib.hid (HX.out.grB bx hg); replace HP := Lib.hid (HP.out.grB bx hg); replace HM := Lib.hid (HM.out.grB bx hg); replace Q1z := Lib.hid (Q1z.out.grB bx hg); replace Q2z := Lib.hid (Q2z.out.grB bx hg); replace Q3z := Lib.hid (Q3z.out.grB bx hg); replace Q4z := Lib.hid (Q4z.out.grB bx hg); replace B1 := Lib.hid (Below.gr B1.out (by omega) hg B1.out.size); clear bx; replace V2 := Lib.hid hz; clear hz hg; have pc2 := Lib.hid trivial))
  clear pc2
  exact ret_rk Tryz.results24 rfl rfl rfl V2.out ⟨z1, d1, EN.out.bel D0.out, ⟨LE.out.1, LE.out.2.1⟩, _, _, _, _, rfl, Q1z.out, Q2z.out, B1.out⟩
set_option maxRecDepth 100000 in
set_option maxHeartbeats 16000000 in
theorem above_yes {s t : Bool} {A D B : Option Addr} {n c m k m2 c2 : Nat} {x M : Int} {p : Nat} {w : World} (h : Zin w s A n c x) (h' : Nin w D m k p) (hm : Zin w t B m2 c2 M) (ln : n ≤ 1048576) (lm : m ≤ 1048576) (l2 : m2 ≤ 1048576) {z : Int} {d : Nat} (hz : (mkRat x p).num = z) (hd : (mkRat x p).den = d) (hM : 0 < M) :
    Calls Tryz.prog 25 #[.agg #[.bool s, .slice A n c, .slice D m k], .agg #[.bool t, .slice B m2 c2]] w fun e w' => ∃ z1 d1, Abo z d M z1 ((d1 : Nat) : Int) ∧ ((ofv z1.natAbs).length ≤ 100000000 ∧ (ofv d1).length ≤ 100000000) ∧ GivesK w z1 d1 e w' := by
  obtain ⟨B1, V0, V1, V2⟩ := start_RZR w s A n c D m k t B m2 c2
  have HX := Lib.hid (h.below B1.out)
  have HP := Lib.hid (h'.below B1.out)
  have HM := Lib.hid (hm.below B1.out)
  have LN := Lib.hid ln
  have LM := Lib.hid lm
  have L2 := Lib.hid l2
  have HMN := Lib.hid hM
  have HZ := Lib.hid hz
  have HD := Lib.hid hd
  have D0 : Hid ((0 : Int) < d) := by show _ < _; have := (gcd_canon (mkRat x p) hz hd).2; omega
  clear h h' hm ln lm l2 hM
  go_enter Tryz.func25, Tryz.ntmps25
  go_wp2_with fail
  generalize (((w.alloc (.cells #[.bool s, .slice A n c, .slice D m k] 26)).alloc (.cells #[.bool t, .slice B m2 c2] 24)).alloc (.cells #[.bool false, .slice none 0 0, .slice none 0 0] 26)) = w2 at *
  have pc0 := Lib.hid trivial
  go_wp2_with (first
    | (clear pc0; go_at_call 73; refine Calls.mono (around_yes HX.out HP.out HM.out LN.out LM.out L2.out HZ.out HD.out HMN.out) ?_; rintro e wa ⟨z1, d1, z2, d2, en, lens, P1, e1, Q1, f1, P2, e2, Q2, f2, rfl, q1, q2, q3, q4, hb⟩; replace V0 := Lib.hid (V0.out.below hb V0.out.lt); replace V1 := Lib.hid (V1.out.below hb V1.out.lt); replace V2 := Lib.hid (V2.out.below hb V2.out.lt); replace HX := Lib.hid (HX.out.below hb); replace HP := Lib.hid (HP.out.below hb); replace HM := Lib.hid (HM.out.below hb); replace B1 := Lib.hid (B1.out.trans (hb.mono B1.out.size)); have EN := Lib.hid en; have LE := Lib.hid lens; have Q1z := Lib.hid q1; have Q2z := Lib.hid q2; have Q3z := Lib.hid q3; have Q4z := Lib.hid q4; clear en lens q1 q2 q3 q4; clear hb; have pc1 := Lib.hid trivial)
    | (clear pc1; have hb : Below wa.heap.size wa ((wa.alloc (.cells #[.bool (decide (z1 < 0)), .slice P1 (ofv z1.natAbs).length e1, .slice Q1 (ofv d1).length f1] 26)).alloc (.cells #[.bool (decide (z2 < 0)), .slice P2 (ofv z2.natAbs).length e2, .slice Q2 (ofv d2).length f2] 26)) := (((Below.refl _ _).alloc (by first | exact Nat.le_refl _ | (simp; done) | (simp; omega)) _).alloc (by first | exact Nat.le_refl _ | (simp; done) | (simp; omega)) _); replace V0 := Lib.hid (V0.out.below hb V0.out.lt); replace V1 := Lib.hid (V1.out.below hb V1.out.lt); replace V2 := Lib.hid (V2.out.below hb V2.out.lt); replace HX := Lib.hid (HX.out.below hb); replace HP := Lib.hid (HP.out.below hb); replace HM := Lib.hid (HM.out.below hb); replace Q1z := Lib.hid (Q1z.out.below hb); replace Q2z := Lib.hid (Q2z.out.below hb); replace Q3z := Lib.hid (Q3z.out.below hb); replace Q4z := Lib.hid (Q4z.out.below hb); replace B1 := Lib.hid (B1.out.trans (hb.mono B1.out.size)); clear hb; generalize ((wa.alloc (.cells #[.bool (decide (z1 < 0)), .slice P1 (ofv z1.natAbs).length e1, .slice Q1 (ofv d1).length f1] 26)).alloc (.cells #[.bool (decide (z2 < 0)), .slice P2 (ofv z2.natAbs).length e2, .slice Q2 (ofv d2).length f2] 26)) = wb at *; refine wpList_stR (by rfl) _ _ rfl (by rfl) (by rfl) V2.out ?_; intro wc hz hg; have bx := V2.out.bx; replace V0 := Lib.hid (V0.out.gro hg (by omega)); replace V1 := Lib.hid (V1.out.gro hg (by omega)); replace HX := Lib.hid (HX.out.grB bx hg); replace HP := Lib.hid (HP.out.grB bx hg); replace HM := Lib.hid (HM.out.grB bx hg); replace Q1z := Lib.hid (Q1z.out.grB bx hg); replace Q2z := Lib.hid (Q2z.out.grB bx hg); replace Q3z := Lib.hid (Q3z.out.grB bx hg); replace Q4z := Lib.hid (Q4z.out.grB bx hg); replace B1 := Lib.hid (Below.gr B1.out (by omega) hg B1.out.size); clear bx; replace V2 := Lib.hid hz; clear hz hg; have pc2 := Lib.hid trivial))
  clear pc2
  exact ret_rk Tryz.results25 rfl rfl rfl V2.out ⟨z2, d2, EN.out.abo D0.out, LE.out.2.2, _, _, _, _, rfl, Q3z.out, Q4z.out, B1.out⟩
end Go.Proofs.YtfmgbfdnmconiaaGreat
