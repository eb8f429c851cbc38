/-
  Contracts of package rational: proper, opposite, reciprocal, times, FromInt.
-/
import Derived.Test.YtfacndibfkamgaaGreatRat
import Derived.Test.YtfacndibfkamgaaGreatRatm
namespace Go.Proofs.YtfacndibfkamgaaGreat
open Go.RowKit
set_option linter.unusedVariables false

theorem start_RR (w : World) (s0 : Bool) (A0 : Option Addr) (n0 c0 : Nat) (D0 : Option Addr) (m0 k0 : Nat) :
    Hid (Below w.heap.size w ((w.alloc (.cells #[.bool s0, .slice A0 n0 c0, .slice D0 m0 k0] 29)).alloc (.cells #[.bool false, .slice none 0 0, .slice none 0 0] 29))) ∧ Hid (Rb ((w.alloc (.cells #[.bool s0, .slice A0 n0 c0, .slice D0 m0 k0] 29)).alloc (.cells #[.bool false, .slice none 0 0, .slice none 0 0] 29)) (w.heap.size) s0 A0 n0 c0 D0 m0 k0) ∧ Hid (Rb ((w.alloc (.cells #[.bool s0, .slice A0 n0 c0, .slice D0 m0 k0] 29)).alloc (.cells #[.bool false, .slice none 0 0, .slice none 0 0] 29)) (w.heap.size + 1) false none 0 0 none 0 0) := by
  refine ⟨?_, ?_, ?_⟩
  · exact (((Below.refl _ _).alloc (by first | exact Nat.le_refl _ | (simp; done) | (simp; omega)) _).alloc (by first | exact Nat.le_refl _ | (simp; done) | (simp; omega)) _)
  · have := Rb.new w s0 A0 n0 c0 D0 m0 k0
    exact (this.alloc _)
  · have := Rb.new (w.alloc (.cells #[.bool s0, .slice A0 n0 c0, .slice D0 m0 k0] 29)) false none 0 0 none 0 0
    simp only [World.size_alloc] at this
    exact this
theorem start_ZZ (w : World) (s0 : Bool) (A0 : Option Addr) (n0 c0 : Nat) :
    Hid (Below w.heap.size w ((w.alloc (.cells #[.bool s0, .slice A0 n0 c0] 27)).alloc (.cells #[.bool false, .slice none 0 0] 27))) ∧ Hid (Zb ((w.alloc (.cells #[.bool s0, .slice A0 n0 c0] 27)).alloc (.cells #[.bool false, .slice none 0 0] 27)) (w.heap.size) s0 A0 n0 c0) ∧ Hid (Zb ((w.alloc (.cells #[.bool s0, .slice A0 n0 c0] 27)).alloc (.cells #[.bool false, .slice none 0 0] 27)) (w.heap.size + 1) false none 0 0) := by
  refine ⟨?_, ?_, ?_⟩
  · exact (((Below.refl _ _).alloc (by first | exact Nat.le_refl _ | (simp; done) | (simp; omega)) _).alloc (by first | exact Nat.le_refl _ | (simp; done) | (simp; omega)) _)
  · have := Zb.new w s0 A0 n0 c0
    exact (this.alloc _)
  · have := Zb.new (w.alloc (.cells #[.bool s0, .slice A0 n0 c0] 27)) false none 0 0
    simp only [World.size_alloc] at this
    exact this
theorem start_R0 (w : World) :
    Hid (Below w.heap.size w (w.alloc (.cells #[.bool false, .slice none 0 0, .slice none 0 0] 29))) ∧ Hid (Rb (w.alloc (.cells #[.bool false, .slice none 0 0, .slice none 0 0] 29)) (w.heap.size) false none 0 0 none 0 0) := by
  refine ⟨?_, ?_⟩
  · exact ((Below.refl _ _).alloc (by first | exact Nat.le_refl _ | (simp; done) | (simp; omega)) _)
  · have := Rb.new w false none 0 0 none 0 0
    exact this
theorem second_R (w : World) (ob : Obj) (s : Bool) (A : Option Addr) (n c : Nat) (D : Option Addr) (m k : Nat) : Rb ((w.alloc ob).alloc (.cells #[.bool s, .slice A n c, .slice D m k] 29)) (w.heap.size + 1) s A n c D m k := by
  have := Rb.new (w.alloc ob) s A n c D m k
  simp only [World.size_alloc] at this
  exact this
/-- A number with a denominator that is not 0, the same value. -/
def GivesP (w : World) (n L : Nat) (x : Int) (p : Nat) (e : Ending) (w' : World) : Prop :=
  ∃ s' A' n' c' D' m' k' x' p', e = .returned (.agg #[.bool s', .slice A' n' c', .slice D' m' k']) ∧ Zin w' s' A' n' c' x' ∧ Nin w' D' m' k' p' ∧ 0 < p' ∧ mkRat x' p' = mkRat x p ∧ n' ≤ n ∧ m' ≤ L ∧ Below w.heap.size w w'
theorem opposite_any (s : Bool) (A : Option Addr) (n c : Nat) (D : Option Addr) (m k : Nat) (w : World) :
    Calls Tryz.prog 157 #[.agg #[.bool s, .slice A n c, .slice D m k]] w fun e w' => e = .returned (.agg #[.bool (!s), .slice A n c, .slice D m k]) ∧ Below w.heap.size w w' := by
  go_enter Tryz.func157, Tryz.ntmps157
  go_wp2
  exact ret_rb Tryz.results157 rfl rfl (second_R w _ (!s) A n c D m k) ⟨rfl, ((Below.refl _ _).alloc (Nat.le_refl _) _).alloc (by simp) _⟩
set_option maxRecDepth 100000 in
set_option maxHeartbeats 16000000 in
theorem times_any {s : Bool} {A D : Option Addr} {n c m k : Nat} {x z : Int} {p : Nat} {w : World} (h : Zin w s A n c x) (h' : Nin w D m k p) (hl : n + m ≤ 70368744177664) (hz : x * (p : Int) = z) :
    Calls Tryz.prog 105 #[.agg #[.bool s, .slice A n c], .slice D m k] w (GivesZ w z) := by
  obtain ⟨B1, V0, V1⟩ := start_ZZ w s A n c
  have HX := Lib.hid (h.below B1.out)
  have HP := Lib.hid (h'.below B1.out)
  have HL := Lib.hid hl
  obtain ⟨pz, ep⟩ : ∃ z0, (p : Int) = z0 := ⟨_, rfl⟩
  have EP := Lib.hid ep
  have EZ : Hid (x * pz = z) := by show _ = _; rw [← ep]; exact hz
  clear h h' hl hz ep
  go_enter Tryz.func105, Tryz.ntmps105
  go_wp2_with fail
  generalize ((w.alloc (.cells #[.bool s, .slice A n c] 27)).alloc (.cells #[.bool false, .slice none 0 0] 27)) = w2 at *
  have pc0 := Lib.hid trivial
  go_wp2_with (first
    | (clear pc0; have SZ := Lib.hid B1.out.size; go_at_call 76; refine Calls.mono (mul_z (x := x) (y := pz) (z := z) HX.out (HP.out.int EP.out) HL.out EZ.out) ?_; rintro e w3 ⟨P, cP, rfl, ho, hb⟩; replace V0 := Lib.hid (V0.out.below hb V0.out.lt); replace V1 := Lib.hid (V1.out.below hb V1.out.lt); replace HX := Lib.hid (HX.out.below hb); replace HP := Lib.hid (HP.out.below hb); replace B1 := Lib.hid (B1.out.trans (hb.mono B1.out.size)); have OZ := Lib.hid (ho.mono SZ.out); clear ho; clear hb; have pc1 := Lib.hid trivial)
    | (clear pc1; refine wpList_stZ (by rfl) _ _ rfl (by rfl) (by rfl) V1.out ?_; intro w4 hz hg; replace V0 := Lib.hid (V0.out.gr hg (by simp)); replace HX := Lib.hid (HX.out.gr V1.out hg); replace HP := Lib.hid (HP.out.gr V1.out hg); replace OZ := Lib.hid (OZ.out.gr V1.out hg); replace B1 := Lib.hid (Below.gr B1.out (by simp) hg B1.out.size); replace V1 := Lib.hid hz; clear hz hg; have pc2 := Lib.hid trivial))
  clear pc2
  exact ret_zb Tryz.results105 rfl rfl V1.out ⟨_, _, rfl, OZ.out, B1.out⟩
theorem own_one (w : World) (lo : Nat) (h : lo ≤ w.heap.size) : Own (w.alloc (.cells #[.int .u32 1] 118)) lo (some ⟨w.heap.size, 0, none⟩) 1 (ofv 1) := by
  have hr : Row (w.alloc (.cells #[.int .u32 1] 118)) w.heap.size [1] := row_new rfl rfl
  rw [o1]
  exact Own.of_row hr (okl1 (by omega)) h (by simp)
theorem len_one : (ofv 1).length = 1 := by rw [o1]; rfl
set_option maxRecDepth 100000 in
set_option maxHeartbeats 16000000 in
theorem qfromInt_any {v z : Int} (hv : -9223372036854775808 ≤ v ∧ v ≤ 9223372036854775807) (hz : v = z) (w : World) :
    Calls Tryz.prog 124 #[.int .i64 v] w (GivesR w z 1) := by
  obtain ⟨B1, V0⟩ := start_R0 w
  have HV := Lib.hid hv
  have HZ := Lib.hid hz
  clear hv hz
  go_enter Tryz.func124, Tryz.ntmps124
  go_wp2_with fail
  generalize (w.alloc (.cells #[.bool false, .slice none 0 0, .slice none 0 0] 29)) = w2 at *
  have pc0 := Lib.hid trivial
  go_wp2_with (first
    | (clear pc0; have SZ := Lib.hid B1.out.size; go_at_call 72; refine Calls.mono (fromInt_z (v := v) (z := z) HV.out HZ.out _) ?_; rintro e w3 ⟨P, cP, rfl, ho, hb⟩; replace V0 := Lib.hid (V0.out.below hb V0.out.lt); replace B1 := Lib.hid (B1.out.trans (hb.mono B1.out.size)); have OZ := Lib.hid (ho.mono SZ.out); clear ho; clear hb; have pc1 := Lib.hid trivial)
    | (clear pc1; have OO := Lib.hid (own_one w3 w.heap.size B1.out.size); have hb : Below w3.heap.size w3 (w3.alloc (.cells #[.int .u32 1] 118)) := (Below.refl _ _).alloc (Nat.le_refl _) _; replace V0 := Lib.hid (V0.out.below hb V0.out.lt); replace OZ := Lib.hid (OZ.out.below hb); replace B1 := Lib.hid (B1.out.trans (hb.mono B1.out.size)); clear hb; refine wpList_stR (by rfl) _ _ rfl (by rfl) (by rfl) V0.out ?_; intro w4 hz hg; replace OZ := Lib.hid (OZ.out.grR V0.out hg); replace OO := Lib.hid (OO.out.grR V0.out hg); replace B1 := Lib.hid (Below.gr B1.out (by simp) hg B1.out.size); replace V0 := Lib.hid hz; clear hz hg; have pc2 := Lib.hid trivial))
  clear pc2
  exact ret_rb Tryz.results124 rfl rfl V0.out ⟨_, _, _, _, by rw [len_one], OZ.out, OO.out, B1.out⟩
set_option maxRecDepth 100000 in
set_option maxHeartbeats 16000000 in
theorem proper_pos {s : Bool} {A D : Option Addr} {n c m k L : Nat} {x : Int} {p : Nat} {w : World} (h : Zin w s A n c x) (h' : Nin w D m k p) (hm : m ≤ L) (hL : 1 ≤ L) (hL2 : L ≤ 70368744177664) (hp : 0 < p) :
    Calls Tryz.prog 89 #[.agg #[.bool s, .slice A n c, .slice D m k]] w (GivesP w n L x p) := by
  obtain ⟨B1, V0, V1⟩ := start_RR w s A n c D m k
  have HX := Lib.hid (h.below B1.out)
  have HP := Lib.hid (h'.below B1.out)
  have LM : Hid (m ≤ 70368744177664) := Nat.le_trans hm hL2
  have HM := Lib.hid hm
  have HL := Lib.hid hL
  have PP := Lib.hid hp
  obtain ⟨b, eb⟩ : ∃ z0, ((nbits p : Nat) : Int) = z0 := ⟨_, rfl⟩
  have EB := Lib.hid eb
  have hbz : (b == 0) = false := by
    have h1 := nbits_eq_zero (v := p)
    simp
    omega
  obtain ⟨z0, ez⟩ : ∃ z : Int, 0 = z := ⟨_, rfl⟩
  have EZ := Lib.hid ez
  have IZ : Hid (-9223372036854775808 ≤ (0 : Int) ∧ (0 : Int) ≤ 9223372036854775807) := by show _ ∧ _; omega
  clear h h' hm hL hL2 hp eb ez
  go_enter Tryz.func89, Tryz.ntmps89
  go_wp2_with fail
  generalize ((w.alloc (.cells #[.bool s, .slice A n c, .slice D m k] 29)).alloc (.cells #[.bool false, .slice none 0 0, .slice none 0 0] 29)) = w2 at *
  have pc0 := Lib.hid trivial
  go_wp2_with (first
    | (clear pc0; go_at_call 126; refine Calls.mono (bits_d (z := b) HP.out LM.out EB.out) ?_; rintro e w3 ⟨rfl, hb⟩; replace V0 := Lib.hid (V0.out.below hb V0.out.lt); replace V1 := Lib.hid (V1.out.below hb V1.out.lt); replace HX := Lib.hid (HX.out.below hb); replace HP := Lib.hid (HP.out.below hb); replace B1 := Lib.hid (B1.out.trans (hb.mono B1.out.size)); clear hb; have pc1 := Lib.hid trivial)
    | (clear pc1; refine wpList_ldR (by rfl) _ rfl (by rfl) V0.out ?_; have pc2 := Lib.hid trivial)
    | (clear pc2; refine wpList_stR (by rfl) _ _ rfl (by rfl) (by rfl) V1.out ?_; intro w4 hz hg; replace V0 := Lib.hid (V0.out.gro hg (by simp)); replace HX := Lib.hid (HX.out.grR V1.out hg); replace HP := Lib.hid (HP.out.grR V1.out hg); replace B1 := Lib.hid (Below.gr B1.out (by simp) hg B1.out.size); replace V1 := Lib.hid hz; clear hz hg; have pc3 := Lib.hid trivial))
  clear pc3
  exact ret_rb Tryz.results89 rfl rfl V1.out ⟨s, A, n, c, D, m, k, x, p, rfl, HX.out, HP.out, PP.out, rfl, Nat.le_refl _, HM.out, B1.out⟩
set_option maxRecDepth 100000 in
set_option maxHeartbeats 16000000 in
theorem proper_zero {s : Bool} {A D : Option Addr} {n c m k L : Nat} {x : Int} {p : Nat} {w : World} (h : Zin w s A n c x) (h' : Nin w D m k p) (hm : m ≤ L) (hL : 1 ≤ L) (hL2 : L ≤ 70368744177664) (hp : p = 0) :
    Calls Tryz.prog 89 #[.agg #[.bool s, .slice A n c, .slice D m k]] w (GivesP w n L x p) := by
  obtain ⟨B1, V0, V1⟩ := start_RR w s A n c D m k
  have HX := Lib.hid (h.below B1.out)
  have HP := Lib.hid (h'.below B1.out)
  have LM : Hid (m ≤ 70368744177664) := Nat.le_trans hm hL2
  have HM := Lib.hid hm
  have HL := Lib.hid hL
  have PP := Lib.hid hp
  obtain ⟨b, eb⟩ : ∃ z0, ((nbits p : Nat) : Int) = z0 := ⟨_, rfl⟩
  have EB := Lib.hid eb
  have hbz : (b == 0) = true := by
    have h1 := nbits_eq_zero (v := p)
    simp
    omega
  obtain ⟨z0, ez⟩ : ∃ z : Int, 0 = z := ⟨_, rfl⟩
  have EZ := Lib.hid ez
  have IZ : Hid (-9223372036854775808 ≤ (0 : Int) ∧ (0 : Int) ≤ 9223372036854775807) := by show _ ∧ _; omega
  clear h h' hm hL hL2 hp eb ez
  go_enter Tryz.func89, Tryz.ntmps89
  go_wp2_with fail
  generalize ((w.alloc (.cells #[.bool s, .slice A n c, .slice D m k] 29)).alloc (.cells #[.bool false, .slice none 0 0, .slice none 0 0] 29)) = w2 at *
  have pc0 := Lib.hid trivial
  go_wp2_with (first
    | (clear pc0; go_at_call 126; refine Calls.mono (bits_d (z := b) HP.out LM.out EB.out) ?_; rintro e w3 ⟨rfl, hb⟩; replace V0 := Lib.hid (V0.out.below hb V0.out.lt); replace V1 := Lib.hid (V1.out.below hb V1.out.lt); replace HX := Lib.hid (HX.out.below hb); replace HP := Lib.hid (HP.out.below hb); replace B1 := Lib.hid (B1.out.trans (hb.mono B1.out.size)); clear hb; have pc1 := Lib.hid trivial)
    | (clear pc1; go_at_call 124; refine Calls.mono (qfromInt_any (v := 0) (z := z0) IZ.out EZ.out _) ?_; rintro e w4 ⟨P, cP, Q, cQ, rfl, ho, ho2, hb⟩; replace V0 := Lib.hid (V0.out.below hb V0.out.lt); replace V1 := Lib.hid (V1.out.below hb V1.out.lt); replace HX := Lib.hid (HX.out.below hb); replace HP := Lib.hid (HP.out.below hb); replace B1 := Lib.hid (B1.out.trans (hb.mono B1.out.size)); have ZZ := Lib.hid (Zo.of_own ho); have NQ := Lib.hid (Nin.of_own ho2); clear ho ho2; clear hb; have pc2 := Lib.hid trivial)
    | (clear pc2; refine wpList_stR (by rfl) _ _ rfl (by rfl) (by rfl) V1.out ?_; intro w5 hz hg; replace V0 := Lib.hid (V0.out.gro hg (by simp)); replace HX := Lib.hid (HX.out.grR V1.out hg); replace HP := Lib.hid (HP.out.grR V1.out hg); replace ZZ := Lib.hid (ZZ.out.grR V1.out hg); replace NQ := Lib.hid (NQ.out.grR V1.out hg); replace B1 := Lib.hid (Below.gr B1.out (by simp) hg B1.out.size); replace V1 := Lib.hid hz; clear hz hg; have pc3 := Lib.hid trivial))
  clear pc3
  exact ret_rb Tryz.results89 rfl rfl V1.out ⟨_, _, _, _, _, _, _, z0, 1, rfl, ZZ.out.in_, NQ.out, by omega, by rw [PP.out, ← EZ.out, Rat.mkRat_zero, Rat.zero_mkRat], by rw [← EZ.out]; simp [ofv_zero], by rw [len_one]; exact HL.out, B1.out⟩
theorem proper_any {s : Bool} {A D : Option Addr} {n c m k L : Nat} {x : Int} {p : Nat} {w : World} (h : Zin w s A n c x) (h' : Nin w D m k p) (hm : m ≤ L) (hL : 1 ≤ L) (hL2 : L ≤ 70368744177664) :
    Calls Tryz.prog 89 #[.agg #[.bool s, .slice A n c, .slice D m k]] w (GivesP w n L x p) := by
  rcases Nat.eq_zero_or_pos p with hp | hp
  · exact proper_zero h h' hm hL hL2 hp
  · exact proper_pos h h' hm hL hL2 hp
end Go.Proofs.YtfacndibfkamgaaGreat
