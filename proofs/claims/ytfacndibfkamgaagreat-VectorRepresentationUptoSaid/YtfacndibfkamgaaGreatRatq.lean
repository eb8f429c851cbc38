/-
  Contracts of package rational: Sub, Neg, Sign, Inv, Div, Compare.
-/
import Derived.Test.YtfacndibfkamgaaGreatRato
namespace Go.Proofs.YtfacndibfkamgaaGreat
open Go.RowKit
set_option linter.unusedVariables false

theorem field0 (s : Bool) (A : Option Addr) (n c : Nat) (D : Option Addr) (m k : Nat) (w : World) : (Instr.field 29 (.agg #[.bool s, .slice A n c, .slice D m k]) 0).run Tryz.prog w = .ok (.agg #[.bool s, .slice A n c]) w := by kernel_rfl
theorem field1 (s : Bool) (A : Option Addr) (n c : Nat) (D : Option Addr) (m k : Nat) (w : World) : (Instr.field 29 (.agg #[.bool s, .slice A n c, .slice D m k]) 1).run Tryz.prog w = .ok (.slice D m k) w := by kernel_rfl
theorem start_R (w : World) (s0 : Bool) (A0 : Option Addr) (n0 c0 : Nat) (D0 : Option Addr) (m0 k0 : Nat) :
    Hid (Below w.heap.size w (w.alloc (.cells #[.bool s0, .slice A0 n0 c0, .slice D0 m0 k0] 29))) ∧ Hid (Rb (w.alloc (.cells #[.bool s0, .slice A0 n0 c0, .slice D0 m0 k0] 29)) (w.heap.size) s0 A0 n0 c0 D0 m0 k0) := by
  refine ⟨?_, ?_⟩
  · exact ((Below.refl _ _).alloc (by first | exact Nat.le_refl _ | (simp; done) | (simp; omega)) _)
  · have := Rb.new w s0 A0 n0 c0 D0 m0 k0
    exact this
set_option maxRecDepth 100000 in
set_option maxHeartbeats 16000000 in
theorem qneg_any {s : Bool} {A D : Option Addr} {n c m k L : Nat} {x : Int} {p : Nat} {w : World} (h : Zin w s A n c x) (h' : Nin w D m k p) (hn : n ≤ L) (hm : m ≤ L) (hL : 1 ≤ L ∧ L ≤ 70368744177660) {z : Int} {d : Nat} (hz : (-mkRat x p).num = z) (hd : (-mkRat x p).den = d) :
    Calls Tryz.prog 123 #[.agg #[.bool s, .slice A n c, .slice D m k]] w (GivesR w z d) := by
  obtain ⟨B1, V0, V1⟩ := start_RR w s A n c D m k
  have HX := Lib.hid (h.below B1.out)
  have HP := Lib.hid (h'.below B1.out)
  have LN := Lib.hid hn
  have LM := Lib.hid hm
  have L1 := Lib.hid hL.1
  have L2 := Lib.hid hL.2
  have LL := Lib.hid hL
  have L4 : Hid (L ≤ 70368744177664) := Nat.le_trans hL.2 (by decide)
  obtain ⟨ny, eny⟩ : ∃ z0 : Int, -x = z0 := ⟨_, rfl⟩
  have ENY := Lib.hid eny
  have HZ1 : Hid ((mkRat ny p).num = z) := by show _ = _; rw [← eny, ← Rat.neg_mkRat]; exact hz
  have HD1 : Hid ((mkRat ny p).den = d) := by show _ = _; rw [← eny, ← Rat.neg_mkRat]; exact hd
  obtain ⟨t', et⟩ : ∃ b : Bool, (!s) = b := ⟨_, rfl⟩
  have ET := Lib.hid et
  clear eny hz hd
  clear h h' hn hm hL
  go_enter Tryz.func123, Tryz.ntmps123
  go_wp2_with fail
  generalize ((w.alloc (.cells #[.bool s, .slice A n c, .slice D m k] 29)).alloc (.cells #[.bool false, .slice none 0 0, .slice none 0 0] 29)) = w2 at *
  have pc0 := Lib.hid trivial
  go_wp2_with (first
    | (clear pc0; go_at_call 157; refine Calls.mono (opposite_any _ _ _ _ _ _ _ _) ?_; rintro e w3 ⟨rfl, hb⟩; replace V0 := Lib.hid (V0.out.below hb V0.out.lt); replace V1 := Lib.hid (V1.out.below hb V1.out.lt); replace HX := Lib.hid (HX.out.below hb); replace HP := Lib.hid (HP.out.below hb); replace B1 := Lib.hid (B1.out.trans (hb.mono B1.out.size)); clear hb; have pc1 := Lib.hid trivial)
    | (clear pc1; have SZ := Lib.hid B1.out.size; go_at_call 47; refine Calls.mono (norm_any (z := z) (d := d) (HX.out.flip ET.out ENY.out) HP.out LN.out LM.out LL.out HZ1.out HD1.out) ?_; rintro e w4 ⟨P1, c1, P2, c2, rfl, ho, ho2, hb⟩; replace V0 := Lib.hid (V0.out.below hb V0.out.lt); replace V1 := Lib.hid (V1.out.below hb V1.out.lt); replace HX := Lib.hid (HX.out.below hb); replace HP := Lib.hid (HP.out.below hb); replace B1 := Lib.hid (B1.out.trans (hb.mono B1.out.size)); have OQ := Lib.hid (ho.mono SZ.out); have OD := Lib.hid (ho2.mono SZ.out); clear ho ho2 SZ; clear hb; have pc2 := Lib.hid trivial)
    | (clear pc2; refine wpList_stR (by rfl) _ _ rfl (by rfl) (by rfl) V1.out ?_; intro w5 hz hg; replace V0 := Lib.hid (V0.out.gro hg (by omega)); replace HX := Lib.hid (HX.out.grR V1.out hg); replace HP := Lib.hid (HP.out.grR V1.out hg); replace OQ := Lib.hid (OQ.out.grR V1.out hg); replace OD := Lib.hid (OD.out.grR V1.out hg); replace B1 := Lib.hid (Below.gr B1.out (by omega) hg B1.out.size); replace V1 := Lib.hid hz; clear hz hg; have pc3 := Lib.hid trivial))
  clear pc3
  exact ret_rb Tryz.results123 rfl rfl V1.out ⟨_, _, _, _, rfl, OQ.out, OD.out, B1.out⟩
set_option maxRecDepth 100000 in
set_option maxHeartbeats 16000000 in
theorem qsign_any {s : Bool} {A D : Option Addr} {n c m k L : Nat} {x : Int} {p : Nat} {w : World} (h : Zin w s A n c x) (h' : Nin w D m k p) (hn : n ≤ L) (hm : m ≤ L) (hL : 1 ≤ L ∧ L ≤ 70368744177660) {r : Int} (hr : sgR (mkRat x p) = r) :
    Calls Tryz.prog 52 #[.agg #[.bool s, .slice A n c, .slice D m k]] w fun e w' => e = .returned (.int .i64 r) ∧ Below w.heap.size w w' := by
  obtain ⟨B1, V0⟩ := start_R w s A n c D m k
  have HX := Lib.hid (h.below B1.out)
  have HP := Lib.hid (h'.below B1.out)
  have LN := Lib.hid hn
  have LM := Lib.hid hm
  have L1 := Lib.hid hL.1
  have L2 := Lib.hid hL.2
  have LL := Lib.hid hL
  have L4 : Hid (L ≤ 70368744177664) := Nat.le_trans hL.2 (by decide)
  have HR := Lib.hid hr
  clear hr
  clear h h' hn hm hL
  go_enter Tryz.func52, Tryz.ntmps52
  go_wp2_with fail
  generalize (w.alloc (.cells #[.bool s, .slice A n c, .slice D m k] 29)) = w2 at *
  have hf0 := field0
  have pc0 := Lib.hid trivial
  go_wp2_with (first
    | (clear pc0; go_at_call 89; refine Calls.mono (proper_any HX.out HP.out LM.out L1.out L4.out) ?_; rintro e w3 ⟨Fs, FA, Fn, Fc, FD, Fm, Fk, Fx, Fp, rfl, q1, q2, q3, q4, q5, q6, hb⟩; replace V0 := Lib.hid (V0.out.below hb V0.out.lt); replace HX := Lib.hid (HX.out.below hb); replace HP := Lib.hid (HP.out.below hb); replace B1 := Lib.hid (B1.out.trans (hb.mono B1.out.size)); have FX := Lib.hid q1; have FP := Lib.hid q2; have F0 := Lib.hid q3; have FE := Lib.hid q4; have FN := Lib.hid (Nat.le_trans q5 LN.out); have FM := Lib.hid q6; clear q1 q2 q3 q4 q5 q6; clear hb; have pc1 := Lib.hid trivial))
  clear pc1
  clear hf0
  go_at_call 74
  refine Calls.mono (sign_k (z := Fx) (r := r) FX.out (by rw [← sgR_mk F0.out, FE.out]; exact HR.out)) ?_
  rintro e w4 ⟨rfl, hb⟩
  replace V0 := Lib.hid (V0.out.below hb V0.out.lt)
  replace HX := Lib.hid (HX.out.below hb)
  replace HP := Lib.hid (HP.out.below hb)
  replace FX := Lib.hid (FX.out.below hb)
  replace FP := Lib.hid (FP.out.below hb)
  replace B1 := Lib.hid (B1.out.trans (hb.mono B1.out.size))
  clear hb
  go_wp2
  go_ret
  exact ⟨rfl, B1.out⟩
theorem ret_rb2 {fn : Func} {R : Ending → World → Prop} {a : Act} {w : World} {j l g n c m k : Nat} {s b : Bool} {A D : Option Addr} (hf : fn.results = #[.cell j 29, .tmp l]) (hd : a.defers = [])
    (hk : (a.tmps[j]?).getD undef = .pointer (some ⟨g, 0, none⟩)) (hl : (a.tmps[l]?).getD undef = .bool b) (h : Rb w g s A n c D m k) (hR : R (.returned (.tuple #[.agg #[.bool s, .slice A n c, .slice D m k], .bool b])) w) : bodyPost Tryz.prog fn R .ret a w := by
  have z1 := cell_of_row w g 0 _ _ _ h
  have z2 := cell_of_row w g 1 _ _ _ h
  have z3 := cell_of_row w g 2 _ _ _ h
  exact bodyPost_ret_by (v := .tuple #[.agg #[.bool s, .slice A n c, .slice D m k], .bool b]) (by simp [results, hf, go_sem, hk, hl, z1, z2, z3]) hd hR
/-- A rational number and true. -/
def GivesRT (w : World) (z : Int) (d : Nat) (e : Ending) (w' : World) : Prop :=
  ∃ R c Q k, e = .returned (.tuple #[.agg #[.bool (decide (z < 0)), .slice R (ofv z.natAbs).length c, .slice Q (ofv d).length k], .bool true]) ∧ Own w' w.heap.size R c (ofv z.natAbs) ∧ Own w' w.heap.size Q k (ofv d) ∧ Below w.heap.size w w'
/-- The zero value and false. -/
def GivesRF (w : World) (e : Ending) (w' : World) : Prop := e = .returned (.tuple #[.agg #[.bool false, .slice none 0 0, .slice none 0 0], .bool false]) ∧ Below w.heap.size w w'
theorem sgR_zero {r : Rat} : sgR r = 0 ↔ r = 0 := by
  unfold sgR
  constructor
  · intro h
    rcases sg_cases r.num with ⟨e, h1⟩ | ⟨e, h1⟩ | ⟨e, h1⟩ <;> (try omega)
    exact Rat.num_eq_zero.1 h1
  · intro h; subst h; rfl
/-- The reciprocal's parts. -/
theorem recip_parts {w : World} {s : Bool} {A : Option Addr} {n c : Nat} {x : Int} {p : Nat} {D : Option Addr} {m k : Nat} (h : Zin w s A n c x) (h' : Nin w D m k p) (hx : mkRat x p ≠ 0) :
    Zin w s D m k (zv s p) ∧ Nin w A n c x.natAbs ∧ mkRat (zv s p) x.natAbs = (mkRat x p)⁻¹ := by
  have hp : p ≠ 0 := fun e => hx (by rw [e, Rat.mkRat_zero])
  have hx0 : x ≠ 0 := fun e => hx (by rw [e, Rat.zero_mkRat])
  obtain ⟨ys, k1, k2, k3⟩ := h'
  refine ⟨⟨ys, k1, k2, by rw [k3]⟩, h.mag rfl, ?_⟩
  obtain ⟨xs, l1, l2, l3⟩ := h
  have es : decide (x < 0) = s := by
    rw [← l3, zv_neg]
    have : val xs ≠ 0 := fun e => hx0 (by rw [← l3, e, zv_zero])
    cases s <;> simp; omega
  rw [mk_inv hx0 (by omega), es]
end Go.Proofs.YtfacndibfkamgaaGreat
