/-
  Contracts of package rational: Sub, Neg, Sign, Inv, Div, Compare.
-/
import Derived.Test.YtebpoabflcngoaaGreatDoorRato
namespace Go.Proofs.YtebpoabflcngoaaGreatDoor
open Go.RowKit
set_option linter.unusedVariables false

theorem field0 (s : Bool) (A : Option Addr) (n c : Nat) (D : Option Addr) (m k : Nat) (w : World) : (Instr.field 26 (.agg #[.bool s, .slice A n c, .slice D m k]) 0).run Tryz.prog w = .ok (.agg #[.bool s, .slice A n c]) w := by kernel_rfl
theorem field1 (s : Bool) (A : Option Addr) (n c : Nat) (D : Option Addr) (m k : Nat) (w : World) : (Instr.field 26 (.agg #[.bool s, .slice A n c, .slice D m k]) 1).run Tryz.prog w = .ok (.slice D m k) w := by kernel_rfl
theorem start_R (w : World) (s0 : Bool) (A0 : Option Addr) (n0 c0 : Nat) (D0 : Option Addr) (m0 k0 : Nat) :
    Hid (Below w.heap.size w (w.alloc (.cells #[.bool s0, .slice A0 n0 c0, .slice D0 m0 k0] 26))) ∧ Hid (Rb (w.alloc (.cells #[.bool s0, .slice A0 n0 c0, .slice D0 m0 k0] 26)) (w.heap.size) s0 A0 n0 c0 D0 m0 k0) := by
  refine ⟨?_, ?_⟩
  · exact ((Below.refl _ _).alloc (by first | exact Nat.le_refl _ | (simp; done) | (simp; omega)) _)
  · have := Rb.new w s0 A0 n0 c0 D0 m0 k0
    exact this
theorem ret_rb2 {fn : Func} {R : Ending → World → Prop} {a : Act} {w : World} {j l g n c m k : Nat} {s b : Bool} {A D : Option Addr} (hf : fn.results = #[.cell j 26, .tmp l]) (hd : a.defers = [])
    (hk : (a.tmps[j]?).getD undef = .pointer (some ⟨g, 0, none⟩)) (hl : (a.tmps[l]?).getD undef = .bool b) (h : Rb w g s A n c D m k) (hR : R (.returned (.tuple #[.agg #[.bool s, .slice A n c, .slice D m k], .bool b])) w) : bodyPost Tryz.prog fn R .ret a w := by
  have z1 := cell_of_row w g 0 _ _ _ h
  have z2 := cell_of_row w g 1 _ _ _ h
  have z3 := cell_of_row w g 2 _ _ _ h
  exact bodyPost_ret_by (v := .tuple #[.agg #[.bool s, .slice A n c, .slice D m k], .bool b]) (by simp [results, hf, go_sem, hk, hl, z1, z2, z3]) hd hR
/-- A rational number and true. -/
def GivesRT (w : World) (z : Int) (d : Nat) (e : Ending) (w' : World) : Prop :=
  ∃ R c Q k, e = .returned (.tuple #[.agg #[.bool (decide (z < 0)), .slice R (ofv z.natAbs).length c, .slice Q (ofv d).length k], .bool true]) ∧ Own w' w.heap.size R c (ofv z.natAbs) ∧ Own w' w.heap.size Q k (ofv d) ∧ Below w.heap.size w w'
/-- The zero value and false. -/
def GivesRF (w : World) (e : Ending) (w' : World) : Prop := e = .returned (.tuple #[.agg #[.bool false, .slice none 0 0, .slice none 0 0], .bool false]) ∧ Below w.heap.size w w'
theorem sgR_zero {r : Rat} : sgR r = 0 ↔ r = 0 := by
  unfold sgR
  constructor
  · intro h
    rcases sg_cases r.num with ⟨e, h1⟩ | ⟨e, h1⟩ | ⟨e, h1⟩ <;> (try omega)
    exact Rat.num_eq_zero.1 h1
  · intro h; subst h; rfl
/-- The reciprocal's parts. -/
theorem recip_parts {w : World} {s : Bool} {A : Option Addr} {n c : Nat} {x : Int} {p : Nat} {D : Option Addr} {m k : Nat} (h : Zin w s A n c x) (h' : Nin w D m k p) (hx : mkRat x p ≠ 0) :
    Zin w s D m k (zv s p) ∧ Nin w A n c x.natAbs ∧ mkRat (zv s p) x.natAbs = (mkRat x p)⁻¹ := by
  have hp : p ≠ 0 := fun e => hx (by rw [e, Rat.mkRat_zero])
  have hx0 : x ≠ 0 := fun e => hx (by rw [e, Rat.zero_mkRat])
  obtain ⟨ys, k1, k2, k3⟩ := h'
  refine ⟨⟨ys, k1, k2, by rw [k3]⟩, h.mag rfl, ?_⟩
  obtain ⟨xs, l1, l2, l3⟩ := h
  have es : decide (x < 0) = s := by
    rw [← l3, zv_neg]
    have : val xs ≠ 0 := fun e => hx0 (by rw [← l3, e, zv_zero])
    cases s <;> simp; omega
  rw [mk_inv hx0 (by omega), es]
end Go.Proofs.YtebpoabflcngoaaGreatDoor
