/-
  Contracts of package rational: Sub, Neg, Sign, Inv, Div, Compare.
-/
import Derived.Test.YtebpoabflcngoaaGreatDoorRato
namespace Go.Proofs.YtebpoabflcngoaaGreatDoor
open Go.RowKit
set_option linter.unusedVariables false

theorem ret_rb2 {fn : Func} {R : Ending → World → Prop} {a : Act} {w : World} {j l g n c m k : Nat} {s b : Bool} {A D : Option Addr} (hf : fn.results = #[.cell j 26, .tmp l]) (hd : a.defers = [])
    (hk : (a.tmps[j]?).getD undef = .pointer (some ⟨g, 0, none⟩)) (hl : (a.tmps[l]?).getD undef = .bool b) (h : Rb w g s A n c D m k) (hR : R (.returned (.tuple #[.agg #[.bool s, .slice A n c, .slice D m k], .bool b])) w) : bodyPost Tryz.prog fn R .ret a w := by
  have z1 := cell_of_row w g 0 _ _ _ h
  have z2 := cell_of_row w g 1 _ _ _ h
  have z3 := cell_of_row w g 2 _ _ _ h
  exact bodyPost_ret_by (v := .tuple #[.agg #[.bool s, .slice A n c, .slice D m k], .bool b]) (by simp [results, hf, go_sem, hk, hl, z1, z2, z3]) hd hR
/-- A rational number and true. -/
def GivesRT (w : World) (z : Int) (d : Nat) (e : Ending) (w' : World) : Prop :=
  ∃ R c Q k, e = .returned (.tuple #[.agg #[.bool (decide (z < 0)), .slice R (ofv z.natAbs).length c, .slice Q (ofv d).length k], .bool true]) ∧ Own w' w.heap.size R c (ofv z.natAbs) ∧ Own w' w.heap.size Q k (ofv d) ∧ Below w.heap.size w w'
end Go.Proofs.YtebpoabflcngoaaGreatDoor
