/-
  Contract of integer.firstFactor.
-/
import Derived.Test.YtfmgbfdnmconiaaGreatZB
import Derived.Test.YtfmgbfdnmconiaaGreatZeuc
import Derived.Test.YtfmgbfdnmconiaaGreatZC
import Derived.Test.YtfmgbfdnmconiaaGreatZtri
import Derived.Test.YtfmgbfdnmconiaaGreatSplit
namespace Go.Proofs.YtfmgbfdnmconiaaGreat
open Go.RowKit
set_option linter.unusedVariables false

theorem Own.store {w : World} {lo cap g n c : Nat} {s : Bool} {A B : Option Addr} {xs : List Nat} (h : Own w lo A cap xs) (hz : Zb w g s B n c) (t : Bool) (C : Option Addr) (m d : Nat) : Own ((w.setCell ⟨g, 0, none⟩ (.bool t)).setCell ⟨g, 1, none⟩ (.slice C m d)) lo A cap xs := by
  obtain ⟨h0, h1, h2, h3⟩ := h
  refine ⟨h0, h1, h2, ?_⟩
  rcases h3 with h3 | ⟨b, o, cur, hA, hl, hr, hc⟩
  · exact .inl h3
  · have ne : b ≠ g := by
      intro e
      subst e
      unfold Zb at hz
      rw [hz] at hr
      simp only [Option.some.injEq, Obj.cells.injEq] at hr
      exact absurd hr.2.1 (by decide)
    exact .inr ⟨b, o, cur, hA, hl, (Below.heap_setCell _ ⟨g, 1, none⟩ _ b ne).trans ((Below.heap_setCell _ ⟨g, 0, none⟩ _ b ne).trans hr), hc⟩
/-- The number that a variable holds. -/
noncomputable def rdz (w : World) (g : Nat) : Nat := match w.cell? ⟨g, 1, none⟩ with | some v => rdv w v | none => 0
theorem rdz_eq {w : World} {g n c : Nat} {s : Bool} {A : Option Addr} {xs : List Nat} (h : Zb w g s A n c) (hr : Rd w A c xs) (hn : xs.length = n) : rdz w g = val xs := by
  unfold rdz
  rw [h.cells.2]
  exact rdv_rd hr hn
/-- The loop: the four variables hold the algorithm's numbers. -/
def FfInv (w : World) (lo g6 : Nat) (A B : Int) (a b x nx : Int) (wr : World) : Prop :=
  ∃ Pa ca Pb cb Px cx Py cy, EuInv A B a b x nx ∧ ((ofv a.natAbs).length ≤ 35184372087808 ∧ (ofv b.natAbs).length ≤ 35184372087808) ∧ w.heap.size + 1 + 1 + 1 < g6 ∧ Zb wr w.heap.size (decide (a < 0)) Pa (ofv a.natAbs).length ca ∧ Zb wr (w.heap.size + 1) (decide (b < 0)) Pb (ofv b.natAbs).length cb ∧ Zb wr (w.heap.size + 1 + 1) false none 0 0 ∧
    Zb wr (w.heap.size + 1 + 1 + 1) (decide (x < 0)) Px (ofv x.natAbs).length cx ∧ Zb wr g6 (decide (nx < 0)) Py (ofv nx.natAbs).length cy ∧
    Own wr lo Pa ca (ofv a.natAbs) ∧ Own wr lo Pb cb (ofv b.natAbs) ∧ Own wr lo Px cx (ofv x.natAbs) ∧ Own wr lo Py cy (ofv nx.natAbs) ∧ Below w.heap.size w wr

theorem FfInv.measure {w wr : World} {lo g6 : Nat} {A B a b x nx : Int} (h : FfInv w lo g6 A B a b x nx wr) : rdz wr (w.heap.size + 1) = b.natAbs := by
  obtain ⟨Pa, ca, Pb, cb, Px, cx, Py, cy, _, _, _, _, m3, _, _, _, _, o2, _⟩ := h
  rw [rdz_eq m3 o2.rd rfl, val_ofv]
end Go.Proofs.YtfmgbfdnmconiaaGreat
