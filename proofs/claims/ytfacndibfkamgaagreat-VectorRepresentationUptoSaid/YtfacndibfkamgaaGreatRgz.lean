/-
  Integers and new variables as what operations of a region leave.
-/
import Derived.Test.YtfacndibfkamgaaGreatRg
import Derived.Test.YtfacndibfkamgaaGreatZff
namespace Go.Proofs.YtfacndibfkamgaaGreat
open Go.RowKit
set_option linter.unusedVariables false

/-- A canonical integer in memory from block lo on. -/
def isZ (z : Int) (lo : Nat) (v : Value) (w : World) : Prop := ∃ R c, v = .agg #[.bool (decide (z < 0)), .slice R (ofv z.natAbs).length c] ∧ Own w lo R c (ofv z.natAbs)
theorem isZ_good (z : Int) (lo : Nat) : Good (isZ z lo) :=
  ⟨fun v w w' hb ⟨R, c, e, o⟩ => ⟨R, c, e, o.below hb⟩, fun v w g ⟨R, c, e, o⟩ h => by subst e; cases h⟩
/-- A new variable of the type of integers. -/
def isNewZ (lo : Nat) (v : Value) (w : World) : Prop := ∃ g, v = .pointer (some ⟨g, 0, none⟩) ∧ lo ≤ g ∧ Zb w g false none 0 0
theorem isNewZ_good (lo : Nat) : Good (isNewZ lo) :=
  ⟨fun v w w' hb ⟨g, e, l, z⟩ => ⟨g, e, l, z.below hb z.lt⟩, fun v w g ⟨g', e, l, z⟩ h => by subst e; cases h; exact z.lt⟩
theorem LeavesB.newZ {lo : Nat} {w : World} (h : lo ≤ w.heap.size) : LeavesB (isNewZ lo) w (.pointer (some ⟨w.heap.size, 0, none⟩)) (w.alloc (.cells #[.bool false, .slice none 0 0] 27)) :=
  ⟨(Below.refl _ _).alloc (Nat.le_refl _) _, ⟨_, rfl, h, Zb.new w false none 0 0⟩, fun g hg => by cases hg; exact Nat.le_refl _⟩
theorem LeavesB.giveZ {lo : Nat} {w w' : World} {z : Int} {R : Option Addr} {c : Nat} (h : lo ≤ w.heap.size) (ho : Own w' w.heap.size R c (ofv z.natAbs)) (hb : Below w.heap.size w w') :
    LeavesB (isZ z lo) w (.agg #[.bool (decide (z < 0)), .slice R (ofv z.natAbs).length c]) w' :=
  ⟨hb, ⟨R, c, rfl, ho.mono h⟩, fun g hg => by cases hg⟩
/-- Quotient and remainder. -/
def isQ (q r : Int) (lo : Nat) (v : Value) (w : World) : Prop := ∃ R c R' c', v = .tuple #[.agg #[.bool (decide (q < 0)), .slice R (ofv q.natAbs).length c], .agg #[.bool (decide (r < 0)), .slice R' (ofv r.natAbs).length c'], .bool true] ∧ Own w lo R c (ofv q.natAbs) ∧ Own w lo R' c' (ofv r.natAbs)
theorem isQ_good (q r : Int) (lo : Nat) : Good (isQ q r lo) :=
  ⟨fun v w w' hb ⟨R, c, R', c', e, o, o'⟩ => ⟨R, c, R', c', e, o.below hb, o'.below hb⟩, fun v w g ⟨R, c, R', c', e, o, o'⟩ h => by subst e; cases h⟩
/-- This very value, no address. -/
def isV (u : Value) (v : Value) (w : World) : Prop := v = u ∧ blk u = none
theorem isV_good (u : Value) : Good (isV u) := ⟨fun v w w' hb h => h, fun v w g h hg => by rw [h.1, h.2] at hg; cases hg⟩
theorem LeavesB.same {f : Value → World → Prop} {w : World} {v : Value} (h : f v w) (hv : blk v = none) : LeavesB f w v w := ⟨Below.refl _ _, h, fun g hg => by rw [hv] at hg; cases hg⟩
theorem LeavesB.behind {f : Value → World → Prop} {w w' : World} {v : Value} (hb : Below w.heap.size w w') (h : f v w') (hv : blk v = none) : LeavesB f w v w' := ⟨hb, h, fun g hg => by rw [hv] at hg; cases hg⟩
theorem Rd.store {w : World} {cap g n c : Nat} {s : Bool} {A B : Option Addr} {xs : List Nat} (h : Rd w A cap xs) (hz : Zb w g s B n c) (t : Bool) (C : Option Addr) (m d : Nat) : Rd ((w.setCell ⟨g, 0, none⟩ (.bool t)).setCell ⟨g, 1, none⟩ (.slice C m d)) A cap xs := by
  obtain ⟨h0, h1, h2, h3⟩ := h
  refine ⟨h0, h1, h2, ?_⟩
  rcases h3 with h3 | ⟨b, o, hA, hl, hc⟩
  · exact .inl h3
  · refine .inr ⟨b, o, hA, by simpa using hl, fun i hi => ?_⟩
    have hce := hc i hi
    have ne : b ≠ g := by
      intro e
      subst e
      obtain ⟨z1, z2⟩ := hz.cells
      unfold Zb at hz
      have hz' := hz
      unfold World.cell? at hce
      simp only [hz'] at hce
      rcases Nat.lt_trichotomy (o + i) 1 with h | h | h
      · have e0 : o + i = 0 := by omega
        rw [e0] at hce
        simp at hce
      · rw [h] at hce
        simp at hce
      · rw [show #[Value.bool s, Value.slice B n c][o + i]? = none from Array.getElem?_eq_none (by simp; omega)] at hce
        cases hce
    have e1 : ((w.setCell ⟨g, 0, none⟩ (.bool t)).setCell ⟨g, 1, none⟩ (.slice C m d)).heap[b]? = w.heap[b]? := (Below.heap_setCell _ ⟨g, 1, none⟩ _ b ne).trans (Below.heap_setCell _ ⟨g, 0, none⟩ _ b ne)
    unfold World.cell? at hce ⊢
    simp only [e1]
    exact hce
theorem Zin.store {w : World} {g n c m' d' : Nat} {s s' : Bool} {A B : Option Addr} {z : Int} (h : Zin w s A n c z) (hz : Zb w g s' B m' d') (t : Bool) (C : Option Addr) (m d : Nat) : Zin ((w.setCell ⟨g, 0, none⟩ (.bool t)).setCell ⟨g, 1, none⟩ (.slice C m d)) s A n c z := by
  obtain ⟨xs, h1, h2, h3⟩ := h
  exact ⟨xs, h1.store hz t C m d, h2, h3⟩
theorem Below.stv {w w' : World} {lo g : Nat} (h : Below lo w w') (hg : lo ≤ g) (t : Bool) (C : Option Addr) (m d : Nat) : Below lo w ((w'.setCell ⟨g, 0, none⟩ (.bool t)).setCell ⟨g, 1, none⟩ (.slice C m d)) :=
  (h.setCell (p := ⟨g, 0, none⟩) hg _).setCell (p := ⟨g, 1, none⟩) hg _
end Go.Proofs.YtfacndibfkamgaaGreat
