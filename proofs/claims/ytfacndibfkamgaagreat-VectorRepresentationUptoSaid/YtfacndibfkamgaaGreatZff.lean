/-
  Contract of integer.firstFactor.
-/
import Derived.Test.YtfacndibfkamgaaGreatZB
import Derived.Test.YtfacndibfkamgaaGreatZeuc
import Derived.Test.YtfacndibfkamgaaGreatZC
import Derived.Test.YtfacndibfkamgaaGreatZtri
import Derived.Test.YtfacndibfkamgaaGreatSplit
namespace Go.Proofs.YtfacndibfkamgaaGreat
open Go.RowKit
set_option linter.unusedVariables false

/-- Two integers in memory from block lo on, no other result. -/
def GivesF3 (w : World) (lo : Nat) (g x : Int) (e : Ending) (w' : World) : Prop :=
  ∃ R c R' c', e = .returned (.tuple #[.agg #[.bool (decide (g < 0)), .slice R (ofv g.natAbs).length c], .agg #[.bool (decide (x < 0)), .slice R' (ofv x.natAbs).length c']]) ∧ Own w' lo R c (ofv g.natAbs) ∧ Own w' lo R' c' (ofv x.natAbs) ∧ Below w.heap.size w w'
theorem ret_zb2 {fn : Func} {R : Ending → World → Prop} {a : Act} {w : World} {k l g g' n c n' c' : Nat} {s s' : Bool} {A A' : Option Addr} (hf : fn.results = #[.cell k 27, .cell l 27]) (hd : a.defers = [])
    (hk : (a.tmps[k]?).getD undef = .pointer (some ⟨g, 0, none⟩)) (hl : (a.tmps[l]?).getD undef = .pointer (some ⟨g', 0, none⟩)) (h : Zb w g s A n c) (h' : Zb w g' s' A' n' c')
    (hR : R (.returned (.tuple #[.agg #[.bool s, .slice A n c], .agg #[.bool s', .slice A' n' c']])) w) : bodyPost Tryz.prog fn R .ret a w := by
  obtain ⟨z1, z2⟩ := h.cells
  obtain ⟨z3, z4⟩ := h'.cells
  exact bodyPost_ret_by (v := .tuple #[.agg #[.bool s, .slice A n c], .agg #[.bool s', .slice A' n' c']]) (by simp [results, hf, go_sem, hk, hl, z1, z2, z3, z4]) hd hR

/-- A variable is written: what other blocks hold. -/
theorem Zb.store_other {w : World} {g g' n c : Nat} {s : Bool} {A : Option Addr} (h : Zb w g' s A n c) (ne : g' ≠ g) (t : Bool) (B : Option Addr) (m d : Nat) : Zb ((w.setCell ⟨g, 0, none⟩ (.bool t)).setCell ⟨g, 1, none⟩ (.slice B m d)) g' s A n c :=
  (h.far (p := ⟨g, 0, none⟩) ne (.bool t)).far (p := ⟨g, 1, none⟩) ne (.slice B m d)
theorem Own.store {w : World} {lo cap g n c : Nat} {s : Bool} {A B : Option Addr} {xs : List Nat} (h : Own w lo A cap xs) (hz : Zb w g s B n c) (t : Bool) (C : Option Addr) (m d : Nat) : Own ((w.setCell ⟨g, 0, none⟩ (.bool t)).setCell ⟨g, 1, none⟩ (.slice C m d)) lo A cap xs := by
  obtain ⟨h0, h1, h2, h3⟩ := h
  refine ⟨h0, h1, h2, ?_⟩
  rcases h3 with h3 | ⟨b, o, cur, hA, hl, hr, hc⟩
  · exact .inl h3
  · have ne : b ≠ g := by
      intro e
      subst e
      unfold Zb at hz
      rw [hz] at hr
      simp only [Option.some.injEq, Obj.cells.injEq] at hr
      exact absurd hr.2.1 (by decide)
    exact .inr ⟨b, o, cur, hA, hl, (Below.heap_setCell _ ⟨g, 1, none⟩ _ b ne).trans ((Below.heap_setCell _ ⟨g, 0, none⟩ _ b ne).trans hr), hc⟩
/-- The number that a variable holds. -/
noncomputable def rdz (w : World) (g : Nat) : Nat := match w.cell? ⟨g, 1, none⟩ with | some v => rdv w v | none => 0
theorem rdz_eq {w : World} {g n c : Nat} {s : Bool} {A : Option Addr} {xs : List Nat} (h : Zb w g s A n c) (hr : Rd w A c xs) (hn : xs.length = n) : rdz w g = val xs := by
  unfold rdz
  rw [h.cells.2]
  exact rdv_rd hr hn
/-- The loop: the four variables hold the algorithm's numbers. -/
def FfInv (w : World) (lo g6 : Nat) (A B : Int) (a b x nx : Int) (wr : World) : Prop :=
  ∃ Pa ca Pb cb Px cx Py cy, EuInv A B a b x nx ∧ ((ofv a.natAbs).length ≤ 35184372087808 ∧ (ofv b.natAbs).length ≤ 35184372087808) ∧ w.heap.size + 1 + 1 + 1 < g6 ∧ Zb wr w.heap.size (decide (a < 0)) Pa (ofv a.natAbs).length ca ∧ Zb wr (w.heap.size + 1) (decide (b < 0)) Pb (ofv b.natAbs).length cb ∧ Zb wr (w.heap.size + 1 + 1) false none 0 0 ∧
    Zb wr (w.heap.size + 1 + 1 + 1) (decide (x < 0)) Px (ofv x.natAbs).length cx ∧ Zb wr g6 (decide (nx < 0)) Py (ofv nx.natAbs).length cy ∧
    Own wr lo Pa ca (ofv a.natAbs) ∧ Own wr lo Pb cb (ofv b.natAbs) ∧ Own wr lo Px cx (ofv x.natAbs) ∧ Own wr lo Py cy (ofv nx.natAbs) ∧ Below w.heap.size w wr

set_option maxHeartbeats 1000000 in
/-- The round's end: the two factors are stored. -/
theorem ff_close {w wr wd wy : World} {lo g6 : Nat} {A B a b x nx r y : Int} {Pb Pr Px Py Pz P7 : Option Addr} {cb cr cx cy cz : Nat} (NEW : Hid (EuInv A B b r nx y)) (SB : Hid ((ofv b.natAbs).length ≤ 35184372087808)) (SR : Hid ((ofv r.natAbs).length ≤ 35184372087808)) (GB : Hid (w.heap.size + 1 + 1 + 1 < g6))
    (M2 : Hid (Zb wd w.heap.size (decide (b < 0)) Pb (ofv b.natAbs).length cb)) (M3 : Hid (Zb wd (w.heap.size + 1) (decide (r < 0)) Pr (ofv r.natAbs).length cr)) (M4 : Hid (Zb wd (w.heap.size + 1 + 1) false none 0 0)) (M5 : Hid (Zb wd (w.heap.size + 1 + 1 + 1) (decide (x < 0)) Px (ofv x.natAbs).length cx)) (M6 : Hid (Zb wd g6 (decide (nx < 0)) Py (ofv nx.natAbs).length cy))
    (O2 : Hid (Own wd lo Pb cb (ofv b.natAbs))) (O3 : Hid (Own wd lo Pr cr (ofv r.natAbs))) (O4 : Hid (Own wd lo Py cy (ofv nx.natAbs))) (OZ : Hid (Own wy lo Pz cz (ofv y.natAbs))) (BL : Hid (Below w.heap.size w wd)) (BW : Hid (Below wd.heap.size wd wy)) :
    FfInv w lo g6 A B b r nx y ((((wy.setCell ⟨w.heap.size + 1 + 1 + 1, 0, none⟩ (.bool (decide (nx < 0)))).setCell ⟨w.heap.size + 1 + 1 + 1, 1, none⟩ (.slice Py (ofv nx.natAbs).length cy)).setCell ⟨g6, 0, none⟩ (.bool (decide (y < 0)))).setCell ⟨g6, 1, none⟩ (.slice Pz (ofv y.natAbs).length cz)) := by
  have gb := GB.out
  have N2 := (M2.out.below BW.out M2.out.lt)
  have N3 := (M3.out.below BW.out M3.out.lt)
  have N4 := (M4.out.below BW.out M4.out.lt)
  have N5 := (M5.out.below BW.out M5.out.lt)
  have N6 := (M6.out.below BW.out M6.out.lt)
  have P6 := N6.store_other (g := w.heap.size + 1 + 1 + 1) (by omega) (decide (nx < 0)) Py (ofv nx.natAbs).length cy
  refine ⟨Pb, cb, Pr, cr, Py, cy, Pz, cz, NEW.out, ⟨SB.out, SR.out⟩, gb, ?_, ?_, ?_, ?_, ?_, ?_, ?_, ?_, ?_, ?_⟩
  · exact (N2.store_other (g := w.heap.size + 1 + 1 + 1) (by omega) (decide (nx < 0)) Py (ofv nx.natAbs).length cy).store_other (g := g6) (by omega) (decide (y < 0)) Pz (ofv y.natAbs).length cz
  · exact (N3.store_other (g := w.heap.size + 1 + 1 + 1) (by omega) (decide (nx < 0)) Py (ofv nx.natAbs).length cy).store_other (g := g6) (by omega) (decide (y < 0)) Pz (ofv y.natAbs).length cz
  · exact (N4.store_other (g := w.heap.size + 1 + 1 + 1) (by omega) (decide (nx < 0)) Py (ofv nx.natAbs).length cy).store_other (g := g6) (by omega) (decide (y < 0)) Pz (ofv y.natAbs).length cz
  · exact (N5.lit (decide (nx < 0)) Py (ofv nx.natAbs).length cy).store_other (g := g6) (by omega) (decide (y < 0)) Pz (ofv y.natAbs).length cz
  · exact P6.lit (decide (y < 0)) Pz (ofv y.natAbs).length cz
  · exact ((O2.out.below BW.out).store N5 (decide (nx < 0)) Py (ofv nx.natAbs).length cy).store P6 (decide (y < 0)) Pz (ofv y.natAbs).length cz
  · exact ((O3.out.below BW.out).store N5 (decide (nx < 0)) Py (ofv nx.natAbs).length cy).store P6 (decide (y < 0)) Pz (ofv y.natAbs).length cz
  · exact ((O4.out.below BW.out).store N5 (decide (nx < 0)) Py (ofv nx.natAbs).length cy).store P6 (decide (y < 0)) Pz (ofv y.natAbs).length cz
  · exact (OZ.out.store N5 (decide (nx < 0)) Py (ofv nx.natAbs).length cy).store P6 (decide (y < 0)) Pz (ofv y.natAbs).length cz
  · exact ((((BL.out.trans (BW.out.mono BL.out.size)).setCell (p := ⟨w.heap.size + 1 + 1 + 1, 0, none⟩) (by show _ ≤ w.heap.size + 1 + 1 + 1; omega) (.bool (decide (nx < 0)))).setCell (p := ⟨w.heap.size + 1 + 1 + 1, 1, none⟩) (by show _ ≤ w.heap.size + 1 + 1 + 1; omega) (.slice Py (ofv nx.natAbs).length cy)).setCell (p := ⟨g6, 0, none⟩) (by show _ ≤ g6; omega) (.bool (decide (y < 0)))).setCell (p := ⟨g6, 1, none⟩) (by show _ ≤ g6; omega) (.slice Pz (ofv y.natAbs).length cz)
theorem FfInv.measure {w wr : World} {lo g6 : Nat} {A B a b x nx : Int} (h : FfInv w lo g6 A B a b x nx wr) : rdz wr (w.heap.size + 1) = b.natAbs := by
  obtain ⟨Pa, ca, Pb, cb, Px, cx, Py, cy, _, _, _, _, m3, _, _, _, _, o2, _⟩ := h
  rw [rdz_eq m3 o2.rd rfl, val_ofv]
end Go.Proofs.YtfacndibfkamgaaGreat
