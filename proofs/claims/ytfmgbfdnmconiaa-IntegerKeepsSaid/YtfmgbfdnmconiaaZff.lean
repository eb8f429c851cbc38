/-
  Contract of integer.firstFactor.
-/
import Derived.Test.YtfmgbfdnmconiaaZB
import Derived.Test.YtfmgbfdnmconiaaZeuc
import Derived.Test.YtfmgbfdnmconiaaZC
import Derived.Test.YtfmgbfdnmconiaaZtri
import Derived.Test.YtfmgbfdnmconiaaSplit
namespace Go.Proofs.Ytfmgbfdnmconiaa
open Go.RowKit
set_option linter.unusedVariables false

/-- Two integers in memory from block lo on, no other result. -/
def GivesF3 (w : World) (lo : Nat) (g x : Int) (e : Ending) (w' : World) : Prop :=
  ∃ R c R' c', e = .returned (.tuple #[.agg #[.bool (decide (g < 0)), .slice R (ofv g.natAbs).length c], .agg #[.bool (decide (x < 0)), .slice R' (ofv x.natAbs).length c']]) ∧ Own w' lo R c (ofv g.natAbs) ∧ Own w' lo R' c' (ofv x.natAbs) ∧ Below w.heap.size w w'
theorem ret_zb2 {fn : Func} {R : Ending → World → Prop} {a : Act} {w : World} {k l g g' n c n' c' : Nat} {s s' : Bool} {A A' : Option Addr} (hf : fn.results = #[.cell k 24, .cell l 24]) (hd : a.defers = [])
    (hk : (a.tmps[k]?).getD undef = .pointer (some ⟨g, 0, none⟩)) (hl : (a.tmps[l]?).getD undef = .pointer (some ⟨g', 0, none⟩)) (h : Zb w g s A n c) (h' : Zb w g' s' A' n' c')
    (hR : R (.returned (.tuple #[.agg #[.bool s, .slice A n c], .agg #[.bool s', .slice A' n' c']])) w) : bodyPost Try.prog fn R .ret a w := by
  obtain ⟨z1, z2⟩ := h.cells
  obtain ⟨z3, z4⟩ := h'.cells
  exact bodyPost_ret_by (v := .tuple #[.agg #[.bool s, .slice A n c], .agg #[.bool s', .slice A' n' c']]) (by simp [results, hf, go_sem, hk, hl, z1, z2, z3, z4]) hd hR

/-- A variable is written: what other blocks hold. -/
theorem Zb.store_other {w : World} {g g' n c : Nat} {s : Bool} {A : Option Addr} (h : Zb w g' s A n c) (ne : g' ≠ g) (t : Bool) (B : Option Addr) (m d : Nat) : Zb ((w.setCell ⟨g, 0, none⟩ (.bool t)).setCell ⟨g, 1, none⟩ (.slice B m d)) g' s A n c :=
  (h.far (p := ⟨g, 0, none⟩) ne (.bool t)).far (p := ⟨g, 1, none⟩) ne (.slice B m d)
theorem Own.store {w : World} {lo cap g n c : Nat} {s : Bool} {A B : Option Addr} {xs : List Nat} (h : Own w lo A cap xs) (hz : Zb w g s B n c) (t : Bool) (C : Option Addr) (m d : Nat) : Own ((w.setCell ⟨g, 0, none⟩ (.bool t)).setCell ⟨g, 1, none⟩ (.slice C m d)) lo A cap xs := by
  obtain ⟨h0, h1, h2, h3⟩ := h
  refine ⟨h0, h1, h2, ?_⟩
  rcases h3 with h3 | ⟨b, o, cur, hA, hl, hr, hc⟩
  · exact .inl h3
  · have ne : b ≠ g := by
      intro e
      subst e
      unfold Zb at hz
      rw [hz] at hr
      simp only [Option.some.injEq, Obj.cells.injEq] at hr
      exact absurd hr.2.1 (by decide)
    exact .inr ⟨b, o, cur, hA, hl, (Below.heap_setCell _ ⟨g, 1, none⟩ _ b ne).trans ((Below.heap_setCell _ ⟨g, 0, none⟩ _ b ne).trans hr), hc⟩
/-- The number that a variable holds. -/
noncomputable def rdz (w : World) (g : Nat) : Nat := match w.cell? ⟨g, 1, none⟩ with | some v => rdv w v | none => 0
theorem rdz_eq {w : World} {g n c : Nat} {s : Bool} {A : Option Addr} {xs : List Nat} (h : Zb w g s A n c) (hr : Rd w A c xs) (hn : xs.length = n) : rdz w g = val xs := by
  unfold rdz
  rw [h.cells.2]
  exact rdv_rd hr hn
/-- The loop: the four variables hold the algorithm's numbers. -/
def FfInv (w : World) (lo g6 : Nat) (A B : Int) (a b x nx : Int) (wr : World) : Prop :=
  ∃ Pa ca Pb cb Px cx Py cy, EuInv A B a b x nx ∧ ((ofv a.natAbs).length ≤ 35184372087808 ∧ (ofv b.natAbs).length ≤ 35184372087808) ∧ w.heap.size + 1 + 1 + 1 < g6 ∧ Zb wr w.heap.size (decide (a < 0)) Pa (ofv a.natAbs).length ca ∧ Zb wr (w.heap.size + 1) (decide (b < 0)) Pb (ofv b.natAbs).length cb ∧ Zb wr (w.heap.size + 1 + 1) false none 0 0 ∧
    Zb wr (w.heap.size + 1 + 1 + 1) (decide (x < 0)) Px (ofv x.natAbs).length cx ∧ Zb wr g6 (decide (nx < 0)) Py (ofv nx.natAbs).length cy ∧
    Own wr lo Pa ca (ofv a.natAbs) ∧ Own wr lo Pb cb (ofv b.natAbs) ∧ Own wr lo Px cx (ofv x.natAbs) ∧ Own wr lo Py cy (ofv nx.natAbs) ∧ Below w.heap.size w wr

set_option maxHeartbeats 1000000 in
/-- The round's end: the two factors are stored. -/
theorem ff_close {w wr wd wy : World} {lo g6 : Nat} {A B a b x nx r y : Int} {Pb Pr Px Py Pz P7 : Option Addr} {cb cr cx cy cz : Nat} (NEW : Hid (EuInv A B b r nx y)) (SB : Hid ((ofv b.natAbs).length ≤ 35184372087808)) (SR : Hid ((ofv r.natAbs).length ≤ 35184372087808)) (GB : Hid (w.heap.size + 1 + 1 + 1 < g6))
    (M2 : Hid (Zb wd w.heap.size (decide (b < 0)) Pb (ofv b.natAbs).length cb)) (M3 : Hid (Zb wd (w.heap.size + 1) (decide (r < 0)) Pr (ofv r.natAbs).length cr)) (M4 : Hid (Zb wd (w.heap.size + 1 + 1) false none 0 0)) (M5 : Hid (Zb wd (w.heap.size + 1 + 1 + 1) (decide (x < 0)) Px (ofv x.natAbs).length cx)) (M6 : Hid (Zb wd g6 (decide (nx < 0)) Py (ofv nx.natAbs).length cy))
    (O2 : Hid (Own wd lo Pb cb (ofv b.natAbs))) (O3 : Hid (Own wd lo Pr cr (ofv r.natAbs))) (O4 : Hid (Own wd lo Py cy (ofv nx.natAbs))) (OZ : Hid (Own wy lo Pz cz (ofv y.natAbs))) (BL : Hid (Below w.heap.size w wd)) (BW : Hid (Below wd.heap.size wd wy)) :
    FfInv w lo g6 A B b r nx y ((((wy.setCell ⟨w.heap.size + 1 + 1 + 1, 0, none⟩ (.bool (decide (nx < 0)))).setCell ⟨w.heap.size + 1 + 1 + 1, 1, none⟩ (.slice Py (ofv nx.natAbs).length cy)).setCell ⟨g6, 0, none⟩ (.bool (decide (y < 0)))).setCell ⟨g6, 1, none⟩ (.slice Pz (ofv y.natAbs).length cz)) := by
  have gb := GB.out
  have N2 := (M2.out.below BW.out M2.out.lt)
  have N3 := (M3.out.below BW.out M3.out.lt)
  have N4 := (M4.out.below BW.out M4.out.lt)
  have N5 := (M5.out.below BW.out M5.out.lt)
  have N6 := (M6.out.below BW.out M6.out.lt)
  have P6 := N6.store_other (g := w.heap.size + 1 + 1 + 1) (by omega) (decide (nx < 0)) Py (ofv nx.natAbs).length cy
  refine ⟨Pb, cb, Pr, cr, Py, cy, Pz, cz, NEW.out, ⟨SB.out, SR.out⟩, gb, ?_, ?_, ?_, ?_, ?_, ?_, ?_, ?_, ?_, ?_⟩
  · exact (N2.store_other (g := w.heap.size + 1 + 1 + 1) (by omega) (decide (nx < 0)) Py (ofv nx.natAbs).length cy).store_other (g := g6) (by omega) (decide (y < 0)) Pz (ofv y.natAbs).length cz
  · exact (N3.store_other (g := w.heap.size + 1 + 1 + 1) (by omega) (decide (nx < 0)) Py (ofv nx.natAbs).length cy).store_other (g := g6) (by omega) (decide (y < 0)) Pz (ofv y.natAbs).length cz
  · exact (N4.store_other (g := w.heap.size + 1 + 1 + 1) (by omega) (decide (nx < 0)) Py (ofv nx.natAbs).length cy).store_other (g := g6) (by omega) (decide (y < 0)) Pz (ofv y.natAbs).length cz
  · exact (N5.lit (decide (nx < 0)) Py (ofv nx.natAbs).length cy).store_other (g := g6) (by omega) (decide (y < 0)) Pz (ofv y.natAbs).length cz
  · exact P6.lit (decide (y < 0)) Pz (ofv y.natAbs).length cz
  · exact ((O2.out.below BW.out).store N5 (decide (nx < 0)) Py (ofv nx.natAbs).length cy).store P6 (decide (y < 0)) Pz (ofv y.natAbs).length cz
  · exact ((O3.out.below BW.out).store N5 (decide (nx < 0)) Py (ofv nx.natAbs).length cy).store P6 (decide (y < 0)) Pz (ofv y.natAbs).length cz
  · exact ((O4.out.below BW.out).store N5 (decide (nx < 0)) Py (ofv nx.natAbs).length cy).store P6 (decide (y < 0)) Pz (ofv y.natAbs).length cz
  · exact (OZ.out.store N5 (decide (nx < 0)) Py (ofv nx.natAbs).length cy).store P6 (decide (y < 0)) Pz (ofv y.natAbs).length cz
  · exact ((((BL.out.trans (BW.out.mono BL.out.size)).setCell (p := ⟨w.heap.size + 1 + 1 + 1, 0, none⟩) (by show _ ≤ w.heap.size + 1 + 1 + 1; omega) (.bool (decide (nx < 0)))).setCell (p := ⟨w.heap.size + 1 + 1 + 1, 1, none⟩) (by show _ ≤ w.heap.size + 1 + 1 + 1; omega) (.slice Py (ofv nx.natAbs).length cy)).setCell (p := ⟨g6, 0, none⟩) (by show _ ≤ g6; omega) (.bool (decide (y < 0)))).setCell (p := ⟨g6, 1, none⟩) (by show _ ≤ g6; omega) (.slice Pz (ofv y.natAbs).length cz)
theorem FfInv.measure {w wr : World} {lo g6 : Nat} {A B a b x nx : Int} (h : FfInv w lo g6 A B a b x nx wr) : rdz wr (w.heap.size + 1) = b.natAbs := by
  obtain ⟨Pa, ca, Pb, cb, Px, cx, Py, cy, _, _, _, _, m3, _, _, _, _, o2, _⟩ := h
  rw [rdz_eq m3 o2.rd rfl, val_ofv]
set_option maxHeartbeats 8000000 in
theorem ff_any {P Q : Option Addr} {c d lo : Nat} {A B : Int} {w : World} (hA : 0 < A) (hB : 0 < B) (hp : Own w lo P c (ofv A.natAbs)) (hq : Own w lo Q d (ofv B.natAbs)) (hlo : lo ≤ w.heap.size) (hl : (ofv A.natAbs).length ≤ 35184372087808) (hl' : (ofv B.natAbs).length ≤ 35184372087808) :
    Calls Try.prog 24 #[.agg #[.bool (decide (A < 0)), .slice P (ofv A.natAbs).length c], .agg #[.bool (decide (B < 0)), .slice Q (ofv B.natAbs).length d]] w
      fun e w' => ∃ g x k, g = ((Int.gcd A B : Nat) : Int) ∧ g = A * x + B * k ∧ (x = 0 ∨ 2 * (((x.natAbs : Nat) : Int) * g) ≤ B) ∧ GivesF3 w lo g x e w' := by
  obtain ⟨B2, X2, Y2, R2, S2⟩ := start4 w (decide (A < 0)) P (ofv A.natAbs).length c (decide (B < 0)) Q (ofv B.natAbs).length d
  have OP := Lib.hid (hp.below B2.out)
  have OQ := Lib.hid (hq.below B2.out)
  have LO := Lib.hid hlo
  have HA := Lib.hid hA
  have HB := Lib.hid hB
  obtain ⟨one, h1⟩ : ∃ z : Int, 1 = z := ⟨_, rfl⟩
  have E1 := Lib.hid h1
  clear hp hq hlo hA hB h1
  go_enter Try.func24, Try.ntmps24
  go_wp2_with fail
  generalize ((((w.alloc (.cells #[.bool (decide (A < 0)), .slice P (ofv A.natAbs).length c] 24)).alloc (.cells #[.bool (decide (B < 0)), .slice Q (ofv B.natAbs).length d] 24)).alloc (.cells #[.bool false, .slice none 0 0] 24)).alloc (.cells #[.bool false, .slice none 0 0] 24)) = w2 at *
  refine (fromInt_z (z := one) (by omega) E1.out _).mono ?_
  rintro e w3 ⟨J, cJ, rfl, ho, hb⟩
  have S3 := Lib.hid (S2.out.below hb S2.out.lt)
  have fa0 : ∀ o, (w3.alloc o).frozen? ⟨w.heap.size + 3, 0, none⟩ = false := fun o => (S3.out.alloc o).frozen.1
  have fa1 : ∀ o, (w3.alloc o).frozen? ⟨w.heap.size + 3, 1, none⟩ = false := fun o => (S3.out.alloc o).frozen.2
  have ka0 : ∀ o, (w3.alloc o).cell? ⟨w.heap.size + 3, 0, none⟩ = some (.bool false) := fun o => (S3.out.alloc o).cells.1
  have ka1 : ∀ o, (w3.alloc o).cell? ⟨w.heap.size + 3, 1, none⟩ = some (.slice none 0 0) := fun o => (S3.out.alloc o).cells.2
  have ne3 : w3.heap.size ≠ w.heap.size + 3 := by have := S3.out.lt; omega
  have na : ∀ (o1 : World) u u', Zb (((w3.alloc (.cells #[.bool false, .slice none 0 0] 24)).setCell ⟨w.heap.size + 3, 0, none⟩ u).setCell ⟨w.heap.size + 3, 1, none⟩ u') w3.heap.size false none 0 0 := fun _ u u' => ((Zb.new w3 false none 0 0).far ne3 u).far ne3 u'
  have nk0 : ∀ u u', (((w3.alloc (.cells #[.bool false, .slice none 0 0] 24)).setCell ⟨w.heap.size + 3, 0, none⟩ u).setCell ⟨w.heap.size + 3, 1, none⟩ u').cell? ⟨w3.heap.size, 0, none⟩ = some (.bool false) := fun u u' => (na w u u').cells.1
  have nk1 : ∀ u u', (((w3.alloc (.cells #[.bool false, .slice none 0 0] 24)).setCell ⟨w.heap.size + 3, 0, none⟩ u).setCell ⟨w.heap.size + 3, 1, none⟩ u').cell? ⟨w3.heap.size, 1, none⟩ = some (.slice none 0 0) := fun u u' => (na w u u').cells.2
  have nf0 : ∀ u u', (((w3.alloc (.cells #[.bool false, .slice none 0 0] 24)).setCell ⟨w.heap.size + 3, 0, none⟩ u).setCell ⟨w.heap.size + 3, 1, none⟩ u').frozen? ⟨w3.heap.size, 0, none⟩ = false := fun u u' => (na w u u').frozen.1
  have nf1 : ∀ u u', (((w3.alloc (.cells #[.bool false, .slice none 0 0] 24)).setCell ⟨w.heap.size + 3, 0, none⟩ u).setCell ⟨w.heap.size + 3, 1, none⟩ u').frozen? ⟨w3.heap.size, 1, none⟩ = false := fun u u' => (na w u u').frozen.2
  go_wp2
  clear nk0 nk1 nf0 nf1 fa0 fa1 ka0 ka1
  have S3' : Zb w3 (w.heap.size + 1 + 1 + 1) false none 0 0 := S3.out
  have ne3' : w3.heap.size ≠ w.heap.size + 1 + 1 + 1 := ne3
  have hba : Below w3.heap.size w3 (w3.alloc (.cells #[.bool false, .slice none 0 0] 24)) := (Below.refl _ _).alloc (Nat.le_refl _) _
  have Zn := (Zb.new w3 false none 0 0)
  have Sa := (S3'.alloc (.cells #[.bool false, .slice none 0 0] 24))
  have Zn2 := Zn.store_other ne3' (decide (one < 0)) J (ofv one.natAbs).length cJ
  have A1 : Zb w3 w.heap.size (decide (A < 0)) P (ofv A.natAbs).length c := X2.out.below hb X2.out.lt
  have A2 : Zb w3 (w.heap.size + 1) (decide (B < 0)) Q (ofv B.natAbs).length d := Y2.out.below hb Y2.out.lt
  have A3 : Zb w3 (w.heap.size + 1 + 1) false none 0 0 := R2.out.below hb R2.out.lt
  have K2 := Lib.hid (((A1.alloc (.cells #[.bool false, .slice none 0 0] 24)).store_other (g := w.heap.size + 1 + 1 + 1) (by omega) (decide (one < 0)) J (ofv one.natAbs).length cJ).store_other (g := w3.heap.size) (by have := A1.lt; omega) false none 0 0)
  have K3 := Lib.hid (((A2.alloc (.cells #[.bool false, .slice none 0 0] 24)).store_other (g := w.heap.size + 1 + 1 + 1) (by omega) (decide (one < 0)) J (ofv one.natAbs).length cJ).store_other (g := w3.heap.size) (by have := A2.lt; omega) false none 0 0)
  have K4 := Lib.hid (((A3.alloc (.cells #[.bool false, .slice none 0 0] 24)).store_other (g := w.heap.size + 1 + 1 + 1) (by omega) (decide (one < 0)) J (ofv one.natAbs).length cJ).store_other (g := w3.heap.size) (by have := A3.lt; omega) false none 0 0)
  have K5 := Lib.hid ((Sa.lit (decide (one < 0)) J (ofv one.natAbs).length cJ).store_other (g := w3.heap.size) (by have := S3.out.lt; omega) false none 0 0)
  have K6 := Lib.hid (Zn2.lit false none 0 0)
  have O1 := Lib.hid ((((OP.out.below hb).below hba).store Sa (decide (one < 0)) J (ofv one.natAbs).length cJ).store Zn2 false none 0 0)
  have O2 := Lib.hid ((((OQ.out.below hb).below hba).store Sa (decide (one < 0)) J (ofv one.natAbs).length cJ).store Zn2 false none 0 0)
  have O3 := Lib.hid ((((ho.mono (show lo ≤ w2.heap.size from Nat.le_trans LO.out B2.out.size)).below hba).store Sa (decide (one < 0)) J (ofv one.natAbs).length cJ).store Zn2 false none 0 0)
  have B4 := Lib.hid (((((((B2.out.trans (hb.mono B2.out.size)).trans (hba.mono (Nat.le_trans B2.out.size hb.size)))).setCell (p := ⟨w.heap.size + 1 + 1 + 1, 0, none⟩) (by show _ ≤ w.heap.size + 1 + 1 + 1; omega) (.bool (decide (one < 0)))).setCell (p := ⟨w.heap.size + 1 + 1 + 1, 1, none⟩) (by show _ ≤ w.heap.size + 1 + 1 + 1; omega) (.slice J (ofv one.natAbs).length cJ)).setCell (p := ⟨w3.heap.size, 0, none⟩) (Nat.le_trans B2.out.size hb.size) (.bool false)).setCell (p := ⟨w3.heap.size, 1, none⟩) (Nat.le_trans B2.out.size hb.size) (.slice none 0 0))
  have GB : Hid (w.heap.size + 1 + 1 + 1 < w3.heap.size) := S3'.lt
  clear S3' ne3' hba Zn Sa Zn2 A1 A2 A3 ho hb S3 ne3 na X2 Y2 R2 S2 B2 OP OQ
  generalize (((((w3.alloc (.cells #[.bool false, .slice none 0 0] 24)).setCell ⟨w.heap.size + 1 + 1 + 1, 0, none⟩ (.bool (decide (one < 0)))).setCell ⟨w.heap.size + 1 + 1 + 1, 1, none⟩ (.slice J (ofv one.natAbs).length cJ)).setCell ⟨w3.heap.size, 0, none⟩ (.bool false)).setCell ⟨w3.heap.size, 1, none⟩ (.slice none 0 0)) = w4 at *
  generalize w3.heap.size = g6 at *
  have ST : Hid (FfInv w lo g6 A B A B one 0 w4) := by
    refine ⟨P, c, Q, d, J, cJ, none, 0, ?_, ⟨hl, hl'⟩, GB.out, K2.out, K3.out, K4.out, K5.out, ?_, O1.out, O2.out, O3.out, ?_, B4.out⟩
    · rw [← E1.out]; exact EuInv.start HA.out HB.out
    · have e : (ofv (0 : Int).natAbs).length = 0 := len_zero_iff.2 rfl
      rw [e]; exact K6.out
    · have e : ofv (0 : Int).natAbs = [] := by simp [ofv_zero]
      rw [e]; exact Own.nil _ _ _
  clear K2 K3 K4 K5 K6 O1 O2 O3 B4 E1
  go_loopw [9] (fun _ wr => ∃ a b x nx : Int, Hid (FfInv w lo g6 A B a b x nx wr)) (fun _ wr => rdz wr (w.heap.size + 1))
  case atStart => exact ⟨A, B, one, 0, ST.out⟩
  case round =>
    obtain ⟨a, b, x, nx, hI⟩ := hrel
    have HI := Lib.hid hI.out
    have MS := Lib.hid hI.out.measure
    clear hI
    obtain ⟨Pa, ca, Pb, cb, Px, cx, Py, cy, inv, ⟨sa, sb⟩, gb, m2, m3, m4, m5, m6, o1, o2, o3, o4, bel⟩ := HI.out
    have INV := Lib.hid inv
    have SA := Lib.hid sa
    have SBB := Lib.hid sb
    have GB := Lib.hid gb
    have M2 := Lib.hid m2
    have M3 := Lib.hid m3
    have M4 := Lib.hid m4
    have M5 := Lib.hid m5
    have M6 := Lib.hid m6
    have O1 := Lib.hid o1
    have O2 := Lib.hid o2
    have O3 := Lib.hid o3
    have O4 := Lib.hid o4
    have BL := Lib.hid bel
    clear HI inv sa sb gb m2 m3 m4 m5 m6 o1 o2 o3 o4 bel
    obtain ⟨a0, a1⟩ := M2.out.cells
    obtain ⟨a2, a3⟩ := M3.out.cells
    obtain ⟨a4, a5⟩ := M5.out.cells
    obtain ⟨a6, a7⟩ := M6.out.cells
    by_cases h0 : b = 0
    · have SB : Hid (sg b = 0) := by show _ = _; rw [h0]; rfl
      have H0 := Lib.hid h0
      clear h0
      go_wp2_with fail
      refine (sign_k (r := 0) (Zo.of_own O2.out).in_ SB.out).mono ?_
      rintro e wa ⟨rfl, hb⟩
      have N2 := Lib.hid (M2.out.below hb M2.out.lt)
      have N4 := Lib.hid (M4.out.below hb M4.out.lt)
      have N5 := Lib.hid (M5.out.below hb M5.out.lt)
      have Q1 := Lib.hid (O1.out.below hb)
      have Q3 := Lib.hid (O3.out.below hb)
      have BM := Lib.hid (BL.out.trans (hb.mono BL.out.size))
      have H1 := H0.out
      subst H1
      obtain ⟨e1, ⟨k, e2⟩, e3⟩ := INV.out.done
      have D1 := Lib.hid e1
      have D2 := Lib.hid e2
      have D3 := Lib.hid e3
      clear hb M2 M3 M4 M5 M6 O1 O2 O3 O4 BL INV a0 a1 a2 a3 a4 a5 a6 a7 e1 e2 e3 SB H0
      obtain ⟨a0, a1⟩ := N2.out.cells
      obtain ⟨a2, a3⟩ := N4.out.cells
      obtain ⟨a4, a5⟩ := N5.out.cells
      obtain ⟨f2, f3⟩ := N4.out.frozen
      obtain ⟨f4, f5⟩ := N5.out.frozen
      go_wp2_with fail
      go_region
      all_goals
        go_wp2
        have F4 := (N4.out.lit (decide (a < 0)) Pa (ofv a.natAbs).length ca).store_other (g := w.heap.size + 1 + 1 + 1) (by omega) (decide (x < 0)) Px (ofv x.natAbs).length cx
        have F5 := (N5.out.store_other (g := w.heap.size + 1 + 1) (by omega) (decide (a < 0)) Pa (ofv a.natAbs).length ca).lit (decide (x < 0)) Px (ofv x.natAbs).length cx
        have S1 := (Q1.out.store N4.out (decide (a < 0)) Pa (ofv a.natAbs).length ca).store (N5.out.store_other (g := w.heap.size + 1 + 1) (by omega) (decide (a < 0)) Pa (ofv a.natAbs).length ca) (decide (x < 0)) Px (ofv x.natAbs).length cx
        have S3 := (Q3.out.store N4.out (decide (a < 0)) Pa (ofv a.natAbs).length ca).store (N5.out.store_other (g := w.heap.size + 1 + 1) (by omega) (decide (a < 0)) Pa (ofv a.natAbs).length ca) (decide (x < 0)) Px (ofv x.natAbs).length cx
        have SB := (((BM.out.setCell (p := ⟨w.heap.size + 1 + 1, 0, none⟩) (by show _ ≤ w.heap.size + 1 + 1; omega) (.bool (decide (a < 0)))).setCell (p := ⟨w.heap.size + 1 + 1, 1, none⟩) (by show _ ≤ w.heap.size + 1 + 1; omega) (.slice Pa (ofv a.natAbs).length ca)).setCell (p := ⟨w.heap.size + 1 + 1 + 1, 0, none⟩) (by show _ ≤ w.heap.size + 1 + 1 + 1; omega) (.bool (decide (x < 0)))).setCell (p := ⟨w.heap.size + 1 + 1 + 1, 1, none⟩) (by show _ ≤ w.heap.size + 1 + 1 + 1; omega) (.slice Px (ofv x.natAbs).length cx)
        generalize ((((wa.setCell ⟨w.heap.size + 1 + 1, 0, none⟩ (.bool (decide (a < 0)))).setCell ⟨w.heap.size + 1 + 1, 1, none⟩ (.slice Pa (ofv a.natAbs).length ca)).setCell ⟨w.heap.size + 1 + 1 + 1, 0, none⟩ (.bool (decide (x < 0)))).setCell ⟨w.heap.size + 1 + 1 + 1, 1, none⟩ (.slice Px (ofv x.natAbs).length cx)) = wz at *
        have hd1 : Below wz.heap.size wz wz.drew := below_drewN _ wz 1
        exact ret_zb2 Try.results24 rfl rfl rfl (F4.below hd1 F4.lt) (F5.below hd1 F5.lt) ⟨a, x, k, D1.out, D2.out, D3.out, Pa, ca, Px, cx, rfl, S1.below hd1, S3.below hd1, SB.trans (hd1.mono SB.size)⟩
    · have hb0 : 0 < b := by have := INV.out.hb; omega
      have SB : Hid (sg b = 1) := sg_pos hb0
      have NB := Lib.hid h0
      obtain ⟨q, eq⟩ : ∃ v, a / b = v := ⟨_, rfl⟩
      obtain ⟨r, er⟩ : ∃ v, a % b = v := ⟨_, rfl⟩
      obtain ⟨m, em⟩ : ∃ v, q * nx = v := ⟨_, rfl⟩
      obtain ⟨y, ey⟩ : ∃ v, x - m = v := ⟨_, rfl⟩
      have NEW : Hid (EuInv A B b r nx y) := by
        show EuInv A B b r nx y
        rw [← ey, ← em]
        exact INV.out.step h0 eq er
      have EQ := Lib.hid eq
      have ER := Lib.hid er
      have EM := Lib.hid em
      have EY := Lib.hid ey
      have LES : Hid (r.natAbs < b.natAbs) := by
        have h1 := Int.emod_nonneg a h0
        have h2 := Int.emod_lt_of_pos a hb0
        show _ < _
        omega
      clear h0 hb0 eq er em ey
      go_wp2_with fail
      refine (sign_k (r := 1) (Zo.of_own O2.out).in_ SB.out).mono ?_
      rintro e wa ⟨rfl, hb⟩
      have N2 := Lib.hid (M2.out.below hb M2.out.lt)
      have N3 := Lib.hid (M3.out.below hb M3.out.lt)
      have N4 := Lib.hid (M4.out.below hb M4.out.lt)
      have N5 := Lib.hid (M5.out.below hb M5.out.lt)
      have N6 := Lib.hid (M6.out.below hb M6.out.lt)
      have Q1 := Lib.hid (O1.out.below hb)
      have Q2 := Lib.hid (O2.out.below hb)
      have Q3 := Lib.hid (O3.out.below hb)
      have Q4 := Lib.hid (O4.out.below hb)
      have BM := Lib.hid (BL.out.trans (hb.mono BL.out.size))
      clear hb M2 M3 M4 M5 M6 O1 O2 O3 O4 BL a0 a1 a2 a3 a4 a5 a6 a7 SB
      obtain ⟨a0, a1⟩ := N2.out.cells
      obtain ⟨a2, a3⟩ := N3.out.cells
      have L1 : Hid ((ofv a.natAbs).length ≤ 70368744177660) := Nat.le_trans SA.out (by decide)
      have L2 : Hid ((ofv b.natAbs).length ≤ 70368744177660) := Nat.le_trans SBB.out (by decide)
      go_wp2_with fail
      refine (dm_z (Zo.of_own Q1.out).in_ (Zo.of_own Q2.out).in_ L1.out L2.out NB.out EQ.out ER.out).mono ?_
      rintro e wb ⟨P7, c7, P8, c8, rfl, ho, ho2, hb⟩
      have R2 := Lib.hid (N2.out.below hb N2.out.lt)
      have R3 := Lib.hid (N3.out.below hb N3.out.lt)
      have R4 := Lib.hid (N4.out.below hb N4.out.lt)
      have R5 := Lib.hid (N5.out.below hb N5.out.lt)
      have R6 := Lib.hid (N6.out.below hb N6.out.lt)
      have LOB : lo ≤ wa.heap.size := Nat.le_trans LO.out BM.out.size
      have T2 := Lib.hid (Q2.out.below hb)
      have T3 := Lib.hid (Q3.out.below hb)
      have T4 := Lib.hid (Q4.out.below hb)
      have T7 := Lib.hid (ho.mono LOB)
      have T8 := Lib.hid (ho2.mono LOB)
      have BN := Lib.hid (BM.out.trans (hb.mono BM.out.size))
      clear hb ho ho2 N2 N3 N4 N5 N6 Q1 Q2 Q3 Q4 BM a0 a1 a2 a3 LOB
      go_wp2_with fail
      obtain ⟨hb, V7, V8⟩ := begin2 wb (decide (q < 0)) P7 (ofv q.natAbs).length c7 (decide (r < 0)) P8 (ofv r.natAbs).length c8
      generalize hg : wb.heap.size = g7 at V7 V8 ⊢
      have NE7 : Hid (w.heap.size + 1 + 1 + 1 < g7) := by have := R5.out.lt; show _ < _; omega
      have NE6 : Hid (g6 < g7) := by have := R6.out.lt; show _ < _; omega
      generalize ((wb.alloc (.cells #[.bool (decide (q < 0)), .slice P7 (ofv q.natAbs).length c7] 24)).alloc (.cells #[.bool (decide (r < 0)), .slice P8 (ofv r.natAbs).length c8] 24)) = wc at *
      have hd := hb.out
      have M2 := Lib.hid (R2.out.below hd R2.out.lt)
      have M3 := Lib.hid (R3.out.below hd R3.out.lt)
      have M4 := Lib.hid (R4.out.below hd R4.out.lt)
      have M5 := Lib.hid (R5.out.below hd R5.out.lt)
      have M6 := Lib.hid (R6.out.below hd R6.out.lt)
      have O2 := Lib.hid (T2.out.below hd)
      have O3 := Lib.hid (T3.out.below hd)
      have O4 := Lib.hid (T4.out.below hd)
      have O7 := Lib.hid (T7.out.below hd)
      have O8 := Lib.hid (T8.out.below hd)
      have BL := Lib.hid (BN.out.trans (hd.mono BN.out.size))
      clear hd hb hg R2 R3 R4 R5 R6 T2 T3 T4 T7 T8 BN
      obtain ⟨a0, a1⟩ := M3.out.cells
      obtain ⟨a2, a3⟩ := V8.out.cells
      obtain ⟨a4, a5⟩ := M2.out.cells
      obtain ⟨f0, f1⟩ := M2.out.frozen
      obtain ⟨f2, f3⟩ := M3.out.frozen
      have ne8 : g7 + 1 ≠ w.heap.size := by have := NE7.out; omega
      have c80 : ∀ u, (wc.setCell ⟨w.heap.size, 0, none⟩ u).cell? ⟨g7 + 1, 0, none⟩ = some (.bool (decide (r < 0))) := fun u => (V8.out.far (p := ⟨w.heap.size, 0, none⟩) ne8 u).cells.1
      have c81 : ∀ u, (wc.setCell ⟨w.heap.size, 0, none⟩ u).cell? ⟨g7 + 1, 1, none⟩ = some (.slice P8 (ofv r.natAbs).length c8) := fun u => (V8.out.far (p := ⟨w.heap.size, 0, none⟩) ne8 u).cells.2
      have c82 : ∀ u u', ((wc.setCell ⟨w.heap.size, 0, none⟩ u).setCell ⟨w.heap.size, 1, none⟩ u').cell? ⟨g7 + 1, 0, none⟩ = some (.bool (decide (r < 0))) := fun u u' => ((V8.out.far (p := ⟨w.heap.size, 0, none⟩) ne8 u).far (p := ⟨w.heap.size, 1, none⟩) ne8 u').cells.1
      have c83 : ∀ u u', ((wc.setCell ⟨w.heap.size, 0, none⟩ u).setCell ⟨w.heap.size, 1, none⟩ u').cell? ⟨g7 + 1, 1, none⟩ = some (.slice P8 (ofv r.natAbs).length c8) := fun u u' => ((V8.out.far (p := ⟨w.heap.size, 0, none⟩) ne8 u).far (p := ⟨w.heap.size, 1, none⟩) ne8 u').cells.2
      go_region
      all_goals
        have gb := GB.out
        have n7 := NE7.out
        have n6 := NE6.out
        have X2 := (M2.out.lit (decide (b < 0)) Pb (ofv b.natAbs).length cb).store_other (g := w.heap.size + 1) (by omega) (decide (r < 0)) P8 (ofv r.natAbs).length c8
        have Y3 := M3.out.store_other (g := w.heap.size) (by omega) (decide (b < 0)) Pb (ofv b.natAbs).length cb
        have X3 := Y3.lit (decide (r < 0)) P8 (ofv r.natAbs).length c8
        have X4 := (M4.out.store_other (g := w.heap.size) (by omega) (decide (b < 0)) Pb (ofv b.natAbs).length cb).store_other (g := w.heap.size + 1) (by omega) (decide (r < 0)) P8 (ofv r.natAbs).length c8
        have X5 := (M5.out.store_other (g := w.heap.size) (by omega) (decide (b < 0)) Pb (ofv b.natAbs).length cb).store_other (g := w.heap.size + 1) (by omega) (decide (r < 0)) P8 (ofv r.natAbs).length c8
        have X6 := (M6.out.store_other (g := w.heap.size) (by omega) (decide (b < 0)) Pb (ofv b.natAbs).length cb).store_other (g := w.heap.size + 1) (by omega) (decide (r < 0)) P8 (ofv r.natAbs).length c8
        have X7 := (V7.out.store_other (g := w.heap.size) (by omega) (decide (b < 0)) Pb (ofv b.natAbs).length cb).store_other (g := w.heap.size + 1) (by omega) (decide (r < 0)) P8 (ofv r.natAbs).length c8
        have U2 := (O2.out.store M2.out (decide (b < 0)) Pb (ofv b.natAbs).length cb).store Y3 (decide (r < 0)) P8 (ofv r.natAbs).length c8
        have U8 := (O8.out.store M2.out (decide (b < 0)) Pb (ofv b.natAbs).length cb).store Y3 (decide (r < 0)) P8 (ofv r.natAbs).length c8
        have U3 := (O3.out.store M2.out (decide (b < 0)) Pb (ofv b.natAbs).length cb).store Y3 (decide (r < 0)) P8 (ofv r.natAbs).length c8
        have U4 := (O4.out.store M2.out (decide (b < 0)) Pb (ofv b.natAbs).length cb).store Y3 (decide (r < 0)) P8 (ofv r.natAbs).length c8
        have U7 := (O7.out.store M2.out (decide (b < 0)) Pb (ofv b.natAbs).length cb).store Y3 (decide (r < 0)) P8 (ofv r.natAbs).length c8
        have UB := (((BL.out.setCell (p := ⟨w.heap.size, 0, none⟩) (Nat.le_refl _) (.bool (decide (b < 0)))).setCell (p := ⟨w.heap.size, 1, none⟩) (Nat.le_refl _) (.slice Pb (ofv b.natAbs).length cb)).setCell (p := ⟨w.heap.size + 1, 0, none⟩) (by show _ ≤ w.heap.size + 1; omega) (.bool (decide (r < 0)))).setCell (p := ⟨w.heap.size + 1, 1, none⟩) (by show _ ≤ w.heap.size + 1; omega) (.slice P8 (ofv r.natAbs).length c8)
        generalize ((((wc.setCell ⟨w.heap.size, 0, none⟩ (.bool (decide (b < 0)))).setCell ⟨w.heap.size, 1, none⟩ (.slice Pb (ofv b.natAbs).length cb)).setCell ⟨w.heap.size + 1, 0, none⟩ (.bool (decide (r < 0)))).setCell ⟨w.heap.size + 1, 1, none⟩ (.slice P8 (ofv r.natAbs).length c8)) = we at *
        clear M2 M3 M4 M5 M6 O2 O3 O4 O7 O8 BL V7 V8 a0 a1 a2 a3 a4 a5 f0 f1 f2 f3 Y3 c80 c81 c82 c83 ne8
        have hd1 : Below we.heap.size we we.drew := below_drewN _ we 1
        have M2 := Lib.hid (X2.below hd1 X2.lt)
        have M3 := Lib.hid (X3.below hd1 X3.lt)
        have M4 := Lib.hid (X4.below hd1 X4.lt)
        have M5 := Lib.hid (X5.below hd1 X5.lt)
        have M6 := Lib.hid (X6.below hd1 X6.lt)
        have M7 := Lib.hid (X7.below hd1 X7.lt)
        have O2 := Lib.hid (U2.below hd1)
        have O3 := Lib.hid (U3.below hd1)
        have O4 := Lib.hid (U4.below hd1)
        have O7 := Lib.hid (U7.below hd1)
        have O8 := Lib.hid (U8.below hd1)
        have BL := Lib.hid (UB.trans (hd1.mono UB.size))
        clear hd1 X2 X3 X4 X5 X6 X7 U2 U3 U4 U7 U8 UB gb n7 n6
        generalize we.drew = wd at *
        obtain ⟨a0, a1⟩ := M5.out.cells
        obtain ⟨a2, a3⟩ := M6.out.cells
        obtain ⟨a4, a5⟩ := M7.out.cells
        go_wp2_with fail
        have LQ : Hid ((ofv q.natAbs).length + (ofv nx.natAbs).length ≤ 70368744177664) := by
          show _ ≤ _
          have h1 := len_mono (show q.natAbs ≤ a.natAbs by
            have := INV.out.ha
            have h2 := INV.out.hb
            have h3 := EQ.out
            have h4 : 0 ≤ a / b := Int.ediv_nonneg (by omega) h2
            have h5 := Int.ediv_le_self b (show 0 ≤ a by omega)
            omega)
          have h2 := len_mono (INV.out.small NB.out).2
          have := SA.out
          omega
        have LX : Hid ((ofv x.natAbs).length ≤ 70368744177663) := by
          show _ ≤ _
          have h2 := len_mono (INV.out.small NB.out).1
          omega
        have LM : Hid ((ofv m.natAbs).length ≤ 70368744177663) := by
          show _ ≤ _
          have h1 := len_mono (show q.natAbs ≤ a.natAbs by
            have := INV.out.ha
            have h2 := INV.out.hb
            have h3 := EQ.out
            have h4 : 0 ≤ a / b := Int.ediv_nonneg (by omega) h2
            have h5 := Int.ediv_le_self b (show 0 ≤ a by omega)
            omega)
          have h2 := len_mono (INV.out.small NB.out).2
          have h3 := zlen_mul (x := q) (y := nx) (Nat.le_trans h1 SA.out) (Nat.le_trans h2 hl')
          rw [EM.out] at h3
          omega
        have NE5 : Hid (g6 ≠ w.heap.size + 3) := by have := GB.out; show _ ≠ _; omega
        have BW := Lib.hid (Below.refl wd.heap.size wd)
        refine wp_region_held_split (S := fun w' => w'.cell? ⟨w.heap.size + 1 + 1 + 1, 0, none⟩ = some (.bool (decide (x < 0))) ∧ w'.cell? ⟨w.heap.size + 1 + 1 + 1, 1, none⟩ = some (.slice Px (ofv x.natAbs).length cx) ∧ w'.cell? ⟨g6, 0, none⟩ = some (.bool (decide (nx < 0))) ∧ w'.cell? ⟨g6, 1, none⟩ = some (.slice Py (ofv nx.natAbs).length cy) ∧ w'.cell? ⟨g7, 0, none⟩ = some (.bool (decide (q < 0))) ∧ w'.cell? ⟨g7, 1, none⟩ = some (.slice P7 (ofv q.natAbs).length c7)) 6 (by kernel_rfl) (by kernel_rfl) ?_
        have hHeld := keep3 M5 M6 M7 (below_drewN wd.heap.size wd 1) M5.out.lt M6.out.lt M7.out.lt
        simp only [List.take_succ_cons, List.take_zero, List.drop_succ_cons, List.drop_zero]
        refine wpAnyH_take (i := 0) (oi := _) (v := ?_) rfl (by kernel_rfl) (by kernel_rfl) (by kernel_rfl) (fun _ _ _ h => h) (Or.inl ⟨by rfl, ?_⟩) (by assumption) ?_
        rotate_left
        · (intro w' hSw; (try dsimp only at hSw); go_simp; try (with_reducible rfl))
        refine wpAnyH_take (i := 1) (oi := _) (v := ?_) rfl (by kernel_rfl) (by kernel_rfl) (by kernel_rfl) (fun _ _ _ h => h) (Or.inl ⟨by rfl, ?_⟩) (by assumption) ?_
        rotate_left
        · (intro w' hSw; (try dsimp only at hSw); go_simp; try (with_reducible rfl))
        refine wpAnyH_take (i := 2) (oi := _) (v := ?_) rfl (by kernel_rfl) (by kernel_rfl) (by kernel_rfl) (fun _ _ _ h => h) (Or.inl ⟨by rfl, ?_⟩) (by assumption) ?_
        rotate_left
        · (intro w' hSw; (try dsimp only at hSw); go_simp; try (with_reducible rfl))
        refine wpAnyH_take (i := 3) (oi := _) (v := ?_) rfl (by kernel_rfl) (by kernel_rfl) (by kernel_rfl) (fun _ _ _ h => h) (Or.inl ⟨by rfl, ?_⟩) (by assumption) ?_
        rotate_left
        · (intro w' hSw; (try dsimp only at hSw); go_simp; try (with_reducible rfl))
        simp only [Act.put, List.setIfInBounds_toArray]
        refine wpAnyH_ready (rs := [4]) (by kernel_rfl) (by simp) ?_
        refine AllReadyH.cons (o := _) rfl (fun K hK => ?_) AllReadyH.nil
        go_simp
        go_at_call 12
        refine Calls.mono (mul_z (x := q) (y := nx) (z := m) (Zo.of_own O7.out).in_.drew (Zo.of_own O4.out).in_.drew LQ.out EM.out) ?_
        rintro e wy ⟨PM, cM, rfl, ho, hb⟩
        have ZM := Lib.hid (Zo.of_own ho)
        have BX := below_drew hb
        clear ho hb BW
        have BW := BX
        clear BX
        refine hK.out _ _ (keep3 M5 M6 M7 BW.out M5.out.lt M6.out.lt M7.out.lt) (fun hHeld2 => ?_)
        clear hK K hHeld
        refine wpAnyH_ready (rs := [5]) (by kernel_rfl) (by simp) ?_
        refine AllReadyH.cons (o := _) rfl (fun K hK => ?_) AllReadyH.nil
        go_simp
        go_at_call 11
        refine Calls.mono (sub_z (x := x) (y := m) (z := y) (Zo.of_own (O3.out.below BW.out)).in_ ZM.out.in_ LX.out LM.out EY.out) ?_
        rintro e wy ⟨PZ, cZ, rfl, ho, hb⟩
        have OZ := Lib.hid (ho.mono (Nat.le_trans LO.out (Nat.le_trans BL.out.size BW.out.size)))
        have BX := Lib.hid (BW.out.trans (hb.mono BW.out.size))
        clear ho hb BW ZM
        have BW := BX
        clear BX
        refine hK.out _ _ (keep3 M5 M6 M7 BW.out M5.out.lt M6.out.lt M7.out.lt) (fun hHeld3 => ?_)
        clear hK K hHeld2
        refine wpAnyH_done (by kernel_rfl) ?_ _
        have N5 := M5.out.below BW.out M5.out.lt
        have N6 := M6.out.below BW.out M6.out.lt
        have ne5 := NE5.out
        obtain ⟨b0, b1⟩ := N5.cells
        obtain ⟨b2, b3⟩ := N5.frozen
        have s60 : ∀ u, (wy.setCell ⟨w.heap.size + 3, 0, none⟩ u).cell? ⟨g6, 0, none⟩ = some (.bool (decide (nx < 0))) := fun u => (N6.far (p := ⟨w.heap.size + 3, 0, none⟩) ne5 u).cells.1
        have s61 : ∀ u, (wy.setCell ⟨w.heap.size + 3, 0, none⟩ u).cell? ⟨g6, 1, none⟩ = some (.slice Py (ofv nx.natAbs).length cy) := fun u => (N6.far (p := ⟨w.heap.size + 3, 0, none⟩) ne5 u).cells.2
        have d60 : ∀ u u', ((wy.setCell ⟨w.heap.size + 3, 0, none⟩ u).setCell ⟨w.heap.size + 3, 1, none⟩ u').cell? ⟨g6, 0, none⟩ = some (.bool (decide (nx < 0))) := fun u u' => ((N6.far (p := ⟨w.heap.size + 3, 0, none⟩) ne5 u).far (p := ⟨w.heap.size + 3, 1, none⟩) ne5 u').cells.1
        have d61 : ∀ u u', ((wy.setCell ⟨w.heap.size + 3, 0, none⟩ u).setCell ⟨w.heap.size + 3, 1, none⟩ u').cell? ⟨g6, 1, none⟩ = some (.slice Py (ofv nx.natAbs).length cy) := fun u u' => ((N6.far (p := ⟨w.heap.size + 3, 0, none⟩) ne5 u).far (p := ⟨w.heap.size + 3, 1, none⟩) ne5 u').cells.2
        have e60 : ∀ u u', ((wy.setCell ⟨w.heap.size + 3, 0, none⟩ u).setCell ⟨w.heap.size + 3, 1, none⟩ u').frozen? ⟨g6, 0, none⟩ = false := fun u u' => ((N6.far (p := ⟨w.heap.size + 3, 0, none⟩) ne5 u).far (p := ⟨w.heap.size + 3, 1, none⟩) ne5 u').frozen.1
        have e61 : ∀ u u', ((wy.setCell ⟨w.heap.size + 3, 0, none⟩ u).setCell ⟨w.heap.size + 3, 1, none⟩ u').frozen? ⟨g6, 1, none⟩ = false := fun u u' => ((N6.far (p := ⟨w.heap.size + 3, 0, none⟩) ne5 u).far (p := ⟨w.heap.size + 3, 1, none⟩) ne5 u').frozen.2
        have SR : Hid ((ofv r.natAbs).length ≤ 35184372087808) := Nat.le_trans (len_mono (Nat.le_of_lt LES.out)) SBB.out
        have FC := Lib.hid (ff_close (wr := wr) (P7 := P7) (a := a) NEW SBB SR GB M2 M3 M4 M5 M6 O2 O8 O4 OZ BL BW)
        have FM := Lib.hid FC.out.measure
        clear N5 N6 hHeld3 a0 a1 a2 a3 a4 a5
        show wpList _ _ _ _ _ _
        go_wp2
        go_roundw
        case rel => exact ⟨b, r, nx, y, FC.out⟩
        case measure =>
          have m1 := MS.out
          have m2 := FM.out
          have m3 := LES.out
          omega
end Go.Proofs.Ytfmgbfdnmconiaa
