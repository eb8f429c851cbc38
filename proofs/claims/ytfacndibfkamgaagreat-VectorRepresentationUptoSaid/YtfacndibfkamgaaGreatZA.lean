/-
  Int, Zin, Zsg, Len, Zmake.
-/
import Derived.Test.YtfacndibfkamgaaGreatNB
import Derived.Deep.RegionHeld3
import Derived.Test.YtfacndibfkamgaaGreatNA
/-
  Signed integers: a sign and a list of limbs, their value; the struct in memory; contracts of signed, isZero and Sign.
-/
namespace Go.Proofs.YtfacndibfkamgaaGreat
open Go.RowKit
set_option linter.unusedVariables false

/-- The value of a sign and a magnitude. -/
def zv (s : Bool) (v : Nat) : Int := if s then -(v : Int) else (v : Int)
theorem zv_abs (s : Bool) (v : Nat) : (zv s v).natAbs = v := by unfold zv; split <;> simp
theorem zv_neg (s : Bool) (v : Nat) : decide (zv s v < 0) = (s && decide (0 < v)) := by
  unfold zv
  cases s
  · simp
  · simp
theorem zv_of (z : Int) : zv (decide (z < 0)) z.natAbs = z := by
  unfold zv
  split <;> rename_i h <;> simp at h <;> omega
theorem zv_zero (s : Bool) : zv s 0 = 0 := by unfold zv; split <;> rfl
theorem zv_eq_zero {s : Bool} {v : Nat} : zv s v = 0 ↔ v = 0 := by unfold zv; split <;> omega
/-- The sign of an integer. -/
def sg (z : Int) : Int := if z < 0 then -1 else if z = 0 then 0 else 1

/-- A canonical integer in new memory. -/
def GivesZ (w : World) (z : Int) (e : Ending) (w' : World) : Prop :=
  ∃ R c, e = .returned (.agg #[.bool (decide (z < 0)), .slice R (ofv z.natAbs).length c]) ∧ Own w' w.heap.size R c (ofv z.natAbs) ∧ Below w.heap.size w w'
theorem GivesZ.of {w w' w'' : World} {z : Int} {s : Bool} {v n c : Nat} {R : Option Addr} (ho : Own w' w.heap.size R c (ofv v)) (hb : Below w.heap.size w w') (hb' : Below w'.heap.size w' w'') (hz : zv s v = z) (hn : (ofv v).length = n) :
    GivesZ w z (.returned (.agg #[.bool (s && decide (0 < n)), .slice R n c])) w'' := by
  subst hz hn
  have e : decide (0 < (ofv v).length) = decide (0 < v) := by
    rcases Nat.eq_zero_or_pos v with h | h
    · subst h; simp [ofv_zero]
    · have := len_pos h; simp [this, h]
  refine ⟨R, c, ?_, ?_, hb.trans (hb'.mono hb.size)⟩
  · rw [zv_neg, zv_abs, e]
  · rw [zv_abs]; exact ho.below hb'

/-- An integer in memory. -/
def Zb (w : World) (g : Nat) (s : Bool) (A : Option Addr) (n c : Nat) : Prop := w.heap[g]? = some (.cells #[.bool s, .slice A n c] 27 (0, 0))
section
variable {w w' : World} {g n c : Nat} {s : Bool} {A : Option Addr}
theorem Zb.lt (h : Zb w g s A n c) : g < w.heap.size := lt_of_heap h
theorem Zb.cells (h : Zb w g s A n c) : w.cell? ⟨g, 0, none⟩ = some (.bool s) ∧ w.cell? ⟨g, 1, none⟩ = some (.slice A n c) := by
  refine ⟨?_, ?_⟩ <;> (rw [cell_of_row w g _ _ _ (0, 0) h]; rfl)
theorem Zb.frozen (h : Zb w g s A n c) : w.frozen? ⟨g, 0, none⟩ = false ∧ w.frozen? ⟨g, 1, none⟩ = false := by
  unfold Zb at h
  refine ⟨?_, ?_⟩ <;> simp [World.frozen?, h]
theorem Zb.below {B : Nat} (h : Zb w g s A n c) (hb : Below B w w') (hg : g < B) : Zb w' g s A n c := (hb.block g hg).trans h
theorem Zb.lit (h : Zb w g s A n c) (s' : Bool) (A' : Option Addr) (n' c' : Nat) : Zb ((w.setCell ⟨g, 0, none⟩ (.bool s')).setCell ⟨g, 1, none⟩ (.slice A' n' c')) g s' A' n' c' := by
  unfold Zb at h ⊢
  have h1 := heap_setCell_same w g 0 _ _ (.bool s') h
  have h2 := heap_setCell_same _ g 1 _ _ (.slice A' n' c') h1
  exact h2
theorem Zb.sign (h : Zb w g s A n c) (s' : Bool) : Zb (w.setCell ⟨g, 0, none⟩ (.bool s')) g s' A n c := by
  unfold Zb at h ⊢
  exact heap_setCell_same w g 0 _ _ (.bool s') h
theorem Zb.far (h : Zb w g s A n c) {p : Addr} (hp : g ≠ p.block) (u : Value) : Zb (w.setCell p u) g s A n c := (Below.heap_setCell w p u g hp).trans h
theorem Zb.alloc (h : Zb w g s A n c) (o : Obj) : Zb (w.alloc o) g s A n c := (Below.heap_alloc w o g h.lt).trans h
theorem Zb.drewN (h : Zb w g s A n c) (k : Nat) : Zb (w.drewN k) g s A n c := h
end
theorem Zb.new (w : World) (s : Bool) (A : Option Addr) (n c : Nat) : Zb (w.alloc (.cells #[.bool s, .slice A n c] 27)) w.heap.size s A n c := heap_alloc_new w _

/-- The end of a function that returns an integer. -/
theorem ret_zb {fn : Func} {R : Ending → World → Prop} {a : Act} {w : World} {k g n c : Nat} {s : Bool} {A : Option Addr} (hf : fn.results = #[.cell k 27]) (hd : a.defers = [])
    (hk : (a.tmps[k]?).getD undef = .pointer (some ⟨g, 0, none⟩)) (h : Zb w g s A n c) (hR : R (.returned (.agg #[.bool s, .slice A n c])) w) : bodyPost Tryz.prog fn R .ret a w := by
  obtain ⟨z1, z2⟩ := h.cells
  exact bodyPost_ret_by (v := .agg #[.bool s, .slice A n c]) (by simp [results, hf, go_sem, hk, z1, z2]) hd hR

theorem signed_any (s : Bool) (A : Option Addr) (n c : Nat) (w : World) (hn : n ≤ 9223372036854775807) :
    Calls Tryz.prog 114 #[.bool s, .slice A n c] w fun e w' => e = .returned (.agg #[.bool (s && decide (0 < n)), .slice A n c]) ∧ Below w.heap.size w w' := by
  cases s
  all_goals
    go_enter Tryz.func114, Tryz.ntmps114
    go_wp2
    exact ret_zb Tryz.results114 rfl rfl (Zb.new _ _ _ _ _) ⟨by simp, (Below.refl _ _).alloc (Nat.le_refl _) _⟩
/-- A natural result, signed. -/
theorem signed_gives {w0 w : World} {s : Bool} {v n c : Nat} {R : Option Addr} {z : Int} (ho : Own w w0.heap.size R c (ofv v)) (hb : Below w0.heap.size w0 w) (hz : zv s v = z) (hn : (ofv v).length = n) :
    Calls Tryz.prog 114 #[.bool s, .slice R n c] w (GivesZ w0 z) := by
  have h0 := ho.2.1
  have h1 := ho.2.2.1
  refine (signed_any s R n c w (by omega)).mono ?_
  rintro e w' ⟨rfl, hb'⟩
  exact GivesZ.of ho hb hb' hz hn

theorem compare_n {A B : Option Addr} {ca cb n m : Nat} {xs ys : List Nat} {w : World} (h : Rd w A ca xs) (h' : Rd w B cb ys) (hn : xs.length = n) (hm : ys.length = m) :
    Calls Tryz.prog 148 #[.slice A n ca, .slice B m cb] w fun e w' => e = .returned (.int .i64 (cmp (val xs) (val ys))) ∧ ∃ n, w' = w.drewN n := by
  subst hn hm; exact compare_any A B ca cb xs ys w h h'
theorem cmp_zero (v : Nat) : (cmp v 0 == 0) = decide (v = 0) := by
  rcases Nat.eq_zero_or_pos v with h | h
  · subst h; rfl
  · rw [cmp_gt h]; simp; omega
theorem ret_bool {a b : Bool} (h : a = b) : Ending.returned (.bool a) = Ending.returned (.bool b) := by rw [h]
theorem isZero_n {A : Option Addr} {c n : Nat} {xs : List Nat} {w : World} (h : Rd w A c xs) (hn : xs.length = n) :
    Calls Tryz.prog 117 #[.slice A n c] w fun e w' => e = .returned (.bool (decide (val xs = 0))) ∧ ∃ n, w' = w.drewN n := by
  have C := Lib.hid (compare_n h (Rd.nil w none) hn rfl)
  have E := Lib.hid (cmp_zero (val xs))
  clear h hn
  go_enter Tryz.func117, Tryz.ntmps117
  go_wp2_with fail
  refine C.out.mono ?_
  rw [val_nil]
  rintro e w' ⟨rfl, hq⟩
  have Q := Lib.hid hq
  clear hq
  go_wp2
  go_ret
  exact ⟨ret_bool E.out, Q.out⟩

theorem isZero_yes {A : Option Addr} {c n : Nat} {xs : List Nat} {w : World} (h : Rd w A c xs) (hn : xs.length = n) (hv : val xs = 0) :
    Calls Tryz.prog 117 #[.slice A n c] w fun e w' => e = .returned (.bool true) ∧ ∃ n, w' = w.drewN n := by
  refine (isZero_n h hn).mono ?_
  rintro e w' ⟨rfl, hq⟩
  exact ⟨by simp [hv], hq⟩
theorem isZero_no {A : Option Addr} {c n : Nat} {xs : List Nat} {w : World} (h : Rd w A c xs) (hn : xs.length = n) (hv : 0 < val xs) :
    Calls Tryz.prog 117 #[.slice A n c] w fun e w' => e = .returned (.bool false) ∧ ∃ n, w' = w.drewN n := by
  refine (isZero_n h hn).mono ?_
  rintro e w' ⟨rfl, hq⟩
  exact ⟨by simp; omega, hq⟩
theorem sg_zero : sg 0 = 0 := rfl
theorem sg_neg {z : Int} (h : z < 0) : sg z = -1 := by unfold sg; rw [if_pos h]
theorem sg_pos {z : Int} (h : 0 < z) : sg z = 1 := by unfold sg; rw [if_neg (by omega), if_neg (by omega)]
theorem sign_n {A : Option Addr} {c n : Nat} {s : Bool} {xs : List Nat} {w : World} (h : Rd w A c xs) (hn : xs.length = n) {z : Int} (hz : zv s (val xs) = z) :
    Calls Tryz.prog 74 #[.agg #[.bool s, .slice A n c]] w fun e w' => e = .returned (.int .i64 (sg z)) ∧ Below w.heap.size w w' := by
  have H := Lib.hid h
  subst hz
  rcases Nat.eq_zero_or_pos (val xs) with h0 | h0
  · have V := Lib.hid h0
    clear h h0
    go_enter Tryz.func74, Tryz.ntmps74
    go_wp2_with fail
    refine (isZero_yes (H.out.keep (Nat.le_refl _) ((Below.refl _ _).alloc (Nat.le_refl _) _)) hn V.out).mono ?_
    rintro e w' ⟨rfl, hq⟩
    have B : Hid (Below w.heap.size w w') := ((Below.refl _ _).alloc (Nat.le_refl _) _).trans ((below_q hq).mono (by simp))
    clear hq
    go_wp2
    go_ret
    exact ⟨ret_int (by rw [V.out, zv_zero, sg_zero]), B.out⟩
  · have V := Lib.hid h0
    clear h h0
    go_enter Tryz.func74, Tryz.ntmps74
    go_wp2_with fail
    refine (isZero_no (H.out.keep (Nat.le_refl _) ((Below.refl _ _).alloc (Nat.le_refl _) _)) hn V.out).mono ?_
    rintro e w' ⟨rfl, hq⟩
    have B : Hid (Below w.heap.size w w') := ((Below.refl _ _).alloc (Nat.le_refl _) _).trans ((below_q hq).mono (by simp))
    have Z : Zb w' w.heap.size s A n c := (Zb.new w s A n c).below (below_q hq) (by simp)
    obtain ⟨c0, c1⟩ := Z.cells
    clear hq Z
    cases s
    all_goals
      go_wp2
      go_ret
      refine ⟨ret_int ?_, B.out⟩
      have := V.out
    · rw [sg_pos (by simp [zv]; omega)]
    · rw [sg_neg (by simp [zv]; omega)]

theorem Own.set_low {w : World} {lo cap g i : Nat} {A : Option Addr} {xs : List Nat} (h : Own w lo A cap xs) (hg : g < lo) (u : Value) : Own (w.setCell ⟨g, i, none⟩ u) lo A cap xs := by
  obtain ⟨h0, h1, h2, h3⟩ := h
  refine ⟨h0, h1, h2, ?_⟩
  rcases h3 with h3 | ⟨b, o, cur, hA, hl, hr, hc⟩
  · exact .inl h3
  · exact .inr ⟨b, o, cur, hA, hl, (Below.heap_setCell w ⟨g, i, none⟩ u b (by show b ≠ g; omega)).trans hr, hc⟩
theorem GivesZ.at_ {w w2 w4 : World} {z : Int} {e : Ending} (h : GivesZ w2 z e w4) (hb : Below w.heap.size w w2) : GivesZ w z e w4 := by
  obtain ⟨R, c, rfl, ho, hb'⟩ := h
  exact ⟨R, c, rfl, ho.mono hb.size, hb.trans (hb'.mono hb.size)⟩
/-- The blocks that a function of one integer, or two, begins with. -/
theorem start1 (w : World) (s : Bool) (A : Option Addr) (n c : Nat) :
    Hid (Below w.heap.size w ((w.alloc (.cells #[.bool s, .slice A n c] 27)).alloc (.cells #[.bool false, .slice none 0 0] 27))) ∧
    Hid (Zb ((w.alloc (.cells #[.bool s, .slice A n c] 27)).alloc (.cells #[.bool false, .slice none 0 0] 27)) w.heap.size s A n c) ∧
    Hid (Zb ((w.alloc (.cells #[.bool s, .slice A n c] 27)).alloc (.cells #[.bool false, .slice none 0 0] 27)) (w.heap.size + 1) false none 0 0) := by
  refine ⟨((Below.refl _ _).alloc (Nat.le_refl _) _).alloc (by simp) _, (Zb.new w s A n c).alloc _, ?_⟩
  have := Zb.new (w.alloc (.cells #[.bool s, .slice A n c] 27)) false none 0 0
  simp only [World.size_alloc] at this
  exact this
theorem start2 (w : World) (s : Bool) (A : Option Addr) (n c : Nat) (s' : Bool) (A' : Option Addr) (n' c' : Nat) :
    Hid (Below w.heap.size w (((w.alloc (.cells #[.bool s, .slice A n c] 27)).alloc (.cells #[.bool s', .slice A' n' c'] 27)).alloc (.cells #[.bool false, .slice none 0 0] 27))) ∧
    Hid (Zb (((w.alloc (.cells #[.bool s, .slice A n c] 27)).alloc (.cells #[.bool s', .slice A' n' c'] 27)).alloc (.cells #[.bool false, .slice none 0 0] 27)) w.heap.size s A n c) ∧
    Hid (Zb (((w.alloc (.cells #[.bool s, .slice A n c] 27)).alloc (.cells #[.bool s', .slice A' n' c'] 27)).alloc (.cells #[.bool false, .slice none 0 0] 27)) (w.heap.size + 1) s' A' n' c') ∧
    Hid (Zb (((w.alloc (.cells #[.bool s, .slice A n c] 27)).alloc (.cells #[.bool s', .slice A' n' c'] 27)).alloc (.cells #[.bool false, .slice none 0 0] 27)) (w.heap.size + 2) false none 0 0) := by
  refine ⟨(((Below.refl _ _).alloc (Nat.le_refl _) _).alloc (by simp) _).alloc (by simp; omega) _, ((Zb.new w s A n c).alloc _).alloc _, ?_, ?_⟩
  · have := (Zb.new (w.alloc (.cells #[.bool s, .slice A n c] 27)) s' A' n' c').alloc (.cells #[.bool false, .slice none 0 0] 27)
    simp only [World.size_alloc] at this
    exact this
  · have := Zb.new ((w.alloc (.cells #[.bool s, .slice A n c] 27)).alloc (.cells #[.bool s', .slice A' n' c'] 27)) false none 0 0
    simp only [World.size_alloc] at this
    exact this
/-- The end: the result is stored into the function's own block and returned. -/
theorem end_z {fn : Func} {w w2 w4 : World} {a : Act} {k g n0 c0 c : Nat} {s0 : Bool} {A0 R : Option Addr} {z : Int} (hf : fn.results = #[.cell k 27]) (hd : a.defers = [])
    (hk : (a.tmps[k]?).getD undef = .pointer (some ⟨g, 0, none⟩)) (Y : Hid (Zb w2 g s0 A0 n0 c0)) (B : Hid (Below w.heap.size w w2)) (hg : w.heap.size ≤ g) (ho : Own w4 w2.heap.size R c (ofv z.natAbs)) (hb : Below w2.heap.size w2 w4) :
    bodyPost Tryz.prog fn (GivesZ w z) .ret a ((w4.setCell ⟨g, 0, none⟩ (.bool (decide (z < 0)))).setCell ⟨g, 1, none⟩ (.slice R (ofv z.natAbs).length c)) := by
  have hlt := Y.out.lt
  refine ret_zb hf hd hk ((Y.out.below hb hlt).lit _ _ _ _) ⟨R, c, rfl, ((ho.set_low hlt _).set_low hlt _).mono B.out.size, ?_⟩
  exact ((B.out.trans (hb.mono B.out.size)).setCell (p := ⟨g, 0, none⟩) hg _).setCell (p := ⟨g, 1, none⟩) hg _
end Go.Proofs.YtfacndibfkamgaaGreat

/-
  Integers that come in: some sign, some list of limbs; arithmetic of signs and magnitudes.
-/
namespace Go.Proofs.YtfacndibfkamgaaGreat
open Go.RowKit
set_option linter.unusedVariables false

/-- An integer that came in: some sign, some list of limbs. -/
def Zin (w : World) (s : Bool) (A : Option Addr) (n c : Nat) (z : Int) : Prop := ∃ xs, Rd w A c xs ∧ xs.length = n ∧ zv s (val xs) = z
theorem Zin.keep {w w' : World} {B n c : Nat} {s : Bool} {A : Option Addr} {z : Int} (h : Zin w s A n c z) (hB : w.heap.size ≤ B) (hb : Below B w w') : Zin w' s A n c z := by
  obtain ⟨xs, h1, h2, h3⟩ := h
  exact ⟨xs, h1.keep hB hb, h2, h3⟩
theorem Zin.below {w w' : World} {n c : Nat} {s : Bool} {A : Option Addr} {z : Int} (h : Zin w s A n c z) (hb : Below w.heap.size w w') : Zin w' s A n c z := h.keep (Nat.le_refl _) hb
theorem Zin.drew {w : World} {n c : Nat} {s : Bool} {A : Option Addr} {z : Int} (h : Zin w s A n c z) : Zin w.drew s A n c z := h.below (below_drewN _ w 1)
theorem Zin.len {w : World} {n c : Nat} {s : Bool} {A : Option Addr} {z : Int} (h : Zin w s A n c z) : (ofv z.natAbs).length ≤ n := by
  obtain ⟨xs, h1, h2, h3⟩ := h
  subst h2 h3
  rw [zv_abs]
  exact len_ofv_le h1.ok
/-- A canonical integer. -/
theorem Zin.of {w : World} {c : Nat} {R : Option Addr} {z : Int} (h : Rd w R c (ofv z.natAbs)) : Zin w (decide (z < 0)) R (ofv z.natAbs).length c z := ⟨_, h, rfl, by rw [val_ofv]; exact zv_of z⟩

/-- What the two arguments' blocks hold, behind whatever wrote new blocks. -/
theorem keep2 {w w' : World} {B g1 g2 n c n' c' : Nat} {s s' : Bool} {A A' : Option Addr} (X : Hid (Zb w g1 s A n c)) (Y : Hid (Zb w g2 s' A' n' c')) (hb : Below B w w') (h1 : g1 < B) (h2 : g2 < B) :
    w'.cell? ⟨g1, 0, none⟩ = some (.bool s) ∧ w'.cell? ⟨g1, 1, none⟩ = some (.slice A n c) ∧ w'.cell? ⟨g2, 0, none⟩ = some (.bool s') ∧ w'.cell? ⟨g2, 1, none⟩ = some (.slice A' n' c') := by
  obtain ⟨a, b⟩ := (X.out.below hb h1).cells
  obtain ⟨d, e⟩ := (Y.out.below hb h2).cells
  exact ⟨a, b, d, e⟩
theorem keep1 {w w' : World} {B g1 n c : Nat} {s : Bool} {A : Option Addr} (X : Hid (Zb w g1 s A n c)) (hb : Below B w w') (h1 : g1 < B) : w'.cell? ⟨g1, 0, none⟩ = some (.bool s) ∧ w'.cell? ⟨g1, 1, none⟩ = some (.slice A n c) := (X.out.below hb h1).cells
theorem keep1s {w w' : World} {g1 g n c : Nat} {s : Bool} {A : Option Addr} {u u' : Value} (X : Hid (Zb w g1 s A n c)) (hb : Below g w w') (h1 : g1 < g) :
    ((w'.setCell ⟨g, 0, none⟩ u).setCell ⟨g, 1, none⟩ u').cell? ⟨g1, 0, none⟩ = some (.bool s) ∧ ((w'.setCell ⟨g, 0, none⟩ u).setCell ⟨g, 1, none⟩ u').cell? ⟨g1, 1, none⟩ = some (.slice A n c) :=
  keep1 X ((hb.setCell (p := ⟨g, 0, none⟩) (Nat.le_refl _) u).setCell (p := ⟨g, 1, none⟩) (Nat.le_refl _) u') h1
theorem keep2s {w w' : World} {g1 g2 g n c n' c' : Nat} {s s' : Bool} {A A' : Option Addr} {u u' : Value} (X : Hid (Zb w g1 s A n c)) (Y : Hid (Zb w g2 s' A' n' c')) (hb : Below g w w') (h1 : g1 < g) (h2 : g2 < g) :
    ((w'.setCell ⟨g, 0, none⟩ u).setCell ⟨g, 1, none⟩ u').cell? ⟨g1, 0, none⟩ = some (.bool s) ∧ ((w'.setCell ⟨g, 0, none⟩ u).setCell ⟨g, 1, none⟩ u').cell? ⟨g1, 1, none⟩ = some (.slice A n c) ∧
    ((w'.setCell ⟨g, 0, none⟩ u).setCell ⟨g, 1, none⟩ u').cell? ⟨g2, 0, none⟩ = some (.bool s') ∧ ((w'.setCell ⟨g, 0, none⟩ u).setCell ⟨g, 1, none⟩ u').cell? ⟨g2, 1, none⟩ = some (.slice A' n' c') :=
  keep2 X Y ((hb.setCell (p := ⟨g, 0, none⟩) (Nat.le_refl _) u).setCell (p := ⟨g, 1, none⟩) (Nat.le_refl _) u') h1 h2

theorem mul_zv (s s' : Bool) (a b : Nat) : zv (s != s') (a * b) = zv s a * zv s' b := by
  cases s <;> cases s' <;> simp [zv, Int.neg_mul, Int.mul_neg]
theorem add_zv (s : Bool) (a b : Nat) : zv s (a + b) = zv s a + zv s b := by
  cases s <;> simp [zv] <;> omega
theorem sub_zv {s : Bool} {a b : Nat} (h : b ≤ a) : zv s (a - b) = zv s a + zv (!s) b := by
  cases s <;> simp [zv] <;> omega
theorem sub_zv' {s : Bool} {a b : Nat} (h : a ≤ b) : zv (!s) (b - a) = zv s a + zv (!s) b := by
  cases s <;> simp [zv] <;> omega
theorem not_zv (s : Bool) (a : Nat) : zv (!s) a = -zv s a := by cases s <;> simp [zv]
theorem abs_zv (s : Bool) (a : Nat) : zv false a = ((zv s a).natAbs : Int) := by rw [zv_abs]; rfl
theorem sub_no_n {A B : Option Addr} {ca cb n m : Nat} {xs ys : List Nat} {w : World} (h : Rd w A ca xs) (h' : Rd w B cb ys) (hn : xs.length = n) (hm : ys.length = m) (hv : val xs < val ys) :
    Calls Tryz.prog 119 #[.slice A n ca, .slice B m cb] w (GivesF w) := by
  subst hn hm; exact sub_no A B ca cb xs ys w h h' hv
end Go.Proofs.YtfacndibfkamgaaGreat

/-
  Signs of integers.
-/
namespace Go.Proofs.YtfacndibfkamgaaGreat
open Go.RowKit
set_option linter.unusedVariables false

theorem sg_cases (z : Int) : (sg z = -1 ∧ z < 0) ∨ (sg z = 0 ∧ z = 0) ∨ (sg z = 1 ∧ 0 < z) := by
  unfold sg
  split
  · exact .inl ⟨rfl, by assumption⟩
  · split
    · exact .inr (.inl ⟨rfl, by assumption⟩)
    · exact .inr (.inr ⟨rfl, by omega⟩)
theorem cmp_cases (a b : Nat) : (cmp a b = -1 ∧ a < b) ∨ (cmp a b = 0 ∧ a = b) ∨ (cmp a b = 1 ∧ b < a) := by
  rcases Nat.lt_trichotomy a b with h | h | h
  · exact .inl ⟨cmp_lt h, h⟩
  · exact .inr (.inl ⟨cmp_eq h, h⟩)
  · exact .inr (.inr ⟨cmp_gt h, h⟩)
/-- Of equal signs, the magnitudes decide. -/
theorem sg_mul_cmp {s t : Bool} {a b : Nat} (h : sg (zv s a) = sg (zv t b)) : sg (zv s a) * cmp a b = sg (zv s a - zv t b) := by
  have ha : zv s a = (a : Int) ∨ zv s a = -(a : Int) := by cases s <;> simp [zv]
  have hb : zv t b = (b : Int) ∨ zv t b = -(b : Int) := by cases t <;> simp [zv]
  generalize zv s a = x at *
  generalize zv t b = y at *
  rcases sg_cases x with ⟨e1, h1⟩ | ⟨e1, h1⟩ | ⟨e1, h1⟩ <;> rcases sg_cases y with ⟨e2, h2⟩ | ⟨e2, h2⟩ | ⟨e2, h2⟩ <;> rw [e1, e2] at h <;> (try (exfalso; omega)) <;>
    rcases cmp_cases a b with ⟨e4, h4⟩ | ⟨e4, h4⟩ | ⟨e4, h4⟩ <;> rw [e1, e4] <;> first | exact (sg_pos (by omega)).symm | exact (sg_neg (by omega)).symm | (have e0 : x - y = 0 := by omega); rw [e0]; rfl | (exfalso; omega)

theorem sg_range (z : Int) : -1 ≤ sg z ∧ sg z ≤ 1 := by
  rcases sg_cases z with ⟨e, _⟩ | ⟨e, _⟩ | ⟨e, _⟩ <;> rw [e] <;> decide
theorem sg_cmp_range (z : Int) (a b : Nat) : -1 ≤ sg z * cmp a b ∧ sg z * cmp a b ≤ 1 := by
  rcases sg_cases z with ⟨e1, _⟩ | ⟨e1, _⟩ | ⟨e1, _⟩ <;> rcases cmp_cases a b with ⟨e2, _⟩ | ⟨e2, _⟩ | ⟨e2, _⟩ <;> rw [e1, e2] <;> decide
theorem sg_lt {x y : Int} (h : sg x < sg y) : sg (x - y) = -1 := by
  rcases sg_cases x with ⟨e1, h1⟩ | ⟨e1, h1⟩ | ⟨e1, h1⟩ <;> rcases sg_cases y with ⟨e2, h2⟩ | ⟨e2, h2⟩ | ⟨e2, h2⟩ <;> rw [e1, e2] at h <;> first | (exfalso; omega) | exact sg_neg (by omega)
theorem sg_gt {x y : Int} (h : sg y < sg x) : sg (x - y) = 1 := by
  rcases sg_cases x with ⟨e1, h1⟩ | ⟨e1, h1⟩ | ⟨e1, h1⟩ <;> rcases sg_cases y with ⟨e2, h2⟩ | ⟨e2, h2⟩ | ⟨e2, h2⟩ <;> rw [e1, e2] at h <;> first | (exfalso; omega) | exact sg_pos (by omega)
/-- The blocks that a function of two integers begins with whose result is no integer. -/
theorem begin2 (w : World) (s : Bool) (A : Option Addr) (n c : Nat) (s' : Bool) (A' : Option Addr) (n' c' : Nat) :
    Hid (Below w.heap.size w ((w.alloc (.cells #[.bool s, .slice A n c] 27)).alloc (.cells #[.bool s', .slice A' n' c'] 27))) ∧
    Hid (Zb ((w.alloc (.cells #[.bool s, .slice A n c] 27)).alloc (.cells #[.bool s', .slice A' n' c'] 27)) w.heap.size s A n c) ∧
    Hid (Zb ((w.alloc (.cells #[.bool s, .slice A n c] 27)).alloc (.cells #[.bool s', .slice A' n' c'] 27)) (w.heap.size + 1) s' A' n' c') := by
  refine ⟨((Below.refl _ _).alloc (Nat.le_refl _) _).alloc (by simp) _, (Zb.new w s A n c).alloc _, ?_⟩
  have := Zb.new (w.alloc (.cells #[.bool s, .slice A n c] 27)) s' A' n' c'
  simp only [World.size_alloc] at this
  exact this
theorem below_drew {w w' : World} (h : Below w.drew.heap.size w.drew w') : Hid (Below w.heap.size w w') := (below_drewN w.heap.size w 1).trans h
end Go.Proofs.YtfacndibfkamgaaGreat

/-
  Lengths of sums, products, greatest common divisors; of integers.
-/
namespace Go.Proofs.YtfacndibfkamgaaGreat
set_option linter.unusedVariables false

theorem len_mono {u v : Nat} (h : u ≤ v) : (ofv u).length ≤ (ofv v).length := len_ofv_le_of_lt (Nat.lt_of_le_of_lt h (lt_pw_len v))
theorem len_mul (a b : Nat) : (ofv (a * b)).length ≤ (ofv a).length + (ofv b).length := by
  apply len_ofv_le_of_lt
  rw [pw_add]
  exact Nat.mul_lt_mul'' (lt_pw_len a) (lt_pw_len b)
theorem len_add (a b : Nat) : (ofv (a + b)).length ≤ (ofv a).length + (ofv b).length + 1 := by
  apply len_ofv_le_of_lt
  have h1 := lt_pw_len a
  have h2 := lt_pw_len b
  have h3 := pw_le (show (ofv a).length ≤ (ofv a).length + (ofv b).length by omega)
  have h4 := pw_le (show (ofv b).length ≤ (ofv a).length + (ofv b).length by omega)
  rw [pw_succ]
  omega
theorem len_gcd (a b : Nat) : (ofv (Nat.gcd a b)).length ≤ (ofv a).length + (ofv b).length := by
  rcases Nat.eq_zero_or_pos a with h | h
  · rw [h, Nat.gcd_zero_left]; omega
  · have : Nat.gcd a b ≤ a := Nat.le_of_dvd h (Nat.gcd_dvd_left a b)
    have := len_ofv_le_of_lt (Nat.lt_of_le_of_lt this (lt_pw_len a))
    omega
theorem len_gcd_max (a b n : Nat) (ha : (ofv a).length ≤ n) (hb : (ofv b).length ≤ n) : (ofv (Nat.gcd a b)).length ≤ n := by
  rcases Nat.eq_zero_or_pos a with h | h
  · rw [h, Nat.gcd_zero_left]; exact hb
  · have : Nat.gcd a b ≤ a := Nat.le_of_dvd h (Nat.gcd_dvd_left a b)
    have := len_ofv_le_of_lt (Nat.lt_of_le_of_lt this (lt_pw_len a))
    omega
theorem len_add_max {a b n : Nat} (ha : (ofv a).length ≤ n) (hb : (ofv b).length ≤ n) : (ofv (a + b)).length ≤ n + 1 := by
  apply len_ofv_le_of_lt
  have h1 := Nat.lt_of_lt_of_le (lt_pw_len a) (pw_le ha)
  have h2 := Nat.lt_of_lt_of_le (lt_pw_len b) (pw_le hb)
  rw [pw_succ]
  omega
theorem zlen_add {x y : Int} {n : Nat} (ha : (ofv x.natAbs).length ≤ n) (hb : (ofv y.natAbs).length ≤ n) : (ofv (x + y).natAbs).length ≤ n + 1 :=
  Nat.le_trans (len_mono (Int.natAbs_add_le x y)) (len_add_max ha hb)
theorem zlen_sub {x y : Int} {n : Nat} (ha : (ofv x.natAbs).length ≤ n) (hb : (ofv y.natAbs).length ≤ n) : (ofv (x - y).natAbs).length ≤ n + 1 := by
  rw [Int.sub_eq_add_neg]
  exact zlen_add ha (by rw [Int.natAbs_neg]; exact hb)
theorem zlen_mul {x y : Int} {n m : Nat} (ha : (ofv x.natAbs).length ≤ n) (hb : (ofv y.natAbs).length ≤ m) : (ofv (x * y).natAbs).length ≤ n + m := by
  rw [Int.natAbs_mul]
  have := len_mul x.natAbs y.natAbs
  omega
theorem zlen_mono {x y : Int} (h : x.natAbs ≤ y.natAbs) : (ofv x.natAbs).length ≤ (ofv y.natAbs).length := len_mono h
end Go.Proofs.YtfacndibfkamgaaGreat

/-
  Contracts of the reference's package 2: Make, Equal.
-/
namespace Go.Proofs.YtfacndibfkamgaaGreat
open Go.RowKit
set_option linter.unusedVariables false

theorem sgn_len {s : Bool} {v n : Nat} {z : Int} (hz : zv s v = z) (hn : (ofv v).length = n) : (s && decide (0 < n)) = decide (z < 0) ∧ z.natAbs = v := by
  subst hz hn
  have e : decide (0 < (ofv v).length) = decide (0 < v) := by
    rcases Nat.eq_zero_or_pos v with h | h
    · subst h; simp [ofv_zero]
    · have := len_pos h; simp [this, h]
  rw [e, zv_neg, zv_abs]
  exact ⟨rfl, rfl⟩
theorem make_end {w w2 w3 : World} {b s s0 : Bool} {v n c n0 c0 : Nat} {R A0 : Option Addr} {z : Int} {u u' : Value} (R2 : Hid (Zb w2 w.heap.size s0 A0 n0 c0)) (B2 : Hid (Below w.heap.size w w2)) (ho : Own w3 w2.heap.size R c (ofv v)) (hb : Below w2.heap.size w2 w3) (hz : zv s v = z) (hn : (ofv v).length = n) (hs : b = (s && decide (0 < n))) :
    GivesZ w z (.returned (.agg #[.bool b, .slice R n c])) ((w3.setCell ⟨w.heap.size, 0, none⟩ u).setCell ⟨w.heap.size, 1, none⟩ u') := by
  have hlt := R2.out.lt
  obtain ⟨e1, e2⟩ := sgn_len hz hn
  refine ⟨R, c, by rw [hs, e1, e2, hn], ?_, ((B2.out.trans (hb.mono B2.out.size)).setCell (p := ⟨w.heap.size, 0, none⟩) (Nat.le_refl _) u).setCell (p := ⟨w.heap.size, 1, none⟩) (Nat.le_refl _) u'⟩
  rw [e2]
  exact ((ho.set_low hlt _).set_low hlt _).mono B2.out.size
set_option maxHeartbeats 2000000 in
theorem make_n {A : Option Addr} {c n : Nat} {s : Bool} {xs : List Nat} {w : World} (h : Rd w A c xs) (hn : xs.length = n) (hl : n ≤ 70368744177664) {z : Int} (hz : zv s (val xs) = z) :
    Calls Tryz.prog 80 #[.bool s, .slice A n c] w (GivesZ w z) := by
  have R2 := Lib.hid (Zb.new w false none 0 0)
  have B2 := Lib.hid ((Below.refl w.heap.size w).alloc (Nat.le_refl _) (.cells #[.bool false, .slice none 0 0] 27))
  have P2 := Lib.hid (h.below B2.out)
  have E := Lib.hid hz
  clear h hz
  cases s
  all_goals
    go_enter Tryz.func80, Tryz.ntmps80
    go_wp2_with fail
    generalize (w.alloc (.cells #[.bool false, .slice none 0 0] 27)) = w2 at *
    refine (rtrim_n P2.out hn hl).mono ?_
    rintro e w3 ⟨R, c3, rfl, ho, hb⟩
    obtain ⟨f0, f1⟩ := (R2.out.below hb R2.out.lt).frozen
    obtain ⟨k0, k1⟩ := (R2.out.below hb R2.out.lt).cells
    go_wp2
    refine ret_zb Tryz.results80 rfl rfl ((R2.out.below hb R2.out.lt).lit _ _ _ _) ?_
    exact make_end R2 B2 ho hb E.out rfl (by simp)
theorem make_gives {w0 w : World} {s : Bool} {v n c : Nat} {R : Option Addr} {z : Int} (ho : Own w w0.heap.size R c (ofv v)) (hb : Below w0.heap.size w0 w) (hz : zv s v = z) (hn : (ofv v).length = n) (hl : (ofv v).length ≤ 70368744177664) :
    Calls Tryz.prog 80 #[.bool s, .slice R n c] w (GivesZ w0 z) :=
  (make_n ho.rd hn (by omega) (by rw [val_ofv]; exact hz)).mono fun _ _ h => h.at_ hb
/-- A canonical integer that is read. -/
def Zo (w : World) (R : Option Addr) (c : Nat) (z : Int) : Prop := Rd w R c (ofv z.natAbs)
theorem Zo.below {w w' : World} {R : Option Addr} {c : Nat} {z : Int} (h : Zo w R c z) (hb : Below w.heap.size w w') : Zo w' R c z := Rd.below h hb
theorem Zo.in_ {w : World} {R : Option Addr} {c : Nat} {z : Int} (h : Zo w R c z) : Zin w (decide (z < 0)) R (ofv z.natAbs).length c z := Zin.of h
theorem requal_n {A B : Option Addr} {n m c d : Nat} {s : Bool} {xs ys : List Nat} {w : World} (h : Rd w A c xs) (h' : Rd w B d ys) (he : xs = ys) (hn : xs.length = n) (hm : ys.length = m) :
    Calls Tryz.prog 57 #[.agg #[.bool s, .slice A n c], .agg #[.bool s, .slice B m d]] w fun e w' => e = .returned (.bool true) ∧ Below w.heap.size w w' := by
  obtain ⟨B2, X2, Y2⟩ := begin2 w s A n c s B m d
  have P := Lib.hid (h.below B2.out)
  have Q := Lib.hid (h'.below B2.out)
  have HE := Lib.hid he
  have HN := Lib.hid hn
  have HM := Lib.hid hm
  clear h h' he hn hm
  go_enter Tryz.func57, Tryz.ntmps57
  go_wp2_with fail
  generalize ((w.alloc (.cells #[.bool s, .slice A n c] 27)).alloc (.cells #[.bool s, .slice B m d] 27)) = w2 at *
  refine (equal_n P.out Q.out HE.out HN.out HM.out).mono ?_
  rintro e w3 ⟨rfl, hq⟩
  have B3 := Lib.hid (B2.out.trans ((below_q hq).mono B2.out.size))
  clear hq
  go_wp2
  go_ret
  exact ⟨rfl, B3.out⟩
theorem requal_z {R R' : Option Addr} {c c' : Nat} {z : Int} {w : World} (h : Zo w R c z) (h' : Zo w R' c' z) :
    Calls Tryz.prog 57 #[.agg #[.bool (decide (z < 0)), .slice R (ofv z.natAbs).length c], .agg #[.bool (decide (z < 0)), .slice R' (ofv z.natAbs).length c']] w fun e w' => e = .returned (.bool true) ∧ Below w.heap.size w w' :=
  requal_n h h' rfl rfl rfl
end Go.Proofs.YtfacndibfkamgaaGreat
