/-
  Variables of the types Rat and short: read and written, as a whole and in part; natural numbers that come in; rational results.
-/
import Derived.Test.YtfacndibfkamgaaGreatVar
import Derived.Deep.MidRow
namespace Go.Proofs.YtfacndibfkamgaaGreat
open Go.RowKit
set_option linter.unusedVariables false

theorem Tryz.sizeR : (Tryz.prog.info? 29).map (·.size) = some 3 := by kernel_rfl
theorem Tryz.sizeS : (Tryz.prog.info? 121).map (·.size) = some 2 := by kernel_rfl
/-- A rational number in memory. -/
def Rb (w : World) (g : Nat) (s : Bool) (A : Option Addr) (n c : Nat) (D : Option Addr) (m k : Nat) : Prop := w.heap[g]? = some (.cells #[.bool s, .slice A n c, .slice D m k] 29 (0, 0))
/-- A short number in memory. -/
def Sb (w : World) (g : Nat) (x y : Int) : Prop := w.heap[g]? = some (.cells #[.int .i64 x, .int .i64 y] 121 (0, 0))
section
variable {P : Program} {w w' : World} {g i : Nat} {cs : Array Value} {t : TypeId} {fr : Nat × Nat} {u : Value} {d : TypeDesc} {ty : TypeId}
theorem run_ld1 (hg : w.heap[g]? = some (.cells cs t fr)) (hu : P.underlying ty = some d) (hd : d.isRow = false) (hc : cs[i]? = some u) : (loadVar ty ⟨g, i, none⟩).run P w = .ok u w := by
  have hagg : (isAgg ty).run P w = .ok false w := by
    unfold isAgg
    rw [Sem.run_bind, run_underlying hu w]
    cases d <;> simp_all
  have hce : w.cell? ⟨g, i, none⟩ = some u := (cell_of_row w g i cs t fr hg).trans hc
  simp [loadVar, Sem.run_bind, hagg, hce]
theorem range_of {l : List Value} {off : Nat} (hg : w.heap[g]? = some (.cells cs t fr)) (h : ∀ j v, l[j]? = some v → cs[off + j]? = some v) : w.rangeAt g off l := fun j v hv => by
  rw [cell_of_row w g (off + j) cs t fr hg]; exact h j v hv
end
section
variable {w w' : World} {g B : Nat} {s : Bool} {A D : Option Addr} {n c m k : Nat}
theorem Rb.lt (h : Rb w g s A n c D m k) : g < w.heap.size := lt_of_heap h
theorem Rb.below (h : Rb w g s A n c D m k) (hb : Below B w w') (hg : g < B) : Rb w' g s A n c D m k := (hb.block g hg).trans h
theorem Rb.gro {g' : Nat} (h : Rb w g s A n c D m k) (hg : w.grownBy w' (some g')) (ne : g ≠ g') : Rb w' g s A n c D m k := (hg.block g h.lt (by simpa using ne)).trans h
theorem Rb.new (w : World) (s : Bool) (A : Option Addr) (n c : Nat) (D : Option Addr) (m k : Nat) : Rb (w.alloc (.cells #[.bool s, .slice A n c, .slice D m k] 29)) w.heap.size s A n c D m k := heap_alloc_new w _
theorem Rb.alloc (h : Rb w g s A n c D m k) (ob : Obj) : Rb (w.alloc ob) g s A n c D m k := (Below.heap_alloc w ob g h.lt).trans h
end
section
variable {w w' : World} {g B : Nat} {x y : Int}
theorem Sb.lt (h : Sb w g x y) : g < w.heap.size := lt_of_heap h
theorem Sb.below (h : Sb w g x y) (hb : Below B w w') (hg : g < B) : Sb w' g x y := (hb.block g hg).trans h
theorem Sb.gro {g' : Nat} (h : Sb w g x y) (hg : w.grownBy w' (some g')) (ne : g ≠ g') : Sb w' g x y := (hg.block g h.lt (by simpa using ne)).trans h
theorem Sb.new (w : World) (x y : Int) : Sb (w.alloc (.cells #[.int .i64 x, .int .i64 y] 121)) w.heap.size x y := heap_alloc_new w _
theorem Sb.alloc (h : Sb w g x y) (ob : Obj) : Sb (w.alloc ob) g x y := (Below.heap_alloc w ob g h.lt).trans h
end
section
variable {w w' : World} {g lo n c : Nat} {A : Option Addr} {s : Bool} {z : Int} {s0 : Bool} {A0 D0 : Option Addr} {n0 c0 m0 k0 : Nat}
theorem Own.grR {xs : List Nat} (h : Own w lo A c xs) (hz : Rb w g s0 A0 n0 c0 D0 m0 k0) (hg : w.grownBy w' (some g)) : Own w' lo A c xs := by
  obtain ⟨h0, h1, h2, h3⟩ := h
  refine ⟨h0, h1, h2, ?_⟩
  rcases h3 with h3 | ⟨b, o, cur, hA, hl, hr, hc⟩
  · exact .inl h3
  · have ne : b ≠ g := by
      intro e
      subst e
      unfold Rb at hz
      rw [hz] at hr
      simp only [Option.some.injEq, Obj.cells.injEq] at hr
      exact absurd hr.2.1 (by decide)
    exact .inr ⟨b, o, cur, hA, hl, (hg.block b (lt_of_heap hr) (by simpa using ne)).trans hr, hc⟩
theorem Rd.grR {cap : Nat} {xs : List Nat} (h : Rd w A cap xs) (hz : Rb w g s0 A0 n0 c0 D0 m0 k0) (hg : w.grownBy w' (some g)) : Rd w' A cap xs := by
  obtain ⟨h0, h1, h2, h3⟩ := h
  refine ⟨h0, h1, h2, ?_⟩
  rcases h3 with h3 | ⟨b, o, hA, hl, hc⟩
  · exact .inl h3
  · refine .inr ⟨b, o, hA, Nat.lt_of_lt_of_le hl hg.size, fun i hi => ?_⟩
    have hce := hc i hi
    have ne : b ≠ g := by
      intro e
      subst e
      rw [cell_of_row w b _ _ _ _ hz] at hce
      have hk : o + i < 3 := by
        rcases Nat.lt_or_ge (o + i) 3 with h | h
        · exact h
        · rw [Array.getElem?_eq_none (by simpa using h)] at hce; cases hce
      have hcase : o + i = 0 ∨ o + i = 1 ∨ o + i = 2 := by omega
      rcases hcase with h | h | h <;> rw [h] at hce <;> simp at hce
    exact hg.cell hce (by simpa using ne)
theorem Zin.grR (h : Zin w s A n c z) (hz : Rb w g s0 A0 n0 c0 D0 m0 k0) (hg : w.grownBy w' (some g)) : Zin w' s A n c z := by
  obtain ⟨xs, h1, h2, h3⟩ := h
  exact ⟨xs, h1.grR hz hg, h2, h3⟩
theorem Zo.grR (h : Zo w A c z) (hz : Rb w g s0 A0 n0 c0 D0 m0 k0) (hg : w.grownBy w' (some g)) : Zo w' A c z := Rd.grR h hz hg
end
section
variable {w w' : World} {g lo n c : Nat} {A : Option Addr} {s : Bool} {z : Int} {x y : Int}
theorem Own.grS {xs : List Nat} (h : Own w lo A c xs) (hz : Sb w g x y) (hg : w.grownBy w' (some g)) : Own w' lo A c xs := by
  obtain ⟨h0, h1, h2, h3⟩ := h
  refine ⟨h0, h1, h2, ?_⟩
  rcases h3 with h3 | ⟨b, o, cur, hA, hl, hr, hc⟩
  · exact .inl h3
  · have ne : b ≠ g := by
      intro e
      subst e
      unfold Sb at hz
      rw [hz] at hr
      simp only [Option.some.injEq, Obj.cells.injEq] at hr
      exact absurd hr.2.1 (by decide)
    exact .inr ⟨b, o, cur, hA, hl, (hg.block b (lt_of_heap hr) (by simpa using ne)).trans hr, hc⟩
theorem Rd.grS {cap : Nat} {xs : List Nat} (h : Rd w A cap xs) (hz : Sb w g x y) (hg : w.grownBy w' (some g)) : Rd w' A cap xs := by
  obtain ⟨h0, h1, h2, h3⟩ := h
  refine ⟨h0, h1, h2, ?_⟩
  rcases h3 with h3 | ⟨b, o, hA, hl, hc⟩
  · exact .inl h3
  · refine .inr ⟨b, o, hA, Nat.lt_of_lt_of_le hl hg.size, fun i hi => ?_⟩
    have hce := hc i hi
    have ne : b ≠ g := by
      intro e
      subst e
      rw [cell_of_row w b _ _ _ _ hz] at hce
      have hk : o + i < 2 := by
        rcases Nat.lt_or_ge (o + i) 2 with h | h
        · exact h
        · rw [Array.getElem?_eq_none (by simpa using h)] at hce; cases hce
      have hcase : o + i = 0 ∨ o + i = 1 := by omega
      rcases hcase with h | h <;> rw [h] at hce <;> simp at hce
    exact hg.cell hce (by simpa using ne)
theorem Zin.grS (h : Zin w s A n c z) (hz : Sb w g x y) (hg : w.grownBy w' (some g)) : Zin w' s A n c z := by
  obtain ⟨xs, h1, h2, h3⟩ := h
  exact ⟨xs, h1.grS hz hg, h2, h3⟩
theorem Zo.grS (h : Zo w A c z) (hz : Sb w g x y) (hg : w.grownBy w' (some g)) : Zo w' A c z := Rd.grS h hz hg
end
/-- A natural number that came in: some list of limbs. -/
def Nin (w : World) (D : Option Addr) (m k d : Nat) : Prop := ∃ ys, Rd w D k ys ∧ ys.length = m ∧ val ys = d
section
variable {w w' : World} {D : Option Addr} {m k d g : Nat}
theorem Nin.below (h : Nin w D m k d) (hb : Below w.heap.size w w') : Nin w' D m k d := by
  obtain ⟨ys, h1, h2, h3⟩ := h; exact ⟨ys, h1.below hb, h2, h3⟩
theorem Nin.drew (h : Nin w D m k d) : Nin w.drew D m k d := h.below (below_drewN _ w 1)
theorem Nin.len (h : Nin w D m k d) : (ofv d).length ≤ m := by
  obtain ⟨ys, h1, h2, h3⟩ := h; subst h2 h3; exact len_ofv_le h1.ok
theorem Nin.of_own {lo : Nat} (h : Own w lo D k (ofv d)) : Nin w D (ofv d).length k d := ⟨_, h.rd, rfl, val_ofv d⟩
theorem Nin.of_rd (h : Rd w D k (ofv d)) : Nin w D (ofv d).length k d := ⟨_, h, rfl, val_ofv d⟩
theorem Nin.int (h : Nin w D m k d) {z : Int} (hz : (d : Int) = z) : Zin w false D m k z := by
  obtain ⟨ys, h1, h2, h3⟩ := h; exact ⟨ys, h1, h2, by rw [h3]; exact hz⟩
theorem Zin.mag {s : Bool} {z : Int} (h : Zin w s D m k z) {a : Nat} (ha : z.natAbs = a) : Nin w D m k a := by
  obtain ⟨ys, h1, h2, h3⟩ := h; exact ⟨ys, h1, h2, by rw [← ha, ← h3, zv_abs]⟩
theorem Zin.flip {s t : Bool} {z z' : Int} (h : Zin w s D m k z) (ht : (!s) = t) (hz : -z = z') : Zin w t D m k z' := by
  obtain ⟨ys, h1, h2, h3⟩ := h
  subst ht
  exact ⟨ys, h1, h2, by rw [not_zv, h3, hz]⟩
theorem Zin.sign {s t : Bool} {z z' : Int} (h : Zin w s D m k z) (hz : (z'.natAbs = z.natAbs ∧ zv t z.natAbs = z')) : Zin w t D m k z' := by
  obtain ⟨ys, h1, h2, h3⟩ := h
  refine ⟨ys, h1, h2, ?_⟩
  rw [← hz.2, ← h3, zv_abs]
theorem Nin.gr {n0 c0 : Nat} {s0 : Bool} {A0 : Option Addr} (h : Nin w D m k d) (hz : Zb w g s0 A0 n0 c0) (hg : w.grownBy w' (some g)) : Nin w' D m k d := by
  obtain ⟨ys, h1, h2, h3⟩ := h; exact ⟨ys, h1.gr hz hg, h2, h3⟩
theorem Nin.grR {n0 c0 m0 k0 : Nat} {s0 : Bool} {A0 D0 : Option Addr} (h : Nin w D m k d) (hz : Rb w g s0 A0 n0 c0 D0 m0 k0) (hg : w.grownBy w' (some g)) : Nin w' D m k d := by
  obtain ⟨ys, h1, h2, h3⟩ := h; exact ⟨ys, h1.grR hz hg, h2, h3⟩
theorem Nin.grS {x y : Int} (h : Nin w D m k d) (hz : Sb w g x y) (hg : w.grownBy w' (some g)) : Nin w' D m k d := by
  obtain ⟨ys, h1, h2, h3⟩ := h; exact ⟨ys, h1.grS hz hg, h2, h3⟩
end
theorem gcd_d {w : World} {A B : Option Addr} {n c m k a b g : Nat} (h : Nin w A n c a) (h' : Nin w B m k b) (hl : n ≤ 70368744177663) (hl' : m ≤ 70368744177663) (hg : Nat.gcd a b = g) :
    Calls Tryz.prog 103 #[.slice A n c, .slice B m k] w (Gives w g) := by
  obtain ⟨xs, h1, h2, h3⟩ := h; obtain ⟨ys, k1, k2, k3⟩ := h'; subst h3 k3 hg; exact gcd_n h1 k1 h2 k2 hl hl'
theorem mul_d {w : World} {A B : Option Addr} {n c m k a b g : Nat} (h : Nin w A n c a) (h' : Nin w B m k b) (hl : n + m ≤ 70368744177664) (hg : a * b = g) :
    Calls Tryz.prog 106 #[.slice A n c, .slice B m k] w (Gives w g) := by
  obtain ⟨xs, h1, h2, h3⟩ := h; obtain ⟨ys, k1, k2, k3⟩ := h'; subst h3 k3 hg; exact mul_n h1 k1 h2 k2 hl
theorem add_d {w : World} {A B : Option Addr} {n c m k a b g : Nat} (h : Nin w A n c a) (h' : Nin w B m k b) (hl : n ≤ 70368744177663) (hl' : m ≤ 70368744177663) (hg : a + b = g) :
    Calls Tryz.prog 118 #[.slice A n c, .slice B m k] w (Gives w g) := by
  obtain ⟨xs, h1, h2, h3⟩ := h; obtain ⟨ys, k1, k2, k3⟩ := h'; subst h3 k3 hg; exact add_n h1 k1 h2 k2 hl hl'
theorem dm_d {w : World} {A B : Option Addr} {n c m k a b q r : Nat} (h : Nin w A n c a) (h' : Nin w B m k b) (hl : n ≤ 70368744177663) (hb : 0 < b) (hq : a / b = q) (hr : a % b = r) :
    Calls Tryz.prog 104 #[.slice A n c, .slice B m k] w (Gives2 w q r) := by
  obtain ⟨xs, h1, h2, h3⟩ := h; obtain ⟨ys, k1, k2, k3⟩ := h'; subst h3 k3 hq hr; exact dm_n h1 k1 h2 k2 hl hb
theorem bits_d {w : World} {A : Option Addr} {n c a : Nat} {z : Int} (h : Nin w A n c a) (hl : n ≤ 70368744177664) (hz : ((nbits a : Nat) : Int) = z) :
    Calls Tryz.prog 126 #[.slice A n c] w fun e w' => e = .returned (.int .i64 z) ∧ Below w.heap.size w w' := by
  obtain ⟨xs, h1, h2, h3⟩ := h; subst h3 hz; exact (bits_n h1 h2 hl).mono fun e w' ⟨he, hw⟩ => ⟨he, by subst hw; exact Below.refl _ _⟩
theorem rbits_d {w : World} {A : Option Addr} {n c a : Nat} {z : Int} (h : Nin w A n c a) (hl : n ≤ 70368744177664) (hz : ((nbits a : Nat) : Int) = z) :
    Calls Tryz.prog 177 #[.slice A n c] w fun e w' => e = .returned (.int .i64 z) ∧ Below w.heap.size w w' := by
  obtain ⟨xs, h1, h2, h3⟩ := h; subst h3 hz; exact rbits_n h1 h2 hl
theorem compare_d {w : World} {A B : Option Addr} {n c m k a b : Nat} {z : Int} (h : Nin w A n c a) (h' : Nin w B m k b) (hz : cmp a b = z) :
    Calls Tryz.prog 148 #[.slice A n c, .slice B m k] w fun e w' => e = .returned (.int .i64 z) ∧ Below w.heap.size w w' := by
  obtain ⟨xs, h1, h2, h3⟩ := h; obtain ⟨ys, k1, k2, k3⟩ := h'; subst h3 k3 hz; exact (compare_n h1 k1 h2 k2).mono fun e w' ⟨he, hw⟩ => ⟨he, below_q hw⟩
/-- What Uint64 answers. -/
def U64 (a : Nat) (z : Int) (ok : Bool) : Prop := (ok = true ∧ a < 18446744073709551616 ∧ (a : Int) = z) ∨ (ok = false ∧ 18446744073709551616 ≤ a ∧ z = 0)
theorem U64.ex (a : Nat) : ∃ z ok, U64 a z ok ∧ 0 ≤ z ∧ z < 18446744073709551616 ∧ (a < 18446744073709551616 → ok = true ∧ z = a) := by
  rcases Nat.lt_or_ge a 18446744073709551616 with h | h
  · exact ⟨a, true, .inl ⟨rfl, h, rfl⟩, by omega, by omega, fun _ => ⟨rfl, rfl⟩⟩
  · exact ⟨0, false, .inr ⟨rfl, h, rfl⟩, by omega, by omega, fun h' => by omega⟩
theorem uint64_d {w : World} {A : Option Addr} {n c a : Nat} {z : Int} {ok : Bool} (h : Nin w A n c a) (hz : U64 a z ok) :
    Calls Tryz.prog 161 #[.slice A n c] w fun e w' => e = .returned (.tuple #[.int .u64 z, .bool ok]) ∧ Below w.heap.size w w' := by
  obtain ⟨xs, h1, h2, h3⟩ := h
  subst h3
  rcases hz with ⟨rfl, h4, rfl⟩ | ⟨rfl, h4, rfl⟩
  · exact (uint64_yes_n h1 h2 h4).mono fun e w' ⟨he, hw⟩ => ⟨he, below_q hw⟩
  · exact (uint64_no_n h1 h2 h4).mono fun e w' ⟨he, hw⟩ => ⟨he, below_q hw⟩
theorem from_d {v : Nat} {z : Int} (hv : v < 18446744073709551616) (hz : (v : Int) = z) (w : World) :
    Calls Tryz.prog 115 #[.int .u64 z] w (Gives w v) := by
  subst hz; exact from_any v w hv
/-- A rational number in lowest terms, in new memory. -/
def GivesR (w : World) (z : Int) (d : Nat) (e : Ending) (w' : World) : Prop :=
  ∃ R c Q k, e = .returned (.agg #[.bool (decide (z < 0)), .slice R (ofv z.natAbs).length c, .slice Q (ofv d).length k]) ∧ Own w' w.heap.size R c (ofv z.natAbs) ∧ Own w' w.heap.size Q k (ofv d) ∧ Below w.heap.size w w'
theorem GivesR.at_ {w w2 w4 : World} {z : Int} {d : Nat} {e : Ending} (h : GivesR w2 z d e w4) (hb : Below w.heap.size w w2) : GivesR w z d e w4 := by
  obtain ⟨R, c, Q, k, rfl, ho, ho', hb'⟩ := h
  exact ⟨R, c, Q, k, rfl, ho.mono hb.size, ho'.mono hb.size, hb.trans (hb'.mono hb.size)⟩
theorem ret_rb {fn : Func} {R : Ending → World → Prop} {a : Act} {w : World} {j g n c m k : Nat} {s : Bool} {A D : Option Addr} (hf : fn.results = #[.cell j 29]) (hd : a.defers = [])
    (hk : (a.tmps[j]?).getD undef = .pointer (some ⟨g, 0, none⟩)) (h : Rb w g s A n c D m k) (hR : R (.returned (.agg #[.bool s, .slice A n c, .slice D m k])) w) : bodyPost Tryz.prog fn R .ret a w := by
  have z1 := cell_of_row w g 0 _ _ _ h
  have z2 := cell_of_row w g 1 _ _ _ h
  have z3 := cell_of_row w g 2 _ _ _ h
  exact bodyPost_ret_by (v := .agg #[.bool s, .slice A n c, .slice D m k]) (by simp [results, hf, go_sem, hk, z1, z2, z3]) hd hR
section
variable {ops : Array Oper} {rest : List Oper} {o : Oper} {a : Act} {w : World} {Q : Exit → Act → World → Prop} {K : Act → World → Prop} {S : World → Prop} {g : Nat} {s : Bool} {A D : Option Addr} {n c m k : Nat}
theorem run_ldR (h : Rb w g s A n c D m k) : (loadVar 29 ⟨g, 0, none⟩).run Tryz.prog w = .ok (.agg #[.bool s, .slice A n c, .slice D m k]) w := run_loadVar_row w g _ _ _ _ _ h Tryz.underlying29 rfl Tryz.sizeR
theorem yields_ldR (hw : Region.wanted o (yielded ops a.tmps) = true) (p : Operand) (ho : o.op = .load 29 p) (hx : a.eval p = .pointer (some ⟨g, 0, none⟩)) (hS : ∀ w, S w → Rb w g s A n c D m k) : YieldsIf Tryz.prog ops S o (.agg #[.bool s, .slice A n c, .slice D m k]) a :=
  .inl ⟨hw, fun w h => by
    unfold execOp
    simp only [ho, hx, Instr.loadAt, Instr.sureAddr, Sem.run_bind, Sem.run_pure, Result.andThen_ok, run_ldR (hS w h)]⟩
theorem wp_ldR (p : Operand) (ho : o.op = .load 29 p) (hx : a.eval p = .pointer (some ⟨g, 0, none⟩)) (hz : Rb w g s A n c D m k) (h : K (a.put o.dst (.agg #[.bool s, .slice A n c, .slice D m k])) w) : o.wp Tryz.prog a w K Q := by
  unfold Oper.wp execOp
  simp only [ho, hx, Instr.loadAt, Instr.sureAddr, Sem.run_bind, Sem.run_pure, Result.andThen_ok, run_ldR hz]
  exact h
theorem wpList_ldR (hw : Region.wanted o (yielded ops a.tmps) = true) (p : Operand) (ho : o.op = .load 29 p) (hx : a.eval p = .pointer (some ⟨g, 0, none⟩)) (hz : Rb w g s A n c D m k)
    (h : wpList Tryz.prog ops Q rest (a.put o.dst (.agg #[.bool s, .slice A n c, .slice D m k])) w) : wpList Tryz.prog ops Q (o :: rest) a w :=
  wpList_wanted hw fun K hK => wp_ldR p ho hx hz (hK _ _ h)
end
section
variable {ops : Array Oper} {rest : List Oper} {o : Oper} {a : Act} {w : World} {Q : Exit → Act → World → Prop} {K : Act → World → Prop} {S : World → Prop} {g : Nat} {s : Bool} {A D : Option Addr} {n c m k : Nat}
theorem run_ldRz (h : Rb w g s A n c D m k) : (loadVar 27 ⟨g, 0, none⟩).run Tryz.prog w = .ok (.agg #[.bool s, .slice A n c]) w := run_loadVar_mid w g 0 _ [.bool s, .slice A n c] _ (range_of h (fun j v hv => by rw [Nat.zero_add]; rcases j with _ | _ | j <;> simp_all)) Tryz.underlying27 rfl Tryz.sizeZ
theorem yields_ldRz (hw : Region.wanted o (yielded ops a.tmps) = true) (p : Operand) (ho : o.op = .load 27 p) (hx : a.eval p = .pointer (some ⟨g, 0, none⟩)) (hS : ∀ w, S w → Rb w g s A n c D m k) : YieldsIf Tryz.prog ops S o (.agg #[.bool s, .slice A n c]) a :=
  .inl ⟨hw, fun w h => by
    unfold execOp
    simp only [ho, hx, Instr.loadAt, Instr.sureAddr, Sem.run_bind, Sem.run_pure, Result.andThen_ok, run_ldRz (hS w h)]⟩
theorem wp_ldRz (p : Operand) (ho : o.op = .load 27 p) (hx : a.eval p = .pointer (some ⟨g, 0, none⟩)) (hz : Rb w g s A n c D m k) (h : K (a.put o.dst (.agg #[.bool s, .slice A n c])) w) : o.wp Tryz.prog a w K Q := by
  unfold Oper.wp execOp
  simp only [ho, hx, Instr.loadAt, Instr.sureAddr, Sem.run_bind, Sem.run_pure, Result.andThen_ok, run_ldRz hz]
  exact h
theorem wpList_ldRz (hw : Region.wanted o (yielded ops a.tmps) = true) (p : Operand) (ho : o.op = .load 27 p) (hx : a.eval p = .pointer (some ⟨g, 0, none⟩)) (hz : Rb w g s A n c D m k)
    (h : wpList Tryz.prog ops Q rest (a.put o.dst (.agg #[.bool s, .slice A n c])) w) : wpList Tryz.prog ops Q (o :: rest) a w :=
  wpList_wanted hw fun K hK => wp_ldRz p ho hx hz (hK _ _ h)
end
section
variable {ops : Array Oper} {rest : List Oper} {o : Oper} {a : Act} {w : World} {Q : Exit → Act → World → Prop} {K : Act → World → Prop} {S : World → Prop} {g : Nat} {s : Bool} {A D : Option Addr} {n c m k : Nat}
theorem run_ldRd (h : Rb w g s A n c D m k) : (loadVar 25 ⟨g, 2, none⟩).run Tryz.prog w = .ok (.slice D m k) w := run_ld1 h Tryz.underlying25 rfl rfl
theorem yields_ldRd (hw : Region.wanted o (yielded ops a.tmps) = true) (p : Operand) (ho : o.op = .load 25 p) (hx : a.eval p = .pointer (some ⟨g, 2, none⟩)) (hS : ∀ w, S w → Rb w g s A n c D m k) : YieldsIf Tryz.prog ops S o (.slice D m k) a :=
  .inl ⟨hw, fun w h => by
    unfold execOp
    simp only [ho, hx, Instr.loadAt, Instr.sureAddr, Sem.run_bind, Sem.run_pure, Result.andThen_ok, run_ldRd (hS w h)]⟩
theorem wp_ldRd (p : Operand) (ho : o.op = .load 25 p) (hx : a.eval p = .pointer (some ⟨g, 2, none⟩)) (hz : Rb w g s A n c D m k) (h : K (a.put o.dst (.slice D m k)) w) : o.wp Tryz.prog a w K Q := by
  unfold Oper.wp execOp
  simp only [ho, hx, Instr.loadAt, Instr.sureAddr, Sem.run_bind, Sem.run_pure, Result.andThen_ok, run_ldRd hz]
  exact h
theorem wpList_ldRd (hw : Region.wanted o (yielded ops a.tmps) = true) (p : Operand) (ho : o.op = .load 25 p) (hx : a.eval p = .pointer (some ⟨g, 2, none⟩)) (hz : Rb w g s A n c D m k)
    (h : wpList Tryz.prog ops Q rest (a.put o.dst (.slice D m k)) w) : wpList Tryz.prog ops Q (o :: rest) a w :=
  wpList_wanted hw fun K hK => wp_ldRd p ho hx hz (hK _ _ h)
end
section
variable {ops : Array Oper} {rest : List Oper} {o : Oper} {a : Act} {w : World} {Q : Exit → Act → World → Prop} {K : Act → World → Prop} {S : World → Prop} {g : Nat} {s : Bool} {A D : Option Addr} {n c m k : Nat}
theorem run_ldRs (h : Rb w g s A n c D m k) : (loadVar 4 ⟨g, 0, none⟩).run Tryz.prog w = .ok (.bool s) w := run_ld1 h Tryz.underlying4 rfl rfl
theorem yields_ldRs (hw : Region.wanted o (yielded ops a.tmps) = true) (p : Operand) (ho : o.op = .load 4 p) (hx : a.eval p = .pointer (some ⟨g, 0, none⟩)) (hS : ∀ w, S w → Rb w g s A n c D m k) : YieldsIf Tryz.prog ops S o (.bool s) a :=
  .inl ⟨hw, fun w h => by
    unfold execOp
    simp only [ho, hx, Instr.loadAt, Instr.sureAddr, Sem.run_bind, Sem.run_pure, Result.andThen_ok, run_ldRs (hS w h)]⟩
theorem wp_ldRs (p : Operand) (ho : o.op = .load 4 p) (hx : a.eval p = .pointer (some ⟨g, 0, none⟩)) (hz : Rb w g s A n c D m k) (h : K (a.put o.dst (.bool s)) w) : o.wp Tryz.prog a w K Q := by
  unfold Oper.wp execOp
  simp only [ho, hx, Instr.loadAt, Instr.sureAddr, Sem.run_bind, Sem.run_pure, Result.andThen_ok, run_ldRs hz]
  exact h
theorem wpList_ldRs (hw : Region.wanted o (yielded ops a.tmps) = true) (p : Operand) (ho : o.op = .load 4 p) (hx : a.eval p = .pointer (some ⟨g, 0, none⟩)) (hz : Rb w g s A n c D m k)
    (h : wpList Tryz.prog ops Q rest (a.put o.dst (.bool s)) w) : wpList Tryz.prog ops Q (o :: rest) a w :=
  wpList_wanted hw fun K hK => wp_ldRs p ho hx hz (hK _ _ h)
end
section
variable {ops : Array Oper} {rest : List Oper} {o : Oper} {a : Act} {w : World} {Q : Exit → Act → World → Prop} {K : Act → World → Prop} {S : World → Prop} {g : Nat} {s : Bool} {A D : Option Addr} {n c m k : Nat}
theorem run_ldRm (h : Rb w g s A n c D m k) : (loadVar 25 ⟨g, 1, none⟩).run Tryz.prog w = .ok (.slice A n c) w := run_ld1 h Tryz.underlying25 rfl rfl
theorem yields_ldRm (hw : Region.wanted o (yielded ops a.tmps) = true) (p : Operand) (ho : o.op = .load 25 p) (hx : a.eval p = .pointer (some ⟨g, 1, none⟩)) (hS : ∀ w, S w → Rb w g s A n c D m k) : YieldsIf Tryz.prog ops S o (.slice A n c) a :=
  .inl ⟨hw, fun w h => by
    unfold execOp
    simp only [ho, hx, Instr.loadAt, Instr.sureAddr, Sem.run_bind, Sem.run_pure, Result.andThen_ok, run_ldRm (hS w h)]⟩
theorem wp_ldRm (p : Operand) (ho : o.op = .load 25 p) (hx : a.eval p = .pointer (some ⟨g, 1, none⟩)) (hz : Rb w g s A n c D m k) (h : K (a.put o.dst (.slice A n c)) w) : o.wp Tryz.prog a w K Q := by
  unfold Oper.wp execOp
  simp only [ho, hx, Instr.loadAt, Instr.sureAddr, Sem.run_bind, Sem.run_pure, Result.andThen_ok, run_ldRm hz]
  exact h
theorem wpList_ldRm (hw : Region.wanted o (yielded ops a.tmps) = true) (p : Operand) (ho : o.op = .load 25 p) (hx : a.eval p = .pointer (some ⟨g, 1, none⟩)) (hz : Rb w g s A n c D m k)
    (h : wpList Tryz.prog ops Q rest (a.put o.dst (.slice A n c)) w) : wpList Tryz.prog ops Q (o :: rest) a w :=
  wpList_wanted hw fun K hK => wp_ldRm p ho hx hz (hK _ _ h)
end
section
variable {ops : Array Oper} {rest : List Oper} {o : Oper} {a : Act} {w : World} {Q : Exit → Act → World → Prop} {K : Act → World → Prop} {S : World → Prop} {g : Nat} {s : Bool} {A : Option Addr} {n c : Nat}
theorem run_ldZs (h : Zb w g s A n c) : (loadVar 4 ⟨g, 0, none⟩).run Tryz.prog w = .ok (.bool s) w := run_ld1 h Tryz.underlying4 rfl rfl
theorem yields_ldZs (hw : Region.wanted o (yielded ops a.tmps) = true) (p : Operand) (ho : o.op = .load 4 p) (hx : a.eval p = .pointer (some ⟨g, 0, none⟩)) (hS : ∀ w, S w → Zb w g s A n c) : YieldsIf Tryz.prog ops S o (.bool s) a :=
  .inl ⟨hw, fun w h => by
    unfold execOp
    simp only [ho, hx, Instr.loadAt, Instr.sureAddr, Sem.run_bind, Sem.run_pure, Result.andThen_ok, run_ldZs (hS w h)]⟩
theorem wp_ldZs (p : Operand) (ho : o.op = .load 4 p) (hx : a.eval p = .pointer (some ⟨g, 0, none⟩)) (hz : Zb w g s A n c) (h : K (a.put o.dst (.bool s)) w) : o.wp Tryz.prog a w K Q := by
  unfold Oper.wp execOp
  simp only [ho, hx, Instr.loadAt, Instr.sureAddr, Sem.run_bind, Sem.run_pure, Result.andThen_ok, run_ldZs hz]
  exact h
theorem wpList_ldZs (hw : Region.wanted o (yielded ops a.tmps) = true) (p : Operand) (ho : o.op = .load 4 p) (hx : a.eval p = .pointer (some ⟨g, 0, none⟩)) (hz : Zb w g s A n c)
    (h : wpList Tryz.prog ops Q rest (a.put o.dst (.bool s)) w) : wpList Tryz.prog ops Q (o :: rest) a w :=
  wpList_wanted hw fun K hK => wp_ldZs p ho hx hz (hK _ _ h)
end
section
variable {ops : Array Oper} {rest : List Oper} {o : Oper} {a : Act} {w : World} {Q : Exit → Act → World → Prop} {K : Act → World → Prop} {S : World → Prop} {g : Nat} {s : Bool} {A : Option Addr} {n c : Nat}
theorem run_ldZm (h : Zb w g s A n c) : (loadVar 25 ⟨g, 1, none⟩).run Tryz.prog w = .ok (.slice A n c) w := run_ld1 h Tryz.underlying25 rfl rfl
theorem yields_ldZm (hw : Region.wanted o (yielded ops a.tmps) = true) (p : Operand) (ho : o.op = .load 25 p) (hx : a.eval p = .pointer (some ⟨g, 1, none⟩)) (hS : ∀ w, S w → Zb w g s A n c) : YieldsIf Tryz.prog ops S o (.slice A n c) a :=
  .inl ⟨hw, fun w h => by
    unfold execOp
    simp only [ho, hx, Instr.loadAt, Instr.sureAddr, Sem.run_bind, Sem.run_pure, Result.andThen_ok, run_ldZm (hS w h)]⟩
theorem wp_ldZm (p : Operand) (ho : o.op = .load 25 p) (hx : a.eval p = .pointer (some ⟨g, 1, none⟩)) (hz : Zb w g s A n c) (h : K (a.put o.dst (.slice A n c)) w) : o.wp Tryz.prog a w K Q := by
  unfold Oper.wp execOp
  simp only [ho, hx, Instr.loadAt, Instr.sureAddr, Sem.run_bind, Sem.run_pure, Result.andThen_ok, run_ldZm hz]
  exact h
theorem wpList_ldZm (hw : Region.wanted o (yielded ops a.tmps) = true) (p : Operand) (ho : o.op = .load 25 p) (hx : a.eval p = .pointer (some ⟨g, 1, none⟩)) (hz : Zb w g s A n c)
    (h : wpList Tryz.prog ops Q rest (a.put o.dst (.slice A n c)) w) : wpList Tryz.prog ops Q (o :: rest) a w :=
  wpList_wanted hw fun K hK => wp_ldZm p ho hx hz (hK _ _ h)
end
section
variable {ops : Array Oper} {rest : List Oper} {o : Oper} {a : Act} {w : World} {Q : Exit → Act → World → Prop} {K : Act → World → Prop} {S : World → Prop} {g : Nat} {x y : Int}
theorem run_ldS (h : Sb w g x y) : (loadVar 121 ⟨g, 0, none⟩).run Tryz.prog w = .ok (.agg #[.int .i64 x, .int .i64 y]) w := run_loadVar_row w g _ _ _ _ _ h Tryz.underlying121 rfl Tryz.sizeS
theorem yields_ldS (hw : Region.wanted o (yielded ops a.tmps) = true) (p : Operand) (ho : o.op = .load 121 p) (hx : a.eval p = .pointer (some ⟨g, 0, none⟩)) (hS : ∀ w, S w → Sb w g x y) : YieldsIf Tryz.prog ops S o (.agg #[.int .i64 x, .int .i64 y]) a :=
  .inl ⟨hw, fun w h => by
    unfold execOp
    simp only [ho, hx, Instr.loadAt, Instr.sureAddr, Sem.run_bind, Sem.run_pure, Result.andThen_ok, run_ldS (hS w h)]⟩
theorem wp_ldS (p : Operand) (ho : o.op = .load 121 p) (hx : a.eval p = .pointer (some ⟨g, 0, none⟩)) (hz : Sb w g x y) (h : K (a.put o.dst (.agg #[.int .i64 x, .int .i64 y])) w) : o.wp Tryz.prog a w K Q := by
  unfold Oper.wp execOp
  simp only [ho, hx, Instr.loadAt, Instr.sureAddr, Sem.run_bind, Sem.run_pure, Result.andThen_ok, run_ldS hz]
  exact h
theorem wpList_ldS (hw : Region.wanted o (yielded ops a.tmps) = true) (p : Operand) (ho : o.op = .load 121 p) (hx : a.eval p = .pointer (some ⟨g, 0, none⟩)) (hz : Sb w g x y)
    (h : wpList Tryz.prog ops Q rest (a.put o.dst (.agg #[.int .i64 x, .int .i64 y])) w) : wpList Tryz.prog ops Q (o :: rest) a w :=
  wpList_wanted hw fun K hK => wp_ldS p ho hx hz (hK _ _ h)
end
section
variable {ops : Array Oper} {rest : List Oper} {o : Oper} {a : Act} {w : World} {Q : Exit → Act → World → Prop} {K : Act → World → Prop} {S : World → Prop} {g : Nat} {x y : Int}
theorem run_ldS0 (h : Sb w g x y) : (loadVar 2 ⟨g, 0, none⟩).run Tryz.prog w = .ok (.int .i64 x) w := run_ld1 h Tryz.underlying2 rfl rfl
theorem yields_ldS0 (hw : Region.wanted o (yielded ops a.tmps) = true) (p : Operand) (ho : o.op = .load 2 p) (hx : a.eval p = .pointer (some ⟨g, 0, none⟩)) (hS : ∀ w, S w → Sb w g x y) : YieldsIf Tryz.prog ops S o (.int .i64 x) a :=
  .inl ⟨hw, fun w h => by
    unfold execOp
    simp only [ho, hx, Instr.loadAt, Instr.sureAddr, Sem.run_bind, Sem.run_pure, Result.andThen_ok, run_ldS0 (hS w h)]⟩
theorem wp_ldS0 (p : Operand) (ho : o.op = .load 2 p) (hx : a.eval p = .pointer (some ⟨g, 0, none⟩)) (hz : Sb w g x y) (h : K (a.put o.dst (.int .i64 x)) w) : o.wp Tryz.prog a w K Q := by
  unfold Oper.wp execOp
  simp only [ho, hx, Instr.loadAt, Instr.sureAddr, Sem.run_bind, Sem.run_pure, Result.andThen_ok, run_ldS0 hz]
  exact h
theorem wpList_ldS0 (hw : Region.wanted o (yielded ops a.tmps) = true) (p : Operand) (ho : o.op = .load 2 p) (hx : a.eval p = .pointer (some ⟨g, 0, none⟩)) (hz : Sb w g x y)
    (h : wpList Tryz.prog ops Q rest (a.put o.dst (.int .i64 x)) w) : wpList Tryz.prog ops Q (o :: rest) a w :=
  wpList_wanted hw fun K hK => wp_ldS0 p ho hx hz (hK _ _ h)
end
section
variable {ops : Array Oper} {rest : List Oper} {o : Oper} {a : Act} {w : World} {Q : Exit → Act → World → Prop} {K : Act → World → Prop} {S : World → Prop} {g : Nat} {x y : Int}
theorem run_ldS1 (h : Sb w g x y) : (loadVar 2 ⟨g, 1, none⟩).run Tryz.prog w = .ok (.int .i64 y) w := run_ld1 h Tryz.underlying2 rfl rfl
theorem yields_ldS1 (hw : Region.wanted o (yielded ops a.tmps) = true) (p : Operand) (ho : o.op = .load 2 p) (hx : a.eval p = .pointer (some ⟨g, 1, none⟩)) (hS : ∀ w, S w → Sb w g x y) : YieldsIf Tryz.prog ops S o (.int .i64 y) a :=
  .inl ⟨hw, fun w h => by
    unfold execOp
    simp only [ho, hx, Instr.loadAt, Instr.sureAddr, Sem.run_bind, Sem.run_pure, Result.andThen_ok, run_ldS1 (hS w h)]⟩
theorem wp_ldS1 (p : Operand) (ho : o.op = .load 2 p) (hx : a.eval p = .pointer (some ⟨g, 1, none⟩)) (hz : Sb w g x y) (h : K (a.put o.dst (.int .i64 y)) w) : o.wp Tryz.prog a w K Q := by
  unfold Oper.wp execOp
  simp only [ho, hx, Instr.loadAt, Instr.sureAddr, Sem.run_bind, Sem.run_pure, Result.andThen_ok, run_ldS1 hz]
  exact h
theorem wpList_ldS1 (hw : Region.wanted o (yielded ops a.tmps) = true) (p : Operand) (ho : o.op = .load 2 p) (hx : a.eval p = .pointer (some ⟨g, 1, none⟩)) (hz : Sb w g x y)
    (h : wpList Tryz.prog ops Q rest (a.put o.dst (.int .i64 y)) w) : wpList Tryz.prog ops Q (o :: rest) a w :=
  wpList_wanted hw fun K hK => wp_ldS1 p ho hx hz (hK _ _ h)
end
section
variable {ops : Array Oper} {rest : List Oper} {o : Oper} {a : Act} {w : World} {Q : Exit → Act → World → Prop} {K : Act → World → Prop} {g : Nat} {s : Bool} {A D : Option Addr} {n c m k : Nat} {s0 : Bool} {A0 D0 : Option Addr} {n0 c0 m0 k0 : Nat}
theorem wp_stR (p q : Operand) (ho : o.op = .store 29 p q) (hx : a.eval p = .pointer (some ⟨g, 0, none⟩)) (hy : a.eval q = .agg #[.bool s, .slice A n c, .slice D m k]) (hz : Rb w g s0 A0 n0 c0 D0 m0 k0)
    (h : ∀ w', Rb w' g s A n c D m k → w.grownBy w' (some g) → K (a.put o.dst undef) w') : o.wp Tryz.prog a w K Q :=
  wp_store_row _ p q ho g _ hx hy _ _ hz Tryz.sizeR rfl (by simp [Value.oneCell']) (h _ (setRow_heap w g _ _ _ _ hz) (grown_setRow w g _))
theorem wpList_stR (hw : Region.wanted o (yielded ops a.tmps) = true) (p q : Operand) (ho : o.op = .store 29 p q) (hx : a.eval p = .pointer (some ⟨g, 0, none⟩)) (hy : a.eval q = .agg #[.bool s, .slice A n c, .slice D m k]) (hz : Rb w g s0 A0 n0 c0 D0 m0 k0)
    (h : ∀ w', Rb w' g s A n c D m k → w.grownBy w' (some g) → wpList Tryz.prog ops Q rest (a.put o.dst undef) w') : wpList Tryz.prog ops Q (o :: rest) a w :=
  wpList_wanted hw fun K hK => wp_stR p q ho hx hy hz (fun w' h1 h2 => hK _ _ (h w' h1 h2))
end
section
variable {ops : Array Oper} {rest : List Oper} {o : Oper} {a : Act} {w : World} {Q : Exit → Act → World → Prop} {K : Act → World → Prop} {g : Nat} {x y : Int} {x0 y0 : Int}
theorem wp_stS (p q : Operand) (ho : o.op = .store 121 p q) (hx : a.eval p = .pointer (some ⟨g, 0, none⟩)) (hy : a.eval q = .agg #[.int .i64 x, .int .i64 y]) (hz : Sb w g x0 y0)
    (h : ∀ w', Sb w' g x y → w.grownBy w' (some g) → K (a.put o.dst undef) w') : o.wp Tryz.prog a w K Q :=
  wp_store_row _ p q ho g _ hx hy _ _ hz Tryz.sizeS rfl (by simp [Value.oneCell']) (h _ (setRow_heap w g _ _ _ _ hz) (grown_setRow w g _))
theorem wpList_stS (hw : Region.wanted o (yielded ops a.tmps) = true) (p q : Operand) (ho : o.op = .store 121 p q) (hx : a.eval p = .pointer (some ⟨g, 0, none⟩)) (hy : a.eval q = .agg #[.int .i64 x, .int .i64 y]) (hz : Sb w g x0 y0)
    (h : ∀ w', Sb w' g x y → w.grownBy w' (some g) → wpList Tryz.prog ops Q rest (a.put o.dst undef) w') : wpList Tryz.prog ops Q (o :: rest) a w :=
  wpList_wanted hw fun K hK => wp_stS p q ho hx hy hz (fun w' h1 h2 => hK _ _ (h w' h1 h2))
end
end Go.Proofs.YtfacndibfkamgaaGreat
