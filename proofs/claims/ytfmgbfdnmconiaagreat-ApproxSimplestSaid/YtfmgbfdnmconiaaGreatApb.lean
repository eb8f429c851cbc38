/-
  Variables of the types expansion and convergent, read and written as a whole and in part; what a store into a variable leaves.
-/
import Derived.Test.YtfmgbfdnmconiaaGreatRawake
import Derived.Test.YtfmgbfdnmconiaaGreatZext
namespace Go.Proofs.YtfmgbfdnmconiaaGreat
open Go.RowKit
set_option linter.unusedVariables false

theorem Tryz.sizeE : (Tryz.prog.info? 62).map (·.size) = some 4 := by kernel_rfl
theorem Tryz.sizeV : (Tryz.prog.info? 111).map (·.size) = some 8 := by kernel_rfl
/-- A block that holds no limb. -/
def Bx (w : World) (g : Nat) : Prop := ∃ cs t, w.heap[g]? = some (.cells cs t (0, 0)) ∧ t ≠ 52 ∧ ∀ (i : Nat) (v : Int), cs[i]? ≠ some (.int .u32 v)
section
variable {w w' : World} {g lo n c : Nat} {A : Option Addr} {s : Bool} {z : Int}
theorem Own.grB {xs : List Nat} (h : Own w lo A c xs) (hz : Bx w g) (hg : w.grownBy w' (some g)) : Own w' lo A c xs := by
  obtain ⟨h0, h1, h2, h3⟩ := h
  obtain ⟨cs, t, hz, ht, _⟩ := hz
  refine ⟨h0, h1, h2, ?_⟩
  rcases h3 with h3 | ⟨b, o, cur, hA, hl, hr, hc⟩
  · exact .inl h3
  · have ne : b ≠ g := by
      intro e
      subst e
      rw [hz] at hr
      simp only [Option.some.injEq, Obj.cells.injEq] at hr
      exact ht hr.2.1
    exact .inr ⟨b, o, cur, hA, hl, (hg.block b (lt_of_heap hr) (by simpa using ne)).trans hr, hc⟩
theorem Rd.grB {cap : Nat} {xs : List Nat} (h : Rd w A cap xs) (hz : Bx w g) (hg : w.grownBy w' (some g)) : Rd w' A cap xs := by
  obtain ⟨h0, h1, h2, h3⟩ := h
  obtain ⟨cs, t, hz, ht, hu⟩ := hz
  refine ⟨h0, h1, h2, ?_⟩
  rcases h3 with h3 | ⟨b, o, hA, hl, hc⟩
  · exact .inl h3
  · refine .inr ⟨b, o, hA, Nat.lt_of_lt_of_le hl hg.size, fun i hi => ?_⟩
    have hce := hc i hi
    have ne : b ≠ g := by
      intro e
      subst e
      rw [cell_of_row w b _ _ _ _ hz] at hce
      exact hu _ _ hce
    exact hg.cell hce (by simpa using ne)
theorem Zin.grB (h : Zin w s A n c z) (hz : Bx w g) (hg : w.grownBy w' (some g)) : Zin w' s A n c z := by
  obtain ⟨xs, h1, h2, h3⟩ := h
  exact ⟨xs, h1.grB hz hg, h2, h3⟩
theorem Zo.grB (h : Zo w A c z) (hz : Bx w g) (hg : w.grownBy w' (some g)) : Zo w' A c z := Rd.grB h hz hg
theorem Nin.grB {D : Option Addr} {m k d : Nat} (h : Nin w D m k d) (hz : Bx w g) (hg : w.grownBy w' (some g)) : Nin w' D m k d := by
  obtain ⟨ys, h1, h2, h3⟩ := h; exact ⟨ys, h1.grB hz hg, h2, h3⟩
theorem Zb.gro {g' : Nat} (h : Zb w g s A n c) (hg : w.grownBy w' (some g')) (ne : g ≠ g') : Zb w' g s A n c := (hg.block g h.lt (by simpa using ne)).trans h
theorem bx_of {cs : Array Value} {t : TypeId} (h : w.heap[g]? = some (.cells cs t (0, 0))) (ht : t ≠ 52) (hu : ∀ (i : Nat) (v : Int), cs[i]? ≠ some (.int .u32 v)) : Bx w g := ⟨cs, t, h, ht, hu⟩
theorem Zb.bx (h : Zb w g s A n c) : Bx w g := bx_of h (by decide) (fun i v => by rcases i with _ | _ | i <;> simp)
theorem Rb.bx {D : Option Addr} {m k : Nat} (h : Rb w g s A n c D m k) : Bx w g := bx_of h (by decide) (fun i v => by rcases i with _ | _ | _ | i <;> simp)
theorem Bx.lt (h : Bx w g) : g < w.heap.size := by obtain ⟨cs, t, h, _⟩ := h; exact lt_of_heap h
theorem Bx.below {B : Nat} (h : Bx w g) (hb : Below B w w') (hg : g < B) : Bx w' g := by
  obtain ⟨cs, t, h, h2⟩ := h; exact ⟨cs, t, (hb.block g hg).trans h, h2⟩
end
def Eb (w : World) (g : Nat) (s : Bool) (A : Option Addr) (n c : Nat) (t : Bool) (B : Option Addr) (m d : Nat) : Prop := w.heap[g]? = some (.cells #[.bool s, .slice A n c, .bool t, .slice B m d] 62 (0, 0))
section
variable {w w' : World} {g : Nat} {s t : Bool} {A B : Option Addr} {n c m d : Nat}
theorem Eb.lt (h : Eb w g s A n c t B m d) : g < w.heap.size := lt_of_heap h
theorem Eb.below {Bd : Nat} (h : Eb w g s A n c t B m d) (hb : Below Bd w w') (hg : g < Bd) : Eb w' g s A n c t B m d := (hb.block g hg).trans h
theorem Eb.gro {g' : Nat} (h : Eb w g s A n c t B m d) (hg : w.grownBy w' (some g')) (ne : g ≠ g') : Eb w' g s A n c t B m d := (hg.block g h.lt (by simpa using ne)).trans h
theorem Eb.new (w : World) (s : Bool) (A : Option Addr) (n c : Nat) (t : Bool) (B : Option Addr) (m d : Nat) : Eb (w.alloc (.cells #[.bool s, .slice A n c, .bool t, .slice B m d] 62)) w.heap.size s A n c t B m d := heap_alloc_new w _
theorem Eb.alloc (h : Eb w g s A n c t B m d) (ob : Obj) : Eb (w.alloc ob) g s A n c t B m d := (Below.heap_alloc w ob g h.lt).trans h
theorem Eb.bx (h : Eb w g s A n c t B m d) : Bx w g := bx_of h (by decide) (fun i v => by rcases i with _ | _ | _ | _ | i <;> simp)
end
def Vb (w : World) (g : Nat) (s : Bool) (A : Option Addr) (n c : Nat) (t : Bool) (B : Option Addr) (m d : Nat) (s2 : Bool) (A2 : Option Addr) (n2 c2 : Nat) (t2 : Bool) (B2 : Option Addr) (m2 d2 : Nat) : Prop := w.heap[g]? = some (.cells #[.bool s, .slice A n c, .bool t, .slice B m d, .bool s2, .slice A2 n2 c2, .bool t2, .slice B2 m2 d2] 111 (0, 0))
section
variable {w w' : World} {g : Nat} {s t s2 t2 : Bool} {A B A2 B2 : Option Addr} {n c m d n2 c2 m2 d2 : Nat}
theorem Vb.lt (h : Vb w g s A n c t B m d s2 A2 n2 c2 t2 B2 m2 d2) : g < w.heap.size := lt_of_heap h
theorem Vb.below {Bd : Nat} (h : Vb w g s A n c t B m d s2 A2 n2 c2 t2 B2 m2 d2) (hb : Below Bd w w') (hg : g < Bd) : Vb w' g s A n c t B m d s2 A2 n2 c2 t2 B2 m2 d2 := (hb.block g hg).trans h
theorem Vb.gro {g' : Nat} (h : Vb w g s A n c t B m d s2 A2 n2 c2 t2 B2 m2 d2) (hg : w.grownBy w' (some g')) (ne : g ≠ g') : Vb w' g s A n c t B m d s2 A2 n2 c2 t2 B2 m2 d2 := (hg.block g h.lt (by simpa using ne)).trans h
theorem Vb.new (w : World) (s : Bool) (A : Option Addr) (n c : Nat) (t : Bool) (B : Option Addr) (m d : Nat) (s2 : Bool) (A2 : Option Addr) (n2 c2 : Nat) (t2 : Bool) (B2 : Option Addr) (m2 d2 : Nat) : Vb (w.alloc (.cells #[.bool s, .slice A n c, .bool t, .slice B m d, .bool s2, .slice A2 n2 c2, .bool t2, .slice B2 m2 d2] 111)) w.heap.size s A n c t B m d s2 A2 n2 c2 t2 B2 m2 d2 := heap_alloc_new w _
theorem Vb.alloc (h : Vb w g s A n c t B m d s2 A2 n2 c2 t2 B2 m2 d2) (ob : Obj) : Vb (w.alloc ob) g s A n c t B m d s2 A2 n2 c2 t2 B2 m2 d2 := (Below.heap_alloc w ob g h.lt).trans h
theorem Vb.bx (h : Vb w g s A n c t B m d s2 A2 n2 c2 t2 B2 m2 d2) : Bx w g := bx_of h (by decide) (fun i v => by rcases i with _ | _ | _ | _ | _ | _ | _ | _ | i <;> simp)
end
section
variable {ops : Array Oper} {rest : List Oper} {o : Oper} {a : Act} {w : World} {Q : Exit → Act → World → Prop} {K : Act → World → Prop} {S : World → Prop} {g : Nat} {s t : Bool} {A B : Option Addr} {n c m d : Nat}
end
section
variable {ops : Array Oper} {rest : List Oper} {o : Oper} {a : Act} {w : World} {Q : Exit → Act → World → Prop} {K : Act → World → Prop} {S : World → Prop} {g : Nat} {s t : Bool} {A B : Option Addr} {n c m d : Nat}
theorem run_ldE0 (h : Eb w g s A n c t B m d) : (loadVar 24 ⟨g, 0, none⟩).run Tryz.prog w = .ok (.agg #[.bool s, .slice A n c]) w := run_loadVar_mid w g 0 _ [.bool s, .slice A n c] _ (range_of h (fun j v hv => by rcases j with _ | _ | j <;> simp_all)) Tryz.underlying24 rfl Tryz.sizeZ
theorem yields_ldE0 (hw : Region.wanted o (yielded ops a.tmps) = true) (p : Operand) (ho : o.op = .load 24 p) (hx : a.eval p = .pointer (some ⟨g, 0, none⟩)) (hS : ∀ w, S w → Eb w g s A n c t B m d) : YieldsIf Tryz.prog ops S o (.agg #[.bool s, .slice A n c]) a :=
  .inl ⟨hw, fun w h => by
    unfold execOp
    simp only [ho, hx, Instr.loadAt, Instr.sureAddr, Sem.run_bind, Sem.run_pure, Result.andThen_ok, run_ldE0 (hS w h)]⟩
end
section
variable {ops : Array Oper} {rest : List Oper} {o : Oper} {a : Act} {w : World} {Q : Exit → Act → World → Prop} {K : Act → World → Prop} {S : World → Prop} {g : Nat} {s t : Bool} {A B : Option Addr} {n c m d : Nat}
theorem run_ldE1 (h : Eb w g s A n c t B m d) : (loadVar 24 ⟨g, 2, none⟩).run Tryz.prog w = .ok (.agg #[.bool t, .slice B m d]) w := run_loadVar_mid w g 2 _ [.bool t, .slice B m d] _ (range_of h (fun j v hv => by rcases j with _ | _ | j <;> simp_all)) Tryz.underlying24 rfl Tryz.sizeZ
theorem yields_ldE1 (hw : Region.wanted o (yielded ops a.tmps) = true) (p : Operand) (ho : o.op = .load 24 p) (hx : a.eval p = .pointer (some ⟨g, 2, none⟩)) (hS : ∀ w, S w → Eb w g s A n c t B m d) : YieldsIf Tryz.prog ops S o (.agg #[.bool t, .slice B m d]) a :=
  .inl ⟨hw, fun w h => by
    unfold execOp
    simp only [ho, hx, Instr.loadAt, Instr.sureAddr, Sem.run_bind, Sem.run_pure, Result.andThen_ok, run_ldE1 (hS w h)]⟩
theorem wp_ldE1 (p : Operand) (ho : o.op = .load 24 p) (hx : a.eval p = .pointer (some ⟨g, 2, none⟩)) (hz : Eb w g s A n c t B m d) (h : K (a.put o.dst (.agg #[.bool t, .slice B m d])) w) : o.wp Tryz.prog a w K Q := by
  unfold Oper.wp execOp
  simp only [ho, hx, Instr.loadAt, Instr.sureAddr, Sem.run_bind, Sem.run_pure, Result.andThen_ok, run_ldE1 hz]
  exact h
theorem wpList_ldE1 (hw : Region.wanted o (yielded ops a.tmps) = true) (p : Operand) (ho : o.op = .load 24 p) (hx : a.eval p = .pointer (some ⟨g, 2, none⟩)) (hz : Eb w g s A n c t B m d)
    (h : wpList Tryz.prog ops Q rest (a.put o.dst (.agg #[.bool t, .slice B m d])) w) : wpList Tryz.prog ops Q (o :: rest) a w :=
  wpList_wanted hw fun K hK => wp_ldE1 p ho hx hz (hK _ _ h)
end
section
variable {ops : Array Oper} {rest : List Oper} {o : Oper} {a : Act} {w : World} {Q : Exit → Act → World → Prop} {K : Act → World → Prop} {S : World → Prop} {g : Nat} {s t s2 t2 : Bool} {A B A2 B2 : Option Addr} {n c m d n2 c2 m2 d2 : Nat}
theorem run_ldV (h : Vb w g s A n c t B m d s2 A2 n2 c2 t2 B2 m2 d2) : (loadVar 111 ⟨g, 0, none⟩).run Tryz.prog w = .ok (.agg #[.bool s, .slice A n c, .bool t, .slice B m d, .bool s2, .slice A2 n2 c2, .bool t2, .slice B2 m2 d2]) w := run_loadVar_row w g _ _ _ _ _ h Tryz.underlying111 rfl Tryz.sizeV
theorem yields_ldV (hw : Region.wanted o (yielded ops a.tmps) = true) (p : Operand) (ho : o.op = .load 111 p) (hx : a.eval p = .pointer (some ⟨g, 0, none⟩)) (hS : ∀ w, S w → Vb w g s A n c t B m d s2 A2 n2 c2 t2 B2 m2 d2) : YieldsIf Tryz.prog ops S o (.agg #[.bool s, .slice A n c, .bool t, .slice B m d, .bool s2, .slice A2 n2 c2, .bool t2, .slice B2 m2 d2]) a :=
  .inl ⟨hw, fun w h => by
    unfold execOp
    simp only [ho, hx, Instr.loadAt, Instr.sureAddr, Sem.run_bind, Sem.run_pure, Result.andThen_ok, run_ldV (hS w h)]⟩
theorem wp_ldV (p : Operand) (ho : o.op = .load 111 p) (hx : a.eval p = .pointer (some ⟨g, 0, none⟩)) (hz : Vb w g s A n c t B m d s2 A2 n2 c2 t2 B2 m2 d2) (h : K (a.put o.dst (.agg #[.bool s, .slice A n c, .bool t, .slice B m d, .bool s2, .slice A2 n2 c2, .bool t2, .slice B2 m2 d2])) w) : o.wp Tryz.prog a w K Q := by
  unfold Oper.wp execOp
  simp only [ho, hx, Instr.loadAt, Instr.sureAddr, Sem.run_bind, Sem.run_pure, Result.andThen_ok, run_ldV hz]
  exact h
theorem wpList_ldV (hw : Region.wanted o (yielded ops a.tmps) = true) (p : Operand) (ho : o.op = .load 111 p) (hx : a.eval p = .pointer (some ⟨g, 0, none⟩)) (hz : Vb w g s A n c t B m d s2 A2 n2 c2 t2 B2 m2 d2)
    (h : wpList Tryz.prog ops Q rest (a.put o.dst (.agg #[.bool s, .slice A n c, .bool t, .slice B m d, .bool s2, .slice A2 n2 c2, .bool t2, .slice B2 m2 d2])) w) : wpList Tryz.prog ops Q (o :: rest) a w :=
  wpList_wanted hw fun K hK => wp_ldV p ho hx hz (hK _ _ h)
end
section
variable {ops : Array Oper} {rest : List Oper} {o : Oper} {a : Act} {w : World} {Q : Exit → Act → World → Prop} {K : Act → World → Prop} {S : World → Prop} {g : Nat} {s t s2 t2 : Bool} {A B A2 B2 : Option Addr} {n c m d n2 c2 m2 d2 : Nat}
theorem run_ldV0 (h : Vb w g s A n c t B m d s2 A2 n2 c2 t2 B2 m2 d2) : (loadVar 24 ⟨g, 0, none⟩).run Tryz.prog w = .ok (.agg #[.bool s, .slice A n c]) w := run_loadVar_mid w g 0 _ [.bool s, .slice A n c] _ (range_of h (fun j v hv => by rcases j with _ | _ | j <;> simp_all)) Tryz.underlying24 rfl Tryz.sizeZ
theorem yields_ldV0 (hw : Region.wanted o (yielded ops a.tmps) = true) (p : Operand) (ho : o.op = .load 24 p) (hx : a.eval p = .pointer (some ⟨g, 0, none⟩)) (hS : ∀ w, S w → Vb w g s A n c t B m d s2 A2 n2 c2 t2 B2 m2 d2) : YieldsIf Tryz.prog ops S o (.agg #[.bool s, .slice A n c]) a :=
  .inl ⟨hw, fun w h => by
    unfold execOp
    simp only [ho, hx, Instr.loadAt, Instr.sureAddr, Sem.run_bind, Sem.run_pure, Result.andThen_ok, run_ldV0 (hS w h)]⟩
end
section
variable {ops : Array Oper} {rest : List Oper} {o : Oper} {a : Act} {w : World} {Q : Exit → Act → World → Prop} {K : Act → World → Prop} {S : World → Prop} {g : Nat} {s t s2 t2 : Bool} {A B A2 B2 : Option Addr} {n c m d n2 c2 m2 d2 : Nat}
theorem run_ldV1 (h : Vb w g s A n c t B m d s2 A2 n2 c2 t2 B2 m2 d2) : (loadVar 24 ⟨g, 2, none⟩).run Tryz.prog w = .ok (.agg #[.bool t, .slice B m d]) w := run_loadVar_mid w g 2 _ [.bool t, .slice B m d] _ (range_of h (fun j v hv => by rcases j with _ | _ | j <;> simp_all)) Tryz.underlying24 rfl Tryz.sizeZ
theorem yields_ldV1 (hw : Region.wanted o (yielded ops a.tmps) = true) (p : Operand) (ho : o.op = .load 24 p) (hx : a.eval p = .pointer (some ⟨g, 2, none⟩)) (hS : ∀ w, S w → Vb w g s A n c t B m d s2 A2 n2 c2 t2 B2 m2 d2) : YieldsIf Tryz.prog ops S o (.agg #[.bool t, .slice B m d]) a :=
  .inl ⟨hw, fun w h => by
    unfold execOp
    simp only [ho, hx, Instr.loadAt, Instr.sureAddr, Sem.run_bind, Sem.run_pure, Result.andThen_ok, run_ldV1 (hS w h)]⟩
theorem wp_ldV1 (p : Operand) (ho : o.op = .load 24 p) (hx : a.eval p = .pointer (some ⟨g, 2, none⟩)) (hz : Vb w g s A n c t B m d s2 A2 n2 c2 t2 B2 m2 d2) (h : K (a.put o.dst (.agg #[.bool t, .slice B m d])) w) : o.wp Tryz.prog a w K Q := by
  unfold Oper.wp execOp
  simp only [ho, hx, Instr.loadAt, Instr.sureAddr, Sem.run_bind, Sem.run_pure, Result.andThen_ok, run_ldV1 hz]
  exact h
theorem wpList_ldV1 (hw : Region.wanted o (yielded ops a.tmps) = true) (p : Operand) (ho : o.op = .load 24 p) (hx : a.eval p = .pointer (some ⟨g, 2, none⟩)) (hz : Vb w g s A n c t B m d s2 A2 n2 c2 t2 B2 m2 d2)
    (h : wpList Tryz.prog ops Q rest (a.put o.dst (.agg #[.bool t, .slice B m d])) w) : wpList Tryz.prog ops Q (o :: rest) a w :=
  wpList_wanted hw fun K hK => wp_ldV1 p ho hx hz (hK _ _ h)
end
section
variable {ops : Array Oper} {rest : List Oper} {o : Oper} {a : Act} {w : World} {Q : Exit → Act → World → Prop} {K : Act → World → Prop} {S : World → Prop} {g : Nat} {s t s2 t2 : Bool} {A B A2 B2 : Option Addr} {n c m d n2 c2 m2 d2 : Nat}
theorem run_ldV2 (h : Vb w g s A n c t B m d s2 A2 n2 c2 t2 B2 m2 d2) : (loadVar 24 ⟨g, 4, none⟩).run Tryz.prog w = .ok (.agg #[.bool s2, .slice A2 n2 c2]) w := run_loadVar_mid w g 4 _ [.bool s2, .slice A2 n2 c2] _ (range_of h (fun j v hv => by rcases j with _ | _ | j <;> simp_all)) Tryz.underlying24 rfl Tryz.sizeZ
theorem yields_ldV2 (hw : Region.wanted o (yielded ops a.tmps) = true) (p : Operand) (ho : o.op = .load 24 p) (hx : a.eval p = .pointer (some ⟨g, 4, none⟩)) (hS : ∀ w, S w → Vb w g s A n c t B m d s2 A2 n2 c2 t2 B2 m2 d2) : YieldsIf Tryz.prog ops S o (.agg #[.bool s2, .slice A2 n2 c2]) a :=
  .inl ⟨hw, fun w h => by
    unfold execOp
    simp only [ho, hx, Instr.loadAt, Instr.sureAddr, Sem.run_bind, Sem.run_pure, Result.andThen_ok, run_ldV2 (hS w h)]⟩
end
section
variable {ops : Array Oper} {rest : List Oper} {o : Oper} {a : Act} {w : World} {Q : Exit → Act → World → Prop} {K : Act → World → Prop} {S : World → Prop} {g : Nat} {s t s2 t2 : Bool} {A B A2 B2 : Option Addr} {n c m d n2 c2 m2 d2 : Nat}
theorem run_ldV3 (h : Vb w g s A n c t B m d s2 A2 n2 c2 t2 B2 m2 d2) : (loadVar 24 ⟨g, 6, none⟩).run Tryz.prog w = .ok (.agg #[.bool t2, .slice B2 m2 d2]) w := run_loadVar_mid w g 6 _ [.bool t2, .slice B2 m2 d2] _ (range_of h (fun j v hv => by rcases j with _ | _ | j <;> simp_all)) Tryz.underlying24 rfl Tryz.sizeZ
theorem yields_ldV3 (hw : Region.wanted o (yielded ops a.tmps) = true) (p : Operand) (ho : o.op = .load 24 p) (hx : a.eval p = .pointer (some ⟨g, 6, none⟩)) (hS : ∀ w, S w → Vb w g s A n c t B m d s2 A2 n2 c2 t2 B2 m2 d2) : YieldsIf Tryz.prog ops S o (.agg #[.bool t2, .slice B2 m2 d2]) a :=
  .inl ⟨hw, fun w h => by
    unfold execOp
    simp only [ho, hx, Instr.loadAt, Instr.sureAddr, Sem.run_bind, Sem.run_pure, Result.andThen_ok, run_ldV3 (hS w h)]⟩
end
section
variable {ops : Array Oper} {rest : List Oper} {o : Oper} {a : Act} {w : World} {Q : Exit → Act → World → Prop} {K : Act → World → Prop} {S : World → Prop} {g : Nat} {s t s2 t2 : Bool} {A B A2 B2 : Option Addr} {n c m d n2 c2 m2 d2 : Nat}
end
section
variable {ops : Array Oper} {rest : List Oper} {o : Oper} {a : Act} {w : World} {Q : Exit → Act → World → Prop} {K : Act → World → Prop} {g : Nat} {s t : Bool} {A B : Option Addr} {n c m d : Nat} {s' t' : Bool} {A' B' : Option Addr} {n' c' m' d' : Nat}
theorem wp_stE (p q : Operand) (ho : o.op = .store 62 p q) (hx : a.eval p = .pointer (some ⟨g, 0, none⟩)) (hy : a.eval q = .agg #[.bool s, .slice A n c, .bool t, .slice B m d]) (hz : Eb w g s' A' n' c' t' B' m' d')
    (h : ∀ w', Eb w' g s A n c t B m d → w.grownBy w' (some g) → K (a.put o.dst undef) w') : o.wp Tryz.prog a w K Q :=
  wp_store_row _ p q ho g _ hx hy _ _ hz Tryz.sizeE rfl (by simp [Value.oneCell']) (h _ (setRow_heap w g _ _ _ _ hz) (grown_setRow w g _))
end
section
variable {ops : Array Oper} {rest : List Oper} {o : Oper} {a : Act} {w : World} {Q : Exit → Act → World → Prop} {K : Act → World → Prop} {g : Nat} {s t s2 t2 : Bool} {A B A2 B2 : Option Addr} {n c m d n2 c2 m2 d2 : Nat} {s' t' s2' t2' : Bool} {A' B' A2' B2' : Option Addr} {n' c' m' d' n2' c2' m2' d2' : Nat}
theorem wp_stV (p q : Operand) (ho : o.op = .store 111 p q) (hx : a.eval p = .pointer (some ⟨g, 0, none⟩)) (hy : a.eval q = .agg #[.bool s, .slice A n c, .bool t, .slice B m d, .bool s2, .slice A2 n2 c2, .bool t2, .slice B2 m2 d2]) (hz : Vb w g s' A' n' c' t' B' m' d' s2' A2' n2' c2' t2' B2' m2' d2')
    (h : ∀ w', Vb w' g s A n c t B m d s2 A2 n2 c2 t2 B2 m2 d2 → w.grownBy w' (some g) → K (a.put o.dst undef) w') : o.wp Tryz.prog a w K Q :=
  wp_store_row _ p q ho g _ hx hy _ _ hz Tryz.sizeV rfl (by simp [Value.oneCell']) (h _ (setRow_heap w g _ _ _ _ hz) (grown_setRow w g _))
theorem wpList_stV (hw : Region.wanted o (yielded ops a.tmps) = true) (p q : Operand) (ho : o.op = .store 111 p q) (hx : a.eval p = .pointer (some ⟨g, 0, none⟩)) (hy : a.eval q = .agg #[.bool s, .slice A n c, .bool t, .slice B m d, .bool s2, .slice A2 n2 c2, .bool t2, .slice B2 m2 d2]) (hz : Vb w g s' A' n' c' t' B' m' d' s2' A2' n2' c2' t2' B2' m2' d2')
    (h : ∀ w', Vb w' g s A n c t B m d s2 A2 n2 c2 t2 B2 m2 d2 → w.grownBy w' (some g) → wpList Tryz.prog ops Q rest (a.put o.dst undef) w') : wpList Tryz.prog ops Q (o :: rest) a w :=
  wpList_wanted hw fun K hK => wp_stV p q ho hx hy hz (fun w' h1 h2 => hK _ _ (h w' h1 h2))
end
section
variable {ops : Array Oper} {rest : List Oper} {o : Oper} {a : Act} {w : World} {Q : Exit → Act → World → Prop} {K : Act → World → Prop} {g : Nat} {s t s' : Bool} {A B A' : Option Addr} {n c m d n' c' : Nat}
theorem Eb.there (h : Eb w g s A n c t B m d) {i : Nat} (hi : i ≤ 2) : w.there g i 2 := fun j hj => by
  unfold Eb at h
  have e : i + j = 0 ∨ i + j = 1 ∨ i + j = 2 ∨ i + j = 3 := by omega
  refine ⟨?_, ?_⟩
  · rw [cell_of_row w g (i + j) _ _ (0, 0) h]
    rcases e with e | e | e | e <;> rw [e] <;> rfl
  · rcases e with e | e | e | e <;> rw [e] <;> simp [World.frozen?, h]
theorem Eb.put0 (h : Eb w g s A n c t B m d) (s' : Bool) (A' : Option Addr) (n' c' : Nat) : Eb (w.setCells g 0 [.bool s', .slice A' n' c']) g s' A' n' c' t B m d := by
  unfold Eb at h ⊢
  exact heap_setCell_same _ g 1 _ _ _ (heap_setCell_same w g 0 _ _ _ h)
theorem Eb.put1 (h : Eb w g s A n c t B m d) (s' : Bool) (A' : Option Addr) (n' c' : Nat) : Eb (w.setCells g 2 [.bool s', .slice A' n' c']) g s A n c s' A' n' c' := by
  unfold Eb at h ⊢
  exact heap_setCell_same _ g 3 _ _ _ (heap_setCell_same w g 2 _ _ _ h)
theorem grown_cells2 (w : World) (g i : Nat) (u v : Value) : w.grownBy (w.setCells g i [u, v]) (some g) := (grown_set w g i u).trans (grown_set _ g (i + 1) v)
theorem wp_stE0 (p q : Operand) (ho : o.op = .store 24 p q) (hx : a.eval p = .pointer (some ⟨g, 0, none⟩)) (hy : a.eval q = .agg #[.bool s', .slice A' n' c']) (hz : Eb w g s A n c t B m d)
    (h : ∀ w', Eb w' g s' A' n' c' t B m d → w.grownBy w' (some g) → K (a.put o.dst undef) w') : o.wp Tryz.prog a w K Q :=
  wp_store_mid _ p q ho g 0 _ hx hy (hz.there (by decide)) Tryz.sizeZ (by simp [Value.oneCell']) (h _ (hz.put0 s' A' n' c') (grown_cells2 w g 0 _ _))
theorem wp_stE1 (p q : Operand) (ho : o.op = .store 24 p q) (hx : a.eval p = .pointer (some ⟨g, 2, none⟩)) (hy : a.eval q = .agg #[.bool s', .slice A' n' c']) (hz : Eb w g s A n c t B m d)
    (h : ∀ w', Eb w' g s A n c s' A' n' c' → w.grownBy w' (some g) → K (a.put o.dst undef) w') : o.wp Tryz.prog a w K Q :=
  wp_store_mid _ p q ho g 2 _ hx hy (hz.there (by decide)) Tryz.sizeZ (by simp [Value.oneCell']) (h _ (hz.put1 s' A' n' c') (grown_cells2 w g 2 _ _))
end
end Go.Proofs.YtfmgbfdnmconiaaGreat
