/-
  Variables of the type of integers: read and written as a whole; what other facts become when one is written.
-/
import Derived.Test.YtfacndibfkamgaaGreatRgz
namespace Go.Proofs.YtfacndibfkamgaaGreat
open Go.RowKit
set_option linter.unusedVariables false

theorem Tryz.sizeZ : (Tryz.prog.info? 27).map (·.size) = some 2 := by kernel_rfl
section
variable {ops : Array Oper} {rest : List Oper} {o : Oper} {a : Act} {w : World} {Q : Exit → Act → World → Prop} {K : Act → World → Prop}
theorem wpList_wanted {P : Program} (hw : Region.wanted o (yielded ops a.tmps) = true) (h : ∀ K : Act → World → Prop, (∀ a w, wpList P ops Q rest a w → K a w) → o.wp P a w K Q) : wpList P ops Q (o :: rest) a w :=
  wpList_step fun K hK => by rw [if_pos hw]; exact h K hK
theorem grown_setRow (w : World) (g : Nat) (cs : Array Value) : w.grownBy (w.setRow g cs) (some g) :=
  ⟨rfl, rfl, rfl, by simp, fun k _ hk => setRow_other w g k cs (fun e => hk (by rw [e]))⟩
theorem wp_stZ (x y : Operand) (ho : o.op = .store 27 x y) {g n c n0 c0 : Nat} {s s0 : Bool} {A A0 : Option Addr} (hx : a.eval x = .pointer (some ⟨g, 0, none⟩)) (hy : a.eval y = .agg #[.bool s, .slice A n c]) (hz : Zb w g s0 A0 n0 c0)
    (h : ∀ w', Zb w' g s A n c → w.grownBy w' (some g) → K (a.put o.dst undef) w') : o.wp Tryz.prog a w K Q :=
  wp_store_row _ x y ho g _ hx hy _ _ hz Tryz.sizeZ rfl (by simp [Value.oneCell']) (h _ (setRow_heap w g _ _ _ _ hz) (grown_setRow w g _))
theorem wpList_stZ (hw : Region.wanted o (yielded ops a.tmps) = true) (x y : Operand) (ho : o.op = .store 27 x y) {g n c n0 c0 : Nat} {s s0 : Bool} {A A0 : Option Addr} (hx : a.eval x = .pointer (some ⟨g, 0, none⟩)) (hy : a.eval y = .agg #[.bool s, .slice A n c]) (hz : Zb w g s0 A0 n0 c0)
    (h : ∀ w', Zb w' g s A n c → w.grownBy w' (some g) → wpList Tryz.prog ops Q rest (a.put o.dst undef) w') : wpList Tryz.prog ops Q (o :: rest) a w :=
  wpList_wanted hw fun K hK => wp_stZ x y ho hx hy hz (fun w' h1 h2 => hK _ _ (h w' h1 h2))
theorem wp_ldZ (x : Operand) (ho : o.op = .load 27 x) {g n c : Nat} {s : Bool} {A : Option Addr} (hx : a.eval x = .pointer (some ⟨g, 0, none⟩)) (hz : Zb w g s A n c)
    (h : K (a.put o.dst (.agg #[.bool s, .slice A n c])) w) : o.wp Tryz.prog a w K Q :=
  wp_load_row _ x ho g hx _ _ _ _ hz Tryz.underlying27 rfl Tryz.sizeZ h
theorem wpList_ldZ (hw : Region.wanted o (yielded ops a.tmps) = true) (x : Operand) (ho : o.op = .load 27 x) {g n c : Nat} {s : Bool} {A : Option Addr} (hx : a.eval x = .pointer (some ⟨g, 0, none⟩)) (hz : Zb w g s A n c)
    (h : wpList Tryz.prog ops Q rest (a.put o.dst (.agg #[.bool s, .slice A n c])) w) : wpList Tryz.prog ops Q (o :: rest) a w :=
  wpList_wanted hw fun K hK => wp_ldZ x ho hx hz (hK _ _ h)
end
/-- In a region that draws its order: a load may be taken first. -/
theorem yields_ldZ {ops : Array Oper} {S : World → Prop} {o : Oper} {a : Act} (hw : Region.wanted o (yielded ops a.tmps) = true) (x : Operand) (ho : o.op = .load 27 x) {g n c : Nat} {s : Bool} {A : Option Addr} (hx : a.eval x = .pointer (some ⟨g, 0, none⟩))
    (hS : ∀ w, S w → Zb w g s A n c) : YieldsIf Tryz.prog ops S o (.agg #[.bool s, .slice A n c]) a :=
  .inl ⟨hw, fun w h => by
    unfold execOp
    simp only [ho, hx, Instr.loadAt, Instr.sureAddr, Sem.run_bind, Sem.run_pure, Result.andThen_ok, run_loadVar_row w g _ _ _ _ _ (hS w h) Tryz.underlying27 rfl Tryz.sizeZ]⟩
section
variable {w w' : World} {g n c n0 c0 lo B : Nat} {s s0 : Bool} {A A0 : Option Addr} {z : Int}
theorem Zb.gr {g' : Nat} (h : Zb w g' s A n c) (hg : w.grownBy w' (some g)) (ne : g' ≠ g) : Zb w' g' s A n c := (hg.block g' h.lt (by simpa using ne)).trans h
theorem Own.gr {xs : List Nat} (h : Own w lo A c xs) (hz : Zb w g s0 A0 n0 c0) (hg : w.grownBy w' (some g)) : Own w' lo A c xs := by
  obtain ⟨h0, h1, h2, h3⟩ := h
  refine ⟨h0, h1, h2, ?_⟩
  rcases h3 with h3 | ⟨b, o, cur, hA, hl, hr, hc⟩
  · exact .inl h3
  · have ne : b ≠ g := by
      intro e
      subst e
      unfold Zb at hz
      rw [hz] at hr
      simp only [Option.some.injEq, Obj.cells.injEq] at hr
      exact absurd hr.2.1 (by decide)
    exact .inr ⟨b, o, cur, hA, hl, (hg.block b (lt_of_heap hr) (by simpa using ne)).trans hr, hc⟩
theorem Rd.gr {cap : Nat} {xs : List Nat} (h : Rd w A cap xs) (hz : Zb w g s0 A0 n0 c0) (hg : w.grownBy w' (some g)) : Rd w' A cap xs := by
  obtain ⟨h0, h1, h2, h3⟩ := h
  refine ⟨h0, h1, h2, ?_⟩
  rcases h3 with h3 | ⟨b, o, hA, hl, hc⟩
  · exact .inl h3
  · refine .inr ⟨b, o, hA, Nat.lt_of_lt_of_le hl hg.size, fun i hi => ?_⟩
    have hce := hc i hi
    have ne : b ≠ g := by
      intro e
      subst e
      have hz' : w.heap[b]? = _ := hz
      unfold World.cell? at hce
      simp only [hz'] at hce
      rcases Nat.lt_trichotomy (o + i) 1 with h | h | h
      · have e0 : o + i = 0 := by omega
        rw [e0] at hce
        simp at hce
      · rw [h] at hce
        simp at hce
      · rw [show #[Value.bool s0, Value.slice A0 n0 c0][o + i]? = none from Array.getElem?_eq_none (by simp; omega)] at hce
        cases hce
    exact hg.cell hce (by simpa using ne)
theorem Zin.gr (h : Zin w s A n c z) (hz : Zb w g s0 A0 n0 c0) (hg : w.grownBy w' (some g)) : Zin w' s A n c z := by
  obtain ⟨xs, h1, h2, h3⟩ := h
  exact ⟨xs, h1.gr hz hg, h2, h3⟩
theorem Zo.gr (h : Zo w A c z) (hz : Zb w g s0 A0 n0 c0) (hg : w.grownBy w' (some g)) : Zo w' A c z := Rd.gr h hz hg
theorem Below.gr {w0 : World} (h : Below B w0 w) (hl : B ≤ g) (hg : w.grownBy w' (some g)) (hB : B ≤ w.heap.size) : Below B w0 w' := h.trans (below_of_grown hg hl hB)
end
end Go.Proofs.YtfacndibfkamgaaGreat
