/-
  Integers kept: loads of their fields, copies with spare capacity, wiping beside any list, contracts that say only where results lie.
-/
import Derived.Test.YtfmgbfdnmconiaaGreatZext
import Derived.Test.YtfmgbfdnmconiaaGreatKeep
namespace Go.Proofs.YtfmgbfdnmconiaaGreat
open Go.RowKit
set_option linter.unusedVariables false
set_option maxRecDepth 100000

section
variable {P : Program} {w w' : World} {g i : Nat} {cs : Array Value} {t : TypeId} {fr : Nat × Nat} {u : Value} {d : TypeDesc} {ty : TypeId}
theorem run_lk1 (hg : w.heap[g]? = some (.cells cs t fr)) (hu : P.underlying ty = some d) (hd : d.isRow = false) (hc : cs[i]? = some u) : (loadVar ty ⟨g, i, none⟩).run P w = .ok u w := by
  have hagg : (isAgg ty).run P w = .ok false w := by
    unfold isAgg
    rw [Sem.run_bind, run_underlying hu w]
    cases d <;> simp_all
  have hce : w.cell? ⟨g, i, none⟩ = some u := (cell_of_row w g i cs t fr hg).trans hc
  simp [loadVar, Sem.run_bind, hagg, hce]
end
section
variable {ops : Array Oper} {rest : List Oper} {o : Oper} {a : Act} {w : World} {Q : Exit → Act → World → Prop} {K : Act → World → Prop} {S : World → Prop} {g : Nat} {s : Bool} {A : Option Addr} {n c : Nat}
theorem yields_lks (hw : Region.wanted o (yielded ops a.tmps) = true) (p : Operand) (ho : o.op = .load 4 p) (hx : a.eval p = .pointer (some ⟨g, 0, none⟩)) (hS : ∀ w, S w → Zb w g s A n c) : YieldsIf Tryz.prog ops S o (.bool s) a :=
  .inl ⟨hw, fun w h => by
    have e : (loadVar 4 ⟨g, 0, none⟩).run Tryz.prog w = .ok (.bool s) w := run_lk1 (hS w h) Tryz.underlying4 rfl rfl
    unfold execOp
    simp only [ho, hx, Instr.loadAt, Instr.sureAddr, Sem.run_bind, Sem.run_pure, Result.andThen_ok, e]⟩
theorem yields_lkm (hw : Region.wanted o (yielded ops a.tmps) = true) (p : Operand) (ho : o.op = .load 22 p) (hx : a.eval p = .pointer (some ⟨g, 1, none⟩)) (hS : ∀ w, S w → Zb w g s A n c) : YieldsIf Tryz.prog ops S o (.slice A n c) a :=
  .inl ⟨hw, fun w h => by
    have e : (loadVar 22 ⟨g, 1, none⟩).run Tryz.prog w = .ok (.slice A n c) w := run_lk1 (hS w h) Tryz.underlying22 rfl rfl
    unfold execOp
    simp only [ho, hx, Instr.loadAt, Instr.sureAddr, Sem.run_bind, Sem.run_pure, Result.andThen_ok, e]⟩
theorem wpList_lkm (hw : Region.wanted o (yielded ops a.tmps) = true) (p : Operand) (ho : o.op = .load 22 p) (hx : a.eval p = .pointer (some ⟨g, 1, none⟩)) (hz : Zb w g s A n c)
    (h : wpList Tryz.prog ops Q rest (a.put o.dst (.slice A n c)) w) : wpList Tryz.prog ops Q (o :: rest) a w :=
  wpList_wanted hw fun K hK => by
    have e : (loadVar 22 ⟨g, 1, none⟩).run Tryz.prog w = .ok (.slice A n c) w := run_lk1 hz Tryz.underlying22 rfl rfl
    unfold Oper.wp execOp
    simp only [ho, hx, Instr.loadAt, Instr.sureAddr, Sem.run_bind, Sem.run_pure, Result.andThen_ok, e]
    exact hK _ _ h
theorem wpList_lke (hw : Region.wanted o (yielded ops a.tmps) = true) (p : Operand) (ho : o.op = .load 24 p) {b i : Nat} (hx : a.eval p = .pointer (some ⟨b, i, none⟩)) (hz : w.rangeAt b i [.bool s, .slice A n c])
    (h : wpList Tryz.prog ops Q rest (a.put o.dst (.agg #[.bool s, .slice A n c])) w) : wpList Tryz.prog ops Q (o :: rest) a w :=
  wpList_wanted hw fun K hK => by
    have e : (loadVar 24 ⟨b, i, none⟩).run Tryz.prog w = .ok (.agg #[.bool s, .slice A n c]) w := run_loadVar_mid w b i _ [.bool s, .slice A n c] _ hz Tryz.underlying24 rfl Tryz.sizeZ
    unfold Oper.wp execOp
    simp only [ho, hx, Instr.loadAt, Instr.sureAddr, Sem.run_bind, Sem.run_pure, Result.andThen_ok, e]
    exact hK _ _ h
end

theorem spare_z {A : Option Addr} {ca n : Nat} {xs : List Nat} {w : World} (h : Rd w A ca xs) (hl : xs.length = n) (hn : n ≤ 35184372088000) :
    Calls Tryz.prog 26 #[.slice A n ca, .int .u32 7] w fun e w' => ∃ g, e = .returned (.slice (some ⟨g, 0, none⟩) n (n + 3)) ∧ Rd w' (some ⟨g, 0, none⟩) (n + 3) (xs ++ [7, 7, 7]) ∧ Below w.heap.size w w' := by
  subst hl; exact spare_any A ca xs w h hn
theorem kept_z {g : Nat} {B : Option Addr} {cb n : Nat} {xs : List Nat} {w : World} (h : Rd w (some ⟨g, 0, none⟩) (n + 3) (xs ++ [7, 7, 7])) (h' : Rd w B cb xs) (hl : xs.length = n) (hn : n ≤ 35184372088000) :
    Calls Tryz.prog 43 #[.slice (some ⟨g, 0, none⟩) n (n + 3), .slice B n cb, .int .u32 7] w fun e w' => e = .returned (.bool true) ∧ Below w.heap.size w w' := by
  subst hl
  refine (kept_any g B cb xs w h h' hn).mono ?_
  rintro e w1 ⟨rfl, hq⟩
  exact ⟨rfl, below_q hq⟩
theorem zin_copy {w : World} {g n : Nat} {xs : List Nat} {s : Bool} {x : Int} (h : Rd w (some ⟨g, 0, none⟩) (n + 3) (xs ++ [7, 7, 7])) (hl : xs.length = n) (he : zv s (val xs) = x) : Zin w s (some ⟨g, 0, none⟩) n (n + 3) x := by
  have := h.take n
  rw [List.take_left' hl] at this
  exact ⟨xs, this, hl, he⟩
/-- A copy of limbs with three more places; the number that it is part of. -/
def isSp (n : Nat) (xs : List Nat) (v : Value) (w : World) : Prop := ∃ g, v = .slice (some ⟨g, 0, none⟩) n (n + 3) ∧ Rd w (some ⟨g, 0, none⟩) (n + 3) (xs ++ [7, 7, 7])
theorem isSp_good (n : Nat) (xs : List Nat) : Good (isSp n xs) :=
  ⟨fun v w w' hb ⟨g, e, o⟩ => ⟨g, e, o.below hb⟩, fun v w g ⟨R, e, o⟩ h => by subst e; cases h⟩
def isSpz (s : Bool) (n : Nat) (xs : List Nat) (v : Value) (w : World) : Prop := ∃ g, v = .agg #[.bool s, .slice (some ⟨g, 0, none⟩) n (n + 3)] ∧ Rd w (some ⟨g, 0, none⟩) (n + 3) (xs ++ [7, 7, 7])
theorem isSpz_good (s : Bool) (n : Nat) (xs : List Nat) : Good (isSpz s n xs) :=
  ⟨fun v w w' hb ⟨g, e, o⟩ => ⟨g, e, o.below hb⟩, fun v w g ⟨R, e, o⟩ h => by subst e; cases h⟩

/-- Memory from block lo on has been written, but only limbs. -/
def WKz (lo : Nat) (w w' : World) : Prop :=
  Below lo w w' ∧ (∀ A n c, WpS w lo A n c → WpS w' lo A n c) ∧ (∀ (k : Nat) (cs : Array Value) (t : TypeId), t ≠ 52 → w.heap[k]? = some (.cells cs t (0, 0)) → w'.heap[k]? = some (.cells cs t (0, 0)))
theorem WKz.refl (lo : Nat) (w : World) : WKz lo w w := ⟨Below.refl _ _, fun _ _ _ h => h, fun _ _ _ _ h => h⟩
theorem WKz.trans {lo : Nat} {a b c : World} (h : WKz lo a b) (k : WKz lo b c) : WKz lo a c :=
  ⟨h.1.trans k.1, fun A n c hw => k.2.1 A n c (h.2.1 A n c hw), fun i cs t ht hc => k.2.2 i cs t ht (h.2.2 i cs t ht hc)⟩
theorem WKz.of_below {lo : Nat} {a b : World} (h : Below a.heap.size a b) (hl : lo ≤ a.heap.size) : WKz lo a b :=
  ⟨h.mono hl, fun A n c hw => hw.below h, fun i cs t ht hc => (h.block i (lt_of_heap hc)).trans hc⟩
theorem WKz.set_ {lo b i : Nat} {w w' : World} {cur : Array Value} {u : Value} (h : WKz lo w w') (hl : lo ≤ b) (hg : w'.heap[b]? = some (.cells cur 52 (0, 0))) : WKz lo w (w'.setCell ⟨b, i, none⟩ u) := by
  obtain ⟨h1, h2, h3⟩ := h
  refine ⟨h1.setCell hl _, fun A n c hw => ?_, fun k cs t ht hk => ?_⟩
  · obtain ⟨a0, a1, a2⟩ := h2 A n c hw
    refine ⟨a0, a1, ?_⟩
    rcases a2 with a2 | ⟨b', o', cur', hA, hl', hg', hc'⟩
    · exact .inl a2
    · by_cases hbb : b' = b
      · subst hbb
        exact .inr ⟨b', o', _, hA, hl', heap_setCell_same w' b' i cur' _ u hg', fun j hj => by rw [Array.size_setIfInBounds]; exact hc' j hj⟩
      · exact .inr ⟨b', o', cur', hA, hl', (Below.heap_setCell _ _ _ _ (show b' ≠ b from hbb)).trans hg', hc'⟩
  · have hk' := h3 k cs t ht hk
    refine (Below.heap_setCell _ _ _ _ (show k ≠ b from fun e => ?_)).trans hk'
    subst e
    rw [hk'] at hg
    simp only [Option.some.injEq, Obj.cells.injEq] at hg
    exact ht hg.2.1

set_option maxHeartbeats 2000000 in
theorem wipe_z (A : Option Addr) (n c lo : Nat) (w : World) (h : WpS w lo A n c) :
    Calls Tryz.prog 38 #[.slice A n c, .int .u32 5] w fun e w' => e = .returned (.tuple #[]) ∧ WKz lo w w' := by
  have X := Lib.hid h
  have hl := h.1
  have hm := h.2.1
  clear h
  go_enter Tryz.func38, Tryz.ntmps38
  go_wp2
  go_loopw [4] (fun i wr => ∃ k : Nat, k ≤ n ∧ i = .int .i64 k ∧ Hid (WKz lo w wr)) (fun i _ => n - (intOf i).toNat)
  case atStart => exact ⟨0, Nat.zero_le _, rfl, WKz.refl _ _⟩
  case round =>
    obtain ⟨k, hk, rfl, hw⟩ := hrel
    by_cases hlt : k < n
    · obtain ⟨_, _, h2⟩ := hw.out.2.1 _ _ _ X.out
      rcases h2 with h2 | ⟨b, o, cur, rfl, hlb, hg, hc⟩
      · omega
      · obtain ⟨u0, hcw⟩ : ∃ u0, wr.cell? ⟨b, o + k, none⟩ = some u0 :=
          ⟨cur[o + k]'(hc k hlt), by rw [cell_of_row wr b (o + k) _ _ (0, 0) hg, Array.getElem?_eq_getElem (hc k hlt)]⟩
        have hfz : wr.frozen? ⟨b, o + k, none⟩ = false := by simp [World.frozen?, hg]
        have NX : Hid (WKz lo w (wr.setCell ⟨b, o + k, none⟩ (.int .u32 5))) := hw.out.set_ hlb hg
        clear hg hc
        go_wp2
        go_roundw
        case rel => exact ⟨k + 1, by omega, by go_num, NX.out⟩
        case measure => simp [intOf]; omega
    · go_wp2
      go_end0
      exact ⟨rfl, hw.out⟩
/-- A number, whatever it is. -/
def Loosez1 (w : World) (e : Ending) (w' : World) : Prop :=
  ∃ s Q nq cq, e = .returned (.agg #[.bool s, .slice Q nq cq]) ∧ WpS w' w.heap.size Q nq cq ∧ Below w.heap.size w w'
theorem GivesZ.loose {w w' : World} {z : Int} {e : Ending} (h : GivesZ w z e w') : Loosez1 w e w' := by
  obtain ⟨R, c, rfl, ho, hb⟩ := h
  exact ⟨_, R, _, c, rfl, WpS.of_own ho rfl (Nat.le_refl _), hb⟩
theorem WpS.lower {w : World} {lo lo' n c : Nat} {A : Option Addr} (h : WpS w lo A n c) (hl : lo' ≤ lo) : WpS w lo' A n c := by
  obtain ⟨h0, h1, h3⟩ := h
  refine ⟨h0, h1, ?_⟩
  rcases h3 with h3 | ⟨b, o, cur, hA, hb, hg, hc⟩
  · exact .inl h3
  · exact .inr ⟨b, o, cur, hA, by omega, hg, hc⟩
end Go.Proofs.YtfmgbfdnmconiaaGreat
