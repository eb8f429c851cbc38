/-
  The tape of numbers from which the statements make their inputs.
-/
import Derived.Test.YtfmgbfdnmconiaaGreatAsr
namespace Go.Proofs.YtfmgbfdnmconiaaGreat
open Go.RowKit
set_option linter.unusedVariables false

/-- A tape in memory. -/
def Tb (w : World) (g : Nat) (A : Option Addr) (n c : Nat) (i : Int) : Prop := w.heap[g]? = some (.cells #[.slice A n c, .int .i64 i] 78 (0, 0))
theorem Tb.lt {w : World} {g n c : Nat} {A : Option Addr} {i : Int} (h : Tb w g A n c i) : g < w.heap.size := lt_of_heap h
theorem Tb.below {w w' : World} {g n c B : Nat} {A : Option Addr} {i : Int} (h : Tb w g A n c i) (hb : Below B w w') (hg : g < B) : Tb w' g A n c i := (hb.block g hg).trans h
theorem Tb.bx {w : World} {g n c : Nat} {A : Option Addr} {i : Int} (h : Tb w g A n c i) : Bx w g := bx_of h (by decide) (fun i v => by rcases i with _ | _ | i <;> simp)
section
variable {ops : Array Oper} {o : Oper} {a : Act} {w : World} {S : World → Prop} {g n c : Nat} {A : Option Addr} {i : Int}
theorem run_ldT0 (h : Tb w g A n c i) : (loadVar 38 ⟨g, 0, none⟩).run Tryz.prog w = .ok (.slice A n c) w := run_ld1 h Tryz.underlying38 rfl rfl
theorem yields_ldT0 (hw : Region.wanted o (yielded ops a.tmps) = true) (p : Operand) (ho : o.op = .load 38 p) (hx : a.eval p = .pointer (some ⟨g, 0, none⟩)) (hS : ∀ w, S w → Tb w g A n c i) : YieldsIf Tryz.prog ops S o (.slice A n c) a :=
  .inl ⟨hw, fun w h => by
    unfold execOp
    simp only [ho, hx, Instr.loadAt, Instr.sureAddr, Sem.run_bind, Sem.run_pure, Result.andThen_ok, run_ldT0 (hS w h)]⟩
end
section
variable {ops : Array Oper} {o : Oper} {a : Act} {w : World} {S : World → Prop} {g n c : Nat} {A : Option Addr} {i : Int}
theorem run_ldT1 (h : Tb w g A n c i) : (loadVar 3 ⟨g, 1, none⟩).run Tryz.prog w = .ok (.int .i64 i) w := run_ld1 h Tryz.underlying3 rfl rfl
theorem yields_ldT1 (hw : Region.wanted o (yielded ops a.tmps) = true) (p : Operand) (ho : o.op = .load 3 p) (hx : a.eval p = .pointer (some ⟨g, 1, none⟩)) (hS : ∀ w, S w → Tb w g A n c i) : YieldsIf Tryz.prog ops S o (.int .i64 i) a :=
  .inl ⟨hw, fun w h => by
    unfold execOp
    simp only [ho, hx, Instr.loadAt, Instr.sureAddr, Sem.run_bind, Sem.run_pure, Result.andThen_ok, run_ldT1 (hS w h)]⟩
end
theorem yields_int {ops : Array Oper} {o : Oper} {a : Act} {S : World → Prop} {b j : Nat} {v : Int} (hw : Region.wanted o (yielded ops a.tmps) = true) (p : Operand) (ho : o.op = .load 3 p) (hx : a.eval p = .pointer (some ⟨b, j, none⟩)) (hS : ∀ w, S w → w.cell? ⟨b, j, none⟩ = some (.int .i64 v)) : YieldsIf Tryz.prog ops S o (.int .i64 v) a :=
  .inl ⟨hw, fun w h => by
    have hagg : (isAgg 3).run Tryz.prog w = .ok false w := by
      unfold isAgg
      rw [Sem.run_bind, run_underlying Tryz.underlying3 w]
      rfl
    unfold execOp
    simp [ho, hx, Instr.loadAt, Instr.sureAddr, Sem.run_bind, Result.andThen_ok, loadVar, hagg, hS w h]⟩
set_option maxRecDepth 100000 in
set_option maxHeartbeats 16000000 in
theorem mod_any {v n : Int} (hn : 0 < n ∧ n ≤ 1000000) (w : World) :
    Calls Tryz.prog 61 #[.int .i64 v, .int .i64 n] w fun e w' => (∃ r : Int, e = .returned (.int .i64 r) ∧ 0 ≤ r ∧ r < n) ∧ Below w.heap.size w w' := by
  obtain ⟨u, hu⟩ : ∃ u, IntKind.u64.wrap v = u := ⟨_, rfl⟩
  have u0 : 0 ≤ u ∧ u < 18446744073709551616 := by rw [← hu, IntKind.wrap_u64]; omega
  have wn : IntKind.u64.wrap n = n := by rw [IntKind.wrap_u64]; omega
  have n0 : ¬ n = 0 := by omega
  have n1 : (n == 0) = false := by simpa using n0
  have tm : u.tmod n = u % n := Int.tmod_eq_emod_of_nonneg u0.1
  have r0 : 0 ≤ u % n := Int.emod_nonneg _ n0
  have r1 : u % n < n := Int.emod_lt_of_pos _ hn.1
  obtain ⟨r, hr⟩ : ∃ r, u % n = r := ⟨_, rfl⟩
  rw [hr] at tm r0 r1
  have w1 : IntKind.u64.wrap r = r := by rw [IntKind.wrap_u64]; omega
  have w2 : IntKind.i64.wrap r = r := IntWalk.i64_in _ (by omega)
  clear hr
  go_enter Tryz.func61, Tryz.ntmps61
  go_wp2
  go_ret
  exact ⟨⟨r, rfl, r0, r1⟩, Below.refl _ _⟩
/-- An int somewhere in memory. -/
def Ci (w : World) (b j : Nat) (v : Int) : Prop := w.cell? ⟨b, j, none⟩ = some (.int .i64 v)
theorem Ci.lt {w : World} {b j : Nat} {v : Int} (h : Ci w b j v) : b < w.heap.size := block_lt_of_cell h
theorem Ci.below {w w' : World} {b j B : Nat} {v : Int} (h : Ci w b j v) (hb : Below B w w') (hl : b < B) : Ci w' b j v := (hb.cell (p := ⟨b, j, none⟩) hl).trans h
/-- A slice of ints that came in. -/
def Ri (w : World) (A : Option Addr) (n c : Nat) : Prop := n ≤ c ∧ c ≤ 9223372036854775807 ∧ (n = 0 ∨ ∃ b o, A = some ⟨b, o, none⟩ ∧ b < w.heap.size ∧ ∀ j, j < n → ∃ v, w.cell? ⟨b, o + j, none⟩ = some (.int .i64 v))
theorem Ri.below {w w' : World} {A : Option Addr} {n c : Nat} (h : Ri w A n c) (hb : Below w.heap.size w w') : Ri w' A n c := by
  obtain ⟨h1, h2, h3⟩ := h
  refine ⟨h1, h2, ?_⟩
  rcases h3 with h3 | ⟨b, o, e, hl, hc⟩
  · exact .inl h3
  · exact .inr ⟨b, o, e, Nat.lt_of_lt_of_le hl hb.size, fun j hj => by obtain ⟨v, hv⟩ := hc j hj; exact ⟨v, (hb.cell (p := ⟨b, o + j, none⟩) hl).trans hv⟩⟩
theorem Tb.cells {w : World} {g n c : Nat} {A : Option Addr} {i : Int} (h : Tb w g A n c i) : w.cell? ⟨g, 0, none⟩ = some (.slice A n c) ∧ w.cell? ⟨g, 1, none⟩ = some (.int .i64 i) ∧ w.frozen? ⟨g, 1, none⟩ = false := by
  refine ⟨?_, ?_, ?_⟩
  · rw [cell_of_row w g _ _ _ (0, 0) h]; rfl
  · rw [cell_of_row w g _ _ _ (0, 0) h]; rfl
  · unfold Tb at h; simp [World.frozen?, h]
theorem Tb.put {w : World} {g n c : Nat} {A : Option Addr} {i j : Int} (h : Tb w g A n c i) : Tb (w.setCell ⟨g, 1, none⟩ (.int .i64 j)) g A n c j := by
  unfold Tb at h ⊢
  exact heap_setCell_same w g 1 _ _ _ h
set_option maxRecDepth 100000 in
set_option maxHeartbeats 16000000 in
theorem tnext_any {g n c : Nat} {A : Option Addr} {i m : Int} {w : World} (h : Tb w g A n c i) (hi : 0 ≤ i ∧ i ≤ n) (hr : Ri w A n c) (hg : ∀ b o, 0 < n → A = some ⟨b, o, none⟩ → b ≠ g) (hm : 0 < m ∧ m ≤ 1000000) :
    Calls Tryz.prog 19 #[.pointer (some ⟨g, 0, none⟩), .int .i64 m] w fun e w' => ∃ r j : Int, e = .returned (.int .i64 r) ∧ (0 ≤ r ∧ r < m) ∧ (0 ≤ j ∧ j ≤ n) ∧ Tb w' g A n c j ∧ w.grownBy w' (some g) := by
  obtain ⟨hn, hc, hrow⟩ := hr
  have T0 := Lib.hid h
  have HM := Lib.hid hm
  have HG := Lib.hid hg
  have i1 := hi.1
  have i2 : i ≤ 9223372036854775807 := by omega
  clear h hm hg
  rcases Int.lt_or_le i n with hlt | hge
  · have w1 : IntKind.i64.wrap (i + 1) = i + 1 := IntWalk.i64_in _ (by omega)
    have w2 : IntKind.i64.wrap (i + 1 - 1) = i := by rw [show i + 1 - 1 = i by omega]; exact IntWalk.i64_in _ (by omega)
    obtain ⟨k, hk⟩ : ∃ k : Nat, i = (k : Int) := ⟨i.natAbs, by omega⟩
    rcases hrow with h0 | ⟨b, o, rfl, hb, hcell⟩
    · omega
    obtain ⟨v, hv⟩ := hcell k (by omega)
    have VC : Hid (Ci w b (o + k) v) := hv
    have NB : Hid (b ≠ g) := HG.out b o (by omega) rfl
    subst hk
    have w3 : IntKind.i64.wrap (k : Int) = (k : Int) := IntWalk.i64_in _ (by omega)
    clear hcell hv
    go_enter Tryz.func19, Tryz.ntmps19
    go_wp2_with fail
    have GW : Hid (w.grownBy w (some g)) := grown_below (Below.refl _ _)
    have hb := below_drewN w.heap.size w 1
    replace T0 := Lib.hid (T0.out.below hb T0.out.lt)
    replace VC := Lib.hid (VC.out.below hb VC.out.lt)
    replace GW := Lib.hid (GW.out.trans (grown_below hb))
    clear hb
    refine wp_region_held_drew (S := fun w' => Tb w' g (some ⟨b, o, none⟩) n c k) (by kernel_rfl) T0.out (fun hHeld => ?_)
    refine wpAnyH_takeL (i := 0) (oi := _) (v := ?_) rfl (by kernel_rfl) (by kernel_rfl) (by kernel_rfl) (fun _ _ _ h => h) (Or.inl ⟨by rfl, ?_⟩) hHeld ?_
    rotate_left
    · (intro w' hSw; (try dsimp only at hSw); go_simp; try (with_reducible rfl))
    try simp only [Act.put, List.setIfInBounds_toArray, List.set_cons_zero, List.set_cons_succ]
    refine wpAnyH_takeL (i := 1) (oi := _) (v := ?_) rfl (by kernel_rfl) (by kernel_rfl) (by kernel_rfl) (fun _ _ _ h => h) (Or.inl ⟨by rfl, ?_⟩) hHeld ?_
    rotate_left
    · (intro w' hSw; (try dsimp only at hSw); go_simp; try (with_reducible rfl))
    try simp only [Act.put, List.setIfInBounds_toArray, List.set_cons_zero, List.set_cons_succ]
    refine wpAnyH_takeL (i := 2) (oi := _) (v := ?_) rfl (by kernel_rfl) (by kernel_rfl) (by kernel_rfl) (fun _ _ _ h => h) (Or.inl ⟨by rfl, ?_⟩) hHeld ?_
    rotate_left
    · (intro w' hSw; (try dsimp only at hSw); go_simp; try (with_reducible rfl))
    try simp only [Act.put, List.setIfInBounds_toArray, List.set_cons_zero, List.set_cons_succ]
    refine wpAnyH_takeL (i := 3) (oi := _) rfl (by kernel_rfl) (by kernel_rfl) (by kernel_rfl) (fun _ _ _ h => h) (yields_ldT1 (by rfl) _ rfl (by rfl) (fun _ hS => hS)) hHeld ?_
    try simp only [Act.put, List.setIfInBounds_toArray, List.set_cons_zero, List.set_cons_succ]
    refine wpAnyH_takeL (i := 4) (oi := _) (v := ?_) rfl (by kernel_rfl) (by kernel_rfl) (by kernel_rfl) (fun _ _ _ h => h) (Or.inl ⟨by rfl, ?_⟩) hHeld ?_
    rotate_left
    · (intro w' hSw; (try dsimp only at hSw); go_simp; try (with_reducible rfl))
    try simp only [Act.put, List.setIfInBounds_toArray, List.set_cons_zero, List.set_cons_succ]
    refine wpAnyH_takeL (i := 5) (oi := _) (v := ?_) rfl (by kernel_rfl) (by kernel_rfl) (by kernel_rfl) (fun _ _ _ h => h) (Or.inl ⟨by rfl, ?_⟩) hHeld ?_
    rotate_left
    · (intro w' hSw; (try dsimp only at hSw); go_simp; try (with_reducible rfl))
    try simp only [Act.put, List.setIfInBounds_toArray, List.set_cons_zero, List.set_cons_succ]
    refine wpAnyH_takeL (i := 6) (oi := _) (v := ?_) rfl (by kernel_rfl) (by kernel_rfl) (by kernel_rfl) (fun _ _ _ h => h) (Or.inl ⟨by rfl, ?_⟩) hHeld ?_
    rotate_left
    · (intro w' hSw; (try dsimp only at hSw); go_simp; try (with_reducible rfl))
    try simp only [Act.put, List.setIfInBounds_toArray, List.set_cons_zero, List.set_cons_succ]
    refine wpAnyH_takeL (i := 7) (oi := _) rfl (by kernel_rfl) (by kernel_rfl) (by kernel_rfl) (fun _ _ _ h => h) (yields_ldT0 (by rfl) _ rfl (by rfl) (fun _ hS => hS)) hHeld ?_
    try simp only [Act.put, List.setIfInBounds_toArray, List.set_cons_zero, List.set_cons_succ]
    refine wpAnyH_takeL (i := 8) (oi := _) (v := ?_) rfl (by kernel_rfl) (by kernel_rfl) (by kernel_rfl) (fun _ _ _ h => h) (Or.inl ⟨by rfl, ?_⟩) hHeld ?_
    rotate_left
    · (intro w' hSw; (try dsimp only at hSw); go_simp; try (with_reducible rfl))
    try simp only [Act.put, List.setIfInBounds_toArray, List.set_cons_zero, List.set_cons_succ]
    refine wpAnyH_takeL (i := 9) (oi := _) (v := ?_) rfl (by kernel_rfl) (by kernel_rfl) (by kernel_rfl) (fun _ _ _ h => h) (Or.inl ⟨by rfl, ?_⟩) hHeld ?_
    rotate_left
    · (intro w' hSw; (try dsimp only at hSw); go_simp; try (with_reducible rfl))
    try simp only [Act.put, List.setIfInBounds_toArray, List.set_cons_zero, List.set_cons_succ]
    clear hHeld
    refine wpAnyH_done (by kernel_rfl) ?_ _
    have T1 : Tb w.drew g (some ⟨b, o, none⟩) n c k := T0.out
    have VC1 : Ci w.drew b (o + k) v := VC.out
    have GW1 : w.grownBy w.drew (some g) := GW.out
    clear T0 VC GW
    generalize w.drew = wd at *
    obtain ⟨tc0, tc1, tf⟩ := T1.cells
    go_wp2_with fail
    clear tc0 tc1 tf
    have hs := grown_set wd g 1 (.int .i64 ((k : Int) + 1))
    have T2 := Lib.hid (T1.put (j := (k : Int) + 1))
    have VC : Hid (Ci (wd.setCell ⟨g, 1, none⟩ (.int .i64 ((k : Int) + 1))) b (o + k) v) := hs.cell VC1 (by simpa using NB.out)
    have GW := Lib.hid (GW1.trans hs)
    clear hs T1 VC1 GW1
    generalize (wd.setCell ⟨g, 1, none⟩ (.int .i64 ((k : Int) + 1))) = w4 at *
    have hb := below_drewN w4.heap.size w4 1
    replace T2 := Lib.hid (T2.out.below hb T2.out.lt)
    replace VC := Lib.hid (VC.out.below hb VC.out.lt)
    replace GW := Lib.hid (GW.out.trans (grown_below hb))
    clear hb
    refine wp_region_held_drew (S := fun w' => Tb w' g (some ⟨b, o, none⟩) n c ((k : Int) + 1) ∧ Ci w' b (o + k) v) (by kernel_rfl) ⟨T2.out, VC.out⟩ (fun hHeld => ?_)
    refine wpAnyH_takeL (i := 0) (oi := _) (v := ?_) rfl (by kernel_rfl) (by kernel_rfl) (by kernel_rfl) (fun _ _ _ h => h) (Or.inl ⟨by rfl, ?_⟩) hHeld ?_
    rotate_left
    · (intro w' hSw; (try dsimp only at hSw); go_simp; try (with_reducible rfl))
    try simp only [Act.put, List.setIfInBounds_toArray, List.set_cons_zero, List.set_cons_succ]
    refine wpAnyH_takeL (i := 1) (oi := _) (v := ?_) rfl (by kernel_rfl) (by kernel_rfl) (by kernel_rfl) (fun _ _ _ h => h) (Or.inl ⟨by rfl, ?_⟩) hHeld ?_
    rotate_left
    · (intro w' hSw; (try dsimp only at hSw); go_simp; try (with_reducible rfl))
    try simp only [Act.put, List.setIfInBounds_toArray, List.set_cons_zero, List.set_cons_succ]
    refine wpAnyH_takeL (i := 2) (oi := _) (v := ?_) rfl (by kernel_rfl) (by kernel_rfl) (by kernel_rfl) (fun _ _ _ h => h) (Or.inl ⟨by rfl, ?_⟩) hHeld ?_
    rotate_left
    · (intro w' hSw; (try dsimp only at hSw); go_simp; try (with_reducible rfl))
    try simp only [Act.put, List.setIfInBounds_toArray, List.set_cons_zero, List.set_cons_succ]
    refine wpAnyH_takeL (i := 3) (oi := _) rfl (by kernel_rfl) (by kernel_rfl) (by kernel_rfl) (fun _ _ _ h => h) (yields_ldT0 (by rfl) _ rfl (by rfl) (fun _ hS => hS.1)) hHeld ?_
    try simp only [Act.put, List.setIfInBounds_toArray, List.set_cons_zero, List.set_cons_succ]
    refine wpAnyH_takeL (i := 4) (oi := _) (v := ?_) rfl (by kernel_rfl) (by kernel_rfl) (by kernel_rfl) (fun _ _ _ h => h) (Or.inl ⟨by rfl, ?_⟩) hHeld ?_
    rotate_left
    · (intro w' hSw; (try dsimp only at hSw); go_simp; try (with_reducible rfl))
    try simp only [Act.put, List.setIfInBounds_toArray, List.set_cons_zero, List.set_cons_succ]
    refine wpAnyH_takeL (i := 5) (oi := _) (v := ?_) rfl (by kernel_rfl) (by kernel_rfl) (by kernel_rfl) (fun _ _ _ h => h) (Or.inl ⟨by rfl, ?_⟩) hHeld ?_
    rotate_left
    · (intro w' hSw; (try dsimp only at hSw); go_simp; try (with_reducible rfl))
    try simp only [Act.put, List.setIfInBounds_toArray, List.set_cons_zero, List.set_cons_succ]
    refine wpAnyH_takeL (i := 6) (oi := _) (v := ?_) rfl (by kernel_rfl) (by kernel_rfl) (by kernel_rfl) (fun _ _ _ h => h) (Or.inl ⟨by rfl, ?_⟩) hHeld ?_
    rotate_left
    · (intro w' hSw; (try dsimp only at hSw); go_simp; try (with_reducible rfl))
    try simp only [Act.put, List.setIfInBounds_toArray, List.set_cons_zero, List.set_cons_succ]
    refine wpAnyH_takeL (i := 7) (oi := _) rfl (by kernel_rfl) (by kernel_rfl) (by kernel_rfl) (fun _ _ _ h => h) (yields_ldT1 (by rfl) _ rfl (by rfl) (fun _ hS => hS.1)) hHeld ?_
    try simp only [Act.put, List.setIfInBounds_toArray, List.set_cons_zero, List.set_cons_succ]
    refine wpAnyH_takeL (i := 8) (oi := _) (v := ?_) rfl (by kernel_rfl) (by kernel_rfl) (by kernel_rfl) (fun _ _ _ h => h) (Or.inl ⟨by rfl, ?_⟩) hHeld ?_
    rotate_left
    · (intro w' hSw; (try dsimp only at hSw); go_simp; try (with_reducible rfl))
    try simp only [Act.put, List.setIfInBounds_toArray, List.set_cons_zero, List.set_cons_succ]
    refine wpAnyH_takeL (i := 9) (oi := _) (v := ?_) rfl (by kernel_rfl) (by kernel_rfl) (by kernel_rfl) (fun _ _ _ h => h) (Or.inl ⟨by rfl, ?_⟩) hHeld ?_
    rotate_left
    · (intro w' hSw; (try dsimp only at hSw); go_simp; try (with_reducible rfl))
    try simp only [Act.put, List.setIfInBounds_toArray, List.set_cons_zero, List.set_cons_succ]
    refine wpAnyH_takeL (i := 10) (oi := _) rfl (by kernel_rfl) (by kernel_rfl) (by kernel_rfl) (fun _ _ _ h => h) (yields_int (by rfl) _ rfl (by rfl) (fun _ hS => hS.2)) hHeld ?_
    try simp only [Act.put, List.setIfInBounds_toArray, List.set_cons_zero, List.set_cons_succ]
    refine wpAnyH_takeL (i := 11) (oi := _) (v := ?_) rfl (by kernel_rfl) (by kernel_rfl) (by kernel_rfl) (fun _ _ _ h => h) (Or.inl ⟨by rfl, ?_⟩) hHeld ?_
    rotate_left
    · (intro w' hSw; (try dsimp only at hSw); go_simp; try (with_reducible rfl))
    try simp only [Act.put, List.setIfInBounds_toArray, List.set_cons_zero, List.set_cons_succ]
    refine wpAnyH_ready (rs := [12]) (by kernel_rfl) (by simp) ?_
    refine AllReadyH.consL (o := _) rfl (fun K hK => ?_) AllReadyH.nil
    clear hHeld
    go_simp
    go_at_call 61
    refine Calls.mono (mod_any HM.out _) ?_
    rintro e w5 ⟨⟨r, rfl, q0, q1⟩, hb⟩
    replace T2 := Lib.hid (T2.out.below hb T2.out.lt)
    replace VC := Lib.hid (VC.out.below hb VC.out.lt)
    replace GW := Lib.hid (GW.out.trans (grown_below hb))
    have Q0 := Lib.hid q0
    have Q1 := Lib.hid q1
    clear q0 q1
    clear hb
    refine hK.out _ _ ⟨T2.out, VC.out⟩ (fun hHeld => ?_)
    clear hK K
    try simp only [Act.put, List.setIfInBounds_toArray, List.set_cons_zero, List.set_cons_succ]
    refine wpAnyH_takeL (i := 13) (oi := _) (v := ?_) rfl (by kernel_rfl) (by kernel_rfl) (by kernel_rfl) (fun _ _ _ h => h) (Or.inl ⟨by rfl, ?_⟩) hHeld ?_
    rotate_left
    · (intro w' hSw; (try dsimp only at hSw); go_simp; try (with_reducible rfl))
    try simp only [Act.put, List.setIfInBounds_toArray, List.set_cons_zero, List.set_cons_succ]
    clear hHeld
    refine wpAnyH_done (by kernel_rfl) ?_ _
    go_wp2_with fail
    go_ret
    exact ⟨r, (k : Int) + 1, rfl, ⟨Q0.out, Q1.out⟩, ⟨by omega, by omega⟩, T2.out, GW.out⟩
  · have ge : (n : Int) ≤ i := hge
    have RN := Lib.hid hrow
    clear hrow
    go_enter Tryz.func19, Tryz.ntmps19
    go_wp2_with fail
    have GW : Hid (w.grownBy w (some g)) := grown_below (Below.refl _ _)
    have hb := below_drewN w.heap.size w 1
    replace T0 := Lib.hid (T0.out.below hb T0.out.lt)
    replace GW := Lib.hid (GW.out.trans (grown_below hb))
    clear hb
    refine wp_region_held_drew (S := fun w' => Tb w' g A n c i) (by kernel_rfl) T0.out (fun hHeld => ?_)
    refine wpAnyH_takeL (i := 0) (oi := _) (v := ?_) rfl (by kernel_rfl) (by kernel_rfl) (by kernel_rfl) (fun _ _ _ h => h) (Or.inl ⟨by rfl, ?_⟩) hHeld ?_
    rotate_left
    · (intro w' hSw; (try dsimp only at hSw); go_simp; try (with_reducible rfl))
    try simp only [Act.put, List.setIfInBounds_toArray, List.set_cons_zero, List.set_cons_succ]
    refine wpAnyH_takeL (i := 1) (oi := _) (v := ?_) rfl (by kernel_rfl) (by kernel_rfl) (by kernel_rfl) (fun _ _ _ h => h) (Or.inl ⟨by rfl, ?_⟩) hHeld ?_
    rotate_left
    · (intro w' hSw; (try dsimp only at hSw); go_simp; try (with_reducible rfl))
    try simp only [Act.put, List.setIfInBounds_toArray, List.set_cons_zero, List.set_cons_succ]
    refine wpAnyH_takeL (i := 2) (oi := _) (v := ?_) rfl (by kernel_rfl) (by kernel_rfl) (by kernel_rfl) (fun _ _ _ h => h) (Or.inl ⟨by rfl, ?_⟩) hHeld ?_
    rotate_left
    · (intro w' hSw; (try dsimp only at hSw); go_simp; try (with_reducible rfl))
    try simp only [Act.put, List.setIfInBounds_toArray, List.set_cons_zero, List.set_cons_succ]
    refine wpAnyH_takeL (i := 3) (oi := _) rfl (by kernel_rfl) (by kernel_rfl) (by kernel_rfl) (fun _ _ _ h => h) (yields_ldT1 (by rfl) _ rfl (by rfl) (fun _ hS => hS)) hHeld ?_
    try simp only [Act.put, List.setIfInBounds_toArray, List.set_cons_zero, List.set_cons_succ]
    refine wpAnyH_takeL (i := 4) (oi := _) (v := ?_) rfl (by kernel_rfl) (by kernel_rfl) (by kernel_rfl) (fun _ _ _ h => h) (Or.inl ⟨by rfl, ?_⟩) hHeld ?_
    rotate_left
    · (intro w' hSw; (try dsimp only at hSw); go_simp; try (with_reducible rfl))
    try simp only [Act.put, List.setIfInBounds_toArray, List.set_cons_zero, List.set_cons_succ]
    refine wpAnyH_takeL (i := 5) (oi := _) (v := ?_) rfl (by kernel_rfl) (by kernel_rfl) (by kernel_rfl) (fun _ _ _ h => h) (Or.inl ⟨by rfl, ?_⟩) hHeld ?_
    rotate_left
    · (intro w' hSw; (try dsimp only at hSw); go_simp; try (with_reducible rfl))
    try simp only [Act.put, List.setIfInBounds_toArray, List.set_cons_zero, List.set_cons_succ]
    refine wpAnyH_takeL (i := 6) (oi := _) (v := ?_) rfl (by kernel_rfl) (by kernel_rfl) (by kernel_rfl) (fun _ _ _ h => h) (Or.inl ⟨by rfl, ?_⟩) hHeld ?_
    rotate_left
    · (intro w' hSw; (try dsimp only at hSw); go_simp; try (with_reducible rfl))
    try simp only [Act.put, List.setIfInBounds_toArray, List.set_cons_zero, List.set_cons_succ]
    refine wpAnyH_takeL (i := 7) (oi := _) rfl (by kernel_rfl) (by kernel_rfl) (by kernel_rfl) (fun _ _ _ h => h) (yields_ldT0 (by rfl) _ rfl (by rfl) (fun _ hS => hS)) hHeld ?_
    try simp only [Act.put, List.setIfInBounds_toArray, List.set_cons_zero, List.set_cons_succ]
    refine wpAnyH_takeL (i := 8) (oi := _) (v := ?_) rfl (by kernel_rfl) (by kernel_rfl) (by kernel_rfl) (fun _ _ _ h => h) (Or.inl ⟨by rfl, ?_⟩) hHeld ?_
    rotate_left
    · (intro w' hSw; (try dsimp only at hSw); go_simp; try (with_reducible rfl))
    try simp only [Act.put, List.setIfInBounds_toArray, List.set_cons_zero, List.set_cons_succ]
    refine wpAnyH_takeL (i := 9) (oi := _) (v := ?_) rfl (by kernel_rfl) (by kernel_rfl) (by kernel_rfl) (fun _ _ _ h => h) (Or.inl ⟨by rfl, ?_⟩) hHeld ?_
    rotate_left
    · (intro w' hSw; (try dsimp only at hSw); go_simp; try (with_reducible rfl))
    try simp only [Act.put, List.setIfInBounds_toArray, List.set_cons_zero, List.set_cons_succ]
    clear hHeld
    refine wpAnyH_done (by kernel_rfl) ?_ _
    go_wp2_with fail
    go_ret
    exact ⟨0, i, rfl, ⟨by decide, HM.out.1⟩, hi, T0.out, GW.out⟩
end Go.Proofs.YtfmgbfdnmconiaaGreat
