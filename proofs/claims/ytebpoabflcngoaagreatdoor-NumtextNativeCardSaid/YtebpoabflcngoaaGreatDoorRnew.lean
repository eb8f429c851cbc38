/-
  Contract of New of package rational.
-/
import Derived.Test.YtebpoabflcngoaaGreatDoorRS
namespace Go.Proofs.YtebpoabflcngoaaGreatDoor
open Go.RowKit
set_option linter.unusedVariables false

section
variable {ops : Array Oper} {rest : List Oper} {o : Oper} {a : Act} {w : World} {Q : Exit → Act → World → Prop} {K : Act → World → Prop} {g : Nat} {s : Bool} {A : Option Addr} {n c : Nat}
theorem Tryz.sizeB : (Tryz.prog.info? 4).map (·.size) = some 1 := by kernel_rfl
theorem run_stZs (h : Zb w g s A n c) (t : Bool) : (storeVar 4 ⟨g, 0, none⟩ (.bool t)).run Tryz.prog w = .ok () (w.setCell ⟨g, 0, none⟩ (.bool t)) := by
  obtain ⟨z1, _⟩ := h.cells
  obtain ⟨f1, _⟩ := h.frozen
  have := run_storeCells_cells (P := Tryz.prog) g 0 [.bool t] 0 w (fun j hj => by
    have : j = 0 := by simp at hj; omega
    subst this; simp [z1]) (fun j hj => by
    have : j = 0 := by simp at hj; omega
    subst this; simpa using f1) (fun v hv => by
    have : v = .bool t := by simpa using hv
    subst this; rfl)
  have hi := Tryz.sizeB
  cases hq : Tryz.prog.info? 4 with
  | none => simp [hq] at hi
  | some i =>
    have hs : i.size = 1 := by simp [hq] at hi; omega
    simp only [Nat.add_zero] at this
    simp [storeVar, sizeOf, typeInfo, hq, Value.cells, hs, this, World.setCells]
theorem wp_stZs (x y : Operand) (ho : o.op = .store 4 x y) {t : Bool} (hx : a.eval x = .pointer (some ⟨g, 0, none⟩)) (hy : a.eval y = .bool t) (hz : Zb w g s A n c)
    (h : ∀ w', Zb w' g t A n c → w.grownBy w' (some g) → K (a.put o.dst undef) w') : o.wp Tryz.prog a w K Q := by
  unfold Oper.wp execOp
  simp only [ho, hx, hy, Instr.storeAt, Instr.sureAddr, Sem.run_bind, Sem.run_pure, Result.andThen_ok, run_stZs hz t]
  refine h _ (hz.sign t) ⟨rfl, rfl, rfl, by simp, fun k _ hk => ?_⟩
  exact Below.heap_setCell w ⟨g, 0, none⟩ _ k (fun e => hk (by rw [e]))
theorem wpList_stZs (hw : Region.wanted o (yielded ops a.tmps) = true) (x y : Operand) (ho : o.op = .store 4 x y) {t : Bool} (hx : a.eval x = .pointer (some ⟨g, 0, none⟩)) (hy : a.eval y = .bool t) (hz : Zb w g s A n c)
    (h : ∀ w', Zb w' g t A n c → w.grownBy w' (some g) → wpList Tryz.prog ops Q rest (a.put o.dst undef) w') : wpList Tryz.prog ops Q (o :: rest) a w :=
  wpList_wanted hw fun K hK => wp_stZs x y ho hx hy hz (fun w' h1 h2 => hK _ _ (h w' h1 h2))
end
set_option maxRecDepth 100000 in
set_option maxHeartbeats 16000000 in
theorem new_f_f {A B : Option Addr} {n c m k : Nat} {x y z : Int} {d : Nat} {w : World} (h : Zin w false A n c x) (h' : Zin w false B m k y) (hn : n ≤ 70368744177660) (hm : m ≤ 70368744177660) (hy : y ≠ 0) (hz : (Rat.divInt x y).num = z) (hd : (Rat.divInt x y).den = d) :
    Calls Tryz.prog 55 #[.agg #[.bool false, .slice A n c], .agg #[.bool false, .slice B m k]] w (GivesRT w z d) := by
  obtain ⟨B1, V0, V1, V2⟩ := start_ZZR w false A n c false B m k
  have HX := Lib.hid (h.below B1.out)
  have HY := Lib.hid (h'.below B1.out)
  have LN := Lib.hid hn
  have LM := Lib.hid hm
  have LM2 : Hid (m ≤ 70368744177664) := Nat.le_trans hm (by decide)
  obtain ⟨ys, hr, hl, ey⟩ := h'
  have hp : 0 < val ys := by
    rcases Nat.eq_zero_or_pos (val ys) with e | e
    · rw [e] at ey; exact absurd (by rw [← ey]; simp [zv]) hy
    · exact e
  have HQ : Hid (Nin w B m k (val ys)) := ⟨ys, hr, hl, rfl⟩
  replace HQ := Lib.hid (HQ.out.below B1.out)
  have PP := Lib.hid hp
  have SY : Hid (sg y = 1) := by
    show _ = _
    rw [← ey]
    unfold sg zv
    simp
    try omega
  have ED : Rat.divInt x y = mkRat (x) (val ys) := by
    rw [← ey]
    exact Rat.divInt_ofNat x (val ys)
  have HZ : Hid ((mkRat (x) (val ys)).num = z) := by show _ = _; rw [← ED]; exact hz
  have HD : Hid ((mkRat (x) (val ys)).den = d) := by show _ = _; rw [← ED]; exact hd
  have HZI : Hid (Zin w false A n c (x)) := h
  replace HZI := Lib.hid (HZI.out.below B1.out)
  generalize val ys = p at *
  clear h hr hl ey hp ED hz hd hy hn hm
  go_enter Tryz.func55, Tryz.ntmps55
  go_wp2_with fail
  generalize (((w.alloc (.cells #[.bool false, .slice A n c] 24)).alloc (.cells #[.bool false, .slice B m k] 24)).alloc (.cells #[.bool false, .slice none 0 0, .slice none 0 0] 26)) = w2 at *
  have pc0 := Lib.hid trivial
  go_wp2_with (first
    | (clear pc0; go_at_call 32; refine Calls.mono (sign_k (r := 1) HY.out SY.out) ?_; rintro e w3 ⟨rfl, hb⟩; replace V0 := Lib.hid (V0.out.below hb V0.out.lt); replace V1 := Lib.hid (V1.out.below hb V1.out.lt); replace V2 := Lib.hid (V2.out.below hb V2.out.lt); replace HX := Lib.hid (HX.out.below hb); replace HY := Lib.hid (HY.out.below hb); replace HQ := Lib.hid (HQ.out.below hb); replace HZI := Lib.hid (HZI.out.below hb); replace B1 := Lib.hid (B1.out.trans (hb.mono B1.out.size)); clear hb; have pc1 := Lib.hid trivial)
    | (clear pc1; refine wpList_ldZs (by rfl) _ rfl (by rfl) V0.out ?_; have pc2 := Lib.hid trivial)
    | (clear pc2; refine wpList_ldZs (by rfl) _ rfl (by rfl) V1.out ?_; have pc3 := Lib.hid trivial)
    | (clear pc3; refine wpList_stZs (by rfl) _ _ rfl (by rfl) (by rfl) V0.out ?_; intro w4 hz hg; replace V1 := Lib.hid (V1.out.gr hg (by omega)); replace V2 := Lib.hid (V2.out.gro hg (by omega)); replace HX := Lib.hid (HX.out.gr V0.out hg); replace HY := Lib.hid (HY.out.gr V0.out hg); replace HQ := Lib.hid (HQ.out.gr V0.out hg); replace HZI := Lib.hid (HZI.out.gr V0.out hg); replace B1 := Lib.hid (Below.gr B1.out (by omega) hg B1.out.size); replace V0 := Lib.hid hz; clear hz hg; have pc4 := Lib.hid trivial)
    | (clear pc4; refine wpList_ldZ (by rfl) _ rfl (by rfl) V0.out ?_; have pc5 := Lib.hid trivial)
    | (clear pc5; refine wpList_ldZm (by rfl) _ rfl (by rfl) V1.out ?_; have pc6 := Lib.hid trivial)
    | (clear pc6; have SZ := Lib.hid B1.out.size; go_at_call 74; refine Calls.mono (lowest_any HZI.out HQ.out PP.out LN.out LM.out HZ.out HD.out) ?_; rintro e w5 ⟨P1, c1, P2, c2, rfl, ho, ho2, hb⟩; replace V0 := Lib.hid (V0.out.below hb V0.out.lt); replace V1 := Lib.hid (V1.out.below hb V1.out.lt); replace V2 := Lib.hid (V2.out.below hb V2.out.lt); replace HX := Lib.hid (HX.out.below hb); replace HY := Lib.hid (HY.out.below hb); replace HQ := Lib.hid (HQ.out.below hb); replace HZI := Lib.hid (HZI.out.below hb); replace B1 := Lib.hid (B1.out.trans (hb.mono B1.out.size)); have OQ := Lib.hid (ho.mono SZ.out); have OD := Lib.hid (ho2.mono SZ.out); clear ho ho2 SZ; clear hb; have pc7 := Lib.hid trivial)
    | (clear pc7; refine wpList_stR (by rfl) _ _ rfl (by rfl) (by rfl) V2.out ?_; intro w6 hz hg; replace V0 := Lib.hid (V0.out.gr hg (by omega)); replace V1 := Lib.hid (V1.out.gr hg (by omega)); replace HX := Lib.hid (HX.out.grR V2.out hg); replace HY := Lib.hid (HY.out.grR V2.out hg); replace HQ := Lib.hid (HQ.out.grR V2.out hg); replace HZI := Lib.hid (HZI.out.grR V2.out hg); replace OQ := Lib.hid (OQ.out.grR V2.out hg); replace OD := Lib.hid (OD.out.grR V2.out hg); replace B1 := Lib.hid (Below.gr B1.out (by omega) hg B1.out.size); replace V2 := Lib.hid hz; clear hz hg; have pc8 := Lib.hid trivial))
  clear pc8
  exact ret_rb2 Tryz.results55 rfl rfl rfl V2.out ⟨_, _, _, _, rfl, OQ.out, OD.out, B1.out⟩
set_option maxRecDepth 100000 in
set_option maxHeartbeats 16000000 in
theorem new_f_t {A B : Option Addr} {n c m k : Nat} {x y z : Int} {d : Nat} {w : World} (h : Zin w false A n c x) (h' : Zin w true B m k y) (hn : n ≤ 70368744177660) (hm : m ≤ 70368744177660) (hy : y ≠ 0) (hz : (Rat.divInt x y).num = z) (hd : (Rat.divInt x y).den = d) :
    Calls Tryz.prog 55 #[.agg #[.bool false, .slice A n c], .agg #[.bool true, .slice B m k]] w (GivesRT w z d) := by
  obtain ⟨B1, V0, V1, V2⟩ := start_ZZR w false A n c true B m k
  have HX := Lib.hid (h.below B1.out)
  have HY := Lib.hid (h'.below B1.out)
  have LN := Lib.hid hn
  have LM := Lib.hid hm
  have LM2 : Hid (m ≤ 70368744177664) := Nat.le_trans hm (by decide)
  obtain ⟨ys, hr, hl, ey⟩ := h'
  have hp : 0 < val ys := by
    rcases Nat.eq_zero_or_pos (val ys) with e | e
    · rw [e] at ey; exact absurd (by rw [← ey]; simp [zv]) hy
    · exact e
  have HQ : Hid (Nin w B m k (val ys)) := ⟨ys, hr, hl, rfl⟩
  replace HQ := Lib.hid (HQ.out.below B1.out)
  have PP := Lib.hid hp
  have SY : Hid (sg y = -1) := by
    show _ = _
    rw [← ey]
    unfold sg zv
    simp
    try omega
  have ED : Rat.divInt x y = mkRat (-x) (val ys) := by
    rw [← ey]
    show Rat.divInt x (-(val ys : Int)) = _; rw [Rat.divInt_neg']; exact Rat.divInt_ofNat (-x) (val ys)
  have HZ : Hid ((mkRat (-x) (val ys)).num = z) := by show _ = _; rw [← ED]; exact hz
  have HD : Hid ((mkRat (-x) (val ys)).den = d) := by show _ = _; rw [← ED]; exact hd
  have HZI : Hid (Zin w true A n c (-x)) := by have := h.flip (t := true) rfl (rfl : -x = -x); exact this
  replace HZI := Lib.hid (HZI.out.below B1.out)
  generalize val ys = p at *
  clear h hr hl ey hp ED hz hd hy hn hm
  go_enter Tryz.func55, Tryz.ntmps55
  go_wp2_with fail
  generalize (((w.alloc (.cells #[.bool false, .slice A n c] 24)).alloc (.cells #[.bool true, .slice B m k] 24)).alloc (.cells #[.bool false, .slice none 0 0, .slice none 0 0] 26)) = w2 at *
  have pc0 := Lib.hid trivial
  go_wp2_with (first
    | (clear pc0; go_at_call 32; refine Calls.mono (sign_k (r := (-1)) HY.out SY.out) ?_; rintro e w3 ⟨rfl, hb⟩; replace V0 := Lib.hid (V0.out.below hb V0.out.lt); replace V1 := Lib.hid (V1.out.below hb V1.out.lt); replace V2 := Lib.hid (V2.out.below hb V2.out.lt); replace HX := Lib.hid (HX.out.below hb); replace HY := Lib.hid (HY.out.below hb); replace HQ := Lib.hid (HQ.out.below hb); replace HZI := Lib.hid (HZI.out.below hb); replace B1 := Lib.hid (B1.out.trans (hb.mono B1.out.size)); clear hb; have pc1 := Lib.hid trivial)
    | (clear pc1; refine wpList_ldZs (by rfl) _ rfl (by rfl) V0.out ?_; have pc2 := Lib.hid trivial)
    | (clear pc2; refine wpList_ldZs (by rfl) _ rfl (by rfl) V1.out ?_; have pc3 := Lib.hid trivial)
    | (clear pc3; refine wpList_stZs (by rfl) _ _ rfl (by rfl) (by rfl) V0.out ?_; intro w4 hz hg; replace V1 := Lib.hid (V1.out.gr hg (by omega)); replace V2 := Lib.hid (V2.out.gro hg (by omega)); replace HX := Lib.hid (HX.out.gr V0.out hg); replace HY := Lib.hid (HY.out.gr V0.out hg); replace HQ := Lib.hid (HQ.out.gr V0.out hg); replace HZI := Lib.hid (HZI.out.gr V0.out hg); replace B1 := Lib.hid (Below.gr B1.out (by omega) hg B1.out.size); replace V0 := Lib.hid hz; clear hz hg; have pc4 := Lib.hid trivial)
    | (clear pc4; refine wpList_ldZ (by rfl) _ rfl (by rfl) V0.out ?_; have pc5 := Lib.hid trivial)
    | (clear pc5; refine wpList_ldZm (by rfl) _ rfl (by rfl) V1.out ?_; have pc6 := Lib.hid trivial)
    | (clear pc6; have SZ := Lib.hid B1.out.size; go_at_call 74; refine Calls.mono (lowest_any HZI.out HQ.out PP.out LN.out LM.out HZ.out HD.out) ?_; rintro e w5 ⟨P1, c1, P2, c2, rfl, ho, ho2, hb⟩; replace V0 := Lib.hid (V0.out.below hb V0.out.lt); replace V1 := Lib.hid (V1.out.below hb V1.out.lt); replace V2 := Lib.hid (V2.out.below hb V2.out.lt); replace HX := Lib.hid (HX.out.below hb); replace HY := Lib.hid (HY.out.below hb); replace HQ := Lib.hid (HQ.out.below hb); replace HZI := Lib.hid (HZI.out.below hb); replace B1 := Lib.hid (B1.out.trans (hb.mono B1.out.size)); have OQ := Lib.hid (ho.mono SZ.out); have OD := Lib.hid (ho2.mono SZ.out); clear ho ho2 SZ; clear hb; have pc7 := Lib.hid trivial)
    | (clear pc7; refine wpList_stR (by rfl) _ _ rfl (by rfl) (by rfl) V2.out ?_; intro w6 hz hg; replace V0 := Lib.hid (V0.out.gr hg (by omega)); replace V1 := Lib.hid (V1.out.gr hg (by omega)); replace HX := Lib.hid (HX.out.grR V2.out hg); replace HY := Lib.hid (HY.out.grR V2.out hg); replace HQ := Lib.hid (HQ.out.grR V2.out hg); replace HZI := Lib.hid (HZI.out.grR V2.out hg); replace OQ := Lib.hid (OQ.out.grR V2.out hg); replace OD := Lib.hid (OD.out.grR V2.out hg); replace B1 := Lib.hid (Below.gr B1.out (by omega) hg B1.out.size); replace V2 := Lib.hid hz; clear hz hg; have pc8 := Lib.hid trivial))
  clear pc8
  exact ret_rb2 Tryz.results55 rfl rfl rfl V2.out ⟨_, _, _, _, rfl, OQ.out, OD.out, B1.out⟩
set_option maxRecDepth 100000 in
set_option maxHeartbeats 16000000 in
theorem new_t_f {A B : Option Addr} {n c m k : Nat} {x y z : Int} {d : Nat} {w : World} (h : Zin w true A n c x) (h' : Zin w false B m k y) (hn : n ≤ 70368744177660) (hm : m ≤ 70368744177660) (hy : y ≠ 0) (hz : (Rat.divInt x y).num = z) (hd : (Rat.divInt x y).den = d) :
    Calls Tryz.prog 55 #[.agg #[.bool true, .slice A n c], .agg #[.bool false, .slice B m k]] w (GivesRT w z d) := by
  obtain ⟨B1, V0, V1, V2⟩ := start_ZZR w true A n c false B m k
  have HX := Lib.hid (h.below B1.out)
  have HY := Lib.hid (h'.below B1.out)
  have LN := Lib.hid hn
  have LM := Lib.hid hm
  have LM2 : Hid (m ≤ 70368744177664) := Nat.le_trans hm (by decide)
  obtain ⟨ys, hr, hl, ey⟩ := h'
  have hp : 0 < val ys := by
    rcases Nat.eq_zero_or_pos (val ys) with e | e
    · rw [e] at ey; exact absurd (by rw [← ey]; simp [zv]) hy
    · exact e
  have HQ : Hid (Nin w B m k (val ys)) := ⟨ys, hr, hl, rfl⟩
  replace HQ := Lib.hid (HQ.out.below B1.out)
  have PP := Lib.hid hp
  have SY : Hid (sg y = 1) := by
    show _ = _
    rw [← ey]
    unfold sg zv
    simp
    try omega
  have ED : Rat.divInt x y = mkRat (x) (val ys) := by
    rw [← ey]
    exact Rat.divInt_ofNat x (val ys)
  have HZ : Hid ((mkRat (x) (val ys)).num = z) := by show _ = _; rw [← ED]; exact hz
  have HD : Hid ((mkRat (x) (val ys)).den = d) := by show _ = _; rw [← ED]; exact hd
  have HZI : Hid (Zin w true A n c (x)) := h
  replace HZI := Lib.hid (HZI.out.below B1.out)
  generalize val ys = p at *
  clear h hr hl ey hp ED hz hd hy hn hm
  go_enter Tryz.func55, Tryz.ntmps55
  go_wp2_with fail
  generalize (((w.alloc (.cells #[.bool true, .slice A n c] 24)).alloc (.cells #[.bool false, .slice B m k] 24)).alloc (.cells #[.bool false, .slice none 0 0, .slice none 0 0] 26)) = w2 at *
  have pc0 := Lib.hid trivial
  go_wp2_with (first
    | (clear pc0; go_at_call 32; refine Calls.mono (sign_k (r := 1) HY.out SY.out) ?_; rintro e w3 ⟨rfl, hb⟩; replace V0 := Lib.hid (V0.out.below hb V0.out.lt); replace V1 := Lib.hid (V1.out.below hb V1.out.lt); replace V2 := Lib.hid (V2.out.below hb V2.out.lt); replace HX := Lib.hid (HX.out.below hb); replace HY := Lib.hid (HY.out.below hb); replace HQ := Lib.hid (HQ.out.below hb); replace HZI := Lib.hid (HZI.out.below hb); replace B1 := Lib.hid (B1.out.trans (hb.mono B1.out.size)); clear hb; have pc1 := Lib.hid trivial)
    | (clear pc1; refine wpList_ldZs (by rfl) _ rfl (by rfl) V0.out ?_; have pc2 := Lib.hid trivial)
    | (clear pc2; refine wpList_ldZs (by rfl) _ rfl (by rfl) V1.out ?_; have pc3 := Lib.hid trivial)
    | (clear pc3; refine wpList_stZs (by rfl) _ _ rfl (by rfl) (by rfl) V0.out ?_; intro w4 hz hg; replace V1 := Lib.hid (V1.out.gr hg (by omega)); replace V2 := Lib.hid (V2.out.gro hg (by omega)); replace HX := Lib.hid (HX.out.gr V0.out hg); replace HY := Lib.hid (HY.out.gr V0.out hg); replace HQ := Lib.hid (HQ.out.gr V0.out hg); replace HZI := Lib.hid (HZI.out.gr V0.out hg); replace B1 := Lib.hid (Below.gr B1.out (by omega) hg B1.out.size); replace V0 := Lib.hid hz; clear hz hg; have pc4 := Lib.hid trivial)
    | (clear pc4; refine wpList_ldZ (by rfl) _ rfl (by rfl) V0.out ?_; have pc5 := Lib.hid trivial)
    | (clear pc5; refine wpList_ldZm (by rfl) _ rfl (by rfl) V1.out ?_; have pc6 := Lib.hid trivial)
    | (clear pc6; have SZ := Lib.hid B1.out.size; go_at_call 74; refine Calls.mono (lowest_any HZI.out HQ.out PP.out LN.out LM.out HZ.out HD.out) ?_; rintro e w5 ⟨P1, c1, P2, c2, rfl, ho, ho2, hb⟩; replace V0 := Lib.hid (V0.out.below hb V0.out.lt); replace V1 := Lib.hid (V1.out.below hb V1.out.lt); replace V2 := Lib.hid (V2.out.below hb V2.out.lt); replace HX := Lib.hid (HX.out.below hb); replace HY := Lib.hid (HY.out.below hb); replace HQ := Lib.hid (HQ.out.below hb); replace HZI := Lib.hid (HZI.out.below hb); replace B1 := Lib.hid (B1.out.trans (hb.mono B1.out.size)); have OQ := Lib.hid (ho.mono SZ.out); have OD := Lib.hid (ho2.mono SZ.out); clear ho ho2 SZ; clear hb; have pc7 := Lib.hid trivial)
    | (clear pc7; refine wpList_stR (by rfl) _ _ rfl (by rfl) (by rfl) V2.out ?_; intro w6 hz hg; replace V0 := Lib.hid (V0.out.gr hg (by omega)); replace V1 := Lib.hid (V1.out.gr hg (by omega)); replace HX := Lib.hid (HX.out.grR V2.out hg); replace HY := Lib.hid (HY.out.grR V2.out hg); replace HQ := Lib.hid (HQ.out.grR V2.out hg); replace HZI := Lib.hid (HZI.out.grR V2.out hg); replace OQ := Lib.hid (OQ.out.grR V2.out hg); replace OD := Lib.hid (OD.out.grR V2.out hg); replace B1 := Lib.hid (Below.gr B1.out (by omega) hg B1.out.size); replace V2 := Lib.hid hz; clear hz hg; have pc8 := Lib.hid trivial))
  clear pc8
  exact ret_rb2 Tryz.results55 rfl rfl rfl V2.out ⟨_, _, _, _, rfl, OQ.out, OD.out, B1.out⟩
set_option maxRecDepth 100000 in
set_option maxHeartbeats 16000000 in
theorem new_t_t {A B : Option Addr} {n c m k : Nat} {x y z : Int} {d : Nat} {w : World} (h : Zin w true A n c x) (h' : Zin w true B m k y) (hn : n ≤ 70368744177660) (hm : m ≤ 70368744177660) (hy : y ≠ 0) (hz : (Rat.divInt x y).num = z) (hd : (Rat.divInt x y).den = d) :
    Calls Tryz.prog 55 #[.agg #[.bool true, .slice A n c], .agg #[.bool true, .slice B m k]] w (GivesRT w z d) := by
  obtain ⟨B1, V0, V1, V2⟩ := start_ZZR w true A n c true B m k
  have HX := Lib.hid (h.below B1.out)
  have HY := Lib.hid (h'.below B1.out)
  have LN := Lib.hid hn
  have LM := Lib.hid hm
  have LM2 : Hid (m ≤ 70368744177664) := Nat.le_trans hm (by decide)
  obtain ⟨ys, hr, hl, ey⟩ := h'
  have hp : 0 < val ys := by
    rcases Nat.eq_zero_or_pos (val ys) with e | e
    · rw [e] at ey; exact absurd (by rw [← ey]; simp [zv]) hy
    · exact e
  have HQ : Hid (Nin w B m k (val ys)) := ⟨ys, hr, hl, rfl⟩
  replace HQ := Lib.hid (HQ.out.below B1.out)
  have PP := Lib.hid hp
  have SY : Hid (sg y = -1) := by
    show _ = _
    rw [← ey]
    unfold sg zv
    simp
    try omega
  have ED : Rat.divInt x y = mkRat (-x) (val ys) := by
    rw [← ey]
    show Rat.divInt x (-(val ys : Int)) = _; rw [Rat.divInt_neg']; exact Rat.divInt_ofNat (-x) (val ys)
  have HZ : Hid ((mkRat (-x) (val ys)).num = z) := by show _ = _; rw [← ED]; exact hz
  have HD : Hid ((mkRat (-x) (val ys)).den = d) := by show _ = _; rw [← ED]; exact hd
  have HZI : Hid (Zin w false A n c (-x)) := by have := h.flip (t := false) rfl (rfl : -x = -x); exact this
  replace HZI := Lib.hid (HZI.out.below B1.out)
  generalize val ys = p at *
  clear h hr hl ey hp ED hz hd hy hn hm
  go_enter Tryz.func55, Tryz.ntmps55
  go_wp2_with fail
  generalize (((w.alloc (.cells #[.bool true, .slice A n c] 24)).alloc (.cells #[.bool true, .slice B m k] 24)).alloc (.cells #[.bool false, .slice none 0 0, .slice none 0 0] 26)) = w2 at *
  have pc0 := Lib.hid trivial
  go_wp2_with (first
    | (clear pc0; go_at_call 32; refine Calls.mono (sign_k (r := (-1)) HY.out SY.out) ?_; rintro e w3 ⟨rfl, hb⟩; replace V0 := Lib.hid (V0.out.below hb V0.out.lt); replace V1 := Lib.hid (V1.out.below hb V1.out.lt); replace V2 := Lib.hid (V2.out.below hb V2.out.lt); replace HX := Lib.hid (HX.out.below hb); replace HY := Lib.hid (HY.out.below hb); replace HQ := Lib.hid (HQ.out.below hb); replace HZI := Lib.hid (HZI.out.below hb); replace B1 := Lib.hid (B1.out.trans (hb.mono B1.out.size)); clear hb; have pc1 := Lib.hid trivial)
    | (clear pc1; refine wpList_ldZs (by rfl) _ rfl (by rfl) V0.out ?_; have pc2 := Lib.hid trivial)
    | (clear pc2; refine wpList_ldZs (by rfl) _ rfl (by rfl) V1.out ?_; have pc3 := Lib.hid trivial)
    | (clear pc3; refine wpList_stZs (by rfl) _ _ rfl (by rfl) (by rfl) V0.out ?_; intro w4 hz hg; replace V1 := Lib.hid (V1.out.gr hg (by omega)); replace V2 := Lib.hid (V2.out.gro hg (by omega)); replace HX := Lib.hid (HX.out.gr V0.out hg); replace HY := Lib.hid (HY.out.gr V0.out hg); replace HQ := Lib.hid (HQ.out.gr V0.out hg); replace HZI := Lib.hid (HZI.out.gr V0.out hg); replace B1 := Lib.hid (Below.gr B1.out (by omega) hg B1.out.size); replace V0 := Lib.hid hz; clear hz hg; have pc4 := Lib.hid trivial)
    | (clear pc4; refine wpList_ldZ (by rfl) _ rfl (by rfl) V0.out ?_; have pc5 := Lib.hid trivial)
    | (clear pc5; refine wpList_ldZm (by rfl) _ rfl (by rfl) V1.out ?_; have pc6 := Lib.hid trivial)
    | (clear pc6; have SZ := Lib.hid B1.out.size; go_at_call 74; refine Calls.mono (lowest_any HZI.out HQ.out PP.out LN.out LM.out HZ.out HD.out) ?_; rintro e w5 ⟨P1, c1, P2, c2, rfl, ho, ho2, hb⟩; replace V0 := Lib.hid (V0.out.below hb V0.out.lt); replace V1 := Lib.hid (V1.out.below hb V1.out.lt); replace V2 := Lib.hid (V2.out.below hb V2.out.lt); replace HX := Lib.hid (HX.out.below hb); replace HY := Lib.hid (HY.out.below hb); replace HQ := Lib.hid (HQ.out.below hb); replace HZI := Lib.hid (HZI.out.below hb); replace B1 := Lib.hid (B1.out.trans (hb.mono B1.out.size)); have OQ := Lib.hid (ho.mono SZ.out); have OD := Lib.hid (ho2.mono SZ.out); clear ho ho2 SZ; clear hb; have pc7 := Lib.hid trivial)
    | (clear pc7; refine wpList_stR (by rfl) _ _ rfl (by rfl) (by rfl) V2.out ?_; intro w6 hz hg; replace V0 := Lib.hid (V0.out.gr hg (by omega)); replace V1 := Lib.hid (V1.out.gr hg (by omega)); replace HX := Lib.hid (HX.out.grR V2.out hg); replace HY := Lib.hid (HY.out.grR V2.out hg); replace HQ := Lib.hid (HQ.out.grR V2.out hg); replace HZI := Lib.hid (HZI.out.grR V2.out hg); replace OQ := Lib.hid (OQ.out.grR V2.out hg); replace OD := Lib.hid (OD.out.grR V2.out hg); replace B1 := Lib.hid (Below.gr B1.out (by omega) hg B1.out.size); replace V2 := Lib.hid hz; clear hz hg; have pc8 := Lib.hid trivial))
  clear pc8
  exact ret_rb2 Tryz.results55 rfl rfl rfl V2.out ⟨_, _, _, _, rfl, OQ.out, OD.out, B1.out⟩
theorem new_any {s t : Bool} {A B : Option Addr} {n c m k : Nat} {x y : Int} {w : World} (h : Zin w s A n c x) (h' : Zin w t B m k y) (hn : n ≤ 70368744177660) (hm : m ≤ 70368744177660) {z : Int} {d : Nat} (hy : y ≠ 0) (hz : (Rat.divInt x y).num = z) (hd : (Rat.divInt x y).den = d) :
    Calls Tryz.prog 55 #[.agg #[.bool s, .slice A n c], .agg #[.bool t, .slice B m k]] w (GivesRT w z d) := by
  cases s <;> cases t
  · exact new_f_f h h' hn hm hy hz hd
  · exact new_f_t h h' hn hm hy hz hd
  · exact new_t_f h h' hn hm hy hz hd
  · exact new_t_t h h' hn hm hy hz hd
end Go.Proofs.YtebpoabflcngoaaGreatDoor
