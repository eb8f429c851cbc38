/-
  Contracts of package approx: the small functions.
-/
import Derived.Test.YtfmgbfdnmconiaaGreatApb
import Derived.Test.YtfmgbfdnmconiaaGreatApm
import Derived.Test.YtfmgbfdnmconiaaGreatRgz
import Derived.Test.YtfmgbfdnmconiaaGreatZtri
namespace Go.Proofs.YtfmgbfdnmconiaaGreat
open Go.RowKit
set_option linter.unusedVariables false

section
variable {w w' : World} {g : Nat}
/-- An expansion in memory: X / Y. -/
def Ex (w : World) (g : Nat) (X Y : Int) (L : Nat) : Prop := ∃ s A n c t B m d, Eb w g s A n c t B m d ∧ Zin w s A n c X ∧ Zin w t B m d Y ∧ n ≤ L ∧ m ≤ L
/-- A convergent in memory. -/
def Cx (w : World) (g : Nat) (p q o r : Int) : Prop :=
  ∃ P cp Q cq O co R cr, Vb w g (decide (p < 0)) P (ofv p.natAbs).length cp (decide (q < 0)) Q (ofv q.natAbs).length cq (decide (o < 0)) O (ofv o.natAbs).length co (decide (r < 0)) R (ofv r.natAbs).length cr ∧ Zo w P cp p ∧ Zo w Q cq q ∧ Zo w O co o ∧ Zo w R cr r
variable {X Y p q o r : Int} {L : Nat}
theorem Ex.bx (h : Ex w g X Y L) : Bx w g := by obtain ⟨s, A, n, c, t, B, m, d, h, _⟩ := h; exact h.bx
theorem Cx.bx (h : Cx w g p q o r) : Bx w g := by obtain ⟨P, cp, Q, cq, O, co, R, cr, h, _⟩ := h; exact h.bx
theorem Ex.lt (h : Ex w g X Y L) : g < w.heap.size := h.bx.lt
theorem Cx.lt (h : Cx w g p q o r) : g < w.heap.size := h.bx.lt
theorem Ex.below (h : Ex w g X Y L) (hb : Below w.heap.size w w') : Ex w' g X Y L := by
  obtain ⟨s, A, n, c, t, B, m, d, h, h1, h2, h3⟩ := h
  exact ⟨s, A, n, c, t, B, m, d, h.below hb h.lt, h1.below hb, h2.below hb, h3⟩
theorem Cx.below (h : Cx w g p q o r) (hb : Below w.heap.size w w') : Cx w' g p q o r := by
  obtain ⟨P, cp, Q, cq, O, co, R, cr, h, h1, h2, h3, h4⟩ := h
  exact ⟨P, cp, Q, cq, O, co, R, cr, h.below hb h.lt, h1.below hb, h2.below hb, h3.below hb, h4.below hb⟩
theorem Ex.gr {g' : Nat} (h : Ex w g X Y L) (hg : w.grownBy w' (some g')) (ne : g ≠ g') (bx : Bx w g') : Ex w' g X Y L := by
  obtain ⟨s, A, n, c, t, B, m, d, h, h1, h2, h3⟩ := h
  exact ⟨s, A, n, c, t, B, m, d, h.gro hg ne, h1.grB bx hg, h2.grB bx hg, h3⟩
theorem Cx.gr {g' : Nat} (h : Cx w g p q o r) (hg : w.grownBy w' (some g')) (ne : g ≠ g') (bx : Bx w g') : Cx w' g p q o r := by
  obtain ⟨P, cp, Q, cq, O, co, R, cr, h, h1, h2, h3, h4⟩ := h
  exact ⟨P, cp, Q, cq, O, co, R, cr, h.gro hg ne, h1.grB bx hg, h2.grB bx hg, h3.grB bx hg, h4.grB bx hg⟩
end
/-- The four numbers of a convergent, as a value. -/
def GivesC (w : World) (p q o r : Int) (e : Ending) (w' : World) : Prop :=
  ∃ P cp Q cq O co R cr, e = .returned (.agg #[.bool (decide (p < 0)), .slice P (ofv p.natAbs).length cp, .bool (decide (q < 0)), .slice Q (ofv q.natAbs).length cq, .bool (decide (o < 0)), .slice O (ofv o.natAbs).length co, .bool (decide (r < 0)), .slice R (ofv r.natAbs).length cr]) ∧ Zo w' P cp p ∧ Zo w' Q cq q ∧ Zo w' O co o ∧ Zo w' R cr r ∧ Below w.heap.size w w'
/-- A canonical integer that can be read. -/
def GivesO (w : World) (z : Int) (e : Ending) (w' : World) : Prop :=
  ∃ P c, e = .returned (.agg #[.bool (decide (z < 0)), .slice P (ofv z.natAbs).length c]) ∧ Zo w' P c z ∧ Below w.heap.size w w'
theorem ret_eb {fn : Func} {R : Ending → World → Prop} {a : Act} {w : World} {j g n c m d : Nat} {s t : Bool} {A B : Option Addr} (hf : fn.results = #[.cell j 62]) (hd : a.defers = [])
    (hk : (a.tmps[j]?).getD undef = .pointer (some ⟨g, 0, none⟩)) (h : Eb w g s A n c t B m d) (hR : R (.returned (.agg #[.bool s, .slice A n c, .bool t, .slice B m d])) w) : bodyPost Tryz.prog fn R .ret a w := by
  have z1 := cell_of_row w g 0 _ _ _ h
  have z2 := cell_of_row w g 1 _ _ _ h
  have z3 := cell_of_row w g 2 _ _ _ h
  have z4 := cell_of_row w g 3 _ _ _ h
  exact bodyPost_ret_by (v := .agg #[.bool s, .slice A n c, .bool t, .slice B m d]) (by simp [results, hf, go_sem, hk, z1, z2, z3, z4]) hd hR
theorem ret_vb {fn : Func} {R : Ending → World → Prop} {a : Act} {w : World} {j g n c m d n2 c2 m2 d2 : Nat} {s t s2 t2 : Bool} {A B A2 B2 : Option Addr} (hf : fn.results = #[.cell j 111]) (hd : a.defers = [])
    (hk : (a.tmps[j]?).getD undef = .pointer (some ⟨g, 0, none⟩)) (h : Vb w g s A n c t B m d s2 A2 n2 c2 t2 B2 m2 d2) (hR : R (.returned (.agg #[.bool s, .slice A n c, .bool t, .slice B m d, .bool s2, .slice A2 n2 c2, .bool t2, .slice B2 m2 d2])) w) : bodyPost Tryz.prog fn R .ret a w := by
  have z1 := cell_of_row w g 0 _ _ _ h
  have z2 := cell_of_row w g 1 _ _ _ h
  have z3 := cell_of_row w g 2 _ _ _ h
  have z4 := cell_of_row w g 3 _ _ _ h
  have z5 := cell_of_row w g 4 _ _ _ h
  have z6 := cell_of_row w g 5 _ _ _ h
  have z7 := cell_of_row w g 6 _ _ _ h
  have z8 := cell_of_row w g 7 _ _ _ h
  exact bodyPost_ret_by (v := .agg #[.bool s, .slice A n c, .bool t, .slice B m d, .bool s2, .slice A2 n2 c2, .bool t2, .slice B2 m2 d2]) (by simp [results, hf, go_sem, hk, z1, z2, z3, z4, z5, z6, z7, z8]) hd hR
theorem second_Z (w : World) (ob : Obj) (s : Bool) (A : Option Addr) (n c : Nat) : Zb ((w.alloc ob).alloc (.cells #[.bool s, .slice A n c] 24)) (w.heap.size + 1) s A n c := by
  have := Zb.new (w.alloc ob) s A n c
  simp only [World.size_alloc] at this
  exact this
theorem denominator_any (s : Bool) (A : Option Addr) (n c : Nat) (D : Option Addr) (m k : Nat) (w : World) :
    Calls Tryz.prog 92 #[.agg #[.bool s, .slice A n c, .slice D m k]] w fun e w' => e = .returned (.agg #[.bool false, .slice D m k]) ∧ Below w.heap.size w w' := by
  go_enter Tryz.func92, Tryz.ntmps92
  go_wp2
  exact ret_zb Tryz.results92 rfl rfl (second_Z w _ false D m k) ⟨rfl, ((Below.refl _ _).alloc (Nat.le_refl _) _).alloc (by simp) _⟩
theorem start_RE (w : World) (s0 : Bool) (A0 : Option Addr) (n0 c0 : Nat) (D0 : Option Addr) (m0 k0 : Nat) :
    Hid (Below w.heap.size w ((w.alloc (.cells #[.bool s0, .slice A0 n0 c0, .slice D0 m0 k0] 26)).alloc (.cells #[.bool false, .slice none 0 0, .bool false, .slice none 0 0] 62))) ∧ Hid (Rb ((w.alloc (.cells #[.bool s0, .slice A0 n0 c0, .slice D0 m0 k0] 26)).alloc (.cells #[.bool false, .slice none 0 0, .bool false, .slice none 0 0] 62)) (w.heap.size) s0 A0 n0 c0 D0 m0 k0) ∧ Hid (Eb ((w.alloc (.cells #[.bool s0, .slice A0 n0 c0, .slice D0 m0 k0] 26)).alloc (.cells #[.bool false, .slice none 0 0, .bool false, .slice none 0 0] 62)) (w.heap.size + 1) false none 0 0 false none 0 0) := by
  refine ⟨?_, ?_, ?_⟩
  · exact (((Below.refl _ _).alloc (by first | exact Nat.le_refl _ | (simp; done) | (simp; omega)) _).alloc (by first | exact Nat.le_refl _ | (simp; done) | (simp; omega)) _)
  · have := Rb.new w s0 A0 n0 c0 D0 m0 k0
    exact (this.alloc _)
  · have := Eb.new (w.alloc (.cells #[.bool s0, .slice A0 n0 c0, .slice D0 m0 k0] 26)) false none 0 0 false none 0 0
    simp only [World.size_alloc] at this
    exact this
set_option maxRecDepth 100000 in
set_option maxHeartbeats 16000000 in
theorem expand_any (s : Bool) (A : Option Addr) (n c : Nat) (D : Option Addr) (m k : Nat) (w : World) :
    Calls Tryz.prog 44 #[.agg #[.bool s, .slice A n c, .slice D m k]] w fun e w' => e = .returned (.agg #[.bool s, .slice A n c, .bool false, .slice D m k]) ∧ Below w.heap.size w w' := by
  obtain ⟨B1, V0, V1⟩ := start_RE w s A n c D m k
  go_enter Tryz.func44, Tryz.ntmps44
  go_wp2_with fail
  generalize ((w.alloc (.cells #[.bool s, .slice A n c, .slice D m k] 26)).alloc (.cells #[.bool false, .slice none 0 0, .bool false, .slice none 0 0] 62)) = w2 at *
  have HB : Hid (Below w2.heap.size w2 w2.drew) := below_drewN _ w2 1
  refine wp_region_held_drew (S := fun w' => w2.grownBy w' (some (w.heap.size + 1))) (by kernel_rfl) ((grown_below HB.out : World.grownBy _ _ (some (w.heap.size + 1)))) (fun hHeld => ?_)
  refine wpAnyH_takeL (i := 0) (oi := _) (v := ?_) rfl (by kernel_rfl) (by kernel_rfl) (by kernel_rfl) (fun _ _ _ h => h) (Or.inl ⟨by rfl, ?_⟩) hHeld ?_
  rotate_left
  · (intro w' hSw; (try dsimp only at hSw); go_simp; try (with_reducible rfl))
  try simp only [Act.put, List.setIfInBounds_toArray, List.set_cons_zero, List.set_cons_succ]
  refine wpAnyH_takeL (i := 1) (oi := _) rfl (by kernel_rfl) (by kernel_rfl) (by kernel_rfl) (fun _ _ _ h => h) (yields_ldRz (by rfl) _ rfl (by rfl) (fun _ hb => V0.out.gro hb (by omega))) hHeld ?_
  try simp only [Act.put, List.setIfInBounds_toArray, List.set_cons_zero, List.set_cons_succ]
  refine wpAnyH_takeL (i := 2) (oi := _) rfl (by kernel_rfl) (by kernel_rfl) (by kernel_rfl) (fun _ _ _ h => h) (yields_ldR (by rfl) _ rfl (by rfl) (fun _ hb => V0.out.gro hb (by omega))) hHeld ?_
  try simp only [Act.put, List.setIfInBounds_toArray, List.set_cons_zero, List.set_cons_succ]
  refine wpAnyH_ready (rs := [3]) (by kernel_rfl) (by simp) ?_
  refine AllReadyH.consL (o := _) rfl (fun K hK => ?_) AllReadyH.nil
  clear hHeld
  go_simp
  go_at_call 92
  refine Calls.mono (denominator_any _ _ _ _ _ _ _ _) ?_
  rintro e wa ⟨rfl, hb⟩
  replace HB := Lib.hid (HB.out.trans (hb.mono HB.out.size))
  clear hb
  refine hK.out _ _ (grown_below HB.out : World.grownBy _ _ (some (w.heap.size + 1))) (fun hHeld => ?_)
  clear hK K
  try simp only [Act.put, List.setIfInBounds_toArray, List.set_cons_zero, List.set_cons_succ]
  refine wpAnyH_takeL (i := 4) (oi := _) (v := ?_) rfl (by kernel_rfl) (by kernel_rfl) (by kernel_rfl) (fun _ _ _ h => h) (Or.inl ⟨by rfl, ?_⟩) hHeld ?_
  rotate_left
  · (intro w' hSw; (try dsimp only at hSw); go_simp; try (with_reducible rfl))
  try simp only [Act.put, List.setIfInBounds_toArray, List.set_cons_zero, List.set_cons_succ]
  refine wpAnyH_ready (rs := [5]) (by kernel_rfl) (by simp) ?_
  refine AllReadyH.consL (o := _) rfl (fun K hK => ?_) AllReadyH.nil
  clear hHeld
  have hb := HB.out
  replace V0 := Lib.hid (V0.out.below hb V0.out.lt)
  replace V1 := Lib.hid (V1.out.below hb V1.out.lt)
  replace B1 := Lib.hid (B1.out.trans (hb.mono B1.out.size))
  rw [if_pos (by rfl)]
  refine wp_stE _ _ rfl (by rfl) (by rfl) V1.out ?_
  intro wst hz hg
  have bx := V1.out.bx
  replace V0 := Lib.hid (V0.out.gro hg (by omega))
  replace B1 := Lib.hid (Below.gr B1.out (by omega) hg B1.out.size)
  clear bx
  replace V1 := Lib.hid hz
  refine hK.out _ _ (World.grownBy.trans (grown_below hb) hg) (fun hHeld => ?_)
  clear hK K hg hb HB hz
  try simp only [Act.put]
  skip
  refine wpAnyH_done (by kernel_rfl) ?_ _
  clear hHeld
  go_wp2
  exact ret_eb Tryz.results44 rfl rfl V1.out ⟨rfl, B1.out⟩
set_option maxRecDepth 100000 in
set_option maxHeartbeats 16000000 in
theorem isOver_any {g : Nat} {X Y : Int} {L : Nat} {b : Bool} {w : World} (h : Ex w g X Y L) (hb : decide (Y = 0) = b) :
    Calls Tryz.prog 45 #[.pointer (some ⟨g, 0, none⟩)] w fun e w' => e = .returned (.bool b) ∧ Below w.heap.size w w' := by
  obtain ⟨s, A, n, c, t, B, m, d, he, h1, h2, h3⟩ := h
  have V0 := Lib.hid he
  have HY := Lib.hid h2
  obtain ⟨v, hv⟩ : ∃ v, sg Y = v := ⟨_, rfl⟩
  have HV := Lib.hid hv
  have EB : (v == 0) = b := by rw [← hb, ← hv]; unfold sg; split <;> (try split) <;> simp <;> omega
  clear h1 h2 h3 he hv hb
  go_enter Tryz.func45, Tryz.ntmps45
  have pc0 := Lib.hid trivial
  go_wp2_with (first
    | (clear pc0; refine wpList_ldE1 (by rfl) _ rfl (by rfl) V0.out ?_; have pc1 := Lib.hid trivial)
    | (clear pc1; go_at_call 49; refine Calls.mono (sign_k (r := v) HY.out HV.out) ?_; rintro e wa ⟨rfl, hb⟩; have BW := Lib.hid hb; clear hb; have pc2 := Lib.hid trivial))
  clear pc2
  go_ret
  exact ⟨rfl, BW.out⟩
theorem start_ZZ0 (w : World) (s0 : Bool) (A0 : Option Addr) (n0 c0 : Nat) :
    Hid (Below w.heap.size w ((w.alloc (.cells #[.bool s0, .slice A0 n0 c0] 24)).alloc (.cells #[.bool false, .slice none 0 0] 24))) ∧ Hid (Zb ((w.alloc (.cells #[.bool s0, .slice A0 n0 c0] 24)).alloc (.cells #[.bool false, .slice none 0 0] 24)) (w.heap.size) s0 A0 n0 c0) ∧ Hid (Zb ((w.alloc (.cells #[.bool s0, .slice A0 n0 c0] 24)).alloc (.cells #[.bool false, .slice none 0 0] 24)) (w.heap.size + 1) false none 0 0) := by
  refine ⟨?_, ?_, ?_⟩
  · exact (((Below.refl _ _).alloc (by first | exact Nat.le_refl _ | (simp; done) | (simp; omega)) _).alloc (by first | exact Nat.le_refl _ | (simp; done) | (simp; omega)) _)
  · have := Zb.new w s0 A0 n0 c0
    exact (this.alloc _)
  · have := Zb.new (w.alloc (.cells #[.bool s0, .slice A0 n0 c0] 24)) false none 0 0
    simp only [World.size_alloc] at this
    exact this
set_option maxRecDepth 100000 in
set_option maxHeartbeats 16000000 in
theorem ceiling_any {g : Nat} {X Y t v : Int} {L : Nat} {P : Option Addr} {c : Nat} {w : World} (h : Ex w g X Y L) (ht : Zo w P c t) (hl : (ofv t.natAbs).length ≤ 70368744177660) (hv : (if Y = 0 then t else t + 1) = v) :
    Calls Tryz.prog 108 #[.pointer (some ⟨g, 0, none⟩), .agg #[.bool (decide (t < 0)), .slice P (ofv t.natAbs).length c]] w (GivesO w v) := by
  obtain ⟨B1, V0, V1⟩ := start_ZZ0 w (decide (t < 0)) P (ofv t.natAbs).length c
  have HE := Lib.hid (h.below B1.out)
  have HT := Lib.hid (ht.below B1.out)
  have HL := Lib.hid hl
  have GL : Hid (g < w.heap.size) := h.lt
  have HV := Lib.hid hv
  clear h ht hl hv
  go_enter Tryz.func108, Tryz.ntmps108
  go_wp2_with fail
  generalize ((w.alloc (.cells #[.bool (decide (t < 0)), .slice P (ofv t.natAbs).length c] 24)).alloc (.cells #[.bool false, .slice none 0 0] 24)) = w2 at *
  rcases Int.decEq Y 0 with hY | hY
  · have E1 : t + 1 = v := by have := HV.out; rw [if_neg hY] at this; exact this
    have EB := Lib.hid (show decide (Y = 0) = false by simpa using hY)
    have E1 := Lib.hid E1
    obtain ⟨one, e1⟩ : ∃ z0 : Int, (1 : Int) = z0 := ⟨_, rfl⟩
    have EO := Lib.hid e1
    have EV : Hid (t + one = v) := by show _ = _; rw [← e1]; exact E1.out
    have LO : Hid ((ofv one.natAbs).length ≤ 70368744177660) := by show _ ≤ _; rw [← e1, show (1 : Int).natAbs = 1 from rfl, o1]; decide
    clear hY e1
    have pc0 := Lib.hid trivial
    go_wp2_with (first
      | (clear pc0; go_at_call 45; refine Calls.mono (isOver_any (b := false) HE.out EB.out) ?_; rintro e wa ⟨rfl, hb⟩; replace V0 := Lib.hid (V0.out.below hb V0.out.lt); replace V1 := Lib.hid (V1.out.below hb V1.out.lt); replace HE := Lib.hid (HE.out.below hb); replace HT := Lib.hid (HT.out.below hb); replace B1 := Lib.hid (B1.out.trans (hb.mono B1.out.size)); clear hb; have pc1 := Lib.hid trivial))
    clear pc1
    have HB : Hid (Below wa.heap.size wa wa.drew) := below_drewN _ wa 1
    refine wp_region_held_drew (S := fun w' => wa.grownBy w' (some (w.heap.size + 1))) (by kernel_rfl) ((grown_below HB.out : World.grownBy _ _ (some (w.heap.size + 1)))) (fun hHeld => ?_)
    refine wpAnyH_takeL (i := 0) (oi := _) rfl (by kernel_rfl) (by kernel_rfl) (by kernel_rfl) (fun _ _ _ h => h) (yields_ldZ (by rfl) _ rfl (by rfl) (fun _ hb => V0.out.gr hb (by have := GL.out; omega))) hHeld ?_
    try simp only [Act.put, List.setIfInBounds_toArray, List.set_cons_zero, List.set_cons_succ]
    refine wpAnyH_ready (rs := [1]) (by kernel_rfl) (by simp) ?_
    refine AllReadyH.consL (o := _) rfl (fun K hK => ?_) AllReadyH.nil
    clear hHeld
    go_simp
    go_at_call 47
    refine Calls.mono (fromInt_z (v := 1) (z := one) (by decide) EO.out _) ?_
    rintro e wb ⟨P1, c1, rfl, ho, hb⟩
    replace HB := Lib.hid (HB.out.trans (hb.mono HB.out.size))
    have Z1 := Lib.hid (Zo.of_own ho)
    clear ho
    clear hb
    refine hK.out _ _ (grown_below HB.out : World.grownBy _ _ (some (w.heap.size + 1))) (fun hHeld => ?_)
    clear hK K
    try simp only [Act.put, List.setIfInBounds_toArray, List.set_cons_zero, List.set_cons_succ]
    refine wpAnyH_ready (rs := [2]) (by kernel_rfl) (by simp) ?_
    refine AllReadyH.consL (o := _) rfl (fun K hK => ?_) AllReadyH.nil
    clear hHeld
    go_simp
    go_at_call 50
    refine Calls.mono (add_z (x := t) (y := one) (z := v) (HT.out.below HB.out).in_ Z1.out.in_ (Nat.le_trans HL.out (by decide)) (Nat.le_trans LO.out (by decide)) EV.out) ?_
    rintro e wc ⟨P2, c2, rfl, ho, hb⟩
    replace HB := Lib.hid (HB.out.trans (hb.mono HB.out.size))
    have Z2 := Lib.hid (Zo.of_own ho)
    clear ho
    clear hb
    refine hK.out _ _ (grown_below HB.out : World.grownBy _ _ (some (w.heap.size + 1))) (fun hHeld => ?_)
    clear hK K
    try simp only [Act.put, List.setIfInBounds_toArray, List.set_cons_zero, List.set_cons_succ]
    refine wpAnyH_ready (rs := [3]) (by kernel_rfl) (by simp) ?_
    refine AllReadyH.consL (o := _) rfl (fun K hK => ?_) AllReadyH.nil
    clear hHeld
    have hb := HB.out
    replace V0 := Lib.hid (V0.out.below hb V0.out.lt)
    replace V1 := Lib.hid (V1.out.below hb V1.out.lt)
    replace HE := Lib.hid (HE.out.below hb)
    replace HT := Lib.hid (HT.out.below hb)
    replace B1 := Lib.hid (B1.out.trans (hb.mono B1.out.size))
    rw [if_pos (by rfl)]
    refine wp_stZ _ _ rfl (by rfl) (by rfl) V1.out ?_
    intro wst hz hg
    have bx := V1.out.bx
    replace V0 := Lib.hid (V0.out.gro hg (by have := GL.out; omega))
    replace HE := Lib.hid (HE.out.gr hg (by have := GL.out; omega) bx)
    replace HT := Lib.hid (HT.out.grB bx hg)
    replace Z2 := Lib.hid (Z2.out.grB bx hg)
    replace B1 := Lib.hid (Below.gr B1.out (by omega) hg B1.out.size)
    clear bx
    replace V1 := Lib.hid hz
    refine hK.out _ _ (World.grownBy.trans (grown_below hb) hg) (fun hHeld => ?_)
    clear hK K hg hb HB hz
    try simp only [Act.put]
    skip
    refine wpAnyH_done (by kernel_rfl) ?_ _
    clear hHeld
    go_wp2
    exact ret_zb Tryz.results108 rfl rfl V1.out ⟨_, _, rfl, Z2.out, B1.out⟩
  · have E1 : t = v := by have := HV.out; rw [if_pos hY] at this; exact this
    have EB := Lib.hid (show decide (Y = 0) = true by simpa using hY)
    subst E1
    clear hY
    have pc0 := Lib.hid trivial
    go_wp2_with (first
      | (clear pc0; go_at_call 45; refine Calls.mono (isOver_any (b := true) HE.out EB.out) ?_; rintro e wa ⟨rfl, hb⟩; replace V0 := Lib.hid (V0.out.below hb V0.out.lt); replace V1 := Lib.hid (V1.out.below hb V1.out.lt); replace HE := Lib.hid (HE.out.below hb); replace HT := Lib.hid (HT.out.below hb); replace B1 := Lib.hid (B1.out.trans (hb.mono B1.out.size)); clear hb; have pc1 := Lib.hid trivial)
      | (clear pc1; refine wpList_ldZ (by rfl) _ rfl (by rfl) V0.out ?_; have pc2 := Lib.hid trivial)
      | (clear pc2; refine wpList_stZ (by rfl) _ _ rfl (by rfl) (by rfl) V1.out ?_; intro wb hz hg; have bx := V1.out.bx; replace V0 := Lib.hid (V0.out.gro hg (by have := GL.out; omega)); replace HE := Lib.hid (HE.out.gr hg (by have := GL.out; omega) bx); replace HT := Lib.hid (HT.out.grB bx hg); replace B1 := Lib.hid (Below.gr B1.out (by omega) hg B1.out.size); clear bx; replace V1 := Lib.hid hz; clear hz hg; have pc3 := Lib.hid trivial))
    clear pc3
    exact ret_zb Tryz.results108 rfl rfl V1.out ⟨_, _, rfl, HT.out, B1.out⟩
theorem start_ZZZ0 (w : World) (s0 : Bool) (A0 : Option Addr) (n0 c0 : Nat) (s1 : Bool) (A1 : Option Addr) (n1 c1 : Nat) :
    Hid (Below w.heap.size w (((w.alloc (.cells #[.bool s0, .slice A0 n0 c0] 24)).alloc (.cells #[.bool s1, .slice A1 n1 c1] 24)).alloc (.cells #[.bool false, .slice none 0 0] 24))) ∧ Hid (Zb (((w.alloc (.cells #[.bool s0, .slice A0 n0 c0] 24)).alloc (.cells #[.bool s1, .slice A1 n1 c1] 24)).alloc (.cells #[.bool false, .slice none 0 0] 24)) (w.heap.size) s0 A0 n0 c0) ∧ Hid (Zb (((w.alloc (.cells #[.bool s0, .slice A0 n0 c0] 24)).alloc (.cells #[.bool s1, .slice A1 n1 c1] 24)).alloc (.cells #[.bool false, .slice none 0 0] 24)) (w.heap.size + 1) s1 A1 n1 c1) ∧ Hid (Zb (((w.alloc (.cells #[.bool s0, .slice A0 n0 c0] 24)).alloc (.cells #[.bool s1, .slice A1 n1 c1] 24)).alloc (.cells #[.bool false, .slice none 0 0] 24)) (w.heap.size + 2) false none 0 0) := by
  refine ⟨?_, ?_, ?_, ?_⟩
  · exact ((((Below.refl _ _).alloc (by first | exact Nat.le_refl _ | (simp; done) | (simp; omega)) _).alloc (by first | exact Nat.le_refl _ | (simp; done) | (simp; omega)) _).alloc (by first | exact Nat.le_refl _ | (simp; done) | (simp; omega)) _)
  · have := Zb.new w s0 A0 n0 c0
    exact ((this.alloc _).alloc _)
  · have := Zb.new (w.alloc (.cells #[.bool s0, .slice A0 n0 c0] 24)) s1 A1 n1 c1
    simp only [World.size_alloc] at this
    exact (this.alloc _)
  · have := Zb.new ((w.alloc (.cells #[.bool s0, .slice A0 n0 c0] 24)).alloc (.cells #[.bool s1, .slice A1 n1 c1] 24)) false none 0 0
    simp only [World.size_alloc] at this
    exact this
set_option maxRecDepth 100000 in
set_option maxHeartbeats 16000000 in
theorem lesser_any {x y v : Int} {P Q : Option Addr} {c d : Nat} {w : World} (h : Zo w P c x) (h' : Zo w Q d y) (hv : min x y = v) :
    Calls Tryz.prog 107 #[.agg #[.bool (decide (x < 0)), .slice P (ofv x.natAbs).length c], .agg #[.bool (decide (y < 0)), .slice Q (ofv y.natAbs).length d]] w (GivesO w v) := by
  obtain ⟨B1, V0, V1, V2⟩ := start_ZZZ0 w (decide (x < 0)) P (ofv x.natAbs).length c (decide (y < 0)) Q (ofv y.natAbs).length d
  have HX := Lib.hid (h.below B1.out)
  have HY := Lib.hid (h'.below B1.out)
  have HV := Lib.hid hv
  clear h h' hv
  go_enter Tryz.func107, Tryz.ntmps107
  go_wp2_with fail
  generalize (((w.alloc (.cells #[.bool (decide (x < 0)), .slice P (ofv x.natAbs).length c] 24)).alloc (.cells #[.bool (decide (y < 0)), .slice Q (ofv y.natAbs).length d] 24)).alloc (.cells #[.bool false, .slice none 0 0] 24)) = w2 at *
  rcases sg_cases (x - y) with ⟨hk, hxy⟩ | ⟨hk, hxy⟩ | ⟨hk, hxy⟩
  · have HK := Lib.hid hk
    have E1 : x = v := by have := HV.out; omega
    subst E1
    clear hk hxy
    have pc0 := Lib.hid trivial
    go_wp2_with (first
      | (clear pc0; go_at_call 105; refine Calls.mono (compare_k (r := (-1)) HX.out.in_ HY.out.in_ HK.out) ?_; rintro e wa ⟨rfl, hb⟩; replace V0 := Lib.hid (V0.out.below hb V0.out.lt); replace V1 := Lib.hid (V1.out.below hb V1.out.lt); replace V2 := Lib.hid (V2.out.below hb V2.out.lt); replace HX := Lib.hid (HX.out.below hb); replace HY := Lib.hid (HY.out.below hb); replace B1 := Lib.hid (B1.out.trans (hb.mono B1.out.size)); clear hb; have pc1 := Lib.hid trivial)
      | (clear pc1; refine wpList_ldZ (by rfl) _ rfl (by rfl) V0.out ?_; have pc2 := Lib.hid trivial)
      | (clear pc2; refine wpList_stZ (by rfl) _ _ rfl (by rfl) (by rfl) V2.out ?_; intro wb hz hg; have bx := V2.out.bx; replace V0 := Lib.hid (V0.out.gro hg (by omega)); replace V1 := Lib.hid (V1.out.gro hg (by omega)); replace HX := Lib.hid (HX.out.grB bx hg); replace HY := Lib.hid (HY.out.grB bx hg); replace B1 := Lib.hid (Below.gr B1.out (by omega) hg B1.out.size); clear bx; replace V2 := Lib.hid hz; clear hz hg; have pc3 := Lib.hid trivial))
    clear pc3
    exact ret_zb Tryz.results107 rfl rfl V2.out ⟨_, _, rfl, HX.out, B1.out⟩
  · have HK := Lib.hid hk
    have E1 : y = v := by have := HV.out; omega
    subst E1
    clear hk hxy
    have pc0 := Lib.hid trivial
    go_wp2_with (first
      | (clear pc0; go_at_call 105; refine Calls.mono (compare_k (r := 0) HX.out.in_ HY.out.in_ HK.out) ?_; rintro e wa ⟨rfl, hb⟩; replace V0 := Lib.hid (V0.out.below hb V0.out.lt); replace V1 := Lib.hid (V1.out.below hb V1.out.lt); replace V2 := Lib.hid (V2.out.below hb V2.out.lt); replace HX := Lib.hid (HX.out.below hb); replace HY := Lib.hid (HY.out.below hb); replace B1 := Lib.hid (B1.out.trans (hb.mono B1.out.size)); clear hb; have pc1 := Lib.hid trivial)
      | (clear pc1; refine wpList_ldZ (by rfl) _ rfl (by rfl) V1.out ?_; have pc2 := Lib.hid trivial)
      | (clear pc2; refine wpList_stZ (by rfl) _ _ rfl (by rfl) (by rfl) V2.out ?_; intro wb hz hg; have bx := V2.out.bx; replace V0 := Lib.hid (V0.out.gro hg (by omega)); replace V1 := Lib.hid (V1.out.gro hg (by omega)); replace HX := Lib.hid (HX.out.grB bx hg); replace HY := Lib.hid (HY.out.grB bx hg); replace B1 := Lib.hid (Below.gr B1.out (by omega) hg B1.out.size); clear bx; replace V2 := Lib.hid hz; clear hz hg; have pc3 := Lib.hid trivial))
    clear pc3
    exact ret_zb Tryz.results107 rfl rfl V2.out ⟨_, _, rfl, HY.out, B1.out⟩
  · have HK := Lib.hid hk
    have E1 : y = v := by have := HV.out; omega
    subst E1
    clear hk hxy
    have pc0 := Lib.hid trivial
    go_wp2_with (first
      | (clear pc0; go_at_call 105; refine Calls.mono (compare_k (r := 1) HX.out.in_ HY.out.in_ HK.out) ?_; rintro e wa ⟨rfl, hb⟩; replace V0 := Lib.hid (V0.out.below hb V0.out.lt); replace V1 := Lib.hid (V1.out.below hb V1.out.lt); replace V2 := Lib.hid (V2.out.below hb V2.out.lt); replace HX := Lib.hid (HX.out.below hb); replace HY := Lib.hid (HY.out.below hb); replace B1 := Lib.hid (B1.out.trans (hb.mono B1.out.size)); clear hb; have pc1 := Lib.hid trivial)
      | (clear pc1; refine wpList_ldZ (by rfl) _ rfl (by rfl) V1.out ?_; have pc2 := Lib.hid trivial)
      | (clear pc2; refine wpList_stZ (by rfl) _ _ rfl (by rfl) (by rfl) V2.out ?_; intro wb hz hg; have bx := V2.out.bx; replace V0 := Lib.hid (V0.out.gro hg (by omega)); replace V1 := Lib.hid (V1.out.gro hg (by omega)); replace HX := Lib.hid (HX.out.grB bx hg); replace HY := Lib.hid (HY.out.grB bx hg); replace B1 := Lib.hid (Below.gr B1.out (by omega) hg B1.out.size); clear bx; replace V2 := Lib.hid hz; clear hz hg; have pc3 := Lib.hid trivial))
    clear pc3
    exact ret_zb Tryz.results107 rfl rfl V2.out ⟨_, _, rfl, HY.out, B1.out⟩
set_option maxRecDepth 100000 in
set_option maxHeartbeats 16000000 in
theorem value_any (p q o r : Int) (P : Option Addr) (cp : Nat) (Q : Option Addr) (cq : Nat) (O : Option Addr) (co : Nat) (R : Option Addr) (cr : Nat) (w : World) :
    Calls Tryz.prog 110 #[.agg #[.bool (decide (p < 0)), .slice P (ofv p.natAbs).length cp, .bool (decide (q < 0)), .slice Q (ofv q.natAbs).length cq, .bool (decide (o < 0)), .slice O (ofv o.natAbs).length co, .bool (decide (r < 0)), .slice R (ofv r.natAbs).length cr]] w fun e w' => e = .returned (.agg #[.bool (decide (p < 0)), .slice P (ofv p.natAbs).length cp, .slice Q (ofv q.natAbs).length cq]) ∧ Below w.heap.size w w' := by
  go_enter Tryz.func110, Tryz.ntmps110
  go_wp2
  exact ret_rb Tryz.results110 rfl rfl (second_R w _ (decide (p < 0)) P (ofv p.natAbs).length cp Q (ofv q.natAbs).length cq) ⟨rfl, ((Below.refl _ _).alloc (Nat.le_refl _) _).alloc (by simp) _⟩
theorem start_V0 (w : World) :
    Hid (Below w.heap.size w (w.alloc (.cells #[.bool false, .slice none 0 0, .bool false, .slice none 0 0, .bool false, .slice none 0 0, .bool false, .slice none 0 0] 111))) ∧ Hid (Vb (w.alloc (.cells #[.bool false, .slice none 0 0, .bool false, .slice none 0 0, .bool false, .slice none 0 0, .bool false, .slice none 0 0] 111)) (w.heap.size) false none 0 0 false none 0 0 false none 0 0 false none 0 0) := by
  refine ⟨?_, ?_⟩
  · exact ((Below.refl _ _).alloc (by first | exact Nat.le_refl _ | (simp; done) | (simp; omega)) _)
  · have := Vb.new w false none 0 0 false none 0 0 false none 0 0 false none 0 0
    exact this
set_option maxRecDepth 100000 in
set_option maxHeartbeats 16000000 in
theorem nothing_any {one zero : Int} (h1 : 1 = one) (h0 : 0 = zero) (w : World) :
    Calls Tryz.prog 106 #[] w (GivesC w one zero zero one) := by
  obtain ⟨B1, V0⟩ := start_V0 w
  have E1 := Lib.hid h1
  have E0 := Lib.hid h0
  clear h1 h0
  go_enter Tryz.func106, Tryz.ntmps106
  go_wp2_with fail
  generalize (w.alloc (.cells #[.bool false, .slice none 0 0, .bool false, .slice none 0 0, .bool false, .slice none 0 0, .bool false, .slice none 0 0] 111)) = w2 at *
  have pc0 := Lib.hid trivial
  go_wp2_with (first
    | (clear pc0; go_at_call 47; refine Calls.mono (fromInt_z (v := 1) (z := one) (by decide) E1.out _) ?_; rintro e wa ⟨P1, c1, rfl, ho, hb⟩; replace V0 := Lib.hid (V0.out.below hb V0.out.lt); replace B1 := Lib.hid (B1.out.trans (hb.mono B1.out.size)); have Z1 := Lib.hid (Zo.of_own ho); clear ho; clear hb; have pc1 := Lib.hid trivial)
    | (clear pc1; go_at_call 47; refine Calls.mono (fromInt_z (v := 0) (z := zero) (by decide) E0.out _) ?_; rintro e wb ⟨P2, c2, rfl, ho, hb⟩; replace V0 := Lib.hid (V0.out.below hb V0.out.lt); replace Z1 := Lib.hid (Z1.out.below hb); replace B1 := Lib.hid (B1.out.trans (hb.mono B1.out.size)); have Z2 := Lib.hid (Zo.of_own ho); clear ho; clear hb; have pc2 := Lib.hid trivial)
    | (clear pc2; have hb : Below wb.heap.size wb ((wb.alloc (.cells #[.bool (decide (one < 0)), .slice P1 (ofv one.natAbs).length c1] 24)).alloc (.cells #[.bool (decide (zero < 0)), .slice P2 (ofv zero.natAbs).length c2] 24)) := (((Below.refl _ _).alloc (by first | exact Nat.le_refl _ | (simp; done) | (simp; omega)) _).alloc (by first | exact Nat.le_refl _ | (simp; done) | (simp; omega)) _); replace V0 := Lib.hid (V0.out.below hb V0.out.lt); replace Z1 := Lib.hid (Z1.out.below hb); replace Z2 := Lib.hid (Z2.out.below hb); replace B1 := Lib.hid (B1.out.trans (hb.mono B1.out.size)); clear hb; generalize ((wb.alloc (.cells #[.bool (decide (one < 0)), .slice P1 (ofv one.natAbs).length c1] 24)).alloc (.cells #[.bool (decide (zero < 0)), .slice P2 (ofv zero.natAbs).length c2] 24)) = wc at *; refine wpList_stV (by rfl) _ _ rfl (by rfl) (by rfl) V0.out ?_; intro wd hz hg; have bx := V0.out.bx; replace Z1 := Lib.hid (Z1.out.grB bx hg); replace Z2 := Lib.hid (Z2.out.grB bx hg); replace B1 := Lib.hid (Below.gr B1.out (by omega) hg B1.out.size); clear bx; replace V0 := Lib.hid hz; clear hz hg; have pc3 := Lib.hid trivial))
  clear pc3
  exact ret_vb Tryz.results106 rfl rfl V0.out ⟨_, _, _, _, _, _, _, _, rfl, Z1.out, Z2.out, Z2.out, Z1.out, B1.out⟩
theorem start_VZV (w : World) (s0 : Bool) (A0 : Option Addr) (n0 c0 : Nat) (t0 : Bool) (B0 : Option Addr) (m0 d0 : Nat) (x0 : Bool) (E0 : Option Addr) (k0 l0 : Nat) (y0 : Bool) (F0 : Option Addr) (p0 q0 : Nat) (s1 : Bool) (A1 : Option Addr) (n1 c1 : Nat) :
    Hid (Below w.heap.size w (((w.alloc (.cells #[.bool s0, .slice A0 n0 c0, .bool t0, .slice B0 m0 d0, .bool x0, .slice E0 k0 l0, .bool y0, .slice F0 p0 q0] 111)).alloc (.cells #[.bool s1, .slice A1 n1 c1] 24)).alloc (.cells #[.bool false, .slice none 0 0, .bool false, .slice none 0 0, .bool false, .slice none 0 0, .bool false, .slice none 0 0] 111))) ∧ Hid (Vb (((w.alloc (.cells #[.bool s0, .slice A0 n0 c0, .bool t0, .slice B0 m0 d0, .bool x0, .slice E0 k0 l0, .bool y0, .slice F0 p0 q0] 111)).alloc (.cells #[.bool s1, .slice A1 n1 c1] 24)).alloc (.cells #[.bool false, .slice none 0 0, .bool false, .slice none 0 0, .bool false, .slice none 0 0, .bool false, .slice none 0 0] 111)) (w.heap.size) s0 A0 n0 c0 t0 B0 m0 d0 x0 E0 k0 l0 y0 F0 p0 q0) ∧ Hid (Zb (((w.alloc (.cells #[.bool s0, .slice A0 n0 c0, .bool t0, .slice B0 m0 d0, .bool x0, .slice E0 k0 l0, .bool y0, .slice F0 p0 q0] 111)).alloc (.cells #[.bool s1, .slice A1 n1 c1] 24)).alloc (.cells #[.bool false, .slice none 0 0, .bool false, .slice none 0 0, .bool false, .slice none 0 0, .bool false, .slice none 0 0] 111)) (w.heap.size + 1) s1 A1 n1 c1) ∧ Hid (Vb (((w.alloc (.cells #[.bool s0, .slice A0 n0 c0, .bool t0, .slice B0 m0 d0, .bool x0, .slice E0 k0 l0, .bool y0, .slice F0 p0 q0] 111)).alloc (.cells #[.bool s1, .slice A1 n1 c1] 24)).alloc (.cells #[.bool false, .slice none 0 0, .bool false, .slice none 0 0, .bool false, .slice none 0 0, .bool false, .slice none 0 0] 111)) (w.heap.size + 2) false none 0 0 false none 0 0 false none 0 0 false none 0 0) := by
  refine ⟨?_, ?_, ?_, ?_⟩
  · exact ((((Below.refl _ _).alloc (by first | exact Nat.le_refl _ | (simp; done) | (simp; omega)) _).alloc (by first | exact Nat.le_refl _ | (simp; done) | (simp; omega)) _).alloc (by first | exact Nat.le_refl _ | (simp; done) | (simp; omega)) _)
  · have := Vb.new w s0 A0 n0 c0 t0 B0 m0 d0 x0 E0 k0 l0 y0 F0 p0 q0
    exact ((this.alloc _).alloc _)
  · have := Zb.new (w.alloc (.cells #[.bool s0, .slice A0 n0 c0, .bool t0, .slice B0 m0 d0, .bool x0, .slice E0 k0 l0, .bool y0, .slice F0 p0 q0] 111)) s1 A1 n1 c1
    simp only [World.size_alloc] at this
    exact (this.alloc _)
  · have := Vb.new ((w.alloc (.cells #[.bool s0, .slice A0 n0 c0, .bool t0, .slice B0 m0 d0, .bool x0, .slice E0 k0 l0, .bool y0, .slice F0 p0 q0] 111)).alloc (.cells #[.bool s1, .slice A1 n1 c1] 24)) false none 0 0 false none 0 0 false none 0 0 false none 0 0
    simp only [World.size_alloc] at this
    exact this
set_option maxRecDepth 100000 in
set_option maxHeartbeats 16000000 in
theorem extended_any {p q o r t u v : Int} {P Q O R T : Option Addr} {cp cq co cr ct : Nat} {w : World} (hp : Zo w P cp p) (hq : Zo w Q cq q) (ho : Zo w O co o) (hr : Zo w R cr r) (ht : Zo w T ct t) (lt : (ofv t.natAbs).length ≤ 100000000) (lp : (ofv p.natAbs).length ≤ 100000000) (lq : (ofv q.natAbs).length ≤ 100000000) (lo : (ofv o.natAbs).length ≤ 100000000) (lr : (ofv r.natAbs).length ≤ 100000000) (hu : t * p + o = u) (hv : t * q + r = v) :
    Calls Tryz.prog 109 #[.agg #[.bool (decide (p < 0)), .slice P (ofv p.natAbs).length cp, .bool (decide (q < 0)), .slice Q (ofv q.natAbs).length cq, .bool (decide (o < 0)), .slice O (ofv o.natAbs).length co, .bool (decide (r < 0)), .slice R (ofv r.natAbs).length cr], .agg #[.bool (decide (t < 0)), .slice T (ofv t.natAbs).length ct]] w (GivesC w u v p q) := by
  obtain ⟨B1, V0, V1, V2⟩ := start_VZV w (decide (p < 0)) P (ofv p.natAbs).length cp (decide (q < 0)) Q (ofv q.natAbs).length cq (decide (o < 0)) O (ofv o.natAbs).length co (decide (r < 0)) R (ofv r.natAbs).length cr (decide (t < 0)) T (ofv t.natAbs).length ct
  have HP := Lib.hid (hp.below B1.out)
  have HQ := Lib.hid (hq.below B1.out)
  have HO := Lib.hid (ho.below B1.out)
  have HR := Lib.hid (hr.below B1.out)
  have HT := Lib.hid (ht.below B1.out)
  obtain ⟨m1, e1⟩ : ∃ z0 : Int, t * p = z0 := ⟨_, rfl⟩
  obtain ⟨m2, e2⟩ : ∃ z0 : Int, t * q = z0 := ⟨_, rfl⟩
  have l1 := zlen_mul (x := t) (y := p) (Nat.le_trans lt (by decide : 100000000 ≤ 35184372088829)) (Nat.le_trans lp (by decide : 100000000 ≤ 35184372088829))
  have l2 := zlen_mul (x := t) (y := q) (Nat.le_trans lt (by decide : 100000000 ≤ 35184372088829)) (Nat.le_trans lq (by decide : 100000000 ≤ 35184372088829))
  rw [e1] at l1 hu
  rw [e2] at l2 hv
  have E1 := Lib.hid e1
  have E2 := Lib.hid e2
  have EU := Lib.hid hu
  have EV := Lib.hid hv
  have K1 : Hid ((ofv t.natAbs).length + (ofv p.natAbs).length ≤ 70368744177664) := by show _ ≤ _; omega
  have K2 : Hid ((ofv t.natAbs).length + (ofv q.natAbs).length ≤ 70368744177664) := by show _ ≤ _; omega
  have K3 : Hid ((ofv m1.natAbs).length ≤ 70368744177663) := by show _ ≤ _; omega
  have K4 : Hid ((ofv m2.natAbs).length ≤ 70368744177663) := by show _ ≤ _; omega
  have K5 : Hid ((ofv o.natAbs).length ≤ 70368744177663) := by show _ ≤ _; omega
  have K6 : Hid ((ofv r.natAbs).length ≤ 70368744177663) := by show _ ≤ _; omega
  clear hp hq ho hr ht lt lp lq lo lr hu hv e1 e2 l1 l2
  go_enter Tryz.func109, Tryz.ntmps109
  go_wp2_with fail
  generalize (((w.alloc (.cells #[.bool (decide (p < 0)), .slice P (ofv p.natAbs).length cp, .bool (decide (q < 0)), .slice Q (ofv q.natAbs).length cq, .bool (decide (o < 0)), .slice O (ofv o.natAbs).length co, .bool (decide (r < 0)), .slice R (ofv r.natAbs).length cr] 111)).alloc (.cells #[.bool (decide (t < 0)), .slice T (ofv t.natAbs).length ct] 24)).alloc (.cells #[.bool false, .slice none 0 0, .bool false, .slice none 0 0, .bool false, .slice none 0 0, .bool false, .slice none 0 0] 111)) = w2 at *
  have HB : Hid (Below w2.heap.size w2 w2.drew) := below_drewN _ w2 1
  refine wp_region_held_drew (S := fun w' => w2.grownBy w' (some (w.heap.size + 2))) (by kernel_rfl) ((grown_below HB.out : World.grownBy _ _ (some (w.heap.size + 2)))) (fun hHeld => ?_)
  refine wpAnyH_takeL (i := 0) (oi := _) rfl (by kernel_rfl) (by kernel_rfl) (by kernel_rfl) (fun _ _ _ h => h) (yields_ldZ (by rfl) _ rfl (by rfl) (fun _ hb => V1.out.gr hb (by omega))) hHeld ?_
  try simp only [Act.put, List.setIfInBounds_toArray, List.set_cons_zero, List.set_cons_succ]
  refine wpAnyH_takeL (i := 1) (oi := _) (v := ?_) rfl (by kernel_rfl) (by kernel_rfl) (by kernel_rfl) (fun _ _ _ h => h) (Or.inl ⟨by rfl, ?_⟩) hHeld ?_
  rotate_left
  · (intro w' hSw; (try dsimp only at hSw); go_simp; try (with_reducible rfl))
  try simp only [Act.put, List.setIfInBounds_toArray, List.set_cons_zero, List.set_cons_succ]
  refine wpAnyH_takeL (i := 2) (oi := _) rfl (by kernel_rfl) (by kernel_rfl) (by kernel_rfl) (fun _ _ _ h => h) (yields_ldV0 (by rfl) _ rfl (by rfl) (fun _ hb => V0.out.gro hb (by omega))) hHeld ?_
  try simp only [Act.put, List.setIfInBounds_toArray, List.set_cons_zero, List.set_cons_succ]
  refine wpAnyH_takeL (i := 4) (oi := _) (v := ?_) rfl (by kernel_rfl) (by kernel_rfl) (by kernel_rfl) (fun _ _ _ h => h) (Or.inl ⟨by rfl, ?_⟩) hHeld ?_
  rotate_left
  · (intro w' hSw; (try dsimp only at hSw); go_simp; try (with_reducible rfl))
  try simp only [Act.put, List.setIfInBounds_toArray, List.set_cons_zero, List.set_cons_succ]
  refine wpAnyH_takeL (i := 5) (oi := _) rfl (by kernel_rfl) (by kernel_rfl) (by kernel_rfl) (fun _ _ _ h => h) (yields_ldV2 (by rfl) _ rfl (by rfl) (fun _ hb => V0.out.gro hb (by omega))) hHeld ?_
  try simp only [Act.put, List.setIfInBounds_toArray, List.set_cons_zero, List.set_cons_succ]
  refine wpAnyH_takeL (i := 7) (oi := _) rfl (by kernel_rfl) (by kernel_rfl) (by kernel_rfl) (fun _ _ _ h => h) (yields_ldZ (by rfl) _ rfl (by rfl) (fun _ hb => V1.out.gr hb (by omega))) hHeld ?_
  try simp only [Act.put, List.setIfInBounds_toArray, List.set_cons_zero, List.set_cons_succ]
  refine wpAnyH_takeL (i := 8) (oi := _) (v := ?_) rfl (by kernel_rfl) (by kernel_rfl) (by kernel_rfl) (fun _ _ _ h => h) (Or.inl ⟨by rfl, ?_⟩) hHeld ?_
  rotate_left
  · (intro w' hSw; (try dsimp only at hSw); go_simp; try (with_reducible rfl))
  try simp only [Act.put, List.setIfInBounds_toArray, List.set_cons_zero, List.set_cons_succ]
  refine wpAnyH_takeL (i := 9) (oi := _) rfl (by kernel_rfl) (by kernel_rfl) (by kernel_rfl) (fun _ _ _ h => h) (yields_ldV1 (by rfl) _ rfl (by rfl) (fun _ hb => V0.out.gro hb (by omega))) hHeld ?_
  try simp only [Act.put, List.setIfInBounds_toArray, List.set_cons_zero, List.set_cons_succ]
  refine wpAnyH_takeL (i := 11) (oi := _) (v := ?_) rfl (by kernel_rfl) (by kernel_rfl) (by kernel_rfl) (fun _ _ _ h => h) (Or.inl ⟨by rfl, ?_⟩) hHeld ?_
  rotate_left
  · (intro w' hSw; (try dsimp only at hSw); go_simp; try (with_reducible rfl))
  try simp only [Act.put, List.setIfInBounds_toArray, List.set_cons_zero, List.set_cons_succ]
  refine wpAnyH_takeL (i := 12) (oi := _) rfl (by kernel_rfl) (by kernel_rfl) (by kernel_rfl) (fun _ _ _ h => h) (yields_ldV3 (by rfl) _ rfl (by rfl) (fun _ hb => V0.out.gro hb (by omega))) hHeld ?_
  try simp only [Act.put, List.setIfInBounds_toArray, List.set_cons_zero, List.set_cons_succ]
  refine wpAnyH_takeL (i := 14) (oi := _) (v := ?_) rfl (by kernel_rfl) (by kernel_rfl) (by kernel_rfl) (fun _ _ _ h => h) (Or.inl ⟨by rfl, ?_⟩) hHeld ?_
  rotate_left
  · (intro w' hSw; (try dsimp only at hSw); go_simp; try (with_reducible rfl))
  try simp only [Act.put, List.setIfInBounds_toArray, List.set_cons_zero, List.set_cons_succ]
  refine wpAnyH_takeL (i := 15) (oi := _) rfl (by kernel_rfl) (by kernel_rfl) (by kernel_rfl) (fun _ _ _ h => h) (yields_ldV0 (by rfl) _ rfl (by rfl) (fun _ hb => V0.out.gro hb (by omega))) hHeld ?_
  try simp only [Act.put, List.setIfInBounds_toArray, List.set_cons_zero, List.set_cons_succ]
  refine wpAnyH_takeL (i := 16) (oi := _) (v := ?_) rfl (by kernel_rfl) (by kernel_rfl) (by kernel_rfl) (fun _ _ _ h => h) (Or.inl ⟨by rfl, ?_⟩) hHeld ?_
  rotate_left
  · (intro w' hSw; (try dsimp only at hSw); go_simp; try (with_reducible rfl))
  try simp only [Act.put, List.setIfInBounds_toArray, List.set_cons_zero, List.set_cons_succ]
  refine wpAnyH_takeL (i := 17) (oi := _) rfl (by kernel_rfl) (by kernel_rfl) (by kernel_rfl) (fun _ _ _ h => h) (yields_ldV1 (by rfl) _ rfl (by rfl) (fun _ hb => V0.out.gro hb (by omega))) hHeld ?_
  try simp only [Act.put, List.setIfInBounds_toArray, List.set_cons_zero, List.set_cons_succ]
  refine wpAnyH_ready (rs := [3]) (by kernel_rfl) (by simp) ?_
  refine AllReadyH.consL (o := _) rfl (fun K hK => ?_) AllReadyH.nil
  clear hHeld
  go_simp
  go_at_call 51
  refine Calls.mono (mul_z (x := t) (y := p) (z := m1) (HT.out.below HB.out).in_ (HP.out.below HB.out).in_ K1.out E1.out) ?_
  rintro e wa ⟨P1, c1, rfl, ho, hb⟩
  replace HB := Lib.hid (HB.out.trans (hb.mono HB.out.size))
  have Z1 := Lib.hid (Zo.of_own ho)
  clear ho
  clear hb
  refine hK.out _ _ (grown_below HB.out : World.grownBy _ _ (some (w.heap.size + 2))) (fun hHeld => ?_)
  clear hK K
  try simp only [Act.put, List.setIfInBounds_toArray, List.set_cons_zero, List.set_cons_succ]
  refine wpAnyH_ready (rs := [6]) (by kernel_rfl) (by simp) ?_
  refine AllReadyH.consL (o := _) rfl (fun K hK => ?_) AllReadyH.nil
  clear hHeld
  go_simp
  go_at_call 50
  refine Calls.mono (add_z (x := m1) (y := o) (z := u) Z1.out.in_ (HO.out.below HB.out).in_ K3.out K5.out EU.out) ?_
  rintro e wb ⟨P2, c2, rfl, ho, hb⟩
  replace HB := Lib.hid (HB.out.trans (hb.mono HB.out.size))
  have Z2 := Lib.hid (Zo.of_own ho)
  clear ho
  clear hb
  refine hK.out _ _ (grown_below HB.out : World.grownBy _ _ (some (w.heap.size + 2))) (fun hHeld => ?_)
  clear hK K
  try simp only [Act.put, List.setIfInBounds_toArray, List.set_cons_zero, List.set_cons_succ]
  refine wpAnyH_ready (rs := [10]) (by kernel_rfl) (by simp) ?_
  refine AllReadyH.consL (o := _) rfl (fun K hK => ?_) AllReadyH.nil
  clear hHeld
  go_simp
  go_at_call 51
  refine Calls.mono (mul_z (x := t) (y := q) (z := m2) (HT.out.below HB.out).in_ (HQ.out.below HB.out).in_ K2.out E2.out) ?_
  rintro e wc ⟨P3, c3, rfl, ho, hb⟩
  replace HB := Lib.hid (HB.out.trans (hb.mono HB.out.size))
  replace Z2 := Lib.hid (Z2.out.below hb)
  have Z3 := Lib.hid (Zo.of_own ho)
  clear ho
  clear hb
  refine hK.out _ _ (grown_below HB.out : World.grownBy _ _ (some (w.heap.size + 2))) (fun hHeld => ?_)
  clear hK K
  try simp only [Act.put, List.setIfInBounds_toArray, List.set_cons_zero, List.set_cons_succ]
  refine wpAnyH_ready (rs := [13]) (by kernel_rfl) (by simp) ?_
  refine AllReadyH.consL (o := _) rfl (fun K hK => ?_) AllReadyH.nil
  clear hHeld
  go_simp
  go_at_call 50
  refine Calls.mono (add_z (x := m2) (y := r) (z := v) Z3.out.in_ (HR.out.below HB.out).in_ K4.out K6.out EV.out) ?_
  rintro e wd ⟨P4, c4, rfl, ho, hb⟩
  replace HB := Lib.hid (HB.out.trans (hb.mono HB.out.size))
  replace Z2 := Lib.hid (Z2.out.below hb)
  have Z4 := Lib.hid (Zo.of_own ho)
  clear ho
  clear hb
  refine hK.out _ _ (grown_below HB.out : World.grownBy _ _ (some (w.heap.size + 2))) (fun hHeld => ?_)
  clear hK K
  try simp only [Act.put, List.setIfInBounds_toArray, List.set_cons_zero, List.set_cons_succ]
  refine wpAnyH_takeL (i := 18) (oi := _) (v := ?_) rfl (by kernel_rfl) (by kernel_rfl) (by kernel_rfl) (fun _ _ _ h => h) (Or.inl ⟨by rfl, ?_⟩) hHeld ?_
  rotate_left
  · (intro w' hSw; (try dsimp only at hSw); go_simp; try (with_reducible rfl))
  try simp only [Act.put, List.setIfInBounds_toArray, List.set_cons_zero, List.set_cons_succ]
  refine wpAnyH_ready (rs := [19]) (by kernel_rfl) (by simp) ?_
  refine AllReadyH.consL (o := _) rfl (fun K hK => ?_) AllReadyH.nil
  clear hHeld
  have hb := HB.out
  replace V0 := Lib.hid (V0.out.below hb V0.out.lt)
  replace V1 := Lib.hid (V1.out.below hb V1.out.lt)
  replace V2 := Lib.hid (V2.out.below hb V2.out.lt)
  replace HP := Lib.hid (HP.out.below hb)
  replace HQ := Lib.hid (HQ.out.below hb)
  replace HO := Lib.hid (HO.out.below hb)
  replace HR := Lib.hid (HR.out.below hb)
  replace HT := Lib.hid (HT.out.below hb)
  replace B1 := Lib.hid (B1.out.trans (hb.mono B1.out.size))
  rw [if_pos (by rfl)]
  refine wp_stV _ _ rfl (by rfl) (by rfl) V2.out ?_
  intro wst hz hg
  have bx := V2.out.bx
  replace V0 := Lib.hid (V0.out.gro hg (by omega))
  replace V1 := Lib.hid (V1.out.gro hg (by omega))
  replace HP := Lib.hid (HP.out.grB bx hg)
  replace HQ := Lib.hid (HQ.out.grB bx hg)
  replace HO := Lib.hid (HO.out.grB bx hg)
  replace HR := Lib.hid (HR.out.grB bx hg)
  replace HT := Lib.hid (HT.out.grB bx hg)
  replace Z2 := Lib.hid (Z2.out.grB bx hg)
  replace Z4 := Lib.hid (Z4.out.grB bx hg)
  replace B1 := Lib.hid (Below.gr B1.out (by omega) hg B1.out.size)
  clear bx
  replace V2 := Lib.hid hz
  refine hK.out _ _ (World.grownBy.trans (grown_below hb) hg) (fun hHeld => ?_)
  clear hK K hg hb HB hz
  try simp only [Act.put]
  skip
  refine wpAnyH_done (by kernel_rfl) ?_ _
  clear hHeld
  go_wp2
  exact ret_vb Tryz.results109 rfl rfl V2.out ⟨_, _, _, _, _, _, _, _, rfl, Z2.out, Z4.out, HP.out, HQ.out, B1.out⟩
end Go.Proofs.YtfmgbfdnmconiaaGreat
