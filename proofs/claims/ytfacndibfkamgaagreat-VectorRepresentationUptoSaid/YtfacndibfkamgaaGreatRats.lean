/-
  Contracts of package rational: short numbers.
-/
import Derived.Test.YtfacndibfkamgaaGreatRatp
namespace Go.Proofs.YtfacndibfkamgaaGreat
open Go.RowKit
set_option linter.unusedVariables false

theorem start_ZS (w : World) (s0 : Bool) (A0 : Option Addr) (n0 c0 : Nat) :
    Hid (Below w.heap.size w ((w.alloc (.cells #[.bool s0, .slice A0 n0 c0] 27)).alloc (.cells #[.int .i64 0, .int .i64 0] 121))) ∧ Hid (Zb ((w.alloc (.cells #[.bool s0, .slice A0 n0 c0] 27)).alloc (.cells #[.int .i64 0, .int .i64 0] 121)) (w.heap.size) s0 A0 n0 c0) ∧ Hid (Sb ((w.alloc (.cells #[.bool s0, .slice A0 n0 c0] 27)).alloc (.cells #[.int .i64 0, .int .i64 0] 121)) (w.heap.size + 1) 0 0) := by
  refine ⟨?_, ?_, ?_⟩
  · exact (((Below.refl _ _).alloc (by first | exact Nat.le_refl _ | (simp; done) | (simp; omega)) _).alloc (by first | exact Nat.le_refl _ | (simp; done) | (simp; omega)) _)
  · have := Zb.new w s0 A0 n0 c0
    exact (this.alloc _)
  · have := Sb.new (w.alloc (.cells #[.bool s0, .slice A0 n0 c0] 27)) 0 0
    simp only [World.size_alloc] at this
    exact this
theorem ret_sb {fn : Func} {R : Ending → World → Prop} {a : Act} {w : World} {j l g : Nat} {x y : Int} {b : Bool} (hf : fn.results = #[.cell j 121, .tmp l]) (hd : a.defers = [])
    (hk : (a.tmps[j]?).getD undef = .pointer (some ⟨g, 0, none⟩)) (hl : (a.tmps[l]?).getD undef = .bool b) (h : Sb w g x y) (hR : R (.returned (.tuple #[.agg #[.int .i64 x, .int .i64 y], .bool b])) w) : bodyPost Tryz.prog fn R .ret a w := by
  have z1 := cell_of_row w g 0 _ _ _ h
  have z2 := cell_of_row w g 1 _ _ _ h
  exact bodyPost_ret_by (v := .tuple #[.agg #[.int .i64 x, .int .i64 y], .bool b]) (by simp [results, hf, go_sem, hk, hl, z1, z2]) hd hR
set_option maxRecDepth 100000 in
set_option maxHeartbeats 16000000 in
theorem shorten_gen {s : Bool} {A D : Option Addr} {n c m k : Nat} {x : Int} {a p : Nat} {w : World} (h : Zin w s A n c x) (h' : Nin w D m k p) (ha : x.natAbs = a) {z1 z2 X1 X2 Y1 ov : Int} {ok1 ok2 b : Bool}
    (u1 : U64 a z1 ok1) (u2 : U64 p z2 ok2)
    (e1 : IntKind.i64.wrap z1 = X1) (e2 : IntKind.i64.wrap (-X1) = X2) (e3 : IntKind.i64.wrap z2 = Y1) (eo : bits .or .u64 z1 z2 = ov) (ho : 0 ≤ ov) (eb : (ov / 2147483648 == 0) = b) :
    Calls Tryz.prog 127 #[.agg #[.bool s, .slice A n c], .slice D m k] w fun e w' => e = .returned (.tuple #[.agg #[.int .i64 (if s then X2 else X1), .int .i64 Y1], .bool (ok1 && ok2 && b)]) ∧ Below w.heap.size w w' := by
  obtain ⟨B1, V0, V1⟩ := start_ZS w s A n c
  have HX := Lib.hid (h.below B1.out)
  have HP := Lib.hid (h'.below B1.out)
  have U1 := Lib.hid u1
  have U2 := Lib.hid u2
  have HA := Lib.hid ha
  clear h h' u1 u2 ha
  cases s <;> cases ok1 <;> cases ok2
  all_goals
    go_enter Tryz.func127, Tryz.ntmps127
    go_wp2_with fail
    generalize ((w.alloc (.cells #[.bool _, .slice A n c] 27)).alloc (.cells #[.int .i64 0, .int .i64 0] 121)) = w2 at *
    have pc0 := Lib.hid trivial
    go_wp2_with (first
      | (clear pc0; go_at_call 161; refine Calls.mono (uint64_d (HX.out.mag HA.out) U1.out) ?_; rintro e w3 ⟨rfl, hb⟩; replace V0 := Lib.hid (V0.out.below hb V0.out.lt); replace V1 := Lib.hid (V1.out.below hb V1.out.lt); replace HX := Lib.hid (HX.out.below hb); replace HP := Lib.hid (HP.out.below hb); replace B1 := Lib.hid (B1.out.trans (hb.mono B1.out.size)); clear hb; have pc1 := Lib.hid trivial)
      | (clear pc1; go_at_call 161; refine Calls.mono (uint64_d HP.out U2.out) ?_; rintro e w4 ⟨rfl, hb⟩; replace V0 := Lib.hid (V0.out.below hb V0.out.lt); replace V1 := Lib.hid (V1.out.below hb V1.out.lt); replace HX := Lib.hid (HX.out.below hb); replace HP := Lib.hid (HP.out.below hb); replace B1 := Lib.hid (B1.out.trans (hb.mono B1.out.size)); clear hb; have pc2 := Lib.hid trivial)
      | (clear pc2; refine wpList_ldZs (by rfl) _ rfl (by rfl) (V0.out.alloc _) ?_; have pc3 := Lib.hid trivial)
      | (clear pc3; (first | (have hb : Below w4.heap.size w4 (w4.alloc (.cells #[.int .i64 X1, .int .i64 Y1] 121)) := (Below.refl _ _).alloc (Nat.le_refl _) _; replace V0 := Lib.hid (V0.out.below hb V0.out.lt); replace V1 := Lib.hid (V1.out.below hb V1.out.lt); replace HX := Lib.hid (HX.out.below hb); replace HP := Lib.hid (HP.out.below hb); replace B1 := Lib.hid (B1.out.trans (hb.mono B1.out.size)); clear hb; refine wpList_stS (by rfl) _ _ rfl (by rfl) (by rfl) V1.out ?_; intro w5 hz hg; replace V0 := Lib.hid (V0.out.gr hg (by simp)); replace HX := Lib.hid (HX.out.grS V1.out hg); replace HP := Lib.hid (HP.out.grS V1.out hg); replace B1 := Lib.hid (Below.gr B1.out (by simp) hg B1.out.size); replace V1 := Lib.hid hz; clear hz hg) | (have hb : Below w4.heap.size w4 (w4.alloc (.cells #[.int .i64 X2, .int .i64 Y1] 121)) := (Below.refl _ _).alloc (Nat.le_refl _) _; replace V0 := Lib.hid (V0.out.below hb V0.out.lt); replace V1 := Lib.hid (V1.out.below hb V1.out.lt); replace HX := Lib.hid (HX.out.below hb); replace HP := Lib.hid (HP.out.below hb); replace B1 := Lib.hid (B1.out.trans (hb.mono B1.out.size)); clear hb; refine wpList_stS (by rfl) _ _ rfl (by rfl) (by rfl) V1.out ?_; intro w5 hz hg; replace V0 := Lib.hid (V0.out.gr hg (by simp)); replace HX := Lib.hid (HX.out.grS V1.out hg); replace HP := Lib.hid (HP.out.grS V1.out hg); replace B1 := Lib.hid (Below.gr B1.out (by simp) hg B1.out.size); replace V1 := Lib.hid hz; clear hz hg)); have pc4 := Lib.hid trivial))
    clear pc4
    exact ret_sb Tryz.results127 rfl rfl rfl V1.out ⟨rfl, B1.out⟩
theorem or_facts {a b : Nat} (ha : a < 18446744073709551616) (hb : b < 18446744073709551616) : ∃ v : Nat, bits .or .u64 (a : Int) (b : Int) = ((v : Nat) : Int) ∧ a ≤ v ∧ b ≤ v :=
  ⟨a ||| b, u64_or_nat a b ha hb, Nat.left_le_or, Nat.right_le_or⟩
theorem shorten_any {s : Bool} {A D : Option Addr} {n c m k : Nat} {x : Int} {p : Nat} {w : World} (h : Zin w s A n c x) (h' : Nin w D m k p) :
    Calls Tryz.prog 127 #[.agg #[.bool s, .slice A n c], .slice D m k] w fun e w' => ∃ X Y ok, e = .returned (.tuple #[.agg #[.int .i64 X, .int .i64 Y], .bool ok]) ∧ (ok = true → X = x ∧ Y = (p : Int) ∧ x.natAbs < 2147483648 ∧ p < 2147483648) ∧ Below w.heap.size w w' := by
  obtain ⟨z1, ok1, u1, a1, a2, a3⟩ := U64.ex x.natAbs
  obtain ⟨z2, ok2, u2, b1, b2, b3⟩ := U64.ex p
  obtain ⟨v, hv, v1, v2⟩ := or_facts (a := z1.toNat) (b := z2.toNat) (by omega) (by omega)
  have n1 : ((z1.toNat : Nat) : Int) = z1 := by omega
  have n2 : ((z2.toNat : Nat) : Int) = z2 := by omega
  rw [n1, n2] at hv
  have hs : zv s x.natAbs = x := by
    obtain ⟨xs, k1, k2, k3⟩ := h
    rw [← k3, zv_abs]
  refine (shorten_gen h h' rfl u1 u2 rfl rfl rfl hv (by omega) rfl).mono ?_
  rintro e w' ⟨rfl, hb⟩
  refine ⟨_, _, _, rfl, fun hok => ?_, hb⟩
  simp only [Bool.and_eq_true, beq_iff_eq] at hok
  obtain ⟨⟨o1, o2⟩, o3⟩ := hok
  have o4 : (v : Int) < 2147483648 := by omega
  have x1 : x.natAbs < 18446744073709551616 ∧ ((x.natAbs : Nat) : Int) = z1 := by
    rcases u1 with ⟨_, q1, q2⟩ | ⟨q0, _, _⟩
    · exact ⟨q1, q2⟩
    · rw [o1] at q0; cases q0
  have x2 : p < 18446744073709551616 ∧ (p : Int) = z2 := by
    rcases u2 with ⟨_, q1, q2⟩ | ⟨q0, _, _⟩
    · exact ⟨q1, q2⟩
    · rw [o2] at q0; cases q0
  have w1 : IntKind.i64.wrap z1 = z1 := IntWalk.i64_in _ (by omega)
  have w2 : IntKind.i64.wrap z2 = z2 := IntWalk.i64_in _ (by omega)
  have w3 : IntKind.i64.wrap (-z1) = -z1 := IntWalk.i64_in _ (by omega)
  rw [w1, w2, w3]
  refine ⟨?_, x2.2.symm, by omega, by omega⟩
  cases s
  · simp [zv] at hs
    simp
    omega
  · simp [zv] at hs
    simp
    omega
theorem start_RRSS (w : World) (s0 : Bool) (A0 : Option Addr) (n0 c0 : Nat) (D0 : Option Addr) (m0 k0 : Nat) (s1 : Bool) (A1 : Option Addr) (n1 c1 : Nat) (D1 : Option Addr) (m1 k1 : Nat) :
    Hid (Below w.heap.size w ((((w.alloc (.cells #[.bool s0, .slice A0 n0 c0, .slice D0 m0 k0] 29)).alloc (.cells #[.bool s1, .slice A1 n1 c1, .slice D1 m1 k1] 29)).alloc (.cells #[.int .i64 0, .int .i64 0] 121)).alloc (.cells #[.int .i64 0, .int .i64 0] 121))) ∧ Hid (Rb ((((w.alloc (.cells #[.bool s0, .slice A0 n0 c0, .slice D0 m0 k0] 29)).alloc (.cells #[.bool s1, .slice A1 n1 c1, .slice D1 m1 k1] 29)).alloc (.cells #[.int .i64 0, .int .i64 0] 121)).alloc (.cells #[.int .i64 0, .int .i64 0] 121)) (w.heap.size) s0 A0 n0 c0 D0 m0 k0) ∧ Hid (Rb ((((w.alloc (.cells #[.bool s0, .slice A0 n0 c0, .slice D0 m0 k0] 29)).alloc (.cells #[.bool s1, .slice A1 n1 c1, .slice D1 m1 k1] 29)).alloc (.cells #[.int .i64 0, .int .i64 0] 121)).alloc (.cells #[.int .i64 0, .int .i64 0] 121)) (w.heap.size + 1) s1 A1 n1 c1 D1 m1 k1) ∧ Hid (Sb ((((w.alloc (.cells #[.bool s0, .slice A0 n0 c0, .slice D0 m0 k0] 29)).alloc (.cells #[.bool s1, .slice A1 n1 c1, .slice D1 m1 k1] 29)).alloc (.cells #[.int .i64 0, .int .i64 0] 121)).alloc (.cells #[.int .i64 0, .int .i64 0] 121)) (w.heap.size + 2) 0 0) ∧ Hid (Sb ((((w.alloc (.cells #[.bool s0, .slice A0 n0 c0, .slice D0 m0 k0] 29)).alloc (.cells #[.bool s1, .slice A1 n1 c1, .slice D1 m1 k1] 29)).alloc (.cells #[.int .i64 0, .int .i64 0] 121)).alloc (.cells #[.int .i64 0, .int .i64 0] 121)) (w.heap.size + 3) 0 0) := by
  refine ⟨?_, ?_, ?_, ?_, ?_⟩
  · exact (((((Below.refl _ _).alloc (by first | exact Nat.le_refl _ | (simp; done) | (simp; omega)) _).alloc (by first | exact Nat.le_refl _ | (simp; done) | (simp; omega)) _).alloc (by first | exact Nat.le_refl _ | (simp; done) | (simp; omega)) _).alloc (by first | exact Nat.le_refl _ | (simp; done) | (simp; omega)) _)
  · have := Rb.new w s0 A0 n0 c0 D0 m0 k0
    exact (((this.alloc _).alloc _).alloc _)
  · have := Rb.new (w.alloc (.cells #[.bool s0, .slice A0 n0 c0, .slice D0 m0 k0] 29)) s1 A1 n1 c1 D1 m1 k1
    simp only [World.size_alloc] at this
    exact ((this.alloc _).alloc _)
  · have := Sb.new ((w.alloc (.cells #[.bool s0, .slice A0 n0 c0, .slice D0 m0 k0] 29)).alloc (.cells #[.bool s1, .slice A1 n1 c1, .slice D1 m1 k1] 29)) 0 0
    simp only [World.size_alloc] at this
    exact (this.alloc _)
  · have := Sb.new (((w.alloc (.cells #[.bool s0, .slice A0 n0 c0, .slice D0 m0 k0] 29)).alloc (.cells #[.bool s1, .slice A1 n1 c1, .slice D1 m1 k1] 29)).alloc (.cells #[.int .i64 0, .int .i64 0] 121)) 0 0
    simp only [World.size_alloc] at this
    exact this
theorem ret_ss {fn : Func} {R : Ending → World → Prop} {a : Act} {w : World} {j i l g g' : Nat} {x y u v : Int} {b : Bool} (hf : fn.results = #[.cell j 121, .cell i 121, .tmp l]) (hd : a.defers = [])
    (hk : (a.tmps[j]?).getD undef = .pointer (some ⟨g, 0, none⟩)) (hi : (a.tmps[i]?).getD undef = .pointer (some ⟨g', 0, none⟩)) (hl : (a.tmps[l]?).getD undef = .bool b) (h : Sb w g x y) (h' : Sb w g' u v) (hR : R (.returned (.tuple #[.agg #[.int .i64 x, .int .i64 y], .agg #[.int .i64 u, .int .i64 v], .bool b])) w) : bodyPost Tryz.prog fn R .ret a w := by
  have z1 := cell_of_row w g 0 _ _ _ h
  have z2 := cell_of_row w g 1 _ _ _ h
  have z3 := cell_of_row w g' 0 _ _ _ h'
  have z4 := cell_of_row w g' 1 _ _ _ h'
  exact bodyPost_ret_by (v := .tuple #[.agg #[.int .i64 x, .int .i64 y], .agg #[.int .i64 u, .int .i64 v], .bool b]) (by simp [results, hf, go_sem, hk, hi, hl, z1, z2, z3, z4]) hd hR
def OkIf (ok : Bool) (P : Prop) : Prop := ok = true → P
theorem OkIf.mk {ok : Bool} {P : Prop} (h : ok = true → P) : OkIf ok P := h
theorem OkIf.get {P : Prop} (h : OkIf true P) : P := h rfl
/-- Two short numbers, and whether they are the given ones. -/
def GivesSS (w : World) (x : Int) (p : Nat) (y : Int) (q : Nat) (e : Ending) (w' : World) : Prop := ∃ X Y U V ok, e = .returned (.tuple #[.agg #[.int .i64 X, .int .i64 Y], .agg #[.int .i64 U, .int .i64 V], .bool ok]) ∧ (ok = true → X = x ∧ Y = (p : Int) ∧ x.natAbs < 2147483648 ∧ p < 2147483648 ∧ U = y ∧ V = (q : Int) ∧ y.natAbs < 2147483648 ∧ q < 2147483648) ∧ Below w.heap.size w w'
set_option maxRecDepth 100000 in
set_option maxHeartbeats 16000000 in
theorem shortPair_any {s t : Bool} {A D B E : Option Addr} {n c m k n2 c2 m2 k2 : Nat} {x y : Int} {p q : Nat} {w : World} (h : Zin w s A n c x) (hp : Nin w D m k p) (h' : Zin w t B n2 c2 y) (hq : Nin w E m2 k2 q) :
    Calls Tryz.prog 101 #[.agg #[.bool s, .slice A n c, .slice D m k], .agg #[.bool t, .slice B n2 c2, .slice E m2 k2]] w (GivesSS w x p y q) := by
  obtain ⟨B1, V0, V1, V2, V3⟩ := start_RRSS w s A n c D m k t B n2 c2 E m2 k2
  have HX := Lib.hid (h.below B1.out)
  have HP := Lib.hid (hp.below B1.out)
  have HY := Lib.hid (h'.below B1.out)
  have HQ := Lib.hid (hq.below B1.out)
  clear h hp h' hq
  go_enter Tryz.func101, Tryz.ntmps101
  go_wp2_with fail
  generalize ((((w.alloc (.cells #[.bool s, .slice A n c, .slice D m k] 29)).alloc (.cells #[.bool t, .slice B n2 c2, .slice E m2 k2] 29)).alloc (.cells #[.int .i64 0, .int .i64 0] 121)).alloc (.cells #[.int .i64 0, .int .i64 0] 121)) = w2 at *
  have pc0 := Lib.hid trivial
  go_wp2_with (first
    | (clear pc0; go_at_call 127; refine Calls.mono (shorten_any HX.out HP.out) ?_; rintro e w3 ⟨X, Y, ok1, rfl, hok1, hb⟩; replace V0 := Lib.hid (V0.out.below hb V0.out.lt); replace V1 := Lib.hid (V1.out.below hb V1.out.lt); replace V2 := Lib.hid (V2.out.below hb V2.out.lt); replace V3 := Lib.hid (V3.out.below hb V3.out.lt); replace HX := Lib.hid (HX.out.below hb); replace HP := Lib.hid (HP.out.below hb); replace HY := Lib.hid (HY.out.below hb); replace HQ := Lib.hid (HQ.out.below hb); replace B1 := Lib.hid (B1.out.trans (hb.mono B1.out.size)); have K1 := Lib.hid (OkIf.mk hok1); clear hok1; clear hb; have pc1 := Lib.hid trivial)
    | (clear pc1; refine wpList_stS (by rfl) _ _ rfl (by rfl) (by rfl) V2.out ?_; intro w4 hz hg; replace V0 := Lib.hid (V0.out.gro hg (by omega)); replace V1 := Lib.hid (V1.out.gro hg (by omega)); replace V3 := Lib.hid (V3.out.gro hg (by omega)); replace HX := Lib.hid (HX.out.grS V2.out hg); replace HP := Lib.hid (HP.out.grS V2.out hg); replace HY := Lib.hid (HY.out.grS V2.out hg); replace HQ := Lib.hid (HQ.out.grS V2.out hg); replace B1 := Lib.hid (Below.gr B1.out (by omega) hg B1.out.size); replace V2 := Lib.hid hz; clear hz hg; have pc2 := Lib.hid trivial)
    | (clear pc2; refine wpList_ldRz (by rfl) _ rfl (by rfl) V1.out ?_; have pc3 := Lib.hid trivial)
    | (clear pc3; refine wpList_ldRd (by rfl) _ rfl (by rfl) V1.out ?_; have pc4 := Lib.hid trivial)
    | (clear pc4; go_at_call 127; refine Calls.mono (shorten_any HY.out HQ.out) ?_; rintro e w5 ⟨U, V, ok2, rfl, hok2, hb⟩; replace V0 := Lib.hid (V0.out.below hb V0.out.lt); replace V1 := Lib.hid (V1.out.below hb V1.out.lt); replace V2 := Lib.hid (V2.out.below hb V2.out.lt); replace V3 := Lib.hid (V3.out.below hb V3.out.lt); replace HX := Lib.hid (HX.out.below hb); replace HP := Lib.hid (HP.out.below hb); replace HY := Lib.hid (HY.out.below hb); replace HQ := Lib.hid (HQ.out.below hb); replace B1 := Lib.hid (B1.out.trans (hb.mono B1.out.size)); have K2 := Lib.hid (OkIf.mk hok2); clear hok2; clear hb; have pc5 := Lib.hid trivial)
    | (clear pc5; refine wpList_stS (by rfl) _ _ rfl (by rfl) (by rfl) V3.out ?_; intro w6 hz hg; replace V0 := Lib.hid (V0.out.gro hg (by omega)); replace V1 := Lib.hid (V1.out.gro hg (by omega)); replace V2 := Lib.hid (V2.out.gro hg (by omega)); replace HX := Lib.hid (HX.out.grS V3.out hg); replace HP := Lib.hid (HP.out.grS V3.out hg); replace HY := Lib.hid (HY.out.grS V3.out hg); replace HQ := Lib.hid (HQ.out.grS V3.out hg); replace B1 := Lib.hid (Below.gr B1.out (by omega) hg B1.out.size); replace V3 := Lib.hid hz; clear hz hg; have pc6 := Lib.hid trivial))
  clear pc6
  cases ok1
  · have hb := below_drewN w6.heap.size w6 1
    replace V0 := Lib.hid (V0.out.below hb V0.out.lt)
    replace V1 := Lib.hid (V1.out.below hb V1.out.lt)
    replace V2 := Lib.hid (V2.out.below hb V2.out.lt)
    replace V3 := Lib.hid (V3.out.below hb V3.out.lt)
    replace HX := Lib.hid (HX.out.below hb)
    replace HP := Lib.hid (HP.out.below hb)
    replace HY := Lib.hid (HY.out.below hb)
    replace HQ := Lib.hid (HQ.out.below hb)
    replace B1 := Lib.hid (B1.out.trans (hb.mono B1.out.size))
    clear hb
    refine wp_region_held_drew (S := fun w' => Sb w' (w.heap.size + 2) X Y ∧ Sb w' (w.heap.size + 3) U V) (by kernel_rfl) ⟨V2.out, V3.out⟩ (fun hHeld => ?_)
    refine wpAnyH_takeL (i := 0) (oi := _) rfl (by kernel_rfl) (by kernel_rfl) (by kernel_rfl) (fun _ _ _ h => h) (yields_ldS (by rfl) _ rfl (by rfl) (fun _ hS => hS.1)) hHeld ?_
    try simp only [Act.put, List.setIfInBounds_toArray, List.set_cons_zero, List.set_cons_succ]
    refine wpAnyH_takeL (i := 1) (oi := _) rfl (by kernel_rfl) (by kernel_rfl) (by kernel_rfl) (fun _ _ _ h => h) (yields_ldS (by rfl) _ rfl (by rfl) (fun _ hS => hS.2)) hHeld ?_
    try simp only [Act.put, List.setIfInBounds_toArray, List.set_cons_zero, List.set_cons_succ]
    refine wpAnyH_takeL (i := 2) (oi := _) (v := ?_) rfl (by kernel_rfl) (by kernel_rfl) (by kernel_rfl) (fun _ _ _ h => h) (Or.inl ⟨by rfl, ?_⟩) hHeld ?_
    rotate_left
    · (intro w' hSw; (try dsimp only at hSw); go_simp; try (with_reducible rfl))
    try simp only [Act.put, List.setIfInBounds_toArray, List.set_cons_zero, List.set_cons_succ]
    refine wpAnyH_takeL (i := 3) (oi := _) (v := ?_) rfl (by kernel_rfl) (by kernel_rfl) (by kernel_rfl) (fun _ _ _ h => h) (Or.inl ⟨by rfl, ?_⟩) hHeld ?_
    rotate_left
    · (intro w' hSw; (try dsimp only at hSw); go_simp; try (with_reducible rfl))
    try simp only [Act.put, List.setIfInBounds_toArray, List.set_cons_zero, List.set_cons_succ]
    refine wpAnyH_takeL (i := 4) (oi := _) (v := undef) rfl (by kernel_rfl) (by kernel_rfl) (by kernel_rfl) (fun _ _ _ h => h) (Or.inr ⟨by rfl, rfl⟩) hHeld ?_
    try simp only [Act.put, List.setIfInBounds_toArray, List.set_cons_zero, List.set_cons_succ]
    refine wpAnyH_takeL (i := 5) (oi := _) (v := ?_) rfl (by kernel_rfl) (by kernel_rfl) (by kernel_rfl) (fun _ _ _ h => h) (Or.inl ⟨by rfl, ?_⟩) hHeld ?_
    rotate_left
    · (intro w' hSw; (try dsimp only at hSw); go_simp; try (with_reducible rfl))
    try simp only [Act.put, List.setIfInBounds_toArray, List.set_cons_zero, List.set_cons_succ]
    refine wpAnyH_ready (rs := [6]) (by kernel_rfl) (by simp) ?_
    refine AllReadyH.consL (o := _) rfl (fun K hK => ?_) AllReadyH.nil
    clear hHeld
    rw [if_pos (by rfl)]
    refine wp_stS _ _ rfl (by rfl) (by rfl) V2.out ?_
    intro ws0 hz hg
    replace V0 := Lib.hid (V0.out.gro hg (by omega))
    replace V1 := Lib.hid (V1.out.gro hg (by omega))
    replace V3 := Lib.hid (V3.out.gro hg (by omega))
    replace HX := Lib.hid (HX.out.grS V2.out hg)
    replace HP := Lib.hid (HP.out.grS V2.out hg)
    replace HY := Lib.hid (HY.out.grS V2.out hg)
    replace HQ := Lib.hid (HQ.out.grS V2.out hg)
    replace B1 := Lib.hid (Below.gr B1.out (by omega) hg B1.out.size)
    replace V2 := Lib.hid hz
    refine hK.out _ _ ⟨V2.out, V3.out⟩ (fun hHeld => ?_)
    clear hK K hg hz
    try simp only [Act.put]
    refine wpAnyH_ready (rs := [7]) (by kernel_rfl) (by simp) ?_
    refine AllReadyH.consL (o := _) rfl (fun K hK => ?_) AllReadyH.nil
    clear hHeld
    rw [if_pos (by rfl)]
    refine wp_stS _ _ rfl (by rfl) (by rfl) V3.out ?_
    intro ws1 hz hg
    replace V0 := Lib.hid (V0.out.gro hg (by omega))
    replace V1 := Lib.hid (V1.out.gro hg (by omega))
    replace V2 := Lib.hid (V2.out.gro hg (by omega))
    replace HX := Lib.hid (HX.out.grS V3.out hg)
    replace HP := Lib.hid (HP.out.grS V3.out hg)
    replace HY := Lib.hid (HY.out.grS V3.out hg)
    replace HQ := Lib.hid (HQ.out.grS V3.out hg)
    replace B1 := Lib.hid (Below.gr B1.out (by omega) hg B1.out.size)
    replace V3 := Lib.hid hz
    refine hK.out _ _ ⟨V2.out, V3.out⟩ (fun hHeld => ?_)
    clear hK K hg hz
    try simp only [Act.put]
    refine wpAnyH_takeL (i := 8) (oi := _) (v := ?_) rfl (by kernel_rfl) (by kernel_rfl) (by kernel_rfl) (fun _ _ _ h => h) (Or.inl ⟨by rfl, ?_⟩) hHeld ?_
    rotate_left
    · (intro w' hSw; (try dsimp only at hSw); go_simp; try (with_reducible rfl))
    try simp only [Act.put, List.setIfInBounds_toArray, List.set_cons_zero, List.set_cons_succ]
    clear hHeld
    refine wpAnyH_done (by kernel_rfl) ?_ _
    go_wp2
    exact ret_ss Tryz.results101 rfl rfl rfl rfl V2.out V3.out ⟨_, _, _, _, _, rfl, fun hok => (by cases hok), B1.out⟩
  · have hb := below_drewN w6.heap.size w6 1
    replace V0 := Lib.hid (V0.out.below hb V0.out.lt)
    replace V1 := Lib.hid (V1.out.below hb V1.out.lt)
    replace V2 := Lib.hid (V2.out.below hb V2.out.lt)
    replace V3 := Lib.hid (V3.out.below hb V3.out.lt)
    replace HX := Lib.hid (HX.out.below hb)
    replace HP := Lib.hid (HP.out.below hb)
    replace HY := Lib.hid (HY.out.below hb)
    replace HQ := Lib.hid (HQ.out.below hb)
    replace B1 := Lib.hid (B1.out.trans (hb.mono B1.out.size))
    clear hb
    refine wp_region_held_drew (S := fun w' => Sb w' (w.heap.size + 2) X Y ∧ Sb w' (w.heap.size + 3) U V) (by kernel_rfl) ⟨V2.out, V3.out⟩ (fun hHeld => ?_)
    refine wpAnyH_takeL (i := 0) (oi := _) rfl (by kernel_rfl) (by kernel_rfl) (by kernel_rfl) (fun _ _ _ h => h) (yields_ldS (by rfl) _ rfl (by rfl) (fun _ hS => hS.1)) hHeld ?_
    try simp only [Act.put, List.setIfInBounds_toArray, List.set_cons_zero, List.set_cons_succ]
    refine wpAnyH_takeL (i := 1) (oi := _) rfl (by kernel_rfl) (by kernel_rfl) (by kernel_rfl) (fun _ _ _ h => h) (yields_ldS (by rfl) _ rfl (by rfl) (fun _ hS => hS.2)) hHeld ?_
    try simp only [Act.put, List.setIfInBounds_toArray, List.set_cons_zero, List.set_cons_succ]
    refine wpAnyH_takeL (i := 2) (oi := _) (v := ?_) rfl (by kernel_rfl) (by kernel_rfl) (by kernel_rfl) (fun _ _ _ h => h) (Or.inl ⟨by rfl, ?_⟩) hHeld ?_
    rotate_left
    · (intro w' hSw; (try dsimp only at hSw); go_simp; try (with_reducible rfl))
    try simp only [Act.put, List.setIfInBounds_toArray, List.set_cons_zero, List.set_cons_succ]
    refine wpAnyH_takeL (i := 3) (oi := _) (v := ?_) rfl (by kernel_rfl) (by kernel_rfl) (by kernel_rfl) (fun _ _ _ h => h) (Or.inl ⟨by rfl, ?_⟩) hHeld ?_
    rotate_left
    · (intro w' hSw; (try dsimp only at hSw); go_simp; try (with_reducible rfl))
    try simp only [Act.put, List.setIfInBounds_toArray, List.set_cons_zero, List.set_cons_succ]
    refine wpAnyH_takeL (i := 4) (oi := _) (v := ?_) rfl (by kernel_rfl) (by kernel_rfl) (by kernel_rfl) (fun _ _ _ h => h) (Or.inl ⟨by rfl, ?_⟩) hHeld ?_
    rotate_left
    · (intro w' hSw; (try dsimp only at hSw); go_simp; try (with_reducible rfl))
    try simp only [Act.put, List.setIfInBounds_toArray, List.set_cons_zero, List.set_cons_succ]
    refine wpAnyH_takeL (i := 5) (oi := _) (v := ?_) rfl (by kernel_rfl) (by kernel_rfl) (by kernel_rfl) (fun _ _ _ h => h) (Or.inl ⟨by rfl, ?_⟩) hHeld ?_
    rotate_left
    · (intro w' hSw; (try dsimp only at hSw); go_simp; try (with_reducible rfl))
    try simp only [Act.put, List.setIfInBounds_toArray, List.set_cons_zero, List.set_cons_succ]
    refine wpAnyH_ready (rs := [6]) (by kernel_rfl) (by simp) ?_
    refine AllReadyH.consL (o := _) rfl (fun K hK => ?_) AllReadyH.nil
    clear hHeld
    rw [if_pos (by rfl)]
    refine wp_stS _ _ rfl (by rfl) (by rfl) V2.out ?_
    intro ws0 hz hg
    replace V0 := Lib.hid (V0.out.gro hg (by omega))
    replace V1 := Lib.hid (V1.out.gro hg (by omega))
    replace V3 := Lib.hid (V3.out.gro hg (by omega))
    replace HX := Lib.hid (HX.out.grS V2.out hg)
    replace HP := Lib.hid (HP.out.grS V2.out hg)
    replace HY := Lib.hid (HY.out.grS V2.out hg)
    replace HQ := Lib.hid (HQ.out.grS V2.out hg)
    replace B1 := Lib.hid (Below.gr B1.out (by omega) hg B1.out.size)
    replace V2 := Lib.hid hz
    refine hK.out _ _ ⟨V2.out, V3.out⟩ (fun hHeld => ?_)
    clear hK K hg hz
    try simp only [Act.put]
    refine wpAnyH_ready (rs := [7]) (by kernel_rfl) (by simp) ?_
    refine AllReadyH.consL (o := _) rfl (fun K hK => ?_) AllReadyH.nil
    clear hHeld
    rw [if_pos (by rfl)]
    refine wp_stS _ _ rfl (by rfl) (by rfl) V3.out ?_
    intro ws1 hz hg
    replace V0 := Lib.hid (V0.out.gro hg (by omega))
    replace V1 := Lib.hid (V1.out.gro hg (by omega))
    replace V2 := Lib.hid (V2.out.gro hg (by omega))
    replace HX := Lib.hid (HX.out.grS V3.out hg)
    replace HP := Lib.hid (HP.out.grS V3.out hg)
    replace HY := Lib.hid (HY.out.grS V3.out hg)
    replace HQ := Lib.hid (HQ.out.grS V3.out hg)
    replace B1 := Lib.hid (Below.gr B1.out (by omega) hg B1.out.size)
    replace V3 := Lib.hid hz
    refine hK.out _ _ ⟨V2.out, V3.out⟩ (fun hHeld => ?_)
    clear hK K hg hz
    try simp only [Act.put]
    refine wpAnyH_takeL (i := 8) (oi := _) (v := ?_) rfl (by kernel_rfl) (by kernel_rfl) (by kernel_rfl) (fun _ _ _ h => h) (Or.inl ⟨by rfl, ?_⟩) hHeld ?_
    rotate_left
    · (intro w' hSw; (try dsimp only at hSw); go_simp; try (with_reducible rfl))
    try simp only [Act.put, List.setIfInBounds_toArray, List.set_cons_zero, List.set_cons_succ]
    clear hHeld
    refine wpAnyH_done (by kernel_rfl) ?_ _
    go_wp2
    exact ret_ss Tryz.results101 rfl rfl rfl rfl V2.out V3.out ⟨_, _, _, _, _, rfl, fun hok => by obtain ⟨a1, a2, a3, a4⟩ := OkIf.get K1.out; obtain ⟨b1, b2, b3, b4⟩ := K2.out hok; exact ⟨a1, a2, a3, a4, b1, b2, b3, b4⟩, B1.out⟩
end Go.Proofs.YtfacndibfkamgaaGreat
