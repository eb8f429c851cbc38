/-
  Vh, Vk, Vn, Vo.
-/
import Derived.Test.YtfacndibfkamgaaGreatKD
import Derived.LoopN
/-
  Contract of the law of package vector: short.
-/
namespace Go.Proofs.YtfacndibfkamgaaGreat
open Go.RowKit
set_option linter.unusedVariables false

set_option maxRecDepth 100000 in
set_option maxHeartbeats 16000000 in
theorem mod_v {v n : Int} (hn : 0 < n ∧ n ≤ 1000000) (w : World) :
    Calls Tryz.prog 43 #[.int .i64 v, .int .i64 n] w fun e w' => (∃ r : Int, e = .returned (.int .i64 r) ∧ 0 ≤ r ∧ r < n) ∧ Below w.heap.size w w' := by
  obtain ⟨u, hu⟩ : ∃ u, IntKind.u64.wrap v = u := ⟨_, rfl⟩
  have u0 : 0 ≤ u ∧ u < 18446744073709551616 := by rw [← hu, IntKind.wrap_u64]; omega
  have wn : IntKind.u64.wrap n = n := by rw [IntKind.wrap_u64]; omega
  have n0 : ¬ n = 0 := by omega
  have n1 : (n == 0) = false := by simpa using n0
  have tm : u.tmod n = u % n := Int.tmod_eq_emod_of_nonneg u0.1
  have r0 : 0 ≤ u % n := Int.emod_nonneg _ n0
  have r1 : u % n < n := Int.emod_lt_of_pos _ hn.1
  obtain ⟨r, hr⟩ : ∃ r, u % n = r := ⟨_, rfl⟩
  rw [hr] at tm r0 r1
  have w1 : IntKind.u64.wrap r = r := by rw [IntKind.wrap_u64]; omega
  have w2 : IntKind.i64.wrap r = r := IntWalk.i64_in _ (by omega)
  clear hr
  go_enter Tryz.func43, Tryz.ntmps43
  go_wp2
  go_ret
  exact ⟨⟨r, rfl, r0, r1⟩, Below.refl _ _⟩
theorem Lg.own_lt {α : Type} {enc : α → List Value} {k : Nat} {t : TypeId} {w : World} {base : Nat} {v : Value} {rs : List α} (h : Lg enc k t w base v rs) : ∀ q, v.ownBlock = some q → q < w.heap.size := fun q hq => by
  rcases h.2 with ⟨rfl, _⟩ | ⟨b, cap, cur, rfl, _, e3, _⟩
  · simp [Value.ownBlock] at hq
  · simp only [Value.ownBlock, Option.some.injEq] at hq
    subst hq
    exact lt_of_heap e3
theorem wp_append_E2 {o : Oper} {a : Act} {Q : Exit → Act → World → Prop} {K : Act → World → Prop} {w : World} (s x : Operand)
    (ho : o.op = .call { callee := .builtin .append, args := #[s, x], argTypes := #[23, 23] }) {base g c : Nat} {v : Value} {rs : List (Int × Nt)} (r : Int × Nt) (hs : a.eval s = v) (hP : Lg encE 4 58 w base v rs)
    (hx : a.eval x = .slice (some ⟨g, 0, none⟩) 1 c) (hz : w.rangeAt g 0 (encE r)) (hn : rs.length ≤ 1000000000) (hb : base ≤ w.heap.size)
    (h : ∀ v' w', Lg encE 4 58 w' base v' (rs ++ [r]) → Kt 58 base w w' → w.grownBy w' v.ownBlock → K (a.put o.dst v') w') : o.wp Tryz.prog a w K Q := by
  obtain ⟨i, hi, hz0, hs2, hb32⟩ := infoV
  refine wp_append_own w s x 23 ho base 58 i _ 4 64 Tryz.underlying23 hi hz0 hs2 hb32 rfl (by decide) v rs.length (rs.flatMap encE) hs hP ⟨g, 0, none⟩ 1 c (encE r) hx rfl ?_ ?_ (by unfold maxLen; omega) (by omega) hb ?_
  · intro j u hj
    rw [Addr.add_mid]
    exact hz j u hj
  · intro u hu
    exact oneE r u hu
  · intro v' w' hown' hgr _
    exact h v' w' (by unfold Lg; rw [List.length_append, List.flatMap_append]; simpa using hown') (kt_of hb hP hgr) hgr
section
variable {ops : Array Oper} {o : Oper} {a : Act} {S : World → Prop} {g n c m k : Nat} {i : Int} {s : Bool} {A D : Option Addr}
theorem yields_ldVi (hw : Region.wanted o (yielded ops a.tmps) = true) (p : Operand) (ho : o.op = .load 3 p) (hx : a.eval p = .pointer (some ⟨g, 0, none⟩)) (hS : ∀ w, S w → Vb w g i s A n c D m k) : YieldsIf Tryz.prog ops S o (.int .i64 i) a := yields_ldI hw p ho hx (fun w h => (hS w h).cell0)
theorem yields_ldVq (hw : Region.wanted o (yielded ops a.tmps) = true) (p : Operand) (ho : o.op = .load 29 p) (hx : a.eval p = .pointer (some ⟨g, 1, none⟩)) (hS : ∀ w, S w → Vb w g i s A n c D m k) : YieldsIf Tryz.prog ops S o (.agg #[.bool s, .slice A n c, .slice D m k]) a := yields_ld3 hw p ho hx (fun w h => (hS w h).rangeV)
end
def Shl (rs : List (Int × Nt)) (L n : Nat) (w : World) (v3 v9 : Value) (wr : World) : Prop := ∃ (k : Nat) (out : List (Int × Nt)), v9 = .int .i64 (k : Int) ∧ k ≤ n ∧ Lg encE 4 58 wr w.heap.size v3 out ∧ out.length = k ∧ (∀ r ∈ out, Nok w r.2 L) ∧ Below w.heap.size w wr
/-- What short gives: at most 40 entries, with the values of the list. -/
def Shd (L : Nat) (w : World) (e : Ending) (w' : World) : Prop := ∃ (A : Option Addr) (c : Nat) (rs' : List (Int × Nt)), e = .returned (.slice A rs'.length c) ∧ Sl encE 4 w' A c rs' ∧ rs'.length ≤ 40 ∧ (∀ r ∈ rs', Nok w' r.2 L) ∧ Below w.heap.size w w'
set_option maxRecDepth 100000 in
set_option maxHeartbeats 16000000 in
theorem short_any {w : World} {A : Option Addr} {c L : Nat} {rs : List (Int × Nt)} (h : Sl encE 4 w A c rs) (hv : ∀ r ∈ rs, Nok w r.2 L) : Calls Tryz.prog 10 #[.slice A rs.length c] w (Shd L w) := by
  have H := Lib.hid h
  have HV := Lib.hid hv
  clear h hv
  go_enter Tryz.func10, Tryz.ntmps10
  have pc0 := Lib.hid trivial
  go_wp2_with (first
    | (clear pc0; go_at_call 42; refine Calls.mono (first40 H.out) ?_; rintro e w1 ⟨rs1, rfl, hs, hl, hsub, hb⟩; have S1 := Lib.hid hs; have B1 := Lib.hid hb; have L40 := Lib.hid hl; have V1 : Hid (∀ r ∈ rs1, Nok w r.2 L) := fun r hr => HV.out r (hsub r hr); clear hs hl hsub hb; have pc1 := Lib.hid trivial))
  clear pc1
  obtain ⟨n, hn⟩ : ∃ n, rs1.length = n := ⟨_, rfl⟩
  have HN := Lib.hid hn
  have LN : Hid (n ≤ 40) := by show _ ≤ _; rw [← hn]; exact L40.out
  rw [hn]
  clear hn L40
  go_loopw [3, 9] (fun v3 v9 wr => Hid (Shl rs1 L n w v3 v9 wr)) (fun _ v9 _ => n - (intOf v9).toNat)
  case atStart => exact Lib.hid ⟨0, [], rfl, Nat.zero_le _, Lg.nil _ _, rfl, (fun r hr => by cases hr), B1.out⟩
  case round =>
    clear B1
    obtain ⟨k, out, rfl, hkn, hlg, hlk, hno, hbb⟩ := hrel.out
    have LG := Lib.hid hlg
    have LK := Lib.hid hlk
    have NO := Lib.hid hno
    have B1 := Lib.hid hbb
    clear hlg hlk hno hbb hrel
    by_cases hk : k < n
    · obtain ⟨x, hx⟩ : ∃ x, rs1[k]? = some x := ⟨_, List.getElem?_eq_getElem (by have := HN.out; omega)⟩
      have NX := Lib.hid (V1.out x (List.mem_of_getElem? hx))
      obtain ⟨b, o, rfl, hb, hr⟩ := (S1.out.below B1.out).at_ (by have := HN.out; omega)
      have R0 := Lib.hid (hr k x hx)
      have c1 : (k : Int) < (n : Int) := by omega
      have n0 : (n : Int) ≤ 40 := by have := LN.out; omega
      have w1' : IntKind.i64.wrap ((k : Int) + 1) = (k : Int) + 1 := IntWalk.i64_in _ (by omega)
      clear hb hr hx
      have LG0 := Lib.hid LG.out
      have pc0 := Lib.hid trivial
      go_wp2_with (first
        | (clear pc0; refine wpList_ld4 (by rfl) _ rfl (by rfl) R0.out ?_; have pc1 := Lib.hid trivial)
        | (clear pc1; refine wpList_stV (by rfl) _ _ rfl (by rfl) (by rfl) (Vb.new wr 0 false none 0 0 none 0 0) ?_; intro w2 hz hg; have hb := below_new hg; have X0 := Lib.hid hz; replace LG := Lib.hid (LG.out.below hb); have OL : Hid (∀ q, u3.ownBlock = some q → q < wr.heap.size) := LG0.out.own_lt; replace B1 := Lib.hid (B1.out.trans (hb.mono B1.out.size)); clear hz hg hb; have pc2 := Lib.hid trivial))
      clear pc2
      obtain ⟨xi, xr⟩ := x
      dsimp only at X0 NX
      have LO : Hid (out.length ≤ 1000000000) := by have := LK.out; have := LN.out; show _ ≤ _; omega
      have hb : Below w2.heap.size w2 w2.drew := below_drewN _ w2 1
      replace X0 := Lib.hid (X0.out.below hb X0.out.lt)
      replace LG := Lib.hid (LG.out.below hb)
      replace B1 := Lib.hid (B1.out.trans (hb.mono B1.out.size))
      clear hb
      refine wp_region_held_drew (S := fun w' => Vb w' wr.heap.size xi xr.s xr.A xr.n xr.c xr.D xr.m xr.k) (by kernel_rfl) (X0.out) (fun hHeld => ?_)
      generalize w2.drew = w2d at *
      refine wpAnyH_takeL (i := 0) (oi := _) (v := ?_) rfl (by kernel_rfl) (by kernel_rfl) (by kernel_rfl) (fun _ _ _ h => h) (Or.inl ⟨by rfl, ?_⟩) hHeld ?_
      rotate_left
      · (intro w' hSw; (try dsimp only at hSw); go_simp; try (with_reducible rfl))
      try simp only [Act.put, List.setIfInBounds_toArray, List.set_cons_zero, List.set_cons_succ]
      refine wpAnyH_takeL (i := 1) (oi := _) (v := ?_) rfl (by kernel_rfl) (by kernel_rfl) (by kernel_rfl) (fun _ _ _ h => h) (Or.inl ⟨by rfl, ?_⟩) hHeld ?_
      rotate_left
      · (intro w' hSw; (try dsimp only at hSw); go_simp; try (with_reducible rfl))
      try simp only [Act.put, List.setIfInBounds_toArray, List.set_cons_zero, List.set_cons_succ]
      refine wpAnyH_takeL (i := 2) (oi := _) rfl (by kernel_rfl) (by kernel_rfl) (by kernel_rfl) (fun _ _ _ h => h) (yields_ldVi (by rfl) _ rfl (by rfl) (fun _ hS => hS)) hHeld ?_
      try simp only [Act.put, List.setIfInBounds_toArray, List.set_cons_zero, List.set_cons_succ]
      refine wpAnyH_takeL (i := 5) (oi := _) (v := ?_) rfl (by kernel_rfl) (by kernel_rfl) (by kernel_rfl) (fun _ _ _ h => h) (Or.inl ⟨by rfl, ?_⟩) hHeld ?_
      rotate_left
      · (intro w' hSw; (try dsimp only at hSw); go_simp; try (with_reducible rfl))
      try simp only [Act.put, List.setIfInBounds_toArray, List.set_cons_zero, List.set_cons_succ]
      refine wpAnyH_takeL (i := 6) (oi := _) rfl (by kernel_rfl) (by kernel_rfl) (by kernel_rfl) (fun _ _ _ h => h) (yields_ldVq (by rfl) _ rfl (by rfl) (fun _ hS => hS)) hHeld ?_
      try simp only [Act.put, List.setIfInBounds_toArray, List.set_cons_zero, List.set_cons_succ]
      refine wpAnyH_ready (rs := [3]) (by kernel_rfl) (by simp) ?_
      refine AllReadyH.consL (o := _) rfl (fun K hK => ?_) AllReadyH.nil
      clear hHeld
      go_simp
      go_at_call 43
      refine Calls.mono (mod_v (by omega) _) ?_
      rintro e w3 ⟨⟨q, rfl, q0, q1⟩, hb⟩
      replace X0 := Lib.hid (X0.out.below hb X0.out.lt)
      replace LG := Lib.hid (LG.out.below hb)
      replace B1 := Lib.hid (B1.out.trans (hb.mono B1.out.size))
      have w9 : IntKind.i64.wrap (q - 1) = q - 1 := IntWalk.i64_in _ (by omega)
      obtain ⟨i2, hi2⟩ : ∃ z, q - 1 = z := ⟨_, rfl⟩
      rw [hi2] at w9
      clear q0 q1
      clear hb
      refine hK.out _ _ (X0.out) (fun hHeld => ?_)
      clear hK K
      try simp only [Act.put, List.setIfInBounds_toArray, List.set_cons_zero, List.set_cons_succ]
      refine wpAnyH_takeL (i := 4) (oi := _) (v := ?_) rfl (by kernel_rfl) (by kernel_rfl) (by kernel_rfl) (fun _ _ _ h => h) (Or.inl ⟨by rfl, ?_⟩) hHeld ?_
      rotate_left
      · (intro w' hSw; (try dsimp only at hSw); go_simp; try (with_reducible rfl))
      try simp only [Act.put, List.setIfInBounds_toArray, List.set_cons_zero, List.set_cons_succ]
      refine wpAnyH_takeL (i := 7) (oi := _) (v := ?_) rfl (by kernel_rfl) (by kernel_rfl) (by kernel_rfl) (fun _ _ _ h => h) (Or.inl ⟨by rfl, ?_⟩) hHeld ?_
      rotate_left
      · (intro w' hSw; (try dsimp only at hSw); go_simp; try (with_reducible rfl))
      try simp only [Act.put, List.setIfInBounds_toArray, List.set_cons_zero, List.set_cons_succ]
      refine wpAnyH_ready (rs := [8]) (by kernel_rfl) (by simp) ?_
      refine AllReadyH.consL (o := _) rfl (fun K hK => ?_) AllReadyH.nil
      clear hHeld
      go_simp
      have hb : Below w3.heap.size w3 (w3.alloc (.cells #[.int .i64 i2, .bool xr.s, .slice xr.A xr.n xr.c, .slice xr.D xr.m xr.k] 58)) := (Below.refl _ _).alloc (Nat.le_refl _) _
      have TB : Hid (Vb (w3.alloc (.cells #[.int .i64 i2, .bool xr.s, .slice xr.A xr.n xr.c, .slice xr.D xr.m xr.k] 58)) w3.heap.size i2 xr.s xr.A xr.n xr.c xr.D xr.m xr.k) := Vb.new w3 i2 xr.s xr.A xr.n xr.c xr.D xr.m xr.k
      replace X0 := Lib.hid (X0.out.bel hb)
      replace LG := Lib.hid (LG.out.below hb)
      replace B1 := Lib.hid (B1.out.trans (hb.mono B1.out.size))
      clear hb
      generalize w3.alloc (.cells #[.int .i64 i2, .bool xr.s, .slice xr.A xr.n xr.c, .slice xr.D xr.m xr.k] 58) = wb at *
      refine hK.out _ _ (X0.out) (fun hHeld => ?_)
      clear hK K
      try simp only [Act.put, List.setIfInBounds_toArray, List.set_cons_zero, List.set_cons_succ]
      refine wpAnyH_ready (rs := [9]) (by kernel_rfl) (by simp) ?_
      refine AllReadyH.consL (o := _) rfl (fun K hK => ?_) AllReadyH.nil
      clear hHeld
      rw [if_pos (by rfl)]
      refine wp_append_E2 _ _ rfl (i2, xr) (by rfl) LG.out (by rfl) TB.out.range LO.out B1.out.size ?_
      intro v9 wc hlg hkt hgr
      clear LG TB
      have LG := Lib.hid hlg
      replace X0 : Hid (Vb wc wr.heap.size xi xr.s xr.A xr.n xr.c xr.D xr.m xr.k) := (hgr.block _ X0.out.lt (fun e => by have := OL.out _ e.symm; omega)).trans X0.out
      replace B1 := Lib.hid (B1.out.trans hkt.2)
      clear hlg hkt hgr
      refine hK.out _ _ (X0.out) (fun hHeld => ?_)
      clear hK K
      try simp only [Act.put, List.setIfInBounds_toArray, List.set_cons_zero, List.set_cons_succ]
      refine wpAnyH_takeL (i := 10) (oi := _) (v := ?_) rfl (by kernel_rfl) (by kernel_rfl) (by kernel_rfl) (fun _ _ _ h => h) (Or.inl ⟨by rfl, ?_⟩) hHeld ?_
      rotate_left
      · (intro w' hSw; (try dsimp only at hSw); go_simp; try (with_reducible rfl))
      try simp only [Act.put, List.setIfInBounds_toArray, List.set_cons_zero, List.set_cons_succ]
      clear hHeld
      refine wpAnyH_done (by kernel_rfl) ?_ _
      go_wp2_with fail
      go_roundw
      case rel => exact Lib.hid ⟨k + 1, out ++ [(i2, xr)], by go_num, by omega, LG.out, by rw [List.length_append, LK.out]; rfl, (fun r hr => (List.mem_append.1 hr).elim (fun hr => NO.out r hr) (fun hr => by simp at hr; rw [hr]; exact NX.out)), B1.out⟩
      case measure => simp [intOf]; omega
    · obtain rfl : k = n := by omega
      have c1 : ¬ (k : Int) < (k : Int) := by omega
      go_wp2_with fail
      obtain ⟨A2, c2, rfl, hs2⟩ := LG.out.sl encE_len
      refine ret_t rfl rfl rfl ⟨A2, c2, out, rfl, hs2, by rw [LK.out]; exact LN.out, fun r hr => (NO.out r hr).below B1.out, B1.out⟩
end Go.Proofs.YtfacndibfkamgaaGreat

/-
  Contracts of package vector: Dot where the product is not empty; isPermutation, isWithin and Permute at the law's own numbers.
-/
namespace Go.Proofs.YtfacndibfkamgaaGreat
open Go.RowKit
set_option linter.unusedVariables false

/-- What Dot gives. -/
def Dtd (a b : List (Int × Nt)) (M : Nat) (w : World) (e : Ending) (w' : World) : Prop := ∃ r : Nt, e = .returned (.agg #[.bool r.s, .slice r.A r.n r.c, .slice r.D r.m r.k]) ∧ Nown w' r ∧ (∃ l, Asc l ∧ (∀ i, cpt l i = cpt (ev a) i * cpt (ev b) i) ∧ r.q = tot l) ∧ RL r.q M ∧ Below w.heap.size w w'
def Dtl (rs : List (Int × Nt)) (base : Nat) (w1 : World) (v5 v12 : Value) (wr : World) : Prop := ∃ (k : Nat) (vs : List Nt), v12 = .int .i64 (k : Int) ∧ k ≤ rs.length ∧ Lg encR 3 29 wr w1.heap.size v5 vs ∧ vs = (rs.take k).map (·.2) ∧ Below w1.heap.size w1 wr
set_option maxRecDepth 100000 in
set_option maxHeartbeats 16000000 in
theorem dot_any {w : World} {A B : Option Addr} {c d L S : Nat} {a b : List (Int × Nt)} (ha : Sl encE 4 w A c a) (va : ∀ r ∈ a, Nok w r.2 L) (hb : Sl encE 4 w B d b) (vb : ∀ r ∈ b, Nok w r.2 L) (hL : 1 ≤ L) (hM : L ≤ S) (hR : a.length * (L + 2) ≤ S) (hR2 : b.length * (L + 2) ≤ S) (hB : S ≤ 11728124029609) (hn : a.length ≤ 1000) (hn2 : b.length ≤ 1000) (hBB : 2000 * (S + S + 2) ≤ 35184372088829) (hne : ∃ i, cpt (ev a) i * cpt (ev b) i ≠ 0) : Calls Tryz.prog 27 #[.slice A a.length c, .slice B b.length d] w (Dtd a b (2000 * (S + S + 2)) w) := by
  have eg : ∀ args w, (callFunc 60 args).run Tryz.prog w = .ok (.enter 60 args) w := enters_of Tryz.func60 (by kernel_rfl) rfl
  obtain ⟨B1, V0⟩ := start_R0 w
  have C := Lib.hid (merge_any eg (opat_prod (w := w.alloc (.cells #[.bool false, .slice none 0 0, .slice none 0 0] 29)) (S := S) (by omega) (by omega)) (Rat.mul_zero 0) (ha.below B1.out) (fun r hr => (va r hr).below B1.out) (hb.below B1.out) (fun r hr => (vb r hr).below B1.out) hL hM hR hR2 (by omega) (by omega) (by omega) (by omega))
  have NE := Lib.hid hne
  have LS := Lib.hid hB
  have LBB := Lib.hid hBB
  have S1 : Hid (1 ≤ S) := Nat.le_trans hL hM
  have LAB : Hid (a.length + b.length ≤ 2000) := by show _ ≤ _; omega
  clear eg ha va hb vb hL hM hR hR2 hB hn hn2 hBB hne
  go_enter Tryz.func27, Tryz.ntmps27
  have pc0 := Lib.hid trivial
  go_wp2_with (first
    | (clear pc0; generalize w.alloc (.cells #[.bool false, .slice none 0 0, .slice none 0 0] 29) = w0 at *; go_at_call 59; refine Calls.mono C.out ?_; rintro e w1 ⟨A1, c1, rs, rfl, h1, h2, h3, h4, h5, hb2⟩; have H1 := Lib.hid h1; have H2 := Lib.hid h2; have H3 := Lib.hid h3; have H4 := Lib.hid h4; have H5 := Lib.hid h5; replace V0 := Lib.hid (V0.out.below hb2 V0.out.lt); replace B1 := Lib.hid (B1.out.trans (hb2.mono B1.out.size)); clear h1 h2 h3 h4 h5 hb2; have pc1 := Lib.hid trivial))
  clear pc1 C
  obtain ⟨n, hn⟩ : ∃ n, rs.length = n := ⟨_, rfl⟩
  have HN := Lib.hid hn
  have NP : Hid (0 < n) := by
    show 0 < n
    rw [← hn]
    rcases rs with _ | ⟨x, t⟩
    · obtain ⟨i, hi⟩ := NE.out
      exact absurd (H3.out i).symm hi
    · simp
  have NB : Hid (n ≤ 2000) := by show _ ≤ _; rw [← hn]; exact Nat.le_trans H5.out LAB.out
  rw [hn]
  clear hn
  go_loopw [5, 12] (fun v5 v12 wr => Hid (Dtl rs 0 w1 v5 v12 wr)) (fun _ v12 _ => n - (intOf v12).toNat)
  case atStart => exact Lib.hid ⟨0, [], rfl, Nat.zero_le _, Lg.nil _ _, rfl, Below.refl _ _⟩
  case round =>
    obtain ⟨k, vs, rfl, hkn, hlg, hvs, hbb⟩ := hrel.out
    have LG := Lib.hid hlg
    have VS := Lib.hid hvs
    have B2 := Lib.hid hbb
    have n0 : (n : Int) ≤ 2000 := by have := NB.out; omega
    by_cases hk : k < n
    · obtain ⟨x, hx⟩ : ∃ x, rs[k]? = some x := ⟨_, List.getElem?_eq_getElem (by have := HN.out; omega)⟩
      obtain ⟨b, o, rfl, hb, hr⟩ := (H1.out.below B2.out).at_ (by have := HN.out; omega)
      have R0 := Lib.hid (hr k x hx)
      have VN : Hid (vs ++ [x.2] = (rs.take (k + 1)).map (·.2)) := by show _ = _; rw [List.take_add_one, hx, List.map_append, hvs]; rfl
      have LV : Hid (vs.length ≤ 1000000000) := by show _ ≤ _; rw [hvs, List.length_map, List.length_take]; have := NB.out; omega
      have c1 : (k : Int) < (n : Int) := by omega
      have w1' : IntKind.i64.wrap ((k : Int) + 1) = (k : Int) + 1 := IntWalk.i64_in _ (by omega)
      clear hb hr hx hkn hlg hvs hbb hrel
      have pc0 := Lib.hid trivial
      go_wp2_with (first
        | (clear pc0; refine wpList_ld4 (by rfl) _ rfl (by rfl) R0.out ?_; have pc1 := Lib.hid trivial)
        | (clear pc1; refine wpList_stV (by rfl) _ _ rfl (by rfl) (by rfl) (Vb.new wr 0 false none 0 0 none 0 0) ?_; intro w2 hz hg; have hb := below_new hg; have X0 := Lib.hid hz; replace LG := Lib.hid (LG.out.below hb); replace B2 := Lib.hid (B2.out.trans (hb.mono B2.out.size)); clear hz hg hb; have pc2 := Lib.hid trivial)
        | (clear pc2; refine wpList_ld3 (by rfl) _ rfl (by rfl) X0.out.rangeV ?_; have pc3 := Lib.hid trivial)
        | (clear pc3; refine append_R rfl _ _ rfl x.2 rfl (LG.out.below ((Below.refl _ _).alloc (Nat.le_refl _) _)) rfl (Rb.new w2 x.2.s x.2.A x.2.n x.2.c x.2.D x.2.m x.2.k).range0 LV.out (by have := B2.out.size; simp; omega) ?_; intro v9 w3 hlg hkt; have LGN := Lib.hid hlg; have BN : Hid (Below w1.heap.size w1 w3) := (B2.out.trans (((Below.refl w2.heap.size w2).alloc (Nat.le_refl _) (.cells #[.bool x.2.s, .slice x.2.A x.2.n x.2.c, .slice x.2.D x.2.m x.2.k] 29)).mono B2.out.size)).trans hkt.2; clear hlg hkt; have pc4 := Lib.hid trivial))
      clear pc4
      go_roundw
      case rel => exact Lib.hid ⟨k + 1, vs ++ [x.2], by go_num, by have := HN.out; omega, LGN.out, VN.out, BN.out⟩
      case measure => simp [intOf]; omega
    · obtain rfl : k = n := by have := HN.out; omega
      have c1 : ¬ (k : Int) < (k : Int) := by omega
      obtain ⟨A2, c2, hA, hs⟩ := LG.out.sl encR_len
      subst hA
      have VE : Hid (vs = rs.map (·.2)) := by show _ = _; rw [hvs, List.take_of_length_le (by have := HN.out; omega)]
      have SV := Lib.hid hs
      have OV : Hid (∀ r ∈ vs, Nok wr r (S + S)) := fun r hr => by
        rw [VE.out] at hr
        obtain ⟨e, he, rfl⟩ := List.mem_map.1 hr
        exact ((H4.out e he).1.ok (H4.out e he).2).below B2.out
      have LEN : Hid (vs.length = k) := by show _ = _; rw [VE.out, List.length_map]; exact HN.out
      have LQ : Hid (vs.length * (S + S + 2) ≤ 2000 * (S + S + 2)) := Nat.mul_le_mul_right _ (by rw [LEN.out]; exact NB.out)
      have SQ : Hid (sumq (vs.map Nt.q) = tot (ev rs)) := by show _ = _; rw [VE.out, tot_sumq]; simp [ev, Function.comp_def]
      replace V0 := Lib.hid (V0.out.below B2.out V0.out.lt)
      replace B1 := Lib.hid (B1.out.trans (B2.out.mono B1.out.size))
      clear hkn hlg hvs hbb hs hrel VS
      have pc0 := Lib.hid trivial
      go_wp2_with (first
        | (clear pc0; go_at_call 61; refine Calls.mono (sum_any SV.out OV.out (by rw [LEN.out]; exact NP.out) (by have := S1.out; omega) (Nat.le_trans LQ.out LBB.out) (by rw [LEN.out]; have := NB.out; omega)) ?_; rintro e w3 ⟨⟨s1, A3, n3, c3, D3, m3, k3, x3, p3⟩, rfl, ow, hq, hrl, hb⟩; replace V0 := Lib.hid (V0.out.below hb V0.out.lt); replace B1 := Lib.hid (B1.out.trans (hb.mono B1.out.size)); have OW := Lib.hid ow; have QQ := Lib.hid hq; have RQ := Lib.hid hrl; clear ow hq hrl; clear hb; have pc1 := Lib.hid trivial)
        | (clear pc1; refine wpList_stR (by rfl) _ _ rfl (by rfl) (by rfl) V0.out ?_; intro w5 hz hg; have tx := V0.out.tx; replace OW := Lib.hid (OW.out.grT tx hg); replace B1 := Lib.hid (Below.gr B1.out (Nat.le_refl _) hg B1.out.size); clear tx; replace V0 := Lib.hid hz; clear hz hg; have pc2 := Lib.hid trivial))
      clear pc2
      exact ret_rb Tryz.results27 rfl rfl V0.out ⟨⟨s1, A3, n3, c3, D3, m3, k3, x3, p3⟩, rfl, OW.out, ⟨ev rs, H2.out, H3.out, by rw [QQ.out, SQ.out]⟩, by rw [QQ.out]; exact RQ.out.le LQ.out, B1.out⟩
end Go.Proofs.YtfacndibfkamgaaGreat

/-
  Contracts of package vector at the law's own numbers: isPermutation, isWithin, Permute.
-/
namespace Go.Proofs.YtfacndibfkamgaaGreat
open Go.RowKit
set_option linter.unusedVariables false

set_option maxRecDepth 100000 in
set_option maxHeartbeats 16000000 in
theorem perm_201 {w : World} {g : Nat} (h : w.heap[g]? = some (.cells #[.int .i64 2, .int .i64 0, .int .i64 1] 3 (0, 0))) : Calls Tryz.prog 54 #[.slice (some ⟨g, 0, none⟩) 3 3] w fun e w' => e = .returned (.bool true) ∧ Below w.heap.size w w' := by
  have lt : g < w.heap.size := lt_of_heap h
  have c0 := cell_of_row w g 0 _ _ _ h
  have c1 := cell_of_row w g 1 _ _ _ h
  have c2 := cell_of_row w g 2 _ _ _ h
  simp at c0 c1 c2
  have b0 : ∀ ob : Obj, (w.alloc ob).cell? ⟨g, 0, none⟩ = some (.int .i64 2) := fun ob => (((Below.refl w.heap.size w).alloc (Nat.le_refl _) ob).cell (p := ⟨g, 0, none⟩) lt).trans c0
  have b1 : ∀ ob : Obj, (w.alloc ob).cell? ⟨g, 1, none⟩ = some (.int .i64 0) := fun ob => (((Below.refl w.heap.size w).alloc (Nat.le_refl _) ob).cell (p := ⟨g, 1, none⟩) lt).trans c1
  have b2 : ∀ ob : Obj, (w.alloc ob).cell? ⟨g, 2, none⟩ = some (.int .i64 1) := fun ob => (((Below.refl w.heap.size w).alloc (Nat.le_refl _) ob).cell (p := ⟨g, 2, none⟩) lt).trans c2
  have ne : ¬ g = w.heap.size := by omega
  have ne2 : ¬ w.heap.size = g := by omega
  have hmk : ∀ w, (Instr.makeSlice 115 (.int .i64 3) (.int .i64 3)).run Tryz.prog w = .ok (.slice (some ⟨w.heap.size, 0, none⟩) 3 3) (w.alloc (.cells #[.bool false, .bool false, .bool false] 4)) := fun _ => by kernel_rfl
  clear h
  go_enter Tryz.func54, Tryz.ntmps54
  go_wp2_with fail
  refine wp_loop_rounds 4 ?_
  rw [rounds_succ]
  go_wp2_with fail
  rw [rounds_succ]
  go_wp2_with fail
  rw [rounds_succ]
  go_wp2_with fail
  rw [rounds_succ]
  go_wp2_with fail
  exact ret_t rfl rfl rfl ⟨rfl, (Below.refl _ _).alloc (Nat.le_refl _) _⟩
set_option maxRecDepth 100000 in
set_option maxHeartbeats 16000000 in
theorem within_03 {w : World} {A : Option Addr} {c : Nat} {r : Nt} (h : Sl encE 4 w A c [(0, r)]) : Calls Tryz.prog 45 #[.slice A 1 c, .int .i64 3] w fun e w' => e = .returned (.bool true) ∧ Below w.heap.size w w' := by
  obtain ⟨b, o, rfl, hb, hr⟩ := h.head
  have c0 : w.cell? ⟨b, o, none⟩ = some (.int .i64 0) := hr 0 _ rfl
  clear h hr hb
  go_enter Tryz.func45, Tryz.ntmps45
  go_wp2_with fail
  exact ret_t rfl rfl rfl ⟨rfl, Below.refl _ _⟩
theorem er_vb {w : World} {g : Nat} {i : Int} {r : Nt} (h : Er w g [(i, r)]) : Vb w g i r.s r.A r.n r.c r.D r.m r.k := h
theorem vb_er {w : World} {g : Nat} {i : Int} {r : Nt} (h : Vb w g i r.s r.A r.n r.c r.D r.m r.k) : Er w g [(i, r)] := h
theorem wpList_stVi {ops : Array Oper} {rest : List Oper} {o : Oper} {a : Act} {w : World} {Q : Exit → Act → World → Prop} {g n c m k : Nat} {i i2 : Int} {s : Bool} {A D : Option Addr} (hw : Region.wanted o (yielded ops a.tmps) = true) (p q : Operand) (ho : o.op = .store 3 p q) (hx : a.eval p = .pointer (some ⟨g, 0, none⟩)) (hy : a.eval q = .int .i64 i2) (hz : Vb w g i s A n c D m k)
    (h : ∀ w', Vb w' g i2 s A n c D m k → w.grownBy w' (some g) → wpList Tryz.prog ops Q rest (a.put o.dst undef) w') : wpList Tryz.prog ops Q (o :: rest) a w :=
  wpList_wanted hw fun K hK => by
    have hg : w.heap[g]? = some (.cells ([Value.int .i64 i] ++ ([Value.bool s, Value.slice A n c, Value.slice D m k] : List Value)).toArray 58 (0, 0)) := hz
    have hs := row_store (P := Tryz.prog) (P1 := []) (V1 := [Value.int .i64 i]) (S1 := [.bool s, .slice A n c, .slice D m k]) (vs := [Value.int .i64 i2]) hg rfl (fun v hv => by simp at hv; subst hv; rfl)
    simp only [List.length_nil, List.nil_append] at hs
    have hi : (Tryz.prog.info? 3).map (·.size) = some 1 := by kernel_rfl
    obtain ⟨i', hi', hsz⟩ := Option.map_eq_some_iff.1 hi
    have hrun : (storeVar 3 ⟨g, 0, none⟩ (.int .i64 i2)).run Tryz.prog w = .ok () (w.setRow g ([Value.int .i64 i2] ++ ([Value.bool s, Value.slice A n c, Value.slice D m k] : List Value)).toArray) := by
      simp [storeVar, sizeOf, typeInfo, hi', Value.cells, hsz, hs]
    unfold Oper.wp execOp
    simp only [ho, hx, hy, Instr.storeAt, Instr.sureAddr, Sem.run_bind, Sem.run_pure, Result.andThen_ok, hrun]
    exact hK _ _ (h _ (setRow_heap w g _ _ _ _ hg) (grown_setRow w g _))
theorem one_of {rs : List (Int × Nt)} {i : Int} {q : Rat} (h : ev rs = [(i, q)]) : ∃ r : Nt, rs = [(i, r)] ∧ r.q = q := by
  rcases rs with _ | ⟨⟨j, r⟩, t⟩
  · cases h
  · simp only [ev, List.map_cons, List.cons.injEq, Prod.mk.injEq, List.map_eq_nil_iff] at h
    obtain ⟨⟨rfl, h1⟩, rfl⟩ := h
    exact ⟨r, rfl, h1⟩
theorem asc_one {i : Int} {q : Rat} (h : q ≠ 0) : Asc [(i, q)] := ⟨List.pairwise_singleton _ _, fun e he => by simp at he; subst he; exact h⟩
set_option maxRecDepth 100000 in
set_option maxHeartbeats 16000000 in
theorem permute_201 {w : World} {A : Option Addr} {c g L : Nat} {r0 : Nt} (ha : Sl encE 4 w A c [(0, r0)]) (va : Nok w r0 L) (hL : 1 ≤ L) (hB : L + 2 ≤ 35184372087808) (hq : r0.q ≠ 0) (hp : w.heap[g]? = some (.cells #[.int .i64 2, .int .i64 0, .int .i64 1] 3 (0, 0))) :
    Calls Tryz.prog 23 #[.slice A 1 c, .slice (some ⟨g, 0, none⟩) 3 3] w fun e w' => ∃ (g2 : Nat), e = .returned (.tuple #[.slice (some ⟨g2, 0, none⟩) 1 1, .bool true]) ∧ ∃ r1 : Nt, Sl encE 4 w' (some ⟨g2, 0, none⟩) 1 [(2, r1)] ∧ Ncan w' r1 ∧ RL r1.q (L + 2) ∧ r1.q = r0.q ∧ Below w.heap.size w w' := by
  have C : Hid (Calls Tryz.prog 31 #[.slice A 1 c] w (Nrm [(0, r0)] (L + 2) w)) := vnorm_any (a := [(0, r0)]) ha (fun r hr => by simp at hr; rw [hr]; exact va) hL (by omega) (by simp) (by omega) (by simp)
  have HP := Lib.hid hp
  have NQ := Lib.hid hq
  have LT : Hid (g < w.heap.size) := lt_of_heap hp
  clear ha va hL hB hq hp
  go_enter Tryz.func23, Tryz.ntmps23
  have pc0 := Lib.hid trivial
  go_wp2_with (first
    | (clear pc0; go_at_call 31; refine Calls.mono C.out ?_; rintro e w2 ⟨g1, rs, rfl, her, hge, hasc, hcp, hno, hlen, hb⟩; obtain ⟨r1, rfl, hr1⟩ := one_of (asc_uniq _ _ hasc (asc_one NQ.out) (fun i => by rw [hcp]; rfl)); have ER := Lib.hid (er_vb her); have GE := Lib.hid hge; have NO := Lib.hid (hno (0, r1) (by simp)); have Q1 := Lib.hid hr1; have B1 := Lib.hid hb; clear her hge hasc hcp hno hlen hb hr1; have pc1 := Lib.hid trivial)
    | (clear pc1; go_at_call 54; refine Calls.mono (perm_201 ((B1.out.block _ LT.out).trans HP.out)) ?_; rintro e w3 ⟨rfl, hb⟩; replace ER := Lib.hid (ER.out.bel hb); replace NO := Lib.hid (And.intro (NO.out.1.below hb) NO.out.2); replace B1 := Lib.hid (B1.out.trans (hb.mono B1.out.size)); clear hb; have pc2 := Lib.hid trivial)
    | (clear pc2; go_at_call 45; refine Calls.mono (within_03 (r := r1) ((vb_er ER.out).sl (by simp))) ?_; rintro e w4 ⟨rfl, hb⟩; replace ER := Lib.hid (ER.out.bel hb); replace NO := Lib.hid (And.intro (NO.out.1.below hb) NO.out.2); replace B1 := Lib.hid (B1.out.trans (hb.mono B1.out.size)); clear hb; have pc3 := Lib.hid trivial))
  clear pc3
  have c0 : w4.cell? ⟨g, 0, none⟩ = some (.int .i64 2) := (B1.out.cell (p := ⟨g, 0, none⟩) LT.out).trans (cell_of_row w g 0 _ _ _ HP.out)
  have d0 : w4.cell? ⟨g1, 0, none⟩ = some (.int .i64 0) := ER.out.cell0
  refine wp_loop_rounds 2 ?_
  rw [rounds_succ]
  have pc0 := Lib.hid trivial
  go_wp2_with (first
    | (clear pc0; refine wpList_stVi (by rfl) _ _ rfl (by rfl) (by rfl) ER.out ?_; intro w5 hz hg; have E2 := Lib.hid hz; have tx := ER.out.tx; replace NO := Lib.hid (And.intro (NO.out.1.grT tx hg) NO.out.2); replace B1 := Lib.hid (Below.gr B1.out GE.out hg B1.out.size); clear hz hg tx c0 d0 ER; have pc1 := Lib.hid trivial))
  clear pc1
  rw [rounds_succ]
  have pc0 := Lib.hid trivial
  go_wp2_with (first
    | (clear pc0; go_at_call 55; refine Calls.mono (sorted_any (rs := [(2, r1)]) ((vb_er E2.out).sl (by simp)) (by simp)) ?_; rintro e w6 ⟨g2, rfl, rs2, hl2, hs2, hp2, hw2, hb⟩; obtain rfl : rs2 = [(2, r1)] := List.perm_singleton.1 hp2; have SL := Lib.hid hs2; replace NO := Lib.hid (And.intro (NO.out.1.below hb) NO.out.2); replace B1 := Lib.hid (B1.out.trans (hb.mono B1.out.size)); clear hl2 hs2 hp2 hw2 hb; have pc1 := Lib.hid trivial))
  clear pc1
  exact ret_tt rfl rfl rfl rfl ⟨g2, rfl, r1, SL.out, NO.out.1.can, NO.out.2, Q1.out, B1.out⟩
end Go.Proofs.YtfacndibfkamgaaGreat

/-
  The law's awake.
-/
namespace Go.Proofs.YtfacndibfkamgaaGreat
open Go.RowKit
set_option linter.unusedVariables false

theorem rl_small {q : Rat} (h1 : q.num.natAbs < 4294967296) (h2 : q.den < 4294967296) : RL q 1 := ⟨len_ofv_le_of_lt (k := 1) (by rw [show pw 1 = 4294967296 from rfl]; exact h1), len_ofv_le_of_lt (k := 1) (by rw [show pw 1 = 4294967296 from rfl]; exact h2)⟩
theorem equal_can {w : World} {x y : Nt} (hx : Ncan w x) (hy : Ncan w y) (hq : x.q = y.q) : Calls Tryz.prog 26 #[.agg #[.bool x.s, .slice x.A x.n x.c, .slice x.D x.m x.k], .agg #[.bool y.s, .slice y.A y.n y.c, .slice y.D y.m y.k]] w fun e w' => e = .returned (.bool true) ∧ Below w.heap.size w w' := by
  have e1 : x.x = y.x := by rw [← (can_num hx).1, ← (can_num hy).1, hq]
  have e2 : x.p = y.p := by rw [← (can_num hx).2, ← (can_num hy).2, hq]
  rw [hx.1, hx.2.1, hx.2.2.1, hy.1, hy.2.1, hy.2.2.1]
  exact r3equal_any (b := true) hx.2.2.2.2.2.1 hy.2.2.2.2.2.1 hx.2.2.2.2.2.2 hy.2.2.2.2.2.2 (by simp [e1, e2])
theorem own_ok {w : World} {r : Nt} (h : Nown w r) {v : Int} (hq : r.q = Rat.divInt v 1) (h1 : (Rat.divInt v 1).num.natAbs < 4294967296) (h2 : (Rat.divInt v 1).den < 4294967296) : Nok w r 1 := h.can.ok (by rw [hq]; exact rl_small h1 h2)
theorem Er.alloc {w : World} {g : Nat} {rs : List (Int × Nt)} (h : Er w g rs) (ob : Obj) : Er (w.alloc ob) g rs := (Below.heap_alloc w ob g h.lt).trans h
theorem er_new (w : World) (rs : List (Int × Nt)) : Er (w.alloc (.cells (rs.flatMap encE).toArray 58)) w.heap.size rs := heap_alloc_new w _
theorem awake_norm (i : Int) : (if (3 : Int) = i then Rat.divInt 1 1 else 0) + ((if (1 : Int) = i then Rat.divInt 2 1 else 0) + ((if (3 : Int) = i then Rat.divInt (-1) 1 else 0) + 0)) = (if (1 : Int) = i then (2 : Rat) else 0) + 0 := by
  by_cases h3 : (3 : Int) = i
  · subst h3; decide +kernel
  · by_cases h1 : (1 : Int) = i
    · subst h1; decide +kernel
    · simp only [h3, h1, if_false]; decide +kernel
theorem awake_dot {l : List (Int × Rat)} {q1 q2 q3 q4 : Rat} (hl : ∀ i, cpt l i = cpt [(0, q1), (5, q2)] i * cpt [(5, q3), (7, q4)] i) (h1 : q1 = Rat.divInt 2 1) (h2 : q2 = Rat.divInt 3 1) (h3 : q3 = Rat.divInt 4 1) (h4 : q4 = Rat.divInt 1 1) : tot l = 12 := by
  subst h1 h2 h3 h4
  rw [tot_eq (r := [(5, 12)]) fun i => ?_]
  · decide +kernel
  · rw [hl]
    simp only [cpt]
    by_cases g0 : (0 : Int) = i
    · subst g0; decide +kernel
    · by_cases g5 : (5 : Int) = i
      · subst g5; decide +kernel
      · by_cases g7 : (7 : Int) = i
        · subst g7; decide +kernel
        · simp only [g0, g5, g7, if_false]; decide +kernel
set_option maxRecDepth 100000 in
set_option maxHeartbeats 16000000 in
theorem awake6_any (w : World) : Calls Tryz.prog 15 #[] w fun e w' => e = .returned (.bool true) ∧ Below w.heap.size w w' := by
  have B1 := Lib.hid (Below.refl w.heap.size w)
  go_enter Tryz.func15, Tryz.ntmps15
  have pc0 := Lib.hid trivial
  go_wp2_with (first
    | (clear pc0; go_at_call 53; refine Calls.mono (entry_any (i := 0) (v := 5) (by omega)) ?_; rintro e w10 ⟨⟨s0, A0, n0, c0, D0, m0, k0, x0, p0⟩, rfl, ow, hq, hb⟩; replace B1 := Lib.hid (B1.out.trans (hb.mono B1.out.size)); have Oa := Lib.hid ow; have Qa := Lib.hid hq; clear ow hq; clear hb; have pc1 := Lib.hid trivial)
    | (clear pc1; have hb : Below w10.heap.size w10 ((w10.alloc (.cells #[.int .i64 0, .bool s0, .slice A0 n0 c0, .slice D0 m0 k0] 58)).alloc (.cells #[.int .i64 2, .int .i64 0, .int .i64 1] 3)) := (((Below.refl _ _).alloc (by first | exact Nat.le_refl _ | (simp; done) | (simp; omega)) _).alloc (by first | exact Nat.le_refl _ | (simp; done) | (simp; omega)) _); replace Oa := Lib.hid (Oa.out.below hb); replace B1 := Lib.hid (B1.out.trans (hb.mono B1.out.size)); have LA : Hid (Er ((w10.alloc (.cells #[.int .i64 0, .bool s0, .slice A0 n0 c0, .slice D0 m0 k0] 58)).alloc (.cells #[.int .i64 2, .int .i64 0, .int .i64 1] 3)) (w10.heap.size) [(0, (⟨s0, A0, n0, c0, D0, m0, k0, x0, p0⟩ : Nt))]) := (by have h := (er_new w10 [(0, (⟨s0, A0, n0, c0, D0, m0, k0, x0, p0⟩ : Nt))]).alloc (.cells #[.int .i64 2, .int .i64 0, .int .i64 1] 3); (try simp only [World.size_alloc] at h); exact h); have IP : Hid (((w10.alloc (.cells #[.int .i64 0, .bool s0, .slice A0 n0 c0, .slice D0 m0 k0] 58)).alloc (.cells #[.int .i64 2, .int .i64 0, .int .i64 1] 3)).heap[w10.heap.size + 1]? = some (.cells #[.int .i64 2, .int .i64 0, .int .i64 1] 3 (0, 0))) := (by have h := (heap_alloc_new (w10.alloc (.cells #[.int .i64 0, .bool s0, .slice A0 n0 c0, .slice D0 m0 k0] 58)) (.cells #[.int .i64 2, .int .i64 0, .int .i64 1] 3)); (try simp only [World.size_alloc] at h); exact h); clear hb; generalize ((w10.alloc (.cells #[.int .i64 0, .bool s0, .slice A0 n0 c0, .slice D0 m0 k0] 58)).alloc (.cells #[.int .i64 2, .int .i64 0, .int .i64 1] 3)) = wbIP at *; generalize w10.heap.size = gIP at *; go_at_call 23; refine Calls.mono (permute_201 (L := 1) (LA.out.sl (by simp)) (own_ok Oa.out Qa.out (by decide +kernel) (by decide +kernel)) (by omega) (by omega) (by rw [Qa.out]; decide +kernel) IP.out) ?_; rintro e wp ⟨gp, rfl, rp, slp, ncp, rlp, rqp, hb⟩; replace Oa := Lib.hid (Oa.out.below hb); replace LA := Lib.hid (LA.out.bel hb); replace B1 := Lib.hid (B1.out.trans (hb.mono B1.out.size)); have SP := Lib.hid slp; have CP := Lib.hid ncp; have RP := Lib.hid rlp; have QP := Lib.hid rqp; clear slp ncp rlp rqp; clear Oa LA IP; clear hb; have pc2 := Lib.hid trivial)
    | (clear pc2; go_at_call 53; refine Calls.mono (entry_any (i := 3) (v := 1) (by omega)) ?_; rintro e w11 ⟨⟨s1, A1, n1, c1, D1, m1, k1, x1, p1⟩, rfl, ow, hq, hb⟩; replace SP := Lib.hid (SP.out.below hb); replace CP := Lib.hid (CP.out.below hb); replace B1 := Lib.hid (B1.out.trans (hb.mono B1.out.size)); have Ob := Lib.hid ow; have Qb := Lib.hid hq; clear ow hq; clear hb; have pc3 := Lib.hid trivial)
    | (clear pc3; go_at_call 53; refine Calls.mono (entry_any (i := 1) (v := 2) (by omega)) ?_; rintro e w12 ⟨⟨s2, A2, n2, c2, D2, m2, k2, x2, p2⟩, rfl, ow, hq, hb⟩; replace SP := Lib.hid (SP.out.below hb); replace CP := Lib.hid (CP.out.below hb); replace Ob := Lib.hid (Ob.out.below hb); replace B1 := Lib.hid (B1.out.trans (hb.mono B1.out.size)); have Oc := Lib.hid ow; have Qc := Lib.hid hq; clear ow hq; clear hb; have pc4 := Lib.hid trivial)
    | (clear pc4; go_at_call 53; refine Calls.mono (entry_any (i := 3) (v := (-1)) (by omega)) ?_; rintro e w13 ⟨⟨s3, A3, n3, c3, D3, m3, k3, x3, p3⟩, rfl, ow, hq, hb⟩; replace SP := Lib.hid (SP.out.below hb); replace CP := Lib.hid (CP.out.below hb); replace Ob := Lib.hid (Ob.out.below hb); replace Oc := Lib.hid (Oc.out.below hb); replace B1 := Lib.hid (B1.out.trans (hb.mono B1.out.size)); have Od := Lib.hid ow; have Qd := Lib.hid hq; clear ow hq; clear hb; have pc5 := Lib.hid trivial)
    | (clear pc5; have hb : Below w13.heap.size w13 (w13.alloc (.cells #[.int .i64 3, .bool s1, .slice A1 n1 c1, .slice D1 m1 k1, .int .i64 1, .bool s2, .slice A2 n2 c2, .slice D2 m2 k2, .int .i64 3, .bool s3, .slice A3 n3 c3, .slice D3 m3 k3] 58)) := ((Below.refl _ _).alloc (by first | exact Nat.le_refl _ | (simp; done) | (simp; omega)) _); replace SP := Lib.hid (SP.out.below hb); replace CP := Lib.hid (CP.out.below hb); replace Ob := Lib.hid (Ob.out.below hb); replace Oc := Lib.hid (Oc.out.below hb); replace Od := Lib.hid (Od.out.below hb); replace B1 := Lib.hid (B1.out.trans (hb.mono B1.out.size)); have LB : Hid (Er (w13.alloc (.cells #[.int .i64 3, .bool s1, .slice A1 n1 c1, .slice D1 m1 k1, .int .i64 1, .bool s2, .slice A2 n2 c2, .slice D2 m2 k2, .int .i64 3, .bool s3, .slice A3 n3 c3, .slice D3 m3 k3] 58)) (w13.heap.size) [(3, (⟨s1, A1, n1, c1, D1, m1, k1, x1, p1⟩ : Nt)), (1, (⟨s2, A2, n2, c2, D2, m2, k2, x2, p2⟩ : Nt)), (3, (⟨s3, A3, n3, c3, D3, m3, k3, x3, p3⟩ : Nt))]) := (by have h := er_new w13 [(3, (⟨s1, A1, n1, c1, D1, m1, k1, x1, p1⟩ : Nt)), (1, (⟨s2, A2, n2, c2, D2, m2, k2, x2, p2⟩ : Nt)), (3, (⟨s3, A3, n3, c3, D3, m3, k3, x3, p3⟩ : Nt))]; (try simp only [World.size_alloc] at h); exact h); clear hb; generalize (w13.alloc (.cells #[.int .i64 3, .bool s1, .slice A1 n1 c1, .slice D1 m1 k1, .int .i64 1, .bool s2, .slice A2 n2 c2, .slice D2 m2 k2, .int .i64 3, .bool s3, .slice A3 n3 c3, .slice D3 m3 k3] 58)) = wbLB at *; generalize w13.heap.size = gLB at *; have CN := vnorm_any (a := [(3, (⟨s1, A1, n1, c1, D1, m1, k1, x1, p1⟩ : Nt)), (1, (⟨s2, A2, n2, c2, D2, m2, k2, x2, p2⟩ : Nt)), (3, (⟨s3, A3, n3, c3, D3, m3, k3, x3, p3⟩ : Nt))]) (L := 1) (S := 9) (LB.out.sl (by simp)) (by intro r hr; simp at hr; rcases hr with rfl | rfl | rfl; exact own_ok Ob.out Qb.out (by decide +kernel) (by decide +kernel); exact own_ok Oc.out Qc.out (by decide +kernel) (by decide +kernel); exact own_ok Od.out Qd.out (by decide +kernel) (by decide +kernel)) (by omega) (by omega) (by simp) (by omega) (by simp); simp only [List.length_cons, List.length_nil, Nat.zero_add, Nat.reduceAdd] at CN; go_at_call 31; refine Calls.mono (CN) ?_; rintro e wn ⟨gn, rsn, rfl, ern, _, ascn, cpn, non, lenn, hb⟩; replace SP := Lib.hid (SP.out.below hb); replace CP := Lib.hid (CP.out.below hb); replace Ob := Lib.hid (Ob.out.below hb); replace Oc := Lib.hid (Oc.out.below hb); replace Od := Lib.hid (Od.out.below hb); replace LB := Lib.hid (LB.out.bel hb); replace B1 := Lib.hid (B1.out.trans (hb.mono B1.out.size)); have EN := Lib.hid ern; have VN := Lib.hid (show ev rsn = [(1, 2)] from asc_uniq _ _ ascn (asc_one (by decide +kernel)) (fun i => by rw [cpn]; simp only [ev, List.map_cons, List.map_nil, cpt, Qb.out, Qc.out, Qd.out]; exact awake_norm i)); have NN := Lib.hid non; have LNN : Hid (rsn.length ≤ 3) := lenn; clear ern ascn cpn non lenn; clear Ob Oc Od LB; clear CN; clear hb; have BN := Lib.hid (Below.refl wn.heap.size wn); have pc6 := Lib.hid trivial)
    | (clear pc6; go_at_call 53; refine Calls.mono (entry_any (i := 1) (v := 2) (by omega)) ?_; rintro e w14 ⟨⟨s4, A4, n4, c4, D4, m4, k4, x4, p4⟩, rfl, ow, hq, hb⟩; replace SP := Lib.hid (SP.out.below hb); replace CP := Lib.hid (CP.out.below hb); replace B1 := Lib.hid (B1.out.trans (hb.mono B1.out.size)); replace BN := Lib.hid (BN.out.trans (hb.mono BN.out.size)); have Oe := Lib.hid ow; have Qe := Lib.hid hq; clear ow hq; clear hb; have pc7 := Lib.hid trivial)
    | (clear pc7; have hb : Below w14.heap.size w14 (w14.alloc (.cells #[.int .i64 1, .bool s4, .slice A4 n4 c4, .slice D4 m4 k4] 58)) := ((Below.refl _ _).alloc (by first | exact Nat.le_refl _ | (simp; done) | (simp; omega)) _); replace SP := Lib.hid (SP.out.below hb); replace CP := Lib.hid (CP.out.below hb); replace Oe := Lib.hid (Oe.out.below hb); replace B1 := Lib.hid (B1.out.trans (hb.mono B1.out.size)); replace BN := Lib.hid (BN.out.trans (hb.mono BN.out.size)); have LE : Hid (Er (w14.alloc (.cells #[.int .i64 1, .bool s4, .slice A4 n4 c4, .slice D4 m4 k4] 58)) (w14.heap.size) [(1, (⟨s4, A4, n4, c4, D4, m4, k4, x4, p4⟩ : Nt))]) := (by have h := er_new w14 [(1, (⟨s4, A4, n4, c4, D4, m4, k4, x4, p4⟩ : Nt))]; (try simp only [World.size_alloc] at h); exact h); clear hb; generalize (w14.alloc (.cells #[.int .i64 1, .bool s4, .slice A4 n4 c4, .slice D4 m4 k4] 58)) = wbLE at *; generalize w14.heap.size = gLE at *; have CN := identical_yes ((EN.out.sl (by have := LNN.out; omega)).below BN.out) (LE.out.sl (by simp)) (fun r hr => ⟨(NN.out r hr).1.can.below BN.out, (NN.out r hr).2.le (by decide +kernel)⟩) (fun r hr => by simp at hr; rw [hr]; exact ⟨Oe.out.can, by show RL _ _; rw [Qe.out]; exact (rl_small (by decide +kernel) (by decide +kernel)).le (by decide +kernel)⟩) (VN.out.trans (by show [((1 : Int), (2 : Rat))] = [(1, Nt.q _)]; rw [Qe.out, show Rat.divInt 2 1 = 2 from by decide +kernel])) (by have := LNN.out; omega); simp only [List.length_cons, List.length_nil, Nat.zero_add, Nat.reduceAdd] at CN; go_at_call 16; refine Calls.mono (CN) ?_; rintro e wi ⟨rfl, hb⟩; replace SP := Lib.hid (SP.out.below hb); replace CP := Lib.hid (CP.out.below hb); replace Oe := Lib.hid (Oe.out.below hb); replace LE := Lib.hid (LE.out.bel hb); replace B1 := Lib.hid (B1.out.trans (hb.mono B1.out.size)); replace BN := Lib.hid (BN.out.trans (hb.mono BN.out.size)); clear CN; clear hb; clear EN VN NN LNN BN Oe LE; have pc8 := Lib.hid trivial)
    | (clear pc8; go_at_call 53; refine Calls.mono (entry_any (i := 0) (v := 2) (by omega)) ?_; rintro e w15 ⟨⟨s5, A5, n5, c5, D5, m5, k5, x5, p5⟩, rfl, ow, hq, hb⟩; replace SP := Lib.hid (SP.out.below hb); replace CP := Lib.hid (CP.out.below hb); replace B1 := Lib.hid (B1.out.trans (hb.mono B1.out.size)); have Of := Lib.hid ow; have Qf := Lib.hid hq; clear ow hq; clear hb; have pc9 := Lib.hid trivial)
    | (clear pc9; go_at_call 53; refine Calls.mono (entry_any (i := 5) (v := 3) (by omega)) ?_; rintro e w16 ⟨⟨s6, A6, n6, c6, D6, m6, k6, x6, p6⟩, rfl, ow, hq, hb⟩; replace SP := Lib.hid (SP.out.below hb); replace CP := Lib.hid (CP.out.below hb); replace Of := Lib.hid (Of.out.below hb); replace B1 := Lib.hid (B1.out.trans (hb.mono B1.out.size)); have Og := Lib.hid ow; have Qg := Lib.hid hq; clear ow hq; clear hb; have pc10 := Lib.hid trivial)
    | (clear pc10; have hb : Below w16.heap.size w16 (w16.alloc (.cells #[.int .i64 0, .bool s5, .slice A5 n5 c5, .slice D5 m5 k5, .int .i64 5, .bool s6, .slice A6 n6 c6, .slice D6 m6 k6] 58)) := ((Below.refl _ _).alloc (by first | exact Nat.le_refl _ | (simp; done) | (simp; omega)) _); replace SP := Lib.hid (SP.out.below hb); replace CP := Lib.hid (CP.out.below hb); replace Of := Lib.hid (Of.out.below hb); replace Og := Lib.hid (Og.out.below hb); replace B1 := Lib.hid (B1.out.trans (hb.mono B1.out.size)); have LF : Hid (Er (w16.alloc (.cells #[.int .i64 0, .bool s5, .slice A5 n5 c5, .slice D5 m5 k5, .int .i64 5, .bool s6, .slice A6 n6 c6, .slice D6 m6 k6] 58)) (w16.heap.size) [(0, (⟨s5, A5, n5, c5, D5, m5, k5, x5, p5⟩ : Nt)), (5, (⟨s6, A6, n6, c6, D6, m6, k6, x6, p6⟩ : Nt))]) := (by have h := er_new w16 [(0, (⟨s5, A5, n5, c5, D5, m5, k5, x5, p5⟩ : Nt)), (5, (⟨s6, A6, n6, c6, D6, m6, k6, x6, p6⟩ : Nt))]; (try simp only [World.size_alloc] at h); exact h); clear hb; generalize (w16.alloc (.cells #[.int .i64 0, .bool s5, .slice A5 n5 c5, .slice D5 m5 k5, .int .i64 5, .bool s6, .slice A6 n6 c6, .slice D6 m6 k6] 58)) = wbLF at *; generalize w16.heap.size = gLF at *; go_at_call 53; refine Calls.mono (entry_any (i := 5) (v := 4) (by omega)) ?_; rintro e w17 ⟨⟨s7, A7, n7, c7, D7, m7, k7, x7, p7⟩, rfl, ow, hq, hb⟩; replace SP := Lib.hid (SP.out.below hb); replace CP := Lib.hid (CP.out.below hb); replace Of := Lib.hid (Of.out.below hb); replace Og := Lib.hid (Og.out.below hb); replace LF := Lib.hid (LF.out.bel hb); replace B1 := Lib.hid (B1.out.trans (hb.mono B1.out.size)); have Oh := Lib.hid ow; have Qh := Lib.hid hq; clear ow hq; clear hb; have pc11 := Lib.hid trivial)
    | (clear pc11; go_at_call 53; refine Calls.mono (entry_any (i := 7) (v := 1) (by omega)) ?_; rintro e w18 ⟨⟨s8, A8, n8, c8, D8, m8, k8, x8, p8⟩, rfl, ow, hq, hb⟩; replace SP := Lib.hid (SP.out.below hb); replace CP := Lib.hid (CP.out.below hb); replace Of := Lib.hid (Of.out.below hb); replace Og := Lib.hid (Og.out.below hb); replace LF := Lib.hid (LF.out.bel hb); replace Oh := Lib.hid (Oh.out.below hb); replace B1 := Lib.hid (B1.out.trans (hb.mono B1.out.size)); have Oi := Lib.hid ow; have Qi := Lib.hid hq; clear ow hq; clear hb; have pc12 := Lib.hid trivial)
    | (clear pc12; have hb : Below w18.heap.size w18 (w18.alloc (.cells #[.int .i64 5, .bool s7, .slice A7 n7 c7, .slice D7 m7 k7, .int .i64 7, .bool s8, .slice A8 n8 c8, .slice D8 m8 k8] 58)) := ((Below.refl _ _).alloc (by first | exact Nat.le_refl _ | (simp; done) | (simp; omega)) _); replace SP := Lib.hid (SP.out.below hb); replace CP := Lib.hid (CP.out.below hb); replace Of := Lib.hid (Of.out.below hb); replace Og := Lib.hid (Og.out.below hb); replace LF := Lib.hid (LF.out.bel hb); replace Oh := Lib.hid (Oh.out.below hb); replace Oi := Lib.hid (Oi.out.below hb); replace B1 := Lib.hid (B1.out.trans (hb.mono B1.out.size)); have LH : Hid (Er (w18.alloc (.cells #[.int .i64 5, .bool s7, .slice A7 n7 c7, .slice D7 m7 k7, .int .i64 7, .bool s8, .slice A8 n8 c8, .slice D8 m8 k8] 58)) (w18.heap.size) [(5, (⟨s7, A7, n7, c7, D7, m7, k7, x7, p7⟩ : Nt)), (7, (⟨s8, A8, n8, c8, D8, m8, k8, x8, p8⟩ : Nt))]) := (by have h := er_new w18 [(5, (⟨s7, A7, n7, c7, D7, m7, k7, x7, p7⟩ : Nt)), (7, (⟨s8, A8, n8, c8, D8, m8, k8, x8, p8⟩ : Nt))]; (try simp only [World.size_alloc] at h); exact h); clear hb; generalize (w18.alloc (.cells #[.int .i64 5, .bool s7, .slice A7 n7 c7, .slice D7 m7 k7, .int .i64 7, .bool s8, .slice A8 n8 c8, .slice D8 m8 k8] 58)) = wbLH at *; generalize w18.heap.size = gLH at *; have CN := dot_any (L := 1) (S := 6) (LF.out.sl (by simp)) (by intro r hr; simp at hr; rcases hr with rfl | rfl; exact own_ok Of.out Qf.out (by decide +kernel) (by decide +kernel); exact own_ok Og.out Qg.out (by decide +kernel) (by decide +kernel)) (LH.out.sl (by simp)) (by intro r hr; simp at hr; rcases hr with rfl | rfl; exact own_ok Oh.out Qh.out (by decide +kernel) (by decide +kernel); exact own_ok Oi.out Qi.out (by decide +kernel) (by decide +kernel)) (by omega) (by omega) (by simp) (by simp) (by omega) (by simp) (by simp) (by omega) ⟨5, by simp only [ev, List.map_cons, List.map_nil, cpt, Qf.out, Qg.out, Qh.out, Qi.out]; decide +kernel⟩; simp only [List.length_cons, List.length_nil, Nat.zero_add, Nat.reduceAdd] at CN; go_at_call 27; refine Calls.mono (CN) ?_; rintro e wd ⟨rd, rfl, od, ⟨l, _, hl, hqd⟩, rld, hb⟩; replace SP := Lib.hid (SP.out.below hb); replace CP := Lib.hid (CP.out.below hb); replace Of := Lib.hid (Of.out.below hb); replace Og := Lib.hid (Og.out.below hb); replace LF := Lib.hid (LF.out.bel hb); replace Oh := Lib.hid (Oh.out.below hb); replace Oi := Lib.hid (Oi.out.below hb); replace LH := Lib.hid (LH.out.bel hb); replace B1 := Lib.hid (B1.out.trans (hb.mono B1.out.size)); have OD := Lib.hid od; have QD : Hid (rd.q = 12) := hqd.trans (awake_dot hl Qf.out Qg.out Qh.out Qi.out); clear od hl hqd rld; clear Of Og Oh Oi LF LH; clear CN; clear hb; have pc13 := Lib.hid trivial)
    | (clear pc13; go_at_call 30; refine Calls.mono (r3fromInt_any (a := 12) (z := (Rat.divInt 12 1).num) (d := (Rat.divInt 12 1).den) (by omega) rfl rfl _) ?_; rintro e wf ⟨P, cP, R, cR, rfl, ho, ho2, hb⟩; replace SP := Lib.hid (SP.out.below hb); replace CP := Lib.hid (CP.out.below hb); replace OD := Lib.hid (OD.out.below hb); replace B1 := Lib.hid (B1.out.trans (hb.mono B1.out.size)); have OT := Lib.hid (nown_mk (q := Rat.divInt 12 1) ho ho2); clear ho ho2; clear hb; have pc14 := Lib.hid trivial)
    | (clear pc14; go_at_call 26; refine Calls.mono (equal_can (x := rd) (y := mkN (Rat.divInt 12 1).num (Rat.divInt 12 1).den P cP R cR) OD.out.can OT.out.can (by rw [QD.out, q_mk]; decide +kernel)) ?_; rintro e wq ⟨rfl, hb⟩; replace SP := Lib.hid (SP.out.below hb); replace CP := Lib.hid (CP.out.below hb); replace OD := Lib.hid (OD.out.below hb); replace OT := Lib.hid (OT.out.below hb); replace B1 := Lib.hid (B1.out.trans (hb.mono B1.out.size)); clear hb; clear OD OT; have pc15 := Lib.hid trivial)
    | (clear pc15; go_at_call 53; refine Calls.mono (entry_any (i := 2) (v := 5) (by omega)) ?_; rintro e w19 ⟨⟨s9, A9, n9, c9, D9, m9, k9, x9, p9⟩, rfl, ow, hq, hb⟩; replace SP := Lib.hid (SP.out.below hb); replace CP := Lib.hid (CP.out.below hb); replace B1 := Lib.hid (B1.out.trans (hb.mono B1.out.size)); have Oj := Lib.hid ow; have Qj := Lib.hid hq; clear ow hq; clear hb; have pc16 := Lib.hid trivial)
    | (clear pc16; have hb : Below w19.heap.size w19 (w19.alloc (.cells #[.int .i64 2, .bool s9, .slice A9 n9 c9, .slice D9 m9 k9] 58)) := ((Below.refl _ _).alloc (by first | exact Nat.le_refl _ | (simp; done) | (simp; omega)) _); replace SP := Lib.hid (SP.out.below hb); replace CP := Lib.hid (CP.out.below hb); replace Oj := Lib.hid (Oj.out.below hb); replace B1 := Lib.hid (B1.out.trans (hb.mono B1.out.size)); have LJ : Hid (Er (w19.alloc (.cells #[.int .i64 2, .bool s9, .slice A9 n9 c9, .slice D9 m9 k9] 58)) (w19.heap.size) [(2, (⟨s9, A9, n9, c9, D9, m9, k9, x9, p9⟩ : Nt))]) := (by have h := er_new w19 [(2, (⟨s9, A9, n9, c9, D9, m9, k9, x9, p9⟩ : Nt))]; (try simp only [World.size_alloc] at h); exact h); clear hb; generalize (w19.alloc (.cells #[.int .i64 2, .bool s9, .slice A9 n9 c9, .slice D9 m9 k9] 58)) = wbLJ at *; generalize w19.heap.size = gLJ at *; have CN := identical_yes SP.out (LJ.out.sl (by simp)) (fun r hr => by simp at hr; rw [hr]; exact ⟨CP.out, RP.out.le (by decide +kernel)⟩) (fun r hr => by simp at hr; rw [hr]; exact ⟨Oj.out.can, by show RL _ _; rw [Qj.out]; exact (rl_small (by decide +kernel) (by decide +kernel)).le (by decide +kernel)⟩) (by simp only [ev, List.map_cons, List.map_nil, Qj.out, QP.out, Qa.out]) (by simp); simp only [List.length_cons, List.length_nil, Nat.zero_add, Nat.reduceAdd] at CN; go_at_call 16; refine Calls.mono (CN) ?_; rintro e wz ⟨rfl, hb⟩; replace SP := Lib.hid (SP.out.below hb); replace CP := Lib.hid (CP.out.below hb); replace Oj := Lib.hid (Oj.out.below hb); replace LJ := Lib.hid (LJ.out.bel hb); replace B1 := Lib.hid (B1.out.trans (hb.mono B1.out.size)); clear CN; clear hb; have pc17 := Lib.hid trivial))
  clear pc17
  exact ret_t rfl rfl rfl ⟨rfl, B1.out⟩
end Go.Proofs.YtfacndibfkamgaaGreat
