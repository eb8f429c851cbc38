/-
  Vu, Va, Vi.
-/
import Derived.Test.YtfacndibfkamgaaGreatKC
import Derived.Test.YtfacndibfkamgaaGreatRrez
/-
  Contracts of package vector: Add, AddScaled.
-/
namespace Go.Proofs.YtfacndibfkamgaaGreat
open Go.RowKit
set_option linter.unusedVariables false

theorem opat_add {w : World} {S : Nat} (h1 : 1 ≤ S) (hS : S ≤ 35184372088829) : OpAt 62 #[] (fun x y => x + y) S (S + S + 1) w := fun W hb x y hx hy => by
  show Calls Tryz.prog 62 #[.agg #[.bool x.s, .slice x.A x.n x.c, .slice x.D x.m x.k], .agg #[.bool y.s, .slice y.A y.n y.c, .slice y.D y.m y.k]] W _
  refine (qadd_any (L := S) (z := (x.q + y.q).num) (d := (x.q + y.q).den) hx.1 hx.2.1 hy.1 hy.2.1 hx.2.2.1 hx.2.2.2 hy.2.2.1 hy.2.2.2 ⟨h1, hS⟩ rfl rfl).mono ?_
  rintro e w' ⟨P, c, Q, k, rfl, ho, ho2, hb'⟩
  exact Opd.give (ho.mono (Nat.zero_le _)) (ho2.mono (Nat.zero_le _)) (rl_add (hx.rl h1) (hy.rl h1)) hb'
theorem opat_prod {w : World} {S : Nat} (h1 : 1 ≤ S) (hS : S ≤ 35184372088829) : OpAt 60 #[] (fun x y => x * y) S (S + S) w := fun W hb x y hx hy => by
  show Calls Tryz.prog 60 #[.agg #[.bool x.s, .slice x.A x.n x.c, .slice x.D x.m x.k], .agg #[.bool y.s, .slice y.A y.n y.c, .slice y.D y.m y.k]] W _
  exact product_any hx hy ⟨h1, hS⟩
set_option maxRecDepth 100000 in
set_option maxHeartbeats 16000000 in
theorem vadd_any {w : World} {A B : Option Addr} {c d L S : Nat} {a b : List (Int × Nt)} (ha : Sl encE 4 w A c a) (va : ∀ r ∈ a, Nok w r.2 L) (hb : Sl encE 4 w B d b) (vb : ∀ r ∈ b, Nok w r.2 L) (hL : 1 ≤ L) (hM : L ≤ S) (hR : a.length * (L + 2) ≤ S) (hR2 : b.length * (L + 2) ≤ S) (hB : S ≤ 11728124029609) (hn : a.length ≤ 1000000) (hn2 : b.length ≤ 1000000) : Calls Tryz.prog 28 #[.slice A a.length c, .slice B b.length d] w (Mgd a b (fun x y => x + y) (S + S + 1) w) := by
  have eg : ∀ args w, (callFunc 62 args).run Tryz.prog w = .ok (.enter 62 args) w := enters_of Tryz.func62 (by kernel_rfl) rfl
  have C := Lib.hid (merge_any eg (opat_add (w := w) (S := S) (by omega) (by omega)) (Rat.add_zero 0) ha va hb vb hL hM hR hR2 (by omega) (by omega) hn hn2)
  clear eg ha va hb vb hL hM hR hR2 hB hn hn2
  go_enter Tryz.func28, Tryz.ntmps28
  have pc0 := Lib.hid trivial
  go_wp2_with (first
    | (clear pc0; go_at_call 59; refine Calls.mono C.out ?_; rintro e w2 ⟨A1, c1, rs, rfl, hr⟩; have R := Lib.hid hr; clear hr; have pc1 := Lib.hid trivial))
  clear pc1
  exact ret_t rfl rfl rfl ⟨A1, c1, rs, rfl, R.out⟩
set_option maxRecDepth 100000 in
set_option maxHeartbeats 16000000 in
theorem scaled1 {w : World} {g S : Nat} {f x y : Nt} (hg : Rb w g f.s f.A f.n f.c f.D f.m f.k) (hf : Nok w f S) (hx : Nok w x S) (hy : Nok w y S) (h1 : 1 ≤ S) (hS : S ≤ 11728124029609) : Calls Tryz.prog 63 #[.agg #[.bool x.s, .slice x.A x.n x.c, .slice x.D x.m x.k], .agg #[.bool y.s, .slice y.A y.n y.c, .slice y.D y.m y.k], .pointer (some ⟨g, 0, none⟩)] w (Opd (S + (S + S) + 1) (x.q + f.q * y.q) w) := by
  obtain ⟨B1, V0, V1, V2⟩ := start_VP w x.s x.A x.n x.c x.D x.m x.k y.s y.A y.n y.c y.D y.m y.k
  have FB := Lib.hid (hg.below B1.out hg.lt)
  have LG : Hid (g < w.heap.size) := hg.lt
  have NF := Lib.hid (hf.below B1.out)
  have NX := Lib.hid (hx.below B1.out)
  have NY := Lib.hid (hy.below B1.out)
  have L1 := Lib.hid h1
  have LS := Lib.hid hS
  obtain ⟨q, hq⟩ : ∃ q, x.q + f.q * y.q = q := ⟨_, rfl⟩
  have QE := Lib.hid hq
  have RQ : Hid (RL q (S + (S + S) + 1)) := by show RL _ _; rw [← hq]; exact rl_add (hx.rl h1) (rl_mul (hf.rl h1) (hy.rl h1))
  rw [hq]
  clear hg hf hx hy h1 hS hq
  go_enter Tryz.func63, Tryz.ntmps63
  go_wp2_with fail
  generalize (((w.alloc (.cells #[.bool x.s, .slice x.A x.n x.c, .slice x.D x.m x.k] 29)).alloc (.cells #[.bool y.s, .slice y.A y.n y.c, .slice y.D y.m y.k] 29)).alloc (.cells #[.bool false, .slice none 0 0, .slice none 0 0] 29)) = w2 at *
  have hb := below_drewN w2.heap.size w2 1
  replace V0 := Lib.hid (V0.out.below hb V0.out.lt)
  replace V1 := Lib.hid (V1.out.below hb V1.out.lt)
  replace V2 := Lib.hid (V2.out.below hb V2.out.lt)
  replace FB := Lib.hid (FB.out.below hb FB.out.lt)
  replace NF := Lib.hid (NF.out.below hb)
  replace NX := Lib.hid (NX.out.below hb)
  replace NY := Lib.hid (NY.out.below hb)
  replace B1 := Lib.hid (B1.out.trans (hb.mono B1.out.size))
  clear hb
  refine wp_region_held_drew (S := fun w' => Rb w' w.heap.size x.s x.A x.n x.c x.D x.m x.k ∧ Rb w' g f.s f.A f.n f.c f.D f.m f.k ∧ Rb w' (w.heap.size + 1) y.s y.A y.n y.c y.D y.m y.k) (by kernel_rfl) ⟨V0.out, FB.out, V1.out⟩ (fun hHeld => ?_)
  refine wpAnyH_takeL (i := 0) (oi := _) rfl (by kernel_rfl) (by kernel_rfl) (by kernel_rfl) (fun _ _ _ h => h) (yields_ldR (by rfl) _ rfl (by rfl) (fun _ hS => hS.1)) hHeld ?_
  try simp only [Act.put, List.setIfInBounds_toArray, List.set_cons_zero, List.set_cons_succ]
  refine wpAnyH_takeL (i := 1) (oi := _) rfl (by kernel_rfl) (by kernel_rfl) (by kernel_rfl) (fun _ _ _ h => h) (yields_ldR (by rfl) _ rfl (by rfl) (fun _ hS => hS.2.1)) hHeld ?_
  try simp only [Act.put, List.setIfInBounds_toArray, List.set_cons_zero, List.set_cons_succ]
  refine wpAnyH_takeL (i := 2) (oi := _) rfl (by kernel_rfl) (by kernel_rfl) (by kernel_rfl) (fun _ _ _ h => h) (yields_ldR (by rfl) _ rfl (by rfl) (fun _ hS => hS.2.2)) hHeld ?_
  try simp only [Act.put, List.setIfInBounds_toArray, List.set_cons_zero, List.set_cons_succ]
  refine wpAnyH_ready (rs := [3]) (by kernel_rfl) (by simp) ?_
  refine AllReadyH.consL (o := _) rfl (fun K hK => ?_) AllReadyH.nil
  clear hHeld
  go_simp
  go_at_call 60
  refine Calls.mono (product_any NF.out NY.out ⟨L1.out, by have := LS.out; omega⟩) ?_
  rintro e w3 ⟨⟨s3, A3, n3, c3, D3, m3, k3, x3, p3⟩, rfl, hok, hqr, _, hb⟩
  replace V0 := Lib.hid (V0.out.below hb V0.out.lt)
  replace V1 := Lib.hid (V1.out.below hb V1.out.lt)
  replace V2 := Lib.hid (V2.out.below hb V2.out.lt)
  replace FB := Lib.hid (FB.out.below hb FB.out.lt)
  replace NF := Lib.hid (NF.out.below hb)
  replace NX := Lib.hid (NX.out.below hb)
  replace NY := Lib.hid (NY.out.below hb)
  replace B1 := Lib.hid (B1.out.trans (hb.mono B1.out.size))
  have NP := Lib.hid hok
  have PQ := Lib.hid hqr
  clear hok hqr
  clear hb
  refine hK.out _ _ ⟨V0.out, FB.out, V1.out⟩ (fun hHeld => ?_)
  clear hK K
  try simp only [Act.put, List.setIfInBounds_toArray, List.set_cons_zero, List.set_cons_succ]
  refine wpAnyH_ready (rs := [4]) (by kernel_rfl) (by simp) ?_
  refine AllReadyH.consL (o := _) rfl (fun K hK => ?_) AllReadyH.nil
  clear hHeld
  have SUM : Hid (mkRat x.x x.p + mkRat x3 p3 = q) := by show _ = _; rw [← QE.out, ← PQ.out]; rfl
  go_simp
  go_at_call 62
  refine Calls.mono (qadd_any (L := S + S) (z := q.num) (d := q.den) NX.out.1 NX.out.2.1 NP.out.1 NP.out.2.1 (Nat.le_trans NX.out.2.2.1 (Nat.le_add_left _ _)) (Nat.le_trans NX.out.2.2.2 (Nat.le_add_left _ _)) NP.out.2.2.1 NP.out.2.2.2 ⟨by have := L1.out; omega, by have := LS.out; omega⟩ (by rw [SUM.out]) (by rw [SUM.out])) ?_
  rintro e w4 ⟨P, cP, R, cR, rfl, ho, ho2, hb⟩
  replace V0 := Lib.hid (V0.out.below hb V0.out.lt)
  replace V1 := Lib.hid (V1.out.below hb V1.out.lt)
  replace V2 := Lib.hid (V2.out.below hb V2.out.lt)
  replace FB := Lib.hid (FB.out.below hb FB.out.lt)
  replace NF := Lib.hid (NF.out.below hb)
  replace NX := Lib.hid (NX.out.below hb)
  replace NY := Lib.hid (NY.out.below hb)
  replace NP := Lib.hid (NP.out.below hb)
  replace B1 := Lib.hid (B1.out.trans (hb.mono B1.out.size))
  have OZ := Lib.hid (ho.mono (Nat.zero_le _))
  have OD := Lib.hid (ho2.mono (Nat.zero_le _))
  clear ho ho2
  clear hb
  refine hK.out _ _ ⟨V0.out, FB.out, V1.out⟩ (fun hHeld => ?_)
  clear hK K
  try simp only [Act.put, List.setIfInBounds_toArray, List.set_cons_zero, List.set_cons_succ]
  refine wpAnyH_ready (rs := [5]) (by kernel_rfl) (by simp) ?_
  refine AllReadyH.consL (o := _) rfl (fun K hK => ?_) AllReadyH.nil
  clear hHeld
  rw [if_pos (by rfl)]
  refine wp_stR _ _ rfl (by rfl) (by rfl) V2.out ?_
  intro wv0 hz hg
  have tx := V2.out.tx
  replace V0 := Lib.hid (V0.out.gro hg (by have := LG.out; omega))
  replace V1 := Lib.hid (V1.out.gro hg (by have := LG.out; omega))
  replace FB := Lib.hid (FB.out.gro hg (by have := LG.out; omega))
  clear NF
  clear NX
  clear NY
  clear NP
  replace OZ := Lib.hid (OZ.out.grT tx hg)
  replace OD := Lib.hid (OD.out.grT tx hg)
  replace B1 := Lib.hid (Below.gr B1.out (by omega) hg B1.out.size)
  clear tx
  replace V2 := Lib.hid hz
  refine hK.out _ _ ⟨V0.out, FB.out, V1.out⟩ (fun hHeld => ?_)
  clear hK K hg hz
  try simp only [Act.put]
  clear hHeld
  refine wpAnyH_done (by kernel_rfl) ?_ _
  go_wp2_with fail
  exact ret_rb Tryz.results63 rfl rfl V2.out (Opd.give OZ.out OD.out RQ.out B1.out)
theorem opat_scaled {w : World} {g S : Nat} {f : Nt} (hg : Rb w g f.s f.A f.n f.c f.D f.m f.k) (hf : Nok w f S) (h1 : 1 ≤ S) (hS : S ≤ 11728124029609) : OpAt 63 #[.pointer (some ⟨g, 0, none⟩)] (fun x y => x + f.q * y) S (S + (S + S) + 1) w := fun W hb x y hx hy => by
  show Calls Tryz.prog 63 #[.agg #[.bool x.s, .slice x.A x.n x.c, .slice x.D x.m x.k], .agg #[.bool y.s, .slice y.A y.n y.c, .slice y.D y.m y.k], .pointer (some ⟨g, 0, none⟩)] W _
  exact scaled1 (hg.below hb hg.lt) (hf.below hb) hx hy h1 hS
set_option maxRecDepth 100000 in
set_option maxHeartbeats 16000000 in
theorem vscaled_any {w : World} {A B : Option Addr} {c d L S : Nat} {f : Nt} {a b : List (Int × Nt)} (ha : Sl encE 4 w A c a) (va : ∀ r ∈ a, Nok w r.2 L) (hb : Sl encE 4 w B d b) (vb : ∀ r ∈ b, Nok w r.2 L) (hL : 1 ≤ L) (hM : L ≤ S) (hR : a.length * (L + 2) ≤ S) (hR2 : b.length * (L + 2) ≤ S) (hB : S ≤ 11728124029609) (hn : a.length ≤ 1000000) (hn2 : b.length ≤ 1000000) (hf : Nok w f S) : Calls Tryz.prog 29 #[.slice A a.length c, .agg #[.bool f.s, .slice f.A f.n f.c, .slice f.D f.m f.k], .slice B b.length d] w (Mgd a b (fun x y => x + f.q * y) (S + (S + S) + 1) w) := by
  have eg : ∀ args w, (callFunc 63 args).run Tryz.prog w = .ok (.enter 63 args) w := enters_of Tryz.func63 (by kernel_rfl) rfl
  have B1 : Hid (Below w.heap.size w (w.alloc (.cells #[.bool f.s, .slice f.A f.n f.c, .slice f.D f.m f.k] 29))) := (Below.refl _ _).alloc (Nat.le_refl _) _
  have C := Lib.hid (merge_any eg (opat_scaled (w := w.alloc (.cells #[.bool f.s, .slice f.A f.n f.c, .slice f.D f.m f.k] 29)) (g := w.heap.size) (S := S) (f := f) (Rb.new w f.s f.A f.n f.c f.D f.m f.k) (hf.below B1.out) (by omega) hB) (by simp [Rat.add_zero, Rat.mul_zero]) (ha.below B1.out) (fun r hr => (va r hr).below B1.out) (hb.below B1.out) (fun r hr => (vb r hr).below B1.out) hL hM hR hR2 (by omega) (by omega) hn hn2)
  clear eg ha va hb vb hL hM hR hR2 hB hn hn2 hf
  have hmf : ∀ (fn : Fn) (first cap : Array Value) (w : World), (Instr.makeFunc fn first cap).run Tryz.prog w = .ok (.func fn first cap) w := fun _ _ _ _ => rfl
  go_enter Tryz.func29, Tryz.ntmps29
  have pc0 := Lib.hid trivial
  go_wp2_with (first
    | (clear pc0; go_at_call 59; refine Calls.mono C.out ?_; rintro e w2 ⟨A1, c1, rs, rfl, h1, h2, h3, h4, h5, hb2⟩; have H1 := Lib.hid h1; have H2 := Lib.hid h2; have H3 := Lib.hid h3; have H4 := Lib.hid h4; have H5 := Lib.hid h5; replace B1 := Lib.hid (B1.out.trans (hb2.mono B1.out.size)); clear h1 h2 h3 h4 h5 hb2; have pc1 := Lib.hid trivial))
  clear pc1
  exact ret_t rfl rfl rfl ⟨A1, c1, rs, rfl, H1.out, H2.out, H3.out, H4.out, H5.out, B1.out⟩
end Go.Proofs.YtfacndibfkamgaaGreat

/-
  Contracts of package vector: apply, Norm.
-/
namespace Go.Proofs.YtfacndibfkamgaaGreat
open Go.RowKit
set_option linter.unusedVariables false

theorem row_split {pre post : List (Int × Nt)} {x : Int × Nt} : (pre ++ x :: post).flatMap encE = pre.flatMap encE ++ (encE x ++ post.flatMap encE) := by
  rw [List.flatMap_append, List.flatMap_cons]
theorem row_store {P : Program} {w : World} {g : Nat} {t : TypeId} {P1 V1 S1 vs : List Value} (hg : w.heap[g]? = some (.cells (P1 ++ (V1 ++ S1)).toArray t (0, 0))) (hl : vs.length = V1.length) (h1 : ∀ v ∈ vs, v.oneCell' = true) :
    (storeCells ⟨g, P1.length, none⟩ vs 0).run P w = .ok () (w.setRow g (P1 ++ (vs ++ S1)).toArray) := by
  have := run_storeCells_at P g P1.length t vs 0 _ w hg (by simp; omega) h1
  rw [this]
  congr 3
  simp only [Nat.add_zero]
  rw [List.take_append_of_le_length (Nat.le_refl _), List.take_length, List.append_assoc]
  congr 2
  rw [← List.drop_drop, List.drop_append_of_le_length (Nat.le_refl _), List.drop_length, List.nil_append, hl, List.drop_append_of_le_length (Nat.le_refl _), List.drop_length, List.nil_append]
/-- A store into the value of an entry of a row. -/
theorem wpList_st_val {ops : Array Oper} {rest : List Oper} {o : Oper} {a : Act} {w : World} {Q : Exit → Act → World → Prop} (hw : Region.wanted o (yielded ops a.tmps) = true) (p q : Operand) (ho : o.op = .store 29 p q) {g i : Nat} (hx : a.eval p = .pointer (some ⟨g, i * 4 + 1, none⟩)) {r : Nt} (hy : a.eval q = .agg #[.bool r.s, .slice r.A r.n r.c, .slice r.D r.m r.k])
    {pre post : List (Int × Nt)} {x : Int × Nt} (hz : Er w g (pre ++ x :: post)) (hi : pre.length = i)
    (h : ∀ w', Er w' g (pre ++ (x.1, r) :: post) → w.grownBy w' (some g) → wpList Tryz.prog ops Q rest (a.put o.dst undef) w') : wpList Tryz.prog ops Q (o :: rest) a w :=
  wpList_wanted hw fun K hK => by
    have e1 : (pre ++ x :: post).flatMap encE = (pre.flatMap encE ++ [Value.int .i64 x.1]) ++ ([.bool x.2.s, .slice x.2.A x.2.n x.2.c, .slice x.2.D x.2.m x.2.k] ++ post.flatMap encE) := by
      rw [row_split]; simp [encE]
    have e2 : (pre ++ (x.1, r) :: post).flatMap encE = (pre.flatMap encE ++ [Value.int .i64 x.1]) ++ ([.bool r.s, .slice r.A r.n r.c, .slice r.D r.m r.k] ++ post.flatMap encE) := by
      rw [row_split]; simp [encE]
    have hg : w.heap[g]? = some (.cells _ 58 (0, 0)) := hz
    have hg0 := hg
    rw [e1] at hg
    have hl : (pre.flatMap encE ++ [Value.int .i64 x.1]).length = i * 4 + 1 := by rw [List.length_append, length_flat encE_len, hi]; rfl
    have hs := row_store (P := Tryz.prog) (vs := [.bool r.s, .slice r.A r.n r.c, .slice r.D r.m r.k]) hg rfl (fun v hv => by simp at hv; rcases hv with rfl | rfl | rfl <;> rfl)
    rw [hl, ← e2] at hs
    obtain ⟨i', hi', _, hsz, _⟩ := infoRt
    have hrun : (storeVar 29 ⟨g, i * 4 + 1, none⟩ (.agg #[.bool r.s, .slice r.A r.n r.c, .slice r.D r.m r.k])).run Tryz.prog w = .ok () (w.setRow g ((pre ++ (x.1, r) :: post).flatMap encE).toArray) := by
      simp [storeVar, sizeOf, typeInfo, hi', Value.cells, hsz, hs]
    unfold Oper.wp execOp
    simp only [ho, hx, hy, Instr.storeAt, Instr.sureAddr, Sem.run_bind, Sem.run_pure, Result.andThen_ok, hrun]
    exact hK _ _ (h _ (setRow_heap w g _ _ _ _ hg0) (grown_setRow w g _))
theorem norm_op {w : World} {S : Nat} (h1 : 1 ≤ S) (hS : S ≤ 70368744177660) {x : Nt} (hx : Nok w x S) : Calls Tryz.prog 47 #[.agg #[.bool x.s, .slice x.A x.n x.c, .slice x.D x.m x.k]] w (Sumd S x.q w) := by
  refine (norm_any (L := S) (z := x.q.num) (d := x.q.den) hx.1 hx.2.1 hx.2.2.1 hx.2.2.2 ⟨h1, hS⟩ rfl rfl).mono ?_
  rintro e w' ⟨P, c, Q, k, rfl, ho, ho2, hb'⟩
  exact ⟨mkN x.q.num x.q.den P c Q k, rfl, nown_mk (ho.mono (Nat.zero_le _)) (ho2.mono (Nat.zero_le _)), q_mk _ _ _ _ _, hx.rl h1, hb'⟩
/-- What Norm gives: a row of its own, canonical. -/
def Nrm (rs : List (Int × Nt)) (M : Nat) (w : World) (e : Ending) (w' : World) : Prop := ∃ (g : Nat) (rs' : List (Int × Nt)), e = .returned (.slice (some ⟨g, 0, none⟩) rs'.length rs'.length) ∧ Er w' g rs' ∧ w.heap.size ≤ g ∧ Asc (ev rs') ∧ (∀ i, cpt (ev rs') i = cpt (ev rs) i) ∧ (∀ r ∈ rs', Nown w' r.2 ∧ RL r.2.q M) ∧ rs'.length ≤ rs.length ∧ Below w.heap.size w w'
def Apl (rs : List (Int × Nt)) (S g : Nat) (w1 : World) (v : Value) (wr : World) : Prop := ∃ (pre don todo : List (Int × Nt)), v = .int .i64 (don.length : Int) ∧ rs = pre ++ todo ∧ pre.length = don.length ∧ Er wr g (don ++ todo) ∧ ev don = ev pre ∧ (∀ r ∈ don, Nown wr r.2 ∧ RL r.2.q S) ∧ Below w1.heap.size w1 wr
theorem er_range {w : World} {g : Nat} {pre post : List (Int × Nt)} {x : Int × Nt} (h : Er w g (pre ++ x :: post)) (hn : (pre ++ x :: post).length ≤ 1000000000) : w.rangeAt g (pre.length * 4 + 1) [.bool x.2.s, .slice x.2.A x.2.n x.2.c, .slice x.2.D x.2.m x.2.k] := fun j u hj => by
  obtain ⟨_, _, h3⟩ := h.sl hn
  rcases h3 with h3 | ⟨b, o, e, _, h5⟩
  · simp at h3
  · simp only [Option.some.injEq, Addr.mk.injEq] at e
    obtain ⟨rfl, rfl, _⟩ := e
    have := h5 pre.length x (by simp) (1 + j) u (by rw [Nat.add_comm]; exact hj)
    rwa [Nat.zero_add, ← Nat.add_assoc] at this
set_option maxRecDepth 100000 in
set_option maxHeartbeats 16000000 in
theorem apply_norm {w : World} {A : Option Addr} {c L S : Nat} {a : List (Int × Nt)} (ha : Sl encE 4 w A c a) (va : ∀ r ∈ a, Nok w r.2 L) (hL : 1 ≤ L) (hM : L ≤ S) (hR : a.length * (L + 2) ≤ S) (hB : S ≤ 35184372088829) (hn : a.length ≤ 1000000) :
    Calls Tryz.prog 65 #[.slice A a.length c, .func (.func 47) #[] #[]] w (Nrm a S w) := by
  have eg : ∀ args w, (callFunc 47 args).run Tryz.prog w = .ok (.enter 47 args) w := enters_of Tryz.func47 (by kernel_rfl) rfl
  have HA := Lib.hid ha
  have HVA := Lib.hid va
  have L1 := Lib.hid hL
  have LM := Lib.hid hM
  have LR := Lib.hid hR
  have LB := Lib.hid hB
  have LN := Lib.hid hn
  clear ha va hL hM hR hB hn
  go_enter Tryz.func65, Tryz.ntmps65
  have pc0 := Lib.hid trivial
  go_wp2_with (first
    | (clear pc0; go_at_call 44; refine Calls.mono (sparse_any HA.out HVA.out L1.out LM.out LR.out LB.out LN.out) ?_; rintro e w1 ⟨A1, c1, rs, rfl, hs, hasc, hcp, hok, hlen, hbl⟩; have B1 := Lib.hid hbl; have SA := Lib.hid hs; have AA := Lib.hid hasc; have CA := Lib.hid hcp; have OA := Lib.hid hok; have NA := Lib.hid hlen; have LEN : Hid (rs.length ≤ 1000000000) := Nat.le_trans hlen (Nat.le_trans LN.out (by decide)); clear hs hasc hcp hok hlen hbl; have pc1 := Lib.hid trivial)
    | (clear pc1; refine wpList_make_E rfl _ _ rfl rs.length (by rfl) (by rfl) LEN.out ?_; intro w2 cur hc hs hb; have C0 := Lib.hid hc; have CS := Lib.hid hs; have B2 := Lib.hid hb; clear hc hs hb; have pc2 := Lib.hid trivial)
    | (clear pc2; refine wpList_copy_E rfl _ _ rfl (by rfl) (by rfl) C0.out CS.out (SA.out.below B2.out) ?_; intro w3 he hg; have B3 : Hid (Below w1.heap.size w1 w3) := Below.gr B2.out (Nat.le_refl _) hg B2.out.size; have E3 := Lib.hid he; clear he hg; have pc3 := Lib.hid trivial))
  clear pc3 C0 CS B2
  go_loopw [17] (fun v17 wr => Hid (Apl rs S w1.heap.size w1 v17 wr)) (fun v17 _ => rs.length - (intOf v17).toNat)
  case atStart => exact Lib.hid ⟨[], [], rs, rfl, rfl, rfl, E3.out, rfl, (fun r hr => by cases hr), B3.out⟩
  case round =>
    clear E3 B3
    obtain ⟨pre, don, todo, rfl, hrs, hpl, her, hev, hno, hbb⟩ := hrel.out
    have ER := Lib.hid her
    have EV := Lib.hid hev
    have NO := Lib.hid hno
    have B2 := Lib.hid hbb
    have RS := Lib.hid hrs
    have PL := Lib.hid hpl
    clear her hev hno hbb hrel
    obtain ⟨n, hn⟩ : ∃ n, rs.length = n := ⟨_, rfl⟩
    obtain ⟨k, hk⟩ : ∃ k, don.length = k := ⟨_, rfl⟩
    have HN := Lib.hid hn
    have HK := Lib.hid hk
    rcases todo with _ | ⟨x, t⟩
    · have hkn : k = n := by rw [← hn, ← hk, ← hpl, hrs]; simp
      subst hkn
      have n1 : ¬ (k : Int) < (k : Int) := by omega
      rw [hk, hn]
      clear hn hk hrs hpl
      go_wp2_with fail
      refine ret_t rfl rfl rfl ?_
      have ep : pre = rs := by have := RS.out; simpa using this.symm
      have er := ER.out
      rw [List.append_nil] at er
      have ev1 := EV.out
      rw [ep] at ev1
      refine ⟨_, don, by rw [HK.out]; rfl, er, B1.out.size, by rw [ev1]; exact AA.out, fun i => by rw [ev1]; exact CA.out i, NO.out, by rw [HK.out, ← HN.out]; exact NA.out, B1.out.trans (B2.out.mono B1.out.size)⟩
    · have hkn : k + (t.length + 1) = n := by rw [← hn, ← hk, ← hpl, hrs, List.length_append]; rfl
      have n1 : (k : Int) < (n : Int) := by omega
      have n2 : (n : Int) ≤ 1000000000 := by have := LEN.out; omega
      have w1' : IntKind.i64.wrap ((k : Int) + 1) = (k : Int) + 1 := IntWalk.i64_in _ (by omega)
      have RX : Hid (wr.rangeAt w1.heap.size (k * 4 + 1) [.bool x.2.s, .slice x.2.A x.2.n x.2.c, .slice x.2.D x.2.m x.2.k]) := by
        have := er_range ER.out (by rw [List.length_append, List.length_cons, hk]; omega)
        rw [hk] at this
        exact this
      have NX : Hid (Nok wr x.2 S) := (OA.out x (by rw [hrs]; simp)).below B2.out
      have KN := Lib.hid hkn
      rw [hk, hn]
      clear hn hrs hpl hkn
      have PK : Hid (don.length = k) := hk
      clear hk
      have pc0 := Lib.hid trivial
      go_wp2_with (first
        | (clear pc0; refine wpList_ld3 (by rfl) _ rfl (by rfl) RX.out ?_; have pc1 := Lib.hid trivial)
        | (clear pc1; go_at_fn 47; refine Calls.mono (norm_op (Nat.le_trans L1.out LM.out) (by have := LB.out; omega) NX.out) ?_; rintro e w4 ⟨⟨s3, A3, n3, c3, D3, m3, k3, x3, p3⟩, rfl, hown, hq, hrl, hb⟩; have OW := Lib.hid hown; have QQ := Lib.hid hq; have RQ := Lib.hid hrl; have NO2 : Hid (∀ r ∈ don, Nown w4 r.2 ∧ RL r.2.q S) := fun r hr => ⟨(NO.out r hr).1.below hb, (NO.out r hr).2⟩; replace ER := Lib.hid (ER.out.bel hb); replace B2 := Lib.hid (B2.out.trans (hb.mono B2.out.size)); clear hown hq hrl hb NO; have pc2 := Lib.hid trivial)
        | (clear pc2; refine wpList_st_val (r := ⟨s3, A3, n3, c3, D3, m3, k3, x3, p3⟩) (by rfl) _ _ rfl (by rfl) (by rfl) ER.out PK.out ?_; intro w5 he hg; have tx := ER.out.tx; have NO3 : Hid (∀ r ∈ don ++ [(x.1, (⟨s3, A3, n3, c3, D3, m3, k3, x3, p3⟩ : Nt))], Nown w5 r.2 ∧ RL r.2.q S) := (fun r hr => (List.mem_append.1 hr).elim (fun hr => ⟨(NO2.out r hr).1.grT tx hg, (NO2.out r hr).2⟩) (fun hr => by simp at hr; rw [hr]; exact ⟨OW.out.grT tx hg, by rw [QQ.out]; exact RQ.out⟩)); have E5 := Lib.hid he; replace B2 := Lib.hid (Below.gr B2.out (Nat.le_refl _) hg B2.out.size); clear tx he hg; have pc3 := Lib.hid trivial))
      clear pc3
      go_roundw
      case rel => exact Lib.hid ⟨pre ++ [x], don ++ [(x.1, ⟨s3, A3, n3, c3, D3, m3, k3, x3, p3⟩)], t, by rw [List.length_append, PK.out]; go_num, by rw [List.append_assoc]; exact RS.out, by rw [List.length_append, List.length_append, PL.out]; rfl, by rw [List.append_assoc]; exact E5.out, by rw [ev_append, ev_append, EV.out]; congr 1; show [(x.1, _)] = [(x.1, _)]; rw [QQ.out], NO3.out, B2.out⟩
      case measure => have := KN.out; have := HN.out; have := HK.out; simp [intOf]; omega
set_option maxRecDepth 100000 in
set_option maxHeartbeats 16000000 in
theorem vnorm_any {w : World} {A : Option Addr} {c L S : Nat} {a : List (Int × Nt)} (ha : Sl encE 4 w A c a) (va : ∀ r ∈ a, Nok w r.2 L) (hL : 1 ≤ L) (hM : L ≤ S) (hR : a.length * (L + 2) ≤ S) (hB : S ≤ 35184372088829) (hn : a.length ≤ 1000000) :
    Calls Tryz.prog 31 #[.slice A a.length c] w (Nrm a S w) := by
  have C := Lib.hid (apply_norm ha va hL hM hR hB hn)
  clear ha va hL hM hR hB hn
  go_enter Tryz.func31, Tryz.ntmps31
  have pc0 := Lib.hid trivial
  go_wp2_with (first
    | (clear pc0; go_at_call 65; refine Calls.mono C.out ?_; rintro e w2 ⟨g1, rs, rfl, hr⟩; have R := Lib.hid hr; clear hr; have pc1 := Lib.hid trivial))
  clear pc1
  exact ret_t rfl rfl rfl ⟨g1, rs, rfl, R.out⟩
end Go.Proofs.YtfacndibfkamgaaGreat

/-
  Contracts of the reference and the law of package vector: Identical, entry, First.
-/
namespace Go.Proofs.YtfacndibfkamgaaGreat
open Go.RowKit
set_option linter.unusedVariables false

theorem ev_at {a b : List (Int × Nt)} (h : ev a = ev b) {k : Nat} {x : Int × Nt} (hx : a[k]? = some x) : ∃ y, b[k]? = some y ∧ y.1 = x.1 ∧ y.2.q = x.2.q := by
  have h1 : (ev a)[k]? = some (x.1, x.2.q) := by simp [ev, hx]
  rw [h] at h1
  simp only [ev, List.getElem?_map, Option.map_eq_some_iff] at h1
  obtain ⟨y, h2, h3⟩ := h1
  simp only [Prod.mk.injEq] at h3
  exact ⟨y, h2, h3.1, h3.2⟩
theorem can_num {w : World} {r : Nt} (h : Ncan w r) : r.q.num = r.x ∧ r.q.den = r.p := ⟨h.2.2.2.1, h.2.2.2.2.1⟩
set_option maxRecDepth 100000 in
set_option maxHeartbeats 16000000 in
theorem identical_yes {w : World} {A B : Option Addr} {c d : Nat} {a b : List (Int × Nt)} (ha : Sl encE 4 w A c a) (hb : Sl encE 4 w B d b) (va : ∀ r ∈ a, Ncan w r.2 ∧ RL r.2.q 35184372087808) (vb : ∀ r ∈ b, Ncan w r.2 ∧ RL r.2.q 35184372087808) (he : ev a = ev b) (hn : a.length ≤ 1000000) : Calls Tryz.prog 16 #[.slice A a.length c, .slice B b.length d] w fun e w' => e = .returned (.bool true) ∧ Below w.heap.size w w' := by
  have hl : b.length = a.length := by have := congrArg List.length he; simpa [ev] using this.symm
  have HA := Lib.hid ha
  have HB := Lib.hid hb
  have VA := Lib.hid va
  have VB := Lib.hid vb
  have HE := Lib.hid he
  have LN := Lib.hid hn
  rw [hl]
  obtain ⟨n, hn'⟩ : ∃ n, a.length = n := ⟨_, rfl⟩
  have HN := Lib.hid hn'
  have n0 : (n : Int) ≤ 1000000 := by omega
  rw [hn']
  clear ha hb va vb he hl hn hn'
  go_enter Tryz.func16, Tryz.ntmps16
  go_wp2_with fail
  go_loopw [5] (fun v5 wr => ∃ k : Nat, v5 = .int .i64 (k : Int) ∧ Hid (k ≤ n) ∧ Hid (Below w.heap.size w wr)) (fun v5 _ => n - (intOf v5).toNat)
  case atStart => exact ⟨0, rfl, Lib.hid (Nat.zero_le _), Lib.hid (Below.refl _ _)⟩
  case round =>
    obtain ⟨k, rfl, KL, B1⟩ := hrel
    by_cases hk : k < n
    · have hka : k < a.length := by have := HN.out; omega
      obtain ⟨x, hx⟩ : ∃ x, a[k]? = some x := ⟨_, List.getElem?_eq_getElem hka⟩
      obtain ⟨y, hy, e1, e2⟩ := ev_at HE.out hx
      obtain ⟨b1, o1, rfl, hb1, hr1⟩ := HA.out.at_ (by omega)
      obtain ⟨b2, o2, rfl, hb2, hr2⟩ := HB.out.at_ (by have := (List.getElem?_eq_some_iff.1 hy).1; omega)
      have LT1 := Lib.hid hb1
      have LT2 := Lib.hid hb2
      have I1 : Hid (w.cell? ⟨b1, o1 + k * 4, none⟩ = some (.int .i64 x.1)) := hr1 k x hx 0 _ rfl
      have I2 : Hid (w.cell? ⟨b2, o2 + k * 4, none⟩ = some (.int .i64 x.1)) := by rw [← e1]; exact hr2 k y hy 0 _ rfl
      have q1 := VA.out x (List.mem_of_getElem? hx)
      have q2 := VB.out y (List.mem_of_getElem? hy)
      obtain ⟨x0, xs, xA, xn, xc, xD, xm, xk, z, p⟩ := x
      obtain ⟨y0, ys, yA, yn, yc, yD, ym, yk, z2, p2⟩ := y
      obtain ⟨⟨g1, g2, g3, g4, g5, g6, g7⟩, gl⟩ := q1
      obtain ⟨⟨k1, k2, k3, k4, k5, k6, k7⟩, kl⟩ := q2
      dsimp only [Nt.q] at *
      obtain rfl : z2 = z := by rw [← g4, ← k4, e2]
      obtain rfl : p2 = p := by rw [← g5, ← k5, e2]
      skip
      have RX : Hid (w.rangeAt b1 (o1 + k * 4 + 1) [.bool (decide (z2 < 0)), .slice xA (ofv z2.natAbs).length xc, .slice xD (ofv p2).length xk]) := fun j u hj => by
        rw [← g1, ← g2, ← g3] at hj
        have := hr1 k _ hx (1 + j) u (by rw [Nat.add_comm]; exact hj)
        rwa [← Nat.add_assoc] at this
      have RY : Hid (w.rangeAt b2 (o2 + k * 4 + 1) [.bool (decide (z2 < 0)), .slice yA (ofv z2.natAbs).length yc, .slice yD (ofv p2).length yk]) := fun j u hj => by
        rw [← k1, ← k2, ← k3] at hj
        have := hr2 k _ hy (1 + j) u (by rw [Nat.add_comm]; exact hj)
        rwa [← Nat.add_assoc] at this
      have ZX := Lib.hid g6
      have PX := Lib.hid g7
      have ZY := Lib.hid k6
      have PY := Lib.hid k7
      have L1 := Lib.hid gl.1
      have L2 := Lib.hid gl.2
      rw [g4] at L1
      rw [g5] at L2
      have E4 := Lib.hid g4
      have E5 := Lib.hid g5
      have c1 : (k : Int) < (n : Int) := by omega
      have w1 : IntKind.i64.wrap ((k : Int) + 1) = (k : Int) + 1 := IntWalk.i64_in _ (by omega)
      clear hka hx hy e1 e2 hb1 hr1 hb2 hr2 gl kl g4 g5 g6 g7 k4 k5 k6 k7 g1 g2 g3 k1 k2 k3
      go_wp2_with fail
      have hb : Below wr.heap.size wr wr.drew := below_drewN _ wr 1
      replace B1 := Lib.hid (B1.out.trans (hb.mono B1.out.size))
      clear hb
      refine wp_region_held_drew (S := fun w' => Below w.heap.size w w') (by kernel_rfl) B1.out (fun hHeld => ?_)
      generalize wr.drew = wrd at *
      refine wpAnyH_takeL (i := 0) (oi := _) (v := ?_) rfl (by kernel_rfl) (by kernel_rfl) (by kernel_rfl) (fun _ _ _ h => h) (Or.inl ⟨by rfl, ?_⟩) hHeld ?_
      rotate_left
      · (intro w' hSw; (try dsimp only at hSw); go_simp; try (with_reducible rfl))
      try simp only [Act.put, List.setIfInBounds_toArray, List.set_cons_zero, List.set_cons_succ]
      refine wpAnyH_takeL (i := 1) (oi := _) (v := ?_) rfl (by kernel_rfl) (by kernel_rfl) (by kernel_rfl) (fun _ _ _ h => h) (Or.inl ⟨by rfl, ?_⟩) hHeld ?_
      rotate_left
      · (intro w' hSw; (try dsimp only at hSw); go_simp; try (with_reducible rfl))
      try simp only [Act.put, List.setIfInBounds_toArray, List.set_cons_zero, List.set_cons_succ]
      refine wpAnyH_takeL (i := 2) (oi := _) (v := ?_) rfl (by kernel_rfl) (by kernel_rfl) (by kernel_rfl) (fun _ _ _ h => h) (Or.inl ⟨by rfl, ?_⟩) hHeld ?_
      rotate_left
      · (intro w' hSw; (try dsimp only at hSw); go_simp; try (with_reducible rfl))
      try simp only [Act.put, List.setIfInBounds_toArray, List.set_cons_zero, List.set_cons_succ]
      refine wpAnyH_takeL (i := 3) (oi := _) (v := ?_) rfl (by kernel_rfl) (by kernel_rfl) (by kernel_rfl) (fun _ _ _ h => h) (Or.inl ⟨by rfl, ?_⟩) hHeld ?_
      rotate_left
      · (intro w' hSw; (try dsimp only at hSw); go_simp; try (with_reducible rfl))
      try simp only [Act.put, List.setIfInBounds_toArray, List.set_cons_zero, List.set_cons_succ]
      refine wpAnyH_takeL (i := 4) (oi := _) rfl (by kernel_rfl) (by kernel_rfl) (by kernel_rfl) (fun _ _ _ h => h) (yields_ldI (by rfl) _ rfl (by rfl) (fun _ hS => (hS.cell (p := ⟨b1, o1 + k * 4, none⟩) LT1.out).trans I1.out)) hHeld ?_
      try simp only [Act.put, List.setIfInBounds_toArray, List.set_cons_zero, List.set_cons_succ]
      refine wpAnyH_takeL (i := 5) (oi := _) (v := ?_) rfl (by kernel_rfl) (by kernel_rfl) (by kernel_rfl) (fun _ _ _ h => h) (Or.inl ⟨by rfl, ?_⟩) hHeld ?_
      rotate_left
      · (intro w' hSw; (try dsimp only at hSw); go_simp; try (with_reducible rfl))
      try simp only [Act.put, List.setIfInBounds_toArray, List.set_cons_zero, List.set_cons_succ]
      refine wpAnyH_takeL (i := 6) (oi := _) (v := ?_) rfl (by kernel_rfl) (by kernel_rfl) (by kernel_rfl) (fun _ _ _ h => h) (Or.inl ⟨by rfl, ?_⟩) hHeld ?_
      rotate_left
      · (intro w' hSw; (try dsimp only at hSw); go_simp; try (with_reducible rfl))
      try simp only [Act.put, List.setIfInBounds_toArray, List.set_cons_zero, List.set_cons_succ]
      refine wpAnyH_takeL (i := 7) (oi := _) (v := ?_) rfl (by kernel_rfl) (by kernel_rfl) (by kernel_rfl) (fun _ _ _ h => h) (Or.inl ⟨by rfl, ?_⟩) hHeld ?_
      rotate_left
      · (intro w' hSw; (try dsimp only at hSw); go_simp; try (with_reducible rfl))
      try simp only [Act.put, List.setIfInBounds_toArray, List.set_cons_zero, List.set_cons_succ]
      refine wpAnyH_takeL (i := 8) (oi := _) (v := ?_) rfl (by kernel_rfl) (by kernel_rfl) (by kernel_rfl) (fun _ _ _ h => h) (Or.inl ⟨by rfl, ?_⟩) hHeld ?_
      rotate_left
      · (intro w' hSw; (try dsimp only at hSw); go_simp; try (with_reducible rfl))
      try simp only [Act.put, List.setIfInBounds_toArray, List.set_cons_zero, List.set_cons_succ]
      refine wpAnyH_takeL (i := 9) (oi := _) rfl (by kernel_rfl) (by kernel_rfl) (by kernel_rfl) (fun _ _ _ h => h) (yields_ldI (by rfl) _ rfl (by rfl) (fun _ hS => (hS.cell (p := ⟨b2, o2 + k * 4, none⟩) LT2.out).trans I2.out)) hHeld ?_
      try simp only [Act.put, List.setIfInBounds_toArray, List.set_cons_zero, List.set_cons_succ]
      refine wpAnyH_takeL (i := 10) (oi := _) (v := ?_) rfl (by kernel_rfl) (by kernel_rfl) (by kernel_rfl) (fun _ _ _ h => h) (Or.inl ⟨by rfl, ?_⟩) hHeld ?_
      rotate_left
      · (intro w' hSw; (try dsimp only at hSw); go_simp; try (with_reducible rfl))
      try simp only [Act.put, List.setIfInBounds_toArray, List.set_cons_zero, List.set_cons_succ]
      try rw [bne_self_eq_false]
      refine wpAnyH_takeL (i := 11) (oi := _) (v := ?_) rfl (by kernel_rfl) (by kernel_rfl) (by kernel_rfl) (fun _ _ _ h => h) (Or.inl ⟨by rfl, ?_⟩) hHeld ?_
      rotate_left
      · (intro w' hSw; (try dsimp only at hSw); go_simp; try (with_reducible rfl))
      try simp only [Act.put, List.setIfInBounds_toArray, List.set_cons_zero, List.set_cons_succ]
      refine wpAnyH_takeL (i := 12) (oi := _) (v := ?_) rfl (by kernel_rfl) (by kernel_rfl) (by kernel_rfl) (fun _ _ _ h => h) (Or.inl ⟨by rfl, ?_⟩) hHeld ?_
      rotate_left
      · (intro w' hSw; (try dsimp only at hSw); go_simp; try (with_reducible rfl))
      try simp only [Act.put, List.setIfInBounds_toArray, List.set_cons_zero, List.set_cons_succ]
      refine wpAnyH_takeL (i := 13) (oi := _) (v := ?_) rfl (by kernel_rfl) (by kernel_rfl) (by kernel_rfl) (fun _ _ _ h => h) (Or.inl ⟨by rfl, ?_⟩) hHeld ?_
      rotate_left
      · (intro w' hSw; (try dsimp only at hSw); go_simp; try (with_reducible rfl))
      try simp only [Act.put, List.setIfInBounds_toArray, List.set_cons_zero, List.set_cons_succ]
      refine wpAnyH_takeL (i := 14) (oi := _) (v := ?_) rfl (by kernel_rfl) (by kernel_rfl) (by kernel_rfl) (fun _ _ _ h => h) (Or.inl ⟨by rfl, ?_⟩) hHeld ?_
      rotate_left
      · (intro w' hSw; (try dsimp only at hSw); go_simp; try (with_reducible rfl))
      try simp only [Act.put, List.setIfInBounds_toArray, List.set_cons_zero, List.set_cons_succ]
      refine wpAnyH_takeL (i := 15) (oi := _) (v := ?_) rfl (by kernel_rfl) (by kernel_rfl) (by kernel_rfl) (fun _ _ _ h => h) (Or.inl ⟨by rfl, ?_⟩) hHeld ?_
      rotate_left
      · (intro w' hSw; (try dsimp only at hSw); go_simp; try (with_reducible rfl))
      try simp only [Act.put, List.setIfInBounds_toArray, List.set_cons_zero, List.set_cons_succ]
      refine wpAnyH_takeL (i := 16) (oi := _) rfl (by kernel_rfl) (by kernel_rfl) (by kernel_rfl) (fun _ _ _ h => h) (yields_ld3 (by rfl) _ rfl (by rfl) (fun _ hS => range_bel RX.out LT1.out hS)) hHeld ?_
      try simp only [Act.put, List.setIfInBounds_toArray, List.set_cons_zero, List.set_cons_succ]
      refine wpAnyH_ready (rs := [17]) (by kernel_rfl) (by simp) ?_
      refine AllReadyH.consL (o := _) rfl (fun K hK => ?_) AllReadyH.nil
      clear hHeld
      go_simp
      go_at_call 51
      refine Calls.mono (r3canonical_any (ZX.out.below B1.out) (PX.out.below B1.out) L1.out L2.out E4.out E5.out) ?_
      rintro e w3 ⟨rfl, hb⟩
      replace B1 := Lib.hid (B1.out.trans (hb.mono B1.out.size))
      clear hb
      refine hK.out _ _ B1.out (fun hHeld => ?_)
      clear hK K
      try simp only [Act.put, List.setIfInBounds_toArray, List.set_cons_zero, List.set_cons_succ]
      refine wpAnyH_takeL (i := 18) (oi := _) (v := ?_) rfl (by kernel_rfl) (by kernel_rfl) (by kernel_rfl) (fun _ _ _ h => h) (Or.inl ⟨by rfl, ?_⟩) hHeld ?_
      rotate_left
      · (intro w' hSw; (try dsimp only at hSw); go_simp; try (with_reducible rfl))
      try simp only [Act.put, List.setIfInBounds_toArray, List.set_cons_zero, List.set_cons_succ]
      refine wpAnyH_takeL (i := 19) (oi := _) (v := ?_) rfl (by kernel_rfl) (by kernel_rfl) (by kernel_rfl) (fun _ _ _ h => h) (Or.inl ⟨by rfl, ?_⟩) hHeld ?_
      rotate_left
      · (intro w' hSw; (try dsimp only at hSw); go_simp; try (with_reducible rfl))
      try simp only [Act.put, List.setIfInBounds_toArray, List.set_cons_zero, List.set_cons_succ]
      refine wpAnyH_takeL (i := 20) (oi := _) (v := ?_) rfl (by kernel_rfl) (by kernel_rfl) (by kernel_rfl) (fun _ _ _ h => h) (Or.inl ⟨by rfl, ?_⟩) hHeld ?_
      rotate_left
      · (intro w' hSw; (try dsimp only at hSw); go_simp; try (with_reducible rfl))
      try simp only [Act.put, List.setIfInBounds_toArray, List.set_cons_zero, List.set_cons_succ]
      refine wpAnyH_takeL (i := 21) (oi := _) (v := ?_) rfl (by kernel_rfl) (by kernel_rfl) (by kernel_rfl) (fun _ _ _ h => h) (Or.inl ⟨by rfl, ?_⟩) hHeld ?_
      rotate_left
      · (intro w' hSw; (try dsimp only at hSw); go_simp; try (with_reducible rfl))
      try simp only [Act.put, List.setIfInBounds_toArray, List.set_cons_zero, List.set_cons_succ]
      refine wpAnyH_takeL (i := 22) (oi := _) (v := ?_) rfl (by kernel_rfl) (by kernel_rfl) (by kernel_rfl) (fun _ _ _ h => h) (Or.inl ⟨by rfl, ?_⟩) hHeld ?_
      rotate_left
      · (intro w' hSw; (try dsimp only at hSw); go_simp; try (with_reducible rfl))
      try simp only [Act.put, List.setIfInBounds_toArray, List.set_cons_zero, List.set_cons_succ]
      refine wpAnyH_takeL (i := 23) (oi := _) (v := ?_) rfl (by kernel_rfl) (by kernel_rfl) (by kernel_rfl) (fun _ _ _ h => h) (Or.inl ⟨by rfl, ?_⟩) hHeld ?_
      rotate_left
      · (intro w' hSw; (try dsimp only at hSw); go_simp; try (with_reducible rfl))
      try simp only [Act.put, List.setIfInBounds_toArray, List.set_cons_zero, List.set_cons_succ]
      refine wpAnyH_takeL (i := 24) (oi := _) (v := ?_) rfl (by kernel_rfl) (by kernel_rfl) (by kernel_rfl) (fun _ _ _ h => h) (Or.inl ⟨by rfl, ?_⟩) hHeld ?_
      rotate_left
      · (intro w' hSw; (try dsimp only at hSw); go_simp; try (with_reducible rfl))
      try simp only [Act.put, List.setIfInBounds_toArray, List.set_cons_zero, List.set_cons_succ]
      refine wpAnyH_takeL (i := 25) (oi := _) rfl (by kernel_rfl) (by kernel_rfl) (by kernel_rfl) (fun _ _ _ h => h) (yields_ld3 (by rfl) _ rfl (by rfl) (fun _ hS => range_bel RX.out LT1.out hS)) hHeld ?_
      try simp only [Act.put, List.setIfInBounds_toArray, List.set_cons_zero, List.set_cons_succ]
      refine wpAnyH_takeL (i := 26) (oi := _) (v := ?_) rfl (by kernel_rfl) (by kernel_rfl) (by kernel_rfl) (fun _ _ _ h => h) (Or.inl ⟨by rfl, ?_⟩) hHeld ?_
      rotate_left
      · (intro w' hSw; (try dsimp only at hSw); go_simp; try (with_reducible rfl))
      try simp only [Act.put, List.setIfInBounds_toArray, List.set_cons_zero, List.set_cons_succ]
      refine wpAnyH_takeL (i := 27) (oi := _) (v := ?_) rfl (by kernel_rfl) (by kernel_rfl) (by kernel_rfl) (fun _ _ _ h => h) (Or.inl ⟨by rfl, ?_⟩) hHeld ?_
      rotate_left
      · (intro w' hSw; (try dsimp only at hSw); go_simp; try (with_reducible rfl))
      try simp only [Act.put, List.setIfInBounds_toArray, List.set_cons_zero, List.set_cons_succ]
      refine wpAnyH_takeL (i := 28) (oi := _) (v := ?_) rfl (by kernel_rfl) (by kernel_rfl) (by kernel_rfl) (fun _ _ _ h => h) (Or.inl ⟨by rfl, ?_⟩) hHeld ?_
      rotate_left
      · (intro w' hSw; (try dsimp only at hSw); go_simp; try (with_reducible rfl))
      try simp only [Act.put, List.setIfInBounds_toArray, List.set_cons_zero, List.set_cons_succ]
      refine wpAnyH_takeL (i := 29) (oi := _) (v := ?_) rfl (by kernel_rfl) (by kernel_rfl) (by kernel_rfl) (fun _ _ _ h => h) (Or.inl ⟨by rfl, ?_⟩) hHeld ?_
      rotate_left
      · (intro w' hSw; (try dsimp only at hSw); go_simp; try (with_reducible rfl))
      try simp only [Act.put, List.setIfInBounds_toArray, List.set_cons_zero, List.set_cons_succ]
      refine wpAnyH_takeL (i := 30) (oi := _) rfl (by kernel_rfl) (by kernel_rfl) (by kernel_rfl) (fun _ _ _ h => h) (yields_ld3 (by rfl) _ rfl (by rfl) (fun _ hS => range_bel RY.out LT2.out hS)) hHeld ?_
      try simp only [Act.put, List.setIfInBounds_toArray, List.set_cons_zero, List.set_cons_succ]
      refine wpAnyH_ready (rs := [31]) (by kernel_rfl) (by simp) ?_
      refine AllReadyH.consL (o := _) rfl (fun K hK => ?_) AllReadyH.nil
      clear hHeld
      go_simp
      go_at_call 26
      refine Calls.mono (r3equal_any (b := true) (ZX.out.below B1.out) (ZY.out.below B1.out) (PX.out.below B1.out) (PY.out.below B1.out) (by simp)) ?_
      rintro e w4 ⟨rfl, hb⟩
      replace B1 := Lib.hid (B1.out.trans (hb.mono B1.out.size))
      clear hb
      refine hK.out _ _ B1.out (fun hHeld => ?_)
      clear hK K
      try simp only [Act.put, List.setIfInBounds_toArray, List.set_cons_zero, List.set_cons_succ]
      refine wpAnyH_takeL (i := 32) (oi := _) (v := ?_) rfl (by kernel_rfl) (by kernel_rfl) (by kernel_rfl) (fun _ _ _ h => h) (Or.inl ⟨by rfl, ?_⟩) hHeld ?_
      rotate_left
      · (intro w' hSw; (try dsimp only at hSw); go_simp; try (with_reducible rfl))
      try simp only [Act.put, List.setIfInBounds_toArray, List.set_cons_zero, List.set_cons_succ]
      refine wpAnyH_takeL (i := 33) (oi := _) (v := ?_) rfl (by kernel_rfl) (by kernel_rfl) (by kernel_rfl) (fun _ _ _ h => h) (Or.inl ⟨by rfl, ?_⟩) hHeld ?_
      rotate_left
      · (intro w' hSw; (try dsimp only at hSw); go_simp; try (with_reducible rfl))
      try simp only [Act.put, List.setIfInBounds_toArray, List.set_cons_zero, List.set_cons_succ]
      clear hHeld
      refine wpAnyH_done (by kernel_rfl) ?_ _
      go_wp2_with fail
      go_roundw
      case rel => exact ⟨k + 1, by go_num, Lib.hid (by show _ ≤ _; omega), B1⟩
      case measure => simp [intOf]; omega
    · obtain rfl : k = n := by have := KL.out; omega
      have c1 : ¬ (k : Int) < (k : Int) := by omega
      go_wp2_with fail
      refine ret_t rfl rfl rfl ⟨rfl, B1.out⟩
set_option maxRecDepth 100000 in
set_option maxHeartbeats 16000000 in
theorem entry_any {w : World} {i v : Int} (hv : -9223372036854775808 ≤ v ∧ v ≤ 9223372036854775807) : Calls Tryz.prog 53 #[.int .i64 i, .int .i64 v] w fun e w' => ∃ r : Nt, e = .returned (.agg #[.int .i64 i, .bool r.s, .slice r.A r.n r.c, .slice r.D r.m r.k]) ∧ (Nown w' r ∧ r.q = Rat.divInt v 1 ∧ Below w.heap.size w w') := by
  have B1 : Hid (Below w.heap.size w (w.alloc (.cells #[.int .i64 0, .bool false, .slice none 0 0, .slice none 0 0] 58))) := (Below.refl _ _).alloc (Nat.le_refl _) _
  have V0 : Hid (Vb (w.alloc (.cells #[.int .i64 0, .bool false, .slice none 0 0, .slice none 0 0] 58)) w.heap.size 0 false none 0 0 none 0 0) := Vb.new w 0 false none 0 0 none 0 0
  have HV := Lib.hid hv
  clear hv
  go_enter Tryz.func53, Tryz.ntmps53
  go_wp2_with fail
  generalize w.alloc (.cells #[.int .i64 0, .bool false, .slice none 0 0, .slice none 0 0] 58) = w2 at *
  have pc0 := Lib.hid trivial
  go_wp2_with (first
    | (clear pc0; go_at_call 30; refine Calls.mono (r3fromInt_any (z := (Rat.divInt v 1).num) (d := (Rat.divInt v 1).den) HV.out rfl rfl _) ?_; rintro e w3 ⟨P, cP, R, cR, rfl, ho, ho2, hb⟩; replace V0 := Lib.hid (V0.out.below hb V0.out.lt); replace B1 := Lib.hid (B1.out.trans (hb.mono B1.out.size)); have OZ := Lib.hid (ho.mono (Nat.zero_le _)); have OD := Lib.hid (ho2.mono (Nat.zero_le _)); clear ho ho2; clear hb; have pc1 := Lib.hid trivial)
    | (clear pc1; refine wpList_stV (by rfl) _ _ rfl (by rfl) (by rfl) V0.out ?_; intro w5 hz hg; have tx := V0.out.tx; replace OZ := Lib.hid (OZ.out.grT tx hg); replace OD := Lib.hid (OD.out.grT tx hg); replace B1 := Lib.hid (Below.gr B1.out (Nat.le_refl _) hg B1.out.size); clear tx; replace V0 := Lib.hid hz; clear hz hg; have pc2 := Lib.hid trivial))
  clear pc2
  exact ret_v rfl rfl rfl V0.out ⟨mkN (Rat.divInt v 1).num (Rat.divInt v 1).den P cP R cR, rfl, nown_mk OZ.out OD.out, q_mk _ _ _ _ _, B1.out⟩
set_option maxRecDepth 100000 in
set_option maxHeartbeats 16000000 in
theorem first40 {w : World} {A : Option Addr} {c : Nat} {rs : List (Int × Nt)} (h : Sl encE 4 w A c rs) : Calls Tryz.prog 42 #[.slice A rs.length c, .int .i64 40] w fun e w' => ∃ rs', e = .returned (.slice A rs'.length c) ∧ (Sl encE 4 w A c rs' ∧ rs'.length ≤ 40 ∧ (∀ r ∈ rs', r ∈ rs) ∧ Below w.heap.size w w') := by
  rcases Nat.lt_or_ge 40 rs.length with hl | hl
  · have H := Lib.hid (h.take 40)
    have HL : Hid ((rs.take 40).length = 40) := by show _ = _; rw [List.length_take]; omega
    have hc : (40 : Int) ≤ (c : Int) := by have := h.1; omega
    have hc2 : 40 ≤ c := by omega
    obtain ⟨n, hn⟩ : ∃ n, rs.length = n := ⟨_, rfl⟩
    rw [hn] at hl ⊢
    have c1 : (n : Int) > 40 := by omega
    have A0 : Hid (∃ b o, A = some ⟨b, o, none⟩) := by obtain ⟨b, o, e, _⟩ := h.at_ (by omega); exact ⟨b, o, e⟩
    obtain ⟨b, o, rfl⟩ := A0.out
    have HS : Hid (∀ r ∈ rs.take 40, r ∈ rs) := fun r hr => List.mem_of_mem_take hr
    clear h hn A0
    go_enter Tryz.func42, Tryz.ntmps42
    go_wp2_with fail
    refine ret_t rfl rfl rfl ⟨rs.take 40, by rw [HL.out]; rfl, H.out, by rw [HL.out]; exact Nat.le_refl _, HS.out, Below.refl _ _⟩
  · have H := Lib.hid h
    obtain ⟨n, hn⟩ : ∃ n, rs.length = n := ⟨_, rfl⟩
    have HN := Lib.hid hn
    rw [hn] at hl ⊢
    have c1 : ¬ (n : Int) > 40 := by omega
    have HL := Lib.hid hl
    clear h hn
    go_enter Tryz.func42, Tryz.ntmps42
    go_wp2_with fail
    refine ret_t rfl rfl rfl ⟨rs, by rw [HN.out]; rfl, H.out, by rw [HN.out]; exact HL.out, by intros; assumption, Below.refl _ _⟩
end Go.Proofs.YtfacndibfkamgaaGreat
