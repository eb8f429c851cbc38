/-
  Vz, Vd.
-/
import Derived.Test.YtfacndibfkamgaaGreatKE
/-
  Contracts of package vector and the law: Equal, Support, equal lists of ints.
-/
namespace Go.Proofs.YtfacndibfkamgaaGreat
open Go.RowKit
set_option linter.unusedVariables false

def encI (i : Int) : List Value := [.int .i64 i]
theorem encI_len (i : Int) : (encI i).length = 1 := rfl
theorem infoI : ∃ i, Tryz.prog.info? 3 = some i ∧ i.zero = some (.int .i64 0) ∧ i.size = 1 ∧ i.bytes = 8 := by
  have h : (Tryz.prog.info? 3).map (fun i => (i.zero, i.size, i.bytes)) = some (some (.int .i64 0), 1, 8) := by kernel_rfl
  cases hq : Tryz.prog.info? 3 with
  | none => rw [hq] at h; cases h
  | some i =>
    rw [hq] at h
    simp only [Option.map_some, Option.some.injEq, Prod.mk.injEq] at h
    exact ⟨i, rfl, h.1, h.2.1, h.2.2⟩
theorem append_I {ops : Array Oper} {rest : List Oper} {o : Oper} {a : Act} {Q : Exit → Act → World → Prop} {w : World} (hgd : o.guard = none) (s x : Operand)
    (ho : o.op = .call { callee := .builtin .append, args := #[s, x], argTypes := #[31, 31] }) {base g c : Nat} {v : Value} {rs : List Int} (r : Int) (hs : a.eval s = v) (hP : Lg encI 1 3 w base v rs)
    (hx : a.eval x = .slice (some ⟨g, 0, none⟩) 1 c) (hz : w.cell? ⟨g, 0, none⟩ = some (.int .i64 r)) (hn : rs.length ≤ 1000000000) (hb : base ≤ w.heap.size)
    (h : ∀ v' w', Lg encI 1 3 w' base v' (rs ++ [r]) → Kt 3 base w w' → wpList Tryz.prog ops Q rest (a.put o.dst v') w') : wpList Tryz.prog ops Q (o :: rest) a w := by
  obtain ⟨i, hi, hz0, hs2, hb32⟩ := infoI
  refine wpList_append_own w hgd s x 31 ho base 3 i _ 1 8 Tryz.underlying31 hi hz0 hs2 hb32 rfl (by decide) v rs.length (rs.flatMap encI) hs hP ⟨g, 0, none⟩ 1 c (encI r) hx rfl ?_ ?_ (by unfold maxLen; omega) (by omega) hb ?_
  · intro j u hj
    rw [Addr.add_mid]
    match j, hj with
    | 0, hj => simp [encI] at hj; subst hj; exact hz
    | j + 1, hj => simp [encI] at hj
  · intro u hu
    simp [encI] at hu
    subst hu; rfl
  · intro v' w' hown' hgr _
    exact h v' w' (by unfold Lg; rw [List.length_append, List.flatMap_append]; simpa using hown') (kt_of hb hP hgr)
set_option maxRecDepth 100000 in
set_option maxHeartbeats 16000000 in
theorem equalInts_yes {w : World} {A B : Option Addr} {c d : Nat} {a : List Int} (ha : Sl encI 1 w A c a) (hb : Sl encI 1 w B d a) (hn : a.length ≤ 1000000) : Calls Tryz.prog 33 #[.slice A a.length c, .slice B a.length d] w fun e w' => e = .returned (.bool true) ∧ Below w.heap.size w w' := by
  have HA := Lib.hid ha
  have HB := Lib.hid hb
  obtain ⟨n, hn'⟩ : ∃ n, a.length = n := ⟨_, rfl⟩
  have HN := Lib.hid hn'
  have n0 : (n : Int) ≤ 1000000 := by omega
  rw [hn']
  clear ha hb hn hn'
  go_enter Tryz.func33, Tryz.ntmps33
  go_wp2_with fail
  go_loopw [5] (fun v5 wr => ∃ k : Nat, v5 = .int .i64 (k : Int) ∧ Hid (k ≤ n) ∧ Hid (Below w.heap.size w wr)) (fun v5 _ => n - (intOf v5).toNat)
  case atStart => exact ⟨0, rfl, Lib.hid (Nat.zero_le _), Lib.hid (Below.refl _ _)⟩
  case round =>
    obtain ⟨k, rfl, KL, B1⟩ := hrel
    by_cases hk : k < n
    · obtain ⟨x, hx⟩ : ∃ x, a[k]? = some x := ⟨_, List.getElem?_eq_getElem (by have := HN.out; omega)⟩
      obtain ⟨b1, o1, rfl, hb1, hr1⟩ := HA.out.at_ (by have := HN.out; omega)
      obtain ⟨b2, o2, rfl, hb2, hr2⟩ := HB.out.at_ (by have := HN.out; omega)
      have LT1 := Lib.hid hb1
      have LT2 := Lib.hid hb2
      have I1 : Hid (w.cell? ⟨b1, o1 + k, none⟩ = some (.int .i64 x)) := by have := hr1 k x hx 0 _ rfl; rwa [Nat.mul_one] at this
      have I2 : Hid (w.cell? ⟨b2, o2 + k, none⟩ = some (.int .i64 x)) := by have := hr2 k x hx 0 _ rfl; rwa [Nat.mul_one] at this
      have c1 : (k : Int) < (n : Int) := by omega
      have w1 : IntKind.i64.wrap ((k : Int) + 1) = (k : Int) + 1 := IntWalk.i64_in _ (by omega)
      clear hx hb1 hr1 hb2 hr2
      go_wp2_with fail
      have hb : Below wr.heap.size wr wr.drew := below_drewN _ wr 1
      replace B1 := Lib.hid (B1.out.trans (hb.mono B1.out.size))
      clear hb
      refine wp_region_held_drew (S := fun w' => Below w.heap.size w w') (by kernel_rfl) B1.out (fun hHeld => ?_)
      generalize wr.drew = wrd at *
      refine wpAnyH_takeL (i := 0) (oi := _) (v := ?_) rfl (by kernel_rfl) (by kernel_rfl) (by kernel_rfl) (fun _ _ _ h => h) (Or.inl ⟨by rfl, ?_⟩) hHeld ?_
      rotate_left
      · (intro w' hSw; (try dsimp only at hSw); go_simp; try (with_reducible rfl))
      try simp only [Act.put, List.setIfInBounds_toArray, List.set_cons_zero, List.set_cons_succ]
      refine wpAnyH_takeL (i := 1) (oi := _) (v := ?_) rfl (by kernel_rfl) (by kernel_rfl) (by kernel_rfl) (fun _ _ _ h => h) (Or.inl ⟨by rfl, ?_⟩) hHeld ?_
      rotate_left
      · (intro w' hSw; (try dsimp only at hSw); go_simp; try (with_reducible rfl))
      try simp only [Act.put, List.setIfInBounds_toArray, List.set_cons_zero, List.set_cons_succ]
      refine wpAnyH_takeL (i := 2) (oi := _) (v := ?_) rfl (by kernel_rfl) (by kernel_rfl) (by kernel_rfl) (fun _ _ _ h => h) (Or.inl ⟨by rfl, ?_⟩) hHeld ?_
      rotate_left
      · (intro w' hSw; (try dsimp only at hSw); go_simp; try (with_reducible rfl))
      try simp only [Act.put, List.setIfInBounds_toArray, List.set_cons_zero, List.set_cons_succ]
      refine wpAnyH_takeL (i := 3) (oi := _) rfl (by kernel_rfl) (by kernel_rfl) (by kernel_rfl) (fun _ _ _ h => h) (yields_ldI (by rfl) _ rfl (by rfl) (fun _ hS => (hS.cell (p := ⟨b1, o1 + k, none⟩) LT1.out).trans I1.out)) hHeld ?_
      try simp only [Act.put, List.setIfInBounds_toArray, List.set_cons_zero, List.set_cons_succ]
      refine wpAnyH_takeL (i := 4) (oi := _) (v := ?_) rfl (by kernel_rfl) (by kernel_rfl) (by kernel_rfl) (fun _ _ _ h => h) (Or.inl ⟨by rfl, ?_⟩) hHeld ?_
      rotate_left
      · (intro w' hSw; (try dsimp only at hSw); go_simp; try (with_reducible rfl))
      try simp only [Act.put, List.setIfInBounds_toArray, List.set_cons_zero, List.set_cons_succ]
      refine wpAnyH_takeL (i := 5) (oi := _) (v := ?_) rfl (by kernel_rfl) (by kernel_rfl) (by kernel_rfl) (fun _ _ _ h => h) (Or.inl ⟨by rfl, ?_⟩) hHeld ?_
      rotate_left
      · (intro w' hSw; (try dsimp only at hSw); go_simp; try (with_reducible rfl))
      try simp only [Act.put, List.setIfInBounds_toArray, List.set_cons_zero, List.set_cons_succ]
      refine wpAnyH_takeL (i := 6) (oi := _) (v := ?_) rfl (by kernel_rfl) (by kernel_rfl) (by kernel_rfl) (fun _ _ _ h => h) (Or.inl ⟨by rfl, ?_⟩) hHeld ?_
      rotate_left
      · (intro w' hSw; (try dsimp only at hSw); go_simp; try (with_reducible rfl))
      try simp only [Act.put, List.setIfInBounds_toArray, List.set_cons_zero, List.set_cons_succ]
      refine wpAnyH_takeL (i := 7) (oi := _) rfl (by kernel_rfl) (by kernel_rfl) (by kernel_rfl) (fun _ _ _ h => h) (yields_ldI (by rfl) _ rfl (by rfl) (fun _ hS => (hS.cell (p := ⟨b2, o2 + k, none⟩) LT2.out).trans I2.out)) hHeld ?_
      try simp only [Act.put, List.setIfInBounds_toArray, List.set_cons_zero, List.set_cons_succ]
      refine wpAnyH_takeL (i := 8) (oi := _) (v := ?_) rfl (by kernel_rfl) (by kernel_rfl) (by kernel_rfl) (fun _ _ _ h => h) (Or.inl ⟨by rfl, ?_⟩) hHeld ?_
      rotate_left
      · (intro w' hSw; (try dsimp only at hSw); go_simp; try (with_reducible rfl))
      try simp only [Act.put, List.setIfInBounds_toArray, List.set_cons_zero, List.set_cons_succ]
      clear hHeld
      refine wpAnyH_done (by kernel_rfl) ?_ _
      go_wp2_with fail
      go_roundw
      case rel => exact ⟨k + 1, by go_num, Lib.hid (by show _ ≤ _; omega), B1⟩
      case measure => simp [intOf]; omega
    · obtain rfl : k = n := by have := KL.out; omega
      have c1 : ¬ (k : Int) < (k : Int) := by omega
      go_wp2_with fail
      refine ret_t rfl rfl rfl ⟨rfl, B1.out⟩
/-- What Support gives. -/
def Spt (a : List (Int × Nt)) (w : World) (e : Ending) (w' : World) : Prop := ∃ (A : Option Addr) (c : Nat) (is : List Int), e = .returned (.slice A is.length c) ∧ Sl encI 1 w' A c is ∧ is.length ≤ a.length ∧ (∃ l, Asc l ∧ (∀ i, cpt l i = cpt (ev a) i) ∧ is = l.map (·.1)) ∧ Below w.heap.size w w'
def Sul (rs : List (Int × Nt)) (n : Nat) (w1 : World) (v3 v9 : Value) (wr : World) : Prop := ∃ (k : Nat) (is : List Int), v9 = .int .i64 (k : Int) ∧ k ≤ n ∧ Lg encI 1 3 wr w1.heap.size v3 is ∧ is = (rs.take k).map (·.1) ∧ Below w1.heap.size w1 wr
set_option maxRecDepth 100000 in
set_option maxHeartbeats 16000000 in
theorem support_any {w : World} {A : Option Addr} {c L M : Nat} {rs : List (Int × Nt)} (h : Sl encE 4 w A c rs) (hv : ∀ r ∈ rs, Nok w r.2 L) (hL : 1 ≤ L) (hM : L ≤ M) (hR : rs.length * (L + 2) ≤ M) (hB : M ≤ 35184372088829) (hn : rs.length ≤ 1000000) : Calls Tryz.prog 34 #[.slice A rs.length c] w (Spt rs w) := by
  have H := Lib.hid h
  have HV := Lib.hid hv
  have L1 := Lib.hid hL
  have LM := Lib.hid hM
  have LR := Lib.hid hR
  have LB := Lib.hid hB
  have LN := Lib.hid hn
  clear h hv hL hM hR hB hn
  go_enter Tryz.func34, Tryz.ntmps34
  have pc0 := Lib.hid trivial
  go_wp2_with (first
    | (clear pc0; go_at_call 44; refine Calls.mono (sparse_any H.out HV.out L1.out LM.out LR.out LB.out LN.out) ?_; rintro e w1 ⟨A1, c1, rs1, rfl, hs, hasc, hcp, hok, hlen, hbl⟩; have B1 := Lib.hid hbl; have S1 := Lib.hid hs; have AA := Lib.hid hasc; have CA := Lib.hid hcp; have NA := Lib.hid hlen; clear hs hasc hcp hok hlen hbl; have pc1 := Lib.hid trivial))
  clear pc1
  obtain ⟨n, hn⟩ : ∃ n, rs1.length = n := ⟨_, rfl⟩
  have HN := Lib.hid hn
  have n0 : (n : Int) ≤ 1000000 := by have := NA.out; have := LN.out; omega
  rw [hn]
  clear hn
  go_loopw [3, 9] (fun v3 v9 wr => Hid (Sul rs1 n w1 v3 v9 wr)) (fun _ v9 _ => n - (intOf v9).toNat)
  case atStart => exact Lib.hid ⟨0, [], rfl, Nat.zero_le _, Lg.nil _ _, rfl, Below.refl _ _⟩
  case round =>
    obtain ⟨k, is, rfl, hkn, hlg, his, hbb⟩ := hrel.out
    have LG := Lib.hid hlg
    have IS := Lib.hid his
    have B2 := Lib.hid hbb
    by_cases hk : k < n
    · obtain ⟨x, hx⟩ : ∃ x, rs1[k]? = some x := ⟨_, List.getElem?_eq_getElem (by have := HN.out; omega)⟩
      obtain ⟨b, o, rfl, hb, hr⟩ := (S1.out.below B2.out).at_ (by have := HN.out; omega)
      have R0 := Lib.hid (hr k x hx)
      have VN : Hid (is ++ [x.1] = (rs1.take (k + 1)).map (·.1)) := by show _ = _; rw [List.take_add_one, hx, List.map_append, his]; rfl
      have LV : Hid (is.length ≤ 1000000000) := by show _ ≤ _; rw [his, List.length_map, List.length_take]; omega
      have c1 : (k : Int) < (n : Int) := by omega
      have w1' : IntKind.i64.wrap ((k : Int) + 1) = (k : Int) + 1 := IntWalk.i64_in _ (by omega)
      clear hb hr hx hlg his hbb hrel
      have pc0 := Lib.hid trivial
      go_wp2_with (first
        | (clear pc0; refine wpList_ld4 (by rfl) _ rfl (by rfl) R0.out ?_; have pc1 := Lib.hid trivial)
        | (clear pc1; refine wpList_stV (by rfl) _ _ rfl (by rfl) (by rfl) (Vb.new wr 0 false none 0 0 none 0 0) ?_; intro w2 hz hg; have hb := below_new hg; have X0 := Lib.hid hz; have x0 := X0.out.cell0; replace LG := Lib.hid (LG.out.below hb); replace B2 := Lib.hid (B2.out.trans (hb.mono B2.out.size)); clear hz hg hb; have pc2 := Lib.hid trivial)
        | (clear pc2; refine append_I rfl _ _ rfl x.1 rfl (LG.out.below ((Below.refl _ _).alloc (Nat.le_refl _) _)) rfl (cell_of_row _ _ 0 _ _ _ (heap_alloc_new w2 (.cells #[.int .i64 x.1] 3))) LV.out (by have := B2.out.size; simp; omega) ?_; intro v9 w3 hlg hkt; have LGN := Lib.hid hlg; have BN : Hid (Below w1.heap.size w1 w3) := (B2.out.trans (((Below.refl w2.heap.size w2).alloc (Nat.le_refl _) (.cells #[.int .i64 x.1] 3)).mono B2.out.size)).trans hkt.2; clear hlg hkt; have pc3 := Lib.hid trivial))
      clear pc3
      go_roundw
      case rel => exact Lib.hid ⟨k + 1, is ++ [x.1], by go_num, by omega, LGN.out, VN.out, BN.out⟩
      case measure => simp [intOf]; omega
    · obtain rfl : k = n := by omega
      have c1 : ¬ (k : Int) < (k : Int) := by omega
      obtain ⟨A2, c2, hA, hs⟩ := LG.out.sl encI_len
      subst hA
      have VE : Hid (is = (ev rs1).map (·.1)) := by show _ = _; rw [his, List.take_of_length_le (by have := HN.out; omega)]; simp [ev, Function.comp_def]
      have SV := Lib.hid hs
      have LE : Hid (is.length ≤ rs.length) := by show _ ≤ _; rw [VE.out]; simp [ev]; exact NA.out
      clear hlg his hbb hs hrel
      go_wp2_with fail
      refine ret_t rfl rfl rfl ⟨A2, c2, is, rfl, SV.out, LE.out, ⟨ev rs1, AA.out, CA.out, VE.out⟩, B1.out.trans (B2.out.mono B1.out.size)⟩
end Go.Proofs.YtfacndibfkamgaaGreat

/-
  Contracts of package vector: Sum of nothing, Dot in general, Equal.
-/
namespace Go.Proofs.YtfacndibfkamgaaGreat
open Go.RowKit
set_option linter.unusedVariables false

set_option maxRecDepth 100000 in
set_option maxHeartbeats 16000000 in
theorem sum_nil {w : World} {A : Option Addr} {c : Nat} : Calls Tryz.prog 61 #[.slice A 0 c] w (Sumd 1 0 w) := by
  obtain ⟨B1, V0⟩ := start_R0 w
  have ONE0 : Hid ((ofv 0).length ≤ 1) := len_ofv_le_of_lt (k := 1) (by rw [show pw 1 = 4294967296 from rfl]; omega)
  have ONE1 : Hid ((ofv 1).length ≤ 1) := len_ofv_le_of_lt (k := 1) (by rw [show pw 1 = 4294967296 from rfl]; omega)
  go_enter Tryz.func61, Tryz.ntmps61
  go_wp2_with fail
  generalize (w.alloc (.cells #[.bool false, .slice none 0 0, .slice none 0 0] 29)) = w2 at *
  have pc0 := Lib.hid trivial
  go_wp2_with (first
    | (clear pc0; go_at_call 100; refine Calls.mono total_nil ?_; rintro e w3 ⟨P1, c1, Q1, k1, rfl, p1, p2, hb⟩; replace V0 := Lib.hid (V0.out.below hb V0.out.lt); replace B1 := Lib.hid (B1.out.trans (hb.mono B1.out.size)); have N1 : Hid (Zin w3 false P1 (ofv 0).length c1 0) := Zin.of (z := 0) p1.rd; have N2 : Hid (Nin w3 Q1 (ofv 1).length k1 1) := Nin.of_own p2; clear p1 p2 hb; have pc1 := Lib.hid trivial)
    | (clear pc1; go_at_call 47; refine Calls.mono (norm_any (L := 1) (z := (0 : Rat).num) (d := (0 : Rat).den) N1.out N2.out ONE0.out ONE1.out (by omega) (by decide +kernel) (by decide +kernel)) ?_; rintro e w4 ⟨P, cP, R, cR, rfl, ho, ho2, hb⟩; replace V0 := Lib.hid (V0.out.below hb V0.out.lt); replace B1 := Lib.hid (B1.out.trans (hb.mono B1.out.size)); have OZ := Lib.hid (ho.mono (Nat.zero_le _)); have OD := Lib.hid (ho2.mono (Nat.zero_le _)); clear ho ho2 hb N1 N2; have pc2 := Lib.hid trivial)
    | (clear pc2; refine wpList_stR (by rfl) _ _ rfl (by rfl) (by rfl) V0.out ?_; intro w5 hz hg; have tx := V0.out.tx; replace OZ := Lib.hid (OZ.out.grT tx hg); replace OD := Lib.hid (OD.out.grT tx hg); replace B1 := Lib.hid (Below.gr B1.out (Nat.le_refl _) hg B1.out.size); replace V0 := Lib.hid hz; clear tx hz hg; have pc3 := Lib.hid trivial))
  clear pc3
  exact ret_rb Tryz.results61 rfl rfl V0.out ⟨mkN (0 : Rat).num (0 : Rat).den P cP R cR, rfl, nown_mk OZ.out OD.out, q_mk _ _ _ _ _, rl_small (by decide +kernel) (by decide +kernel), B1.out⟩
set_option maxRecDepth 100000 in
set_option maxHeartbeats 16000000 in
theorem dot_zero {w : World} {A B : Option Addr} {c d L S : Nat} {a b : List (Int × Nt)} (ha : Sl encE 4 w A c a) (va : ∀ r ∈ a, Nok w r.2 L) (hb : Sl encE 4 w B d b) (vb : ∀ r ∈ b, Nok w r.2 L) (hL : 1 ≤ L) (hM : L ≤ S) (hR : a.length * (L + 2) ≤ S) (hR2 : b.length * (L + 2) ≤ S) (hB : S ≤ 11728124029609) (hn : a.length ≤ 1000) (hn2 : b.length ≤ 1000) (hBB : 2000 * (S + S + 2) ≤ 35184372088829) (hz : ∀ i, cpt (ev a) i * cpt (ev b) i = 0) : Calls Tryz.prog 27 #[.slice A a.length c, .slice B b.length d] w (Dtd a b (2000 * (S + S + 2)) w) := by
  have eg : ∀ args w, (callFunc 60 args).run Tryz.prog w = .ok (.enter 60 args) w := enters_of Tryz.func60 (by kernel_rfl) rfl
  obtain ⟨B1, V0⟩ := start_R0 w
  have C := Lib.hid (merge_any eg (opat_prod (w := w.alloc (.cells #[.bool false, .slice none 0 0, .slice none 0 0] 29)) (S := S) (by omega) (by omega)) (Rat.mul_zero 0) (ha.below B1.out) (fun r hr => (va r hr).below B1.out) (hb.below B1.out) (fun r hr => (vb r hr).below B1.out) hL hM hR hR2 (by omega) (by omega) (by omega) (by omega))
  have HZ := Lib.hid hz
  have LM : Hid (1 ≤ 2000 * (S + S + 2)) := by show _ ≤ _; omega
  clear eg ha va hb vb hL hM hR hR2 hB hn hn2 hBB hz
  go_enter Tryz.func27, Tryz.ntmps27
  have pc0 := Lib.hid trivial
  go_wp2_with (first
    | (clear pc0; generalize w.alloc (.cells #[.bool false, .slice none 0 0, .slice none 0 0] 29) = w0 at *; go_at_call 59; refine Calls.mono C.out ?_; rintro e w1 ⟨A1, c1, rs, rfl, h1, h2, h3, h4, h5, hb2⟩; obtain rfl : rs = [] := (List.map_eq_nil_iff.1 (asc_uniq _ [] h2 ⟨List.Pairwise.nil, fun e he => by cases he⟩ (fun i => (h3 i).trans (HZ.out i)))); replace V0 := Lib.hid (V0.out.below hb2 V0.out.lt); replace B1 := Lib.hid (B1.out.trans (hb2.mono B1.out.size)); clear h1 h2 h3 h4 h5 hb2; have pc1 := Lib.hid trivial))
  clear pc1 C
  refine wp_loop_rounds 1 ?_
  rw [rounds_succ]
  have pc0 := Lib.hid trivial
  go_wp2_with (first
    | (clear pc0; go_at_call 61; refine Calls.mono (sum_nil) ?_; rintro e w3 ⟨⟨s1, A3, n3, c3, D3, m3, k3, x3, p3⟩, rfl, ow, hq, hrl, hb⟩; replace V0 := Lib.hid (V0.out.below hb V0.out.lt); replace B1 := Lib.hid (B1.out.trans (hb.mono B1.out.size)); have OW := Lib.hid ow; have QQ := Lib.hid hq; have RQ := Lib.hid hrl; clear ow hq hrl; clear hb; have pc1 := Lib.hid trivial)
    | (clear pc1; refine wpList_stR (by rfl) _ _ rfl (by rfl) (by rfl) V0.out ?_; intro w5 hz hg; have tx := V0.out.tx; replace OW := Lib.hid (OW.out.grT tx hg); replace B1 := Lib.hid (Below.gr B1.out (Nat.le_refl _) hg B1.out.size); clear tx; replace V0 := Lib.hid hz; clear hz hg; have pc2 := Lib.hid trivial))
  clear pc2
  exact ret_rb Tryz.results27 rfl rfl V0.out ⟨⟨s1, A3, n3, c3, D3, m3, k3, x3, p3⟩, rfl, OW.out, ⟨[], ⟨List.Pairwise.nil, fun e he => by cases he⟩, fun i => (HZ.out i).symm, by rw [QQ.out]; rfl⟩, by rw [QQ.out]; exact RQ.out.le LM.out, B1.out⟩
theorem dot_all {w : World} {A B : Option Addr} {c d L S : Nat} {a b : List (Int × Nt)} (ha : Sl encE 4 w A c a) (va : ∀ r ∈ a, Nok w r.2 L) (hb : Sl encE 4 w B d b) (vb : ∀ r ∈ b, Nok w r.2 L) (hL : 1 ≤ L) (hM : L ≤ S) (hR : a.length * (L + 2) ≤ S) (hR2 : b.length * (L + 2) ≤ S) (hB : S ≤ 11728124029609) (hn : a.length ≤ 1000) (hn2 : b.length ≤ 1000) (hBB : 2000 * (S + S + 2) ≤ 35184372088829) : Calls Tryz.prog 27 #[.slice A a.length c, .slice B b.length d] w (Dtd a b (2000 * (S + S + 2)) w) := by
  by_cases hne : ∃ i, cpt (ev a) i * cpt (ev b) i ≠ 0
  · exact dot_any ha va hb vb hL hM hR hR2 hB hn hn2 hBB hne
  · exact dot_zero ha va hb vb hL hM hR hR2 hB hn hn2 hBB (fun i => Classical.byContradiction fun h => hne ⟨i, h⟩)
set_option maxRecDepth 100000 in
set_option maxHeartbeats 16000000 in
theorem eq_closure {w : World} {i : Int} {x y : Nt} {M : Nat} (hx : Nok w x M) (hy : Nok w y M) (hM : 1 ≤ M ∧ M ≤ 35184372088829) (h2 : y.q = x.q) : Calls Tryz.prog 67 #[.agg #[.int .i64 i, .bool x.s, .slice x.A x.n x.c, .slice x.D x.m x.k], .agg #[.int .i64 i, .bool y.s, .slice y.A y.n y.c, .slice y.D y.m y.k]] w fun e w' => e = .returned (.bool true) ∧ Below w.heap.size w w' := by
  have B1 : Hid (Below w.heap.size w ((w.alloc (.cells #[.int .i64 i, .bool x.s, .slice x.A x.n x.c, .slice x.D x.m x.k] 58)).alloc (.cells #[.int .i64 i, .bool y.s, .slice y.A y.n y.c, .slice y.D y.m y.k] 58))) := ((Below.refl _ _).alloc (Nat.le_refl _) _).alloc (by simp) _
  have NX := Lib.hid (hx.below B1.out)
  have NY := Lib.hid (hy.below B1.out)
  have LM := Lib.hid hM
  have CQ : Hid (sgR (mkRat x.x x.p - mkRat y.x y.p) = 0) := (sgR_nil _).2 (by have : mkRat y.x y.p = mkRat x.x x.p := h2; rw [this, Rat.sub_self])
  clear hx hy hM h2
  go_enter Tryz.func67, Tryz.ntmps67
  have pc0 := Lib.hid trivial
  go_wp2_with (first
    | (clear pc0; generalize (w.alloc (.cells #[.int .i64 i, .bool x.s, .slice x.A x.n x.c, .slice x.D x.m x.k] 58)).alloc (.cells #[.int .i64 i, .bool y.s, .slice y.A y.n y.c, .slice y.D y.m y.k] 58) = w2 at *; go_at_call 68; refine Calls.mono (qcompare_any NX.out.1 NX.out.2.1 NY.out.1 NY.out.2.1 NX.out.2.2.1 NX.out.2.2.2 NY.out.2.2.1 NY.out.2.2.2 LM.out CQ.out) ?_; rintro e w3 ⟨rfl, hb⟩; replace B1 := Lib.hid (B1.out.trans (hb.mono B1.out.size)); clear hb; have pc1 := Lib.hid trivial))
  clear pc1
  exact ret_t rfl rfl rfl ⟨rfl, B1.out⟩
set_option maxRecDepth 100000 in
set_option maxHeartbeats 16000000 in
theorem equalFunc_yes {w : World} {A B : Option Addr} {c d M : Nat} {a b : List (Int × Nt)} (ha : Sl encE 4 w A c a) (hb : Sl encE 4 w B d b) (va : ∀ r ∈ a, Nok w r.2 M) (vb : ∀ r ∈ b, Nok w r.2 M) (hM : 1 ≤ M ∧ M ≤ 35184372088829) (he : ev a = ev b) (hn : a.length ≤ 1000000) : Calls Tryz.prog 66 #[.slice A a.length c, .slice B b.length d, .func (.func 67) #[] #[]] w fun e w' => e = .returned (.bool true) ∧ Below w.heap.size w w' := by
  have eg : ∀ args w, (callFunc 67 args).run Tryz.prog w = .ok (.enter 67 args) w := enters_of Tryz.func67 (by kernel_rfl) rfl
  have hl : b.length = a.length := by have := congrArg List.length he; simpa [ev] using this.symm
  have HA := Lib.hid ha
  have HB := Lib.hid hb
  have VA := Lib.hid va
  have VBB := Lib.hid vb
  have HE := Lib.hid he
  have LM := Lib.hid hM
  rw [hl]
  obtain ⟨n, hn'⟩ : ∃ n, a.length = n := ⟨_, rfl⟩
  have HN := Lib.hid hn'
  have n0 : (n : Int) ≤ 1000000 := by omega
  rw [hn']
  clear ha hb va vb he hl hn hn' hM
  go_enter Tryz.func66, Tryz.ntmps66
  go_wp2_with fail
  go_loopw [17] (fun v17 wr => ∃ k : Nat, v17 = .int .i64 (k : Int) ∧ Hid (k ≤ n) ∧ Hid (Below w.heap.size w wr)) (fun v17 _ => n - (intOf v17).toNat)
  case atStart => exact ⟨0, rfl, Lib.hid (Nat.zero_le _), Lib.hid (Below.refl _ _)⟩
  case round =>
    obtain ⟨k, rfl, KL, B1⟩ := hrel
    by_cases hk : k < n
    · obtain ⟨⟨i, x⟩, hx⟩ : ∃ x, a[k]? = some x := ⟨_, List.getElem?_eq_getElem (by have := HN.out; omega)⟩
      obtain ⟨⟨j, y⟩, hy, e1, e2⟩ := ev_at HE.out hx
      dsimp only at e1 e2
      subst e1
      obtain ⟨b1, o1, rfl, hb1, hr1⟩ := HA.out.at_ (by have := HN.out; omega)
      obtain ⟨b2, o2, rfl, hb2, hr2⟩ := HB.out.at_ (by have := (List.getElem?_eq_some_iff.1 hy).1; omega)
      have LT1 := Lib.hid hb1
      have LT2 := Lib.hid hb2
      have R1 := Lib.hid (range_bel (hr1 k _ hx) hb1 B1.out)
      have R2 := Lib.hid (hr2 k _ hy)
      have NX := Lib.hid (VA.out _ (List.mem_of_getElem? hx))
      have NY := Lib.hid (VBB.out _ (List.mem_of_getElem? hy))
      have QE := Lib.hid e2
      have c1 : (k : Int) < (n : Int) := by omega
      have w1 : IntKind.i64.wrap ((k : Int) + 1) = (k : Int) + 1 := IntWalk.i64_in _ (by omega)
      clear hx hy hb1 hr1 hb2 hr2 e2
      have pc0 := Lib.hid trivial
      go_wp2_with (first
        | (clear pc0; refine wpList_ld4 (by rfl) _ rfl (by rfl) R1.out ?_; have pc1 := Lib.hid trivial)
        | (clear pc1; refine wpList_stV (by rfl) _ _ rfl (by rfl) (by rfl) (Vb.new wr 0 false none 0 0 none 0 0) ?_; intro w2 hz hg; have hb := below_new hg; have X0 := Lib.hid hz; replace B1 := Lib.hid (B1.out.trans (hb.mono B1.out.size)); clear hz hg hb; have pc2 := Lib.hid trivial)
        | (clear pc2; refine wpList_ld4 (by rfl) _ rfl (by rfl) (range_bel R2.out LT2.out B1.out) ?_; have pc3 := Lib.hid trivial)
        | (clear pc3; refine wpList_stV (by rfl) _ _ rfl (by rfl) (by rfl) (Vb.new w2 0 false none 0 0 none 0 0) ?_; intro w3 hz hg; have hb := below_new hg; have Y0 := Lib.hid hz; replace X0 := Lib.hid (X0.out.bel hb); replace B1 := Lib.hid (B1.out.trans (hb.mono B1.out.size)); clear hz hg hb; have pc4 := Lib.hid trivial)
        | (clear pc4; refine wpList_ld4 (by rfl) _ rfl (by rfl) X0.out.range ?_; have pc5 := Lib.hid trivial)
        | (clear pc5; refine wpList_ld4 (by rfl) _ rfl (by rfl) Y0.out.range ?_; have pc6 := Lib.hid trivial)
        | (clear pc6; go_at_fn 67; refine Calls.mono (eq_closure (NX.out.below B1.out) (NY.out.below B1.out) LM.out QE.out) ?_; rintro e w4 ⟨rfl, hb⟩; replace B1 := Lib.hid (B1.out.trans (hb.mono B1.out.size)); clear hb X0 Y0; have pc7 := Lib.hid trivial))
      clear pc7
      go_roundw
      case rel => exact ⟨k + 1, by go_num, Lib.hid (by show _ ≤ _; omega), B1⟩
      case measure => simp [intOf]; omega
    · obtain rfl : k = n := by have := KL.out; omega
      have c1 : ¬ (k : Int) < (k : Int) := by omega
      go_wp2_with fail
      refine ret_t rfl rfl rfl ⟨rfl, B1.out⟩
set_option maxRecDepth 100000 in
set_option maxHeartbeats 16000000 in
theorem vequal_yes {w : World} {A B : Option Addr} {c d L S : Nat} {a b : List (Int × Nt)} (ha : Sl encE 4 w A c a) (va : ∀ r ∈ a, Nok w r.2 L) (hb : Sl encE 4 w B d b) (vb : ∀ r ∈ b, Nok w r.2 L) (hL : 1 ≤ L) (hM : L ≤ S) (hR : a.length * (L + 2) ≤ S) (hR2 : b.length * (L + 2) ≤ S) (hB : S ≤ 35184372088829) (hn : a.length ≤ 1000000) (hn2 : b.length ≤ 1000000) (he : ∀ i, cpt (ev a) i = cpt (ev b) i) : Calls Tryz.prog 32 #[.slice A a.length c, .slice B b.length d] w fun e w' => e = .returned (.bool true) ∧ Below w.heap.size w w' := by
  have HA := Lib.hid ha
  have HVA := Lib.hid va
  have HB := Lib.hid hb
  have HVB := Lib.hid vb
  have L1 := Lib.hid hL
  have LM := Lib.hid hM
  have LR := Lib.hid hR
  have LR2 := Lib.hid hR2
  have LB := Lib.hid hB
  have LN := Lib.hid hn
  have LN2 := Lib.hid hn2
  have HE := Lib.hid he
  clear ha va hb vb hL hM hR hR2 hB hn hn2 he
  go_enter Tryz.func32, Tryz.ntmps32
  have pc0 := Lib.hid trivial
  go_wp2_with (first
    | (clear pc0; go_at_call 44; refine Calls.mono (sparse_any HA.out HVA.out L1.out LM.out LR.out LB.out LN.out) ?_; rintro e w2 ⟨A1, c1, ra, rfl, hs, hasc, hcp, hok, hlen, hbl⟩; have B1 := Lib.hid hbl; have SA := Lib.hid hs; have AA := Lib.hid hasc; have CA := Lib.hid hcp; have OA := Lib.hid hok; have NA := Lib.hid hlen; clear hs hasc hcp hok hlen hbl; have pc1 := Lib.hid trivial)
    | (clear pc1; go_at_call 44; refine Calls.mono (sparse_any (HB.out.below B1.out) (fun r hr => (HVB.out r hr).below B1.out) L1.out LM.out LR2.out LB.out LN2.out) ?_; rintro e w1 ⟨A2, c2, rb, rfl, hs, hasc, hcp, hok, hlen, hbl⟩; replace SA := Lib.hid (SA.out.below hbl); replace OA : Hid (∀ r ∈ ra, Nok w1 r.2 S) := fun r hr => (OA.out r hr).below hbl; replace B1 := Lib.hid (B1.out.trans (hbl.mono B1.out.size)); have SB := Lib.hid hs; have EE : Hid (ev ra = ev rb) := asc_uniq _ _ AA.out hasc (fun i => by rw [CA.out, HE.out, hcp]); have OB := Lib.hid hok; clear hs hasc hcp hok hlen hbl; have pc2 := Lib.hid trivial)
    | (clear pc2; go_at_call 66; refine Calls.mono (equalFunc_yes SA.out SB.out OA.out OB.out ⟨Nat.le_trans L1.out LM.out, LB.out⟩ EE.out (Nat.le_trans NA.out LN.out)) ?_; rintro e w3 ⟨rfl, hb⟩; replace B1 := Lib.hid (B1.out.trans (hb.mono B1.out.size)); clear hb; have pc3 := Lib.hid trivial))
  clear pc3
  exact ret_t rfl rfl rfl ⟨rfl, B1.out⟩
end Go.Proofs.YtfacndibfkamgaaGreat
