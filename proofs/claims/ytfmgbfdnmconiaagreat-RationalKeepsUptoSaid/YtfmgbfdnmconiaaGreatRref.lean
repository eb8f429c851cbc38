/-
  Contracts of the reference's package 3: Norm, den, Of, FromInt, Sign, Neg.
-/
import Derived.Test.YtfmgbfdnmconiaaGreatRmake
import Derived.Test.YtfmgbfdnmconiaaGreatRate
namespace Go.Proofs.YtfmgbfdnmconiaaGreat
open Go.RowKit
set_option linter.unusedVariables false

set_option maxRecDepth 100000 in
set_option maxHeartbeats 16000000 in
theorem rnorm_any {s : Bool} {A D : Option Addr} {n c m k : Nat} {x : Int} {p : Nat} {w : World} (h : Zin w s A n c x) (h' : Nin w D m k p) (hn : n ≤ 35184372087808) (hm : m ≤ 35184372087808) {z : Int} {d : Nat} (hz : (mkRat x p).num = z) (hd : (mkRat x p).den = d) :
    Calls Tryz.prog 16 #[.agg #[.bool s, .slice A n c, .slice D m k]] w (GivesR w z d) := by
  obtain ⟨B1, V0, V1⟩ := start_RR w s A n c D m k
  have HX := Lib.hid (h.below B1.out)
  have HP := Lib.hid (h'.below B1.out)
  have LN := Lib.hid hn
  have LM := Lib.hid hm
  obtain ⟨pz, epz⟩ : ∃ z0 : Int, (p : Int) = z0 := ⟨_, rfl⟩
  have EPZ := Lib.hid epz
  have HZ : Hid ((Rat.divInt x pz).num = z) := by show _ = _; rw [← epz, Rat.divInt_ofNat]; exact hz
  have HD : Hid ((Rat.divInt x pz).den = d) := by show _ = _; rw [← epz, Rat.divInt_ofNat]; exact hd
  clear epz hz hd
  clear h h' hn hm
  go_enter Tryz.func16, Tryz.ntmps16
  go_wp2_with fail
  generalize ((w.alloc (.cells #[.bool s, .slice A n c, .slice D m k] 26)).alloc (.cells #[.bool false, .slice none 0 0, .slice none 0 0] 26)) = w2 at *
  have pc0 := Lib.hid trivial
  go_wp2_with (first
    | (clear pc0; have SZ := Lib.hid B1.out.size; go_at_call 60; refine Calls.mono (rmake_any HX.out LN.out (HP.out.int EPZ.out) LM.out HZ.out HD.out) ?_; rintro e w3 ⟨P1, c1, P2, c2, rfl, ho, ho2, hb⟩; replace V0 := Lib.hid (V0.out.below hb V0.out.lt); replace V1 := Lib.hid (V1.out.below hb V1.out.lt); replace HX := Lib.hid (HX.out.below hb); replace HP := Lib.hid (HP.out.below hb); replace B1 := Lib.hid (B1.out.trans (hb.mono B1.out.size)); have OQ := Lib.hid (ho.mono SZ.out); have OD := Lib.hid (ho2.mono SZ.out); clear ho ho2 SZ; clear hb; have pc1 := Lib.hid trivial)
    | (clear pc1; refine wpList_stR (by rfl) _ _ rfl (by rfl) (by rfl) V1.out ?_; intro w4 hz hg; replace V0 := Lib.hid (V0.out.gro hg (by omega)); replace HX := Lib.hid (HX.out.grR V1.out hg); replace HP := Lib.hid (HP.out.grR V1.out hg); replace OQ := Lib.hid (OQ.out.grR V1.out hg); replace OD := Lib.hid (OD.out.grR V1.out hg); replace B1 := Lib.hid (Below.gr B1.out (by omega) hg B1.out.size); replace V1 := Lib.hid hz; clear hz hg; have pc2 := Lib.hid trivial))
  clear pc2
  exact ret_rb Tryz.results16 rfl rfl V1.out ⟨_, _, _, _, rfl, OQ.out, OD.out, B1.out⟩
set_option maxRecDepth 100000 in
set_option maxHeartbeats 16000000 in
theorem rden_any {s : Bool} {A D : Option Addr} {n c m k : Nat} {x : Int} {p : Nat} {w : World} (h : Zin w s A n c x) (h' : Nin w D m k p) (hn : n ≤ 35184372087808) (hm : m ≤ 35184372087808) {z : Int} (hz : ((mkRat x p).den : Int) = z) :
    Calls Tryz.prog 115 #[.agg #[.bool s, .slice A n c, .slice D m k]] w (GivesZ w z) := by
  obtain ⟨B1, V0, V1⟩ := start_RZ w s A n c D m k
  have HX := Lib.hid (h.below B1.out)
  have HP := Lib.hid (h'.below B1.out)
  have LN := Lib.hid hn
  have LM := Lib.hid hm
  obtain ⟨z0, ez0⟩ : ∃ z0 : Int, (mkRat x p).num = z0 := ⟨_, rfl⟩
  obtain ⟨d, ed⟩ : ∃ z0 : Nat, (mkRat x p).den = z0 := ⟨_, rfl⟩
  have HZ := Lib.hid ez0
  have HD := Lib.hid ed
  rw [ed] at hz
  have EZ := Lib.hid hz
  clear ez0 ed hz
  clear h h' hn hm
  go_enter Tryz.func115, Tryz.ntmps115
  go_wp2_with fail
  generalize ((w.alloc (.cells #[.bool s, .slice A n c, .slice D m k] 26)).alloc (.cells #[.bool false, .slice none 0 0] 24)) = w2 at *
  have hf1 := field1
  have pc0 := Lib.hid trivial
  go_wp2_with (first
    | (clear pc0; have SZ := Lib.hid B1.out.size; go_at_call 16; refine Calls.mono (rnorm_any HX.out HP.out LN.out LM.out HZ.out HD.out) ?_; rintro e w3 ⟨P1, c1, P2, c2, rfl, ho, ho2, hb⟩; replace V0 := Lib.hid (V0.out.below hb V0.out.lt); replace V1 := Lib.hid (V1.out.below hb V1.out.lt); replace HX := Lib.hid (HX.out.below hb); replace HP := Lib.hid (HP.out.below hb); replace B1 := Lib.hid (B1.out.trans (hb.mono B1.out.size)); have OQ := Lib.hid (ho.mono SZ.out); have OD := Lib.hid (ho2.mono SZ.out); clear ho ho2 SZ; clear hb; have pc1 := Lib.hid trivial)
    | (clear pc1; refine wpList_stZ (by rfl) _ _ rfl (by rfl) (by rfl) V1.out ?_; intro w4 hz hg; replace V0 := Lib.hid (V0.out.gro hg (by omega)); replace HX := Lib.hid (HX.out.gr V1.out hg); replace HP := Lib.hid (HP.out.gr V1.out hg); replace OQ := Lib.hid (OQ.out.gr V1.out hg); replace OD := Lib.hid (OD.out.gr V1.out hg); replace B1 := Lib.hid (Below.gr B1.out (by omega) hg B1.out.size); replace V1 := Lib.hid hz; clear hz hg; have pc2 := Lib.hid trivial))
  clear pc2
  have hz1 : decide (z < 0) = false := by have := EZ.out; simp; omega
  have hz2 : z.natAbs = d := by have := EZ.out; omega
  exact ret_zb Tryz.results115 rfl rfl V1.out ⟨_, _, by rw [hz1, hz2], by rw [hz2]; exact OD.out, B1.out⟩
set_option maxRecDepth 100000 in
set_option maxHeartbeats 16000000 in
theorem rof_any {a b z : Int} {d : Nat} (ha : -9223372036854775808 ≤ a ∧ a ≤ 9223372036854775807) (hb : -9223372036854775808 ≤ b ∧ b ≤ 9223372036854775807) (hz : (Rat.divInt a b).num = z) (hd : (Rat.divInt a b).den = d) (w : World) :
    Calls Tryz.prog 18 #[.int .i64 a, .int .i64 b] w (GivesR w z d) := by
  obtain ⟨B1, V0⟩ := start_R0 w
  obtain ⟨a', ea⟩ : ∃ z0 : Int, a = z0 := ⟨_, rfl⟩
  obtain ⟨b', eb⟩ : ∃ z0 : Int, b = z0 := ⟨_, rfl⟩
  have HA := Lib.hid ha
  have HBB := Lib.hid hb
  have EA := Lib.hid ea
  have EB := Lib.hid eb
  have HZ : Hid ((Rat.divInt a' b').num = z) := by show _ = _; rw [← ea, ← eb]; exact hz
  have HD : Hid ((Rat.divInt a' b').den = d) := by show _ = _; rw [← ea, ← eb]; exact hd
  have l64 : ∀ v : Int, -9223372036854775808 ≤ v ∧ v ≤ 9223372036854775807 → (ofv v.natAbs).length ≤ 35184372087808 := fun v hv => by
    have : (ofv v.natAbs).length ≤ 2 := len_ofv_le_of_lt (by rw [pw_succ, pw_succ, pw_zero]; omega)
    omega
  have LA : Hid ((ofv a'.natAbs).length ≤ 35184372087808) := by show _ ≤ _; rw [← ea]; exact l64 a ha
  have LB : Hid ((ofv b'.natAbs).length ≤ 35184372087808) := by show _ ≤ _; rw [← eb]; exact l64 _ hb
  clear ha hb hz hd ea eb l64
  go_enter Tryz.func18, Tryz.ntmps18
  go_wp2_with fail
  generalize (w.alloc (.cells #[.bool false, .slice none 0 0, .slice none 0 0] 26)) = w2 at *
  have pc0 := Lib.hid trivial
  go_wp2_with (first
    | (clear pc0; go_at_call 13; refine Calls.mono (rfromInt_z (v := a) (z := a') HA.out EA.out _) ?_; rintro e w3 ⟨P3, c3, rfl, ho, hb⟩; replace V0 := Lib.hid (V0.out.below hb V0.out.lt); replace B1 := Lib.hid (B1.out.trans (hb.mono B1.out.size)); have ZA := Lib.hid (Zo.of_own ho); clear ho; clear hb; have pc1 := Lib.hid trivial)
    | (clear pc1; go_at_call 13; refine Calls.mono (rfromInt_z (v := b) (z := b') HBB.out EB.out _) ?_; rintro e w4 ⟨P4, c4, rfl, ho, hb⟩; replace V0 := Lib.hid (V0.out.below hb V0.out.lt); replace ZA := Lib.hid (ZA.out.below hb); replace B1 := Lib.hid (B1.out.trans (hb.mono B1.out.size)); have ZB := Lib.hid (Zo.of_own ho); clear ho; clear hb; have pc2 := Lib.hid trivial)
    | (clear pc2; have SZ := Lib.hid B1.out.size; go_at_call 60; refine Calls.mono (rmake_any ZA.out.in_ LA.out ZB.out.in_ LB.out HZ.out HD.out) ?_; rintro e w5 ⟨P1, c1, P2, c2, rfl, ho, ho2, hb⟩; replace V0 := Lib.hid (V0.out.below hb V0.out.lt); replace ZA := Lib.hid (ZA.out.below hb); replace ZB := Lib.hid (ZB.out.below hb); replace B1 := Lib.hid (B1.out.trans (hb.mono B1.out.size)); have OQ := Lib.hid (ho.mono SZ.out); have OD := Lib.hid (ho2.mono SZ.out); clear ho ho2 SZ; clear hb; have pc3 := Lib.hid trivial)
    | (clear pc3; refine wpList_stR (by rfl) _ _ rfl (by rfl) (by rfl) V0.out ?_; intro w6 hz hg; replace ZA := Lib.hid (ZA.out.grR V0.out hg); replace ZB := Lib.hid (ZB.out.grR V0.out hg); replace OQ := Lib.hid (OQ.out.grR V0.out hg); replace OD := Lib.hid (OD.out.grR V0.out hg); replace B1 := Lib.hid (Below.gr B1.out (by omega) hg B1.out.size); replace V0 := Lib.hid hz; clear hz hg; have pc4 := Lib.hid trivial))
  clear pc4
  exact ret_rb Tryz.results18 rfl rfl V0.out ⟨_, _, _, _, rfl, OQ.out, OD.out, B1.out⟩
theorem canon_len {x : Int} {p N : Nat} (hx : (ofv x.natAbs).length ≤ N) (hp : (ofv p).length ≤ N) (h1 : 1 ≤ N) : (ofv (mkRat x p).num.natAbs).length ≤ N ∧ (ofv (mkRat x p).den).length ≤ N := by
  rcases Nat.eq_zero_or_pos p with e | e
  · subst e
    rw [Rat.mkRat_zero]
    have h0 : (ofv (0 : Rat).num.natAbs).length = 0 := len_zero_iff.2 rfl
    have h2 : (ofv (0 : Rat).den).length = 1 := len_one
    omega
  · have hl := num_len (z := x) e
    exact ⟨Nat.le_trans (len_mono hl.1) hx, Nat.le_trans (len_mono hl.2) hp⟩
set_option maxRecDepth 100000 in
set_option maxHeartbeats 16000000 in
theorem r3sign_any {s : Bool} {A D : Option Addr} {n c m k : Nat} {x : Int} {p : Nat} {w : World} (h : Zin w s A n c x) (h' : Nin w D m k p) (hn : n ≤ 35184372087808) (hm : m ≤ 35184372087808) {r : Int} (hr : sgR (mkRat x p) = r) :
    Calls Tryz.prog 71 #[.agg #[.bool s, .slice A n c, .slice D m k]] w fun e w' => e = .returned (.int .i64 r) ∧ Below w.heap.size w w' := by
  obtain ⟨B1, V0⟩ := start_R w s A n c D m k
  have HX := Lib.hid (h.below B1.out)
  have HP := Lib.hid (h'.below B1.out)
  have LN := Lib.hid hn
  have LM := Lib.hid hm
  obtain ⟨z, ez⟩ : ∃ z0 : Int, (mkRat x p).num = z0 := ⟨_, rfl⟩
  obtain ⟨d, ed⟩ : ∃ z0 : Nat, (mkRat x p).den = z0 := ⟨_, rfl⟩
  have HZ := Lib.hid ez
  have HD := Lib.hid ed
  have lz : (ofv z.natAbs).length ≤ 35184372087808 ∧ (ofv d).length ≤ 35184372087808 := by
    rw [← ez, ← ed]
    exact canon_len (Nat.le_trans h.len hn) (Nat.le_trans h'.len hm) (by decide)
  have LZ := Lib.hid lz.1
  have LD := Lib.hid lz.2
  have KR : Hid (sg z = r) := by show _ = _; rw [← ez]; exact hr
  have LZ4 : Hid ((ofv z.natAbs).length ≤ 70368744177664) := Nat.le_trans lz.1 (by decide)
  clear ez ed lz hr
  clear h h' hn hm
  go_enter Tryz.func71, Tryz.ntmps71
  go_wp2_with fail
  generalize (w.alloc (.cells #[.bool s, .slice A n c, .slice D m k] 26)) = w2 at *
  have hf0 := field0
  have pc0 := Lib.hid trivial
  go_wp2_with (first
    | (clear pc0; go_at_call 16; refine Calls.mono (rnorm_any HX.out HP.out LN.out LM.out HZ.out HD.out) ?_; rintro e w3 ⟨P1, c1, P2, c2, rfl, ho, ho2, hb⟩; replace V0 := Lib.hid (V0.out.below hb V0.out.lt); replace HX := Lib.hid (HX.out.below hb); replace HP := Lib.hid (HP.out.below hb); replace B1 := Lib.hid (B1.out.trans (hb.mono B1.out.size)); have ZZ := Lib.hid (Zo.of_own ho); clear ho ho2; clear hb; have pc1 := Lib.hid trivial)
    | (clear pc1; go_at_call 11; refine Calls.mono (rsign_k (r := r) ZZ.out.in_ LZ4.out KR.out) ?_; rintro e w4 ⟨rfl, hb⟩; replace V0 := Lib.hid (V0.out.below hb V0.out.lt); replace HX := Lib.hid (HX.out.below hb); replace HP := Lib.hid (HP.out.below hb); replace ZZ := Lib.hid (ZZ.out.below hb); replace B1 := Lib.hid (B1.out.trans (hb.mono B1.out.size)); clear hb; have pc2 := Lib.hid trivial))
  clear pc2
  go_ret
  exact ⟨rfl, B1.out⟩
set_option maxRecDepth 100000 in
set_option maxHeartbeats 16000000 in
theorem r3neg_any {s : Bool} {A D : Option Addr} {n c m k : Nat} {x : Int} {p : Nat} {w : World} (h : Zin w s A n c x) (h' : Nin w D m k p) (hn : n ≤ 35184372087808) (hm : m ≤ 35184372087808) {z2 : Int} {d2 : Nat} (hz : (-mkRat x p).num = z2) (hd : (-mkRat x p).den = d2) :
    Calls Tryz.prog 113 #[.agg #[.bool s, .slice A n c, .slice D m k]] w (GivesR w z2 d2) := by
  obtain ⟨B1, V0, V1⟩ := start_RR w s A n c D m k
  have HX := Lib.hid (h.below B1.out)
  have HP := Lib.hid (h'.below B1.out)
  have LN := Lib.hid hn
  have LM := Lib.hid hm
  obtain ⟨z, ez⟩ : ∃ z0 : Int, (mkRat x p).num = z0 := ⟨_, rfl⟩
  obtain ⟨d, ed⟩ : ∃ z0 : Nat, (mkRat x p).den = z0 := ⟨_, rfl⟩
  have HZ := Lib.hid ez
  have HD := Lib.hid ed
  have lz : (ofv z.natAbs).length ≤ 35184372087808 ∧ (ofv d).length ≤ 35184372087808 := by
    rw [← ez, ← ed]
    exact canon_len (Nat.le_trans h.len hn) (Nat.le_trans h'.len hm) (by decide)
  have LZ := Lib.hid lz.1
  have LD := Lib.hid lz.2
  obtain ⟨nz, enz⟩ : ∃ z0 : Int, -z = z0 := ⟨_, rfl⟩
  obtain ⟨dz, edz⟩ : ∃ z0 : Int, (d : Int) = z0 := ⟨_, rfl⟩
  have ENZ := Lib.hid enz
  have EDZ : Hid (((mkRat x p).den : Int) = dz) := by show _ = _; rw [ed]; exact edz
  have EM : Rat.divInt nz dz = -mkRat x p := by rw [← enz, ← edz, Rat.divInt_ofNat, ← Rat.neg_mkRat, ← ez, ← ed, mk_self]
  have HZ2 : Hid ((Rat.divInt nz dz).num = z2) := by show _ = _; rw [EM]; exact hz
  have HD2 : Hid ((Rat.divInt nz dz).den = d2) := by show _ = _; rw [EM]; exact hd
  have LZ4 : Hid ((ofv z.natAbs).length ≤ 70368744177664) := Nat.le_trans lz.1 (by decide)
  have LNZ : Hid ((ofv nz.natAbs).length ≤ 35184372087808) := by show _ ≤ _; rw [← enz, Int.natAbs_neg]; exact lz.1
  have LDZ : Hid ((ofv dz.natAbs).length ≤ 35184372087808) := by show _ ≤ _; rw [← edz]; simpa using lz.2
  clear ez ed lz enz edz EM hz hd
  clear h h' hn hm
  go_enter Tryz.func113, Tryz.ntmps113
  go_wp2_with fail
  generalize ((w.alloc (.cells #[.bool s, .slice A n c, .slice D m k] 26)).alloc (.cells #[.bool false, .slice none 0 0, .slice none 0 0] 26)) = w2 at *
  have hf0 := field0
  have HB : Hid (Below w2.heap.size w2 w2.drew) := below_drewN _ w2 1
  refine wp_region_held_drew (S := fun w' => w2.grownBy w' (some (w.heap.size + 1))) (by kernel_rfl) ((grown_below HB.out : World.grownBy _ _ (some (w.heap.size + 1)))) (fun hHeld => ?_)
  refine wpAnyH_takeL (i := 0) (oi := _) rfl (by kernel_rfl) (by kernel_rfl) (by kernel_rfl) (fun _ _ _ h => h) (yields_ldR (by rfl) _ rfl (by rfl) (fun _ hb => V0.out.gro hb (by omega))) hHeld ?_
  try simp only [Act.put, List.setIfInBounds_toArray, List.set_cons_zero, List.set_cons_succ]
  refine wpAnyH_takeL (i := 4) (oi := _) rfl (by kernel_rfl) (by kernel_rfl) (by kernel_rfl) (fun _ _ _ h => h) (yields_ldR (by rfl) _ rfl (by rfl) (fun _ hb => V0.out.gro hb (by omega))) hHeld ?_
  try simp only [Act.put, List.setIfInBounds_toArray, List.set_cons_zero, List.set_cons_succ]
  refine wpAnyH_ready (rs := [1]) (by kernel_rfl) (by simp) ?_
  refine AllReadyH.consL (o := _) rfl (fun K hK => ?_) AllReadyH.nil
  clear hHeld
  go_simp
  go_at_call 16
  refine Calls.mono (rnorm_any (HX.out.below HB.out) (HP.out.below HB.out) LN.out LM.out HZ.out HD.out) ?_
  rintro e w3 ⟨P3, c3, P4, c4, rfl, ho, ho2, hb⟩
  replace HB := Lib.hid (HB.out.trans (hb.mono HB.out.size))
  have Z1 := Lib.hid (Zo.of_own ho)
  clear ho ho2
  clear hb
  refine hK.out _ _ (grown_below HB.out : World.grownBy _ _ (some (w.heap.size + 1))) (fun hHeld => ?_)
  clear hK K
  try simp only [Act.put, List.setIfInBounds_toArray, List.set_cons_zero, List.set_cons_succ]
  refine wpAnyH_takeL (i := 2) (oi := _) (v := ?_) rfl (by kernel_rfl) (by kernel_rfl) (by kernel_rfl) (fun _ _ _ h => h) (Or.inl ⟨by rfl, ?_⟩) hHeld ?_
  rotate_left
  · (intro w' hSw; (try dsimp only at hSw); go_simp; try (with_reducible rfl))
  try simp only [Act.put, List.setIfInBounds_toArray, List.set_cons_zero, List.set_cons_succ]
  refine wpAnyH_ready (rs := [3]) (by kernel_rfl) (by simp) ?_
  refine AllReadyH.consL (o := _) rfl (fun K hK => ?_) AllReadyH.nil
  clear hHeld
  go_simp
  go_at_call 99
  refine Calls.mono (rneg_z (x := z) (z := nz) Z1.out.in_ LZ4.out ENZ.out) ?_
  rintro e w4 ⟨P5, c5, rfl, ho, hb⟩
  replace HB := Lib.hid (HB.out.trans (hb.mono HB.out.size))
  have Z2 := Lib.hid (Zo.of_own ho)
  clear ho
  clear hb
  refine hK.out _ _ (grown_below HB.out : World.grownBy _ _ (some (w.heap.size + 1))) (fun hHeld => ?_)
  clear hK K
  try simp only [Act.put, List.setIfInBounds_toArray, List.set_cons_zero, List.set_cons_succ]
  refine wpAnyH_ready (rs := [5]) (by kernel_rfl) (by simp) ?_
  refine AllReadyH.consL (o := _) rfl (fun K hK => ?_) AllReadyH.nil
  clear hHeld
  go_simp
  go_at_call 115
  refine Calls.mono (rden_any (HX.out.below HB.out) (HP.out.below HB.out) LN.out LM.out EDZ.out) ?_
  rintro e w5 ⟨P6, c6, rfl, ho, hb⟩
  replace HB := Lib.hid (HB.out.trans (hb.mono HB.out.size))
  replace Z2 := Lib.hid (Z2.out.below hb)
  have Z3 := Lib.hid (Zo.of_own ho)
  clear ho
  clear hb
  refine hK.out _ _ (grown_below HB.out : World.grownBy _ _ (some (w.heap.size + 1))) (fun hHeld => ?_)
  clear hK K
  try simp only [Act.put, List.setIfInBounds_toArray, List.set_cons_zero, List.set_cons_succ]
  refine wpAnyH_ready (rs := [6]) (by kernel_rfl) (by simp) ?_
  refine AllReadyH.consL (o := _) rfl (fun K hK => ?_) AllReadyH.nil
  clear hHeld
  have SZ := Lib.hid (Nat.le_trans B1.out.size HB.out.size)
  go_simp
  go_at_call 60
  refine Calls.mono (rmake_any Z2.out.in_ LNZ.out Z3.out.in_ LDZ.out HZ2.out HD2.out) ?_
  rintro e w6 ⟨P1, c1, P2, c2, rfl, ho, ho2, hb⟩
  replace HB := Lib.hid (HB.out.trans (hb.mono HB.out.size))
  have OQ := Lib.hid (ho.mono SZ.out)
  have OD := Lib.hid (ho2.mono SZ.out)
  clear ho ho2 SZ
  clear hb
  refine hK.out _ _ (grown_below HB.out : World.grownBy _ _ (some (w.heap.size + 1))) (fun hHeld => ?_)
  clear hK K
  try simp only [Act.put, List.setIfInBounds_toArray, List.set_cons_zero, List.set_cons_succ]
  refine wpAnyH_ready (rs := [7]) (by kernel_rfl) (by simp) ?_
  refine AllReadyH.consL (o := _) rfl (fun K hK => ?_) AllReadyH.nil
  clear hHeld
  have hb := HB.out
  replace V0 := Lib.hid (V0.out.below hb V0.out.lt)
  replace V1 := Lib.hid (V1.out.below hb V1.out.lt)
  replace HX := Lib.hid (HX.out.below hb)
  replace HP := Lib.hid (HP.out.below hb)
  replace B1 := Lib.hid (B1.out.trans (hb.mono B1.out.size))
  rw [if_pos (by rfl)]
  refine wp_stR _ _ rfl (by rfl) (by rfl) V1.out ?_
  intro wst hz hg
  replace V0 := Lib.hid (V0.out.gro hg (by omega))
  replace HX := Lib.hid (HX.out.grR V1.out hg)
  replace HP := Lib.hid (HP.out.grR V1.out hg)
  replace OQ := Lib.hid (OQ.out.grR V1.out hg)
  replace OD := Lib.hid (OD.out.grR V1.out hg)
  replace B1 := Lib.hid (Below.gr B1.out (by omega) hg B1.out.size)
  replace V1 := Lib.hid hz
  refine hK.out _ _ (World.grownBy.trans (grown_below hb) hg) (fun hHeld => ?_)
  clear hK K hg hb HB hz
  try simp only [Act.put]
  skip
  refine wpAnyH_done (by kernel_rfl) ?_ _
  clear hHeld
  go_wp2
  exact ret_rb Tryz.results113 rfl rfl V1.out ⟨_, _, _, _, rfl, OQ.out, OD.out, B1.out⟩
end Go.Proofs.YtfmgbfdnmconiaaGreat
