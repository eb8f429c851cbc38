/-
  Contracts of the reference's package 3: Norm, den, Of, FromInt, Sign, Neg.
-/
import Derived.Test.YtfacndibfkamgaaGreatRmake
import Derived.Test.YtfacndibfkamgaaGreatRate
namespace Go.Proofs.YtfacndibfkamgaaGreat
open Go.RowKit
set_option linter.unusedVariables false

set_option maxRecDepth 100000 in
set_option maxHeartbeats 16000000 in
theorem rnorm_any {s : Bool} {A D : Option Addr} {n c m k : Nat} {x : Int} {p : Nat} {w : World} (h : Zin w s A n c x) (h' : Nin w D m k p) (hn : n ≤ 35184372087808) (hm : m ≤ 35184372087808) {z : Int} {d : Nat} (hz : (mkRat x p).num = z) (hd : (mkRat x p).den = d) :
    Calls Tryz.prog 41 #[.agg #[.bool s, .slice A n c, .slice D m k]] w (GivesR w z d) := by
  obtain ⟨B1, V0, V1⟩ := start_RR w s A n c D m k
  have HX := Lib.hid (h.below B1.out)
  have HP := Lib.hid (h'.below B1.out)
  have LN := Lib.hid hn
  have LM := Lib.hid hm
  obtain ⟨pz, epz⟩ : ∃ z0 : Int, (p : Int) = z0 := ⟨_, rfl⟩
  have EPZ := Lib.hid epz
  have HZ : Hid ((Rat.divInt x pz).num = z) := by show _ = _; rw [← epz, Rat.divInt_ofNat]; exact hz
  have HD : Hid ((Rat.divInt x pz).den = d) := by show _ = _; rw [← epz, Rat.divInt_ofNat]; exact hd
  clear epz hz hd
  clear h h' hn hm
  go_enter Tryz.func41, Tryz.ntmps41
  go_wp2_with fail
  generalize ((w.alloc (.cells #[.bool s, .slice A n c, .slice D m k] 29)).alloc (.cells #[.bool false, .slice none 0 0, .slice none 0 0] 29)) = w2 at *
  have pc0 := Lib.hid trivial
  go_wp2_with (first
    | (clear pc0; have SZ := Lib.hid B1.out.size; go_at_call 64; refine Calls.mono (rmake_any HX.out LN.out (HP.out.int EPZ.out) LM.out HZ.out HD.out) ?_; rintro e w3 ⟨P1, c1, P2, c2, rfl, ho, ho2, hb⟩; replace V0 := Lib.hid (V0.out.below hb V0.out.lt); replace V1 := Lib.hid (V1.out.below hb V1.out.lt); replace HX := Lib.hid (HX.out.below hb); replace HP := Lib.hid (HP.out.below hb); replace B1 := Lib.hid (B1.out.trans (hb.mono B1.out.size)); have OQ := Lib.hid (ho.mono SZ.out); have OD := Lib.hid (ho2.mono SZ.out); clear ho ho2 SZ; clear hb; have pc1 := Lib.hid trivial)
    | (clear pc1; refine wpList_stR (by rfl) _ _ rfl (by rfl) (by rfl) V1.out ?_; intro w4 hz hg; replace V0 := Lib.hid (V0.out.gro hg (by omega)); replace HX := Lib.hid (HX.out.grR V1.out hg); replace HP := Lib.hid (HP.out.grR V1.out hg); replace OQ := Lib.hid (OQ.out.grR V1.out hg); replace OD := Lib.hid (OD.out.grR V1.out hg); replace B1 := Lib.hid (Below.gr B1.out (by omega) hg B1.out.size); replace V1 := Lib.hid hz; clear hz hg; have pc2 := Lib.hid trivial))
  clear pc2
  exact ret_rb Tryz.results41 rfl rfl V1.out ⟨_, _, _, _, rfl, OQ.out, OD.out, B1.out⟩
set_option maxRecDepth 100000 in
set_option maxHeartbeats 16000000 in
theorem rden_any {s : Bool} {A D : Option Addr} {n c m k : Nat} {x : Int} {p : Nat} {w : World} (h : Zin w s A n c x) (h' : Nin w D m k p) (hn : n ≤ 35184372087808) (hm : m ≤ 35184372087808) {z : Int} (hz : ((mkRat x p).den : Int) = z) :
    Calls Tryz.prog 129 #[.agg #[.bool s, .slice A n c, .slice D m k]] w (GivesZ w z) := by
  obtain ⟨B1, V0, V1⟩ := start_RZ w s A n c D m k
  have HX := Lib.hid (h.below B1.out)
  have HP := Lib.hid (h'.below B1.out)
  have LN := Lib.hid hn
  have LM := Lib.hid hm
  obtain ⟨z0, ez0⟩ : ∃ z0 : Int, (mkRat x p).num = z0 := ⟨_, rfl⟩
  obtain ⟨d, ed⟩ : ∃ z0 : Nat, (mkRat x p).den = z0 := ⟨_, rfl⟩
  have HZ := Lib.hid ez0
  have HD := Lib.hid ed
  rw [ed] at hz
  have EZ := Lib.hid hz
  clear ez0 ed hz
  clear h h' hn hm
  go_enter Tryz.func129, Tryz.ntmps129
  go_wp2_with fail
  generalize ((w.alloc (.cells #[.bool s, .slice A n c, .slice D m k] 29)).alloc (.cells #[.bool false, .slice none 0 0] 27)) = w2 at *
  have hf1 := field1
  have pc0 := Lib.hid trivial
  go_wp2_with (first
    | (clear pc0; have SZ := Lib.hid B1.out.size; go_at_call 41; refine Calls.mono (rnorm_any HX.out HP.out LN.out LM.out HZ.out HD.out) ?_; rintro e w3 ⟨P1, c1, P2, c2, rfl, ho, ho2, hb⟩; replace V0 := Lib.hid (V0.out.below hb V0.out.lt); replace V1 := Lib.hid (V1.out.below hb V1.out.lt); replace HX := Lib.hid (HX.out.below hb); replace HP := Lib.hid (HP.out.below hb); replace B1 := Lib.hid (B1.out.trans (hb.mono B1.out.size)); have OQ := Lib.hid (ho.mono SZ.out); have OD := Lib.hid (ho2.mono SZ.out); clear ho ho2 SZ; clear hb; have pc1 := Lib.hid trivial)
    | (clear pc1; refine wpList_stZ (by rfl) _ _ rfl (by rfl) (by rfl) V1.out ?_; intro w4 hz hg; replace V0 := Lib.hid (V0.out.gro hg (by omega)); replace HX := Lib.hid (HX.out.gr V1.out hg); replace HP := Lib.hid (HP.out.gr V1.out hg); replace OQ := Lib.hid (OQ.out.gr V1.out hg); replace OD := Lib.hid (OD.out.gr V1.out hg); replace B1 := Lib.hid (Below.gr B1.out (by omega) hg B1.out.size); replace V1 := Lib.hid hz; clear hz hg; have pc2 := Lib.hid trivial))
  clear pc2
  have hz1 : decide (z < 0) = false := by have := EZ.out; simp; omega
  have hz2 : z.natAbs = d := by have := EZ.out; omega
  exact ret_zb Tryz.results129 rfl rfl V1.out ⟨_, _, by rw [hz1, hz2], by rw [hz2]; exact OD.out, B1.out⟩
set_option maxRecDepth 100000 in
set_option maxHeartbeats 16000000 in
theorem rof_any {a b z : Int} {d : Nat} (ha : -9223372036854775808 ≤ a ∧ a ≤ 9223372036854775807) (hb : -9223372036854775808 ≤ b ∧ b ≤ 9223372036854775807) (hz : (Rat.divInt a b).num = z) (hd : (Rat.divInt a b).den = d) (w : World) :
    Calls Tryz.prog 82 #[.int .i64 a, .int .i64 b] w (GivesR w z d) := by
  obtain ⟨B1, V0⟩ := start_R0 w
  obtain ⟨a', ea⟩ : ∃ z0 : Int, a = z0 := ⟨_, rfl⟩
  obtain ⟨b', eb⟩ : ∃ z0 : Int, b = z0 := ⟨_, rfl⟩
  have HA := Lib.hid ha
  have HBB := Lib.hid hb
  have EA := Lib.hid ea
  have EB := Lib.hid eb
  have HZ : Hid ((Rat.divInt a' b').num = z) := by show _ = _; rw [← ea, ← eb]; exact hz
  have HD : Hid ((Rat.divInt a' b').den = d) := by show _ = _; rw [← ea, ← eb]; exact hd
  have l64 : ∀ v : Int, -9223372036854775808 ≤ v ∧ v ≤ 9223372036854775807 → (ofv v.natAbs).length ≤ 35184372087808 := fun v hv => by
    have : (ofv v.natAbs).length ≤ 2 := len_ofv_le_of_lt (by rw [pw_succ, pw_succ, pw_zero]; omega)
    omega
  have LA : Hid ((ofv a'.natAbs).length ≤ 35184372087808) := by show _ ≤ _; rw [← ea]; exact l64 a ha
  have LB : Hid ((ofv b'.natAbs).length ≤ 35184372087808) := by show _ ≤ _; rw [← eb]; exact l64 _ hb
  clear ha hb hz hd ea eb l64
  go_enter Tryz.func82, Tryz.ntmps82
  go_wp2_with fail
  generalize (w.alloc (.cells #[.bool false, .slice none 0 0, .slice none 0 0] 29)) = w2 at *
  have pc0 := Lib.hid trivial
  go_wp2_with (first
    | (clear pc0; go_at_call 39; refine Calls.mono (rfromInt_z (v := a) (z := a') HA.out EA.out _) ?_; rintro e w3 ⟨P3, c3, rfl, ho, hb⟩; replace V0 := Lib.hid (V0.out.below hb V0.out.lt); replace B1 := Lib.hid (B1.out.trans (hb.mono B1.out.size)); have ZA := Lib.hid (Zo.of_own ho); clear ho; clear hb; have pc1 := Lib.hid trivial)
    | (clear pc1; go_at_call 39; refine Calls.mono (rfromInt_z (v := b) (z := b') HBB.out EB.out _) ?_; rintro e w4 ⟨P4, c4, rfl, ho, hb⟩; replace V0 := Lib.hid (V0.out.below hb V0.out.lt); replace ZA := Lib.hid (ZA.out.below hb); replace B1 := Lib.hid (B1.out.trans (hb.mono B1.out.size)); have ZB := Lib.hid (Zo.of_own ho); clear ho; clear hb; have pc2 := Lib.hid trivial)
    | (clear pc2; have SZ := Lib.hid B1.out.size; go_at_call 64; refine Calls.mono (rmake_any ZA.out.in_ LA.out ZB.out.in_ LB.out HZ.out HD.out) ?_; rintro e w5 ⟨P1, c1, P2, c2, rfl, ho, ho2, hb⟩; replace V0 := Lib.hid (V0.out.below hb V0.out.lt); replace ZA := Lib.hid (ZA.out.below hb); replace ZB := Lib.hid (ZB.out.below hb); replace B1 := Lib.hid (B1.out.trans (hb.mono B1.out.size)); have OQ := Lib.hid (ho.mono SZ.out); have OD := Lib.hid (ho2.mono SZ.out); clear ho ho2 SZ; clear hb; have pc3 := Lib.hid trivial)
    | (clear pc3; refine wpList_stR (by rfl) _ _ rfl (by rfl) (by rfl) V0.out ?_; intro w6 hz hg; replace ZA := Lib.hid (ZA.out.grR V0.out hg); replace ZB := Lib.hid (ZB.out.grR V0.out hg); replace OQ := Lib.hid (OQ.out.grR V0.out hg); replace OD := Lib.hid (OD.out.grR V0.out hg); replace B1 := Lib.hid (Below.gr B1.out (by omega) hg B1.out.size); replace V0 := Lib.hid hz; clear hz hg; have pc4 := Lib.hid trivial))
  clear pc4
  exact ret_rb Tryz.results82 rfl rfl V0.out ⟨_, _, _, _, rfl, OQ.out, OD.out, B1.out⟩
set_option maxRecDepth 100000 in
set_option maxHeartbeats 16000000 in
theorem r3fromInt_any {a z : Int} {d : Nat} (ha : -9223372036854775808 ≤ a ∧ a ≤ 9223372036854775807) (hz : (Rat.divInt a 1).num = z) (hd : (Rat.divInt a 1).den = d) (w : World) :
    Calls Tryz.prog 30 #[.int .i64 a] w (GivesR w z d) := by
  have hb : -9223372036854775808 ≤ (1 : Int) ∧ (1 : Int) ≤ 9223372036854775807 := by omega
  obtain ⟨B1, V0⟩ := start_R0 w
  obtain ⟨a', ea⟩ : ∃ z0 : Int, a = z0 := ⟨_, rfl⟩
  obtain ⟨b', eb⟩ : ∃ z0 : Int, (1 : Int) = z0 := ⟨_, rfl⟩
  have HA := Lib.hid ha
  have HBB := Lib.hid hb
  have EA := Lib.hid ea
  have EB := Lib.hid eb
  have HZ : Hid ((Rat.divInt a' b').num = z) := by show _ = _; rw [← ea, ← eb]; exact hz
  have HD : Hid ((Rat.divInt a' b').den = d) := by show _ = _; rw [← ea, ← eb]; exact hd
  have l64 : ∀ v : Int, -9223372036854775808 ≤ v ∧ v ≤ 9223372036854775807 → (ofv v.natAbs).length ≤ 35184372087808 := fun v hv => by
    have : (ofv v.natAbs).length ≤ 2 := len_ofv_le_of_lt (by rw [pw_succ, pw_succ, pw_zero]; omega)
    omega
  have LA : Hid ((ofv a'.natAbs).length ≤ 35184372087808) := by show _ ≤ _; rw [← ea]; exact l64 a ha
  have LB : Hid ((ofv b'.natAbs).length ≤ 35184372087808) := by show _ ≤ _; rw [← eb]; exact l64 _ hb
  clear ha hb hz hd ea eb l64
  go_enter Tryz.func30, Tryz.ntmps30
  go_wp2_with fail
  generalize (w.alloc (.cells #[.bool false, .slice none 0 0, .slice none 0 0] 29)) = w2 at *
  have pc0 := Lib.hid trivial
  go_wp2_with (first
    | (clear pc0; go_at_call 39; refine Calls.mono (rfromInt_z (v := a) (z := a') HA.out EA.out _) ?_; rintro e w3 ⟨P3, c3, rfl, ho, hb⟩; replace V0 := Lib.hid (V0.out.below hb V0.out.lt); replace B1 := Lib.hid (B1.out.trans (hb.mono B1.out.size)); have ZA := Lib.hid (Zo.of_own ho); clear ho; clear hb; have pc1 := Lib.hid trivial)
    | (clear pc1; go_at_call 39; refine Calls.mono (rfromInt_z (v := 1) (z := b') HBB.out EB.out _) ?_; rintro e w4 ⟨P4, c4, rfl, ho, hb⟩; replace V0 := Lib.hid (V0.out.below hb V0.out.lt); replace ZA := Lib.hid (ZA.out.below hb); replace B1 := Lib.hid (B1.out.trans (hb.mono B1.out.size)); have ZB := Lib.hid (Zo.of_own ho); clear ho; clear hb; have pc2 := Lib.hid trivial)
    | (clear pc2; have SZ := Lib.hid B1.out.size; go_at_call 64; refine Calls.mono (rmake_any ZA.out.in_ LA.out ZB.out.in_ LB.out HZ.out HD.out) ?_; rintro e w5 ⟨P1, c1, P2, c2, rfl, ho, ho2, hb⟩; replace V0 := Lib.hid (V0.out.below hb V0.out.lt); replace ZA := Lib.hid (ZA.out.below hb); replace ZB := Lib.hid (ZB.out.below hb); replace B1 := Lib.hid (B1.out.trans (hb.mono B1.out.size)); have OQ := Lib.hid (ho.mono SZ.out); have OD := Lib.hid (ho2.mono SZ.out); clear ho ho2 SZ; clear hb; have pc3 := Lib.hid trivial)
    | (clear pc3; refine wpList_stR (by rfl) _ _ rfl (by rfl) (by rfl) V0.out ?_; intro w6 hz hg; replace ZA := Lib.hid (ZA.out.grR V0.out hg); replace ZB := Lib.hid (ZB.out.grR V0.out hg); replace OQ := Lib.hid (OQ.out.grR V0.out hg); replace OD := Lib.hid (OD.out.grR V0.out hg); replace B1 := Lib.hid (Below.gr B1.out (by omega) hg B1.out.size); replace V0 := Lib.hid hz; clear hz hg; have pc4 := Lib.hid trivial))
  clear pc4
  exact ret_rb Tryz.results30 rfl rfl V0.out ⟨_, _, _, _, rfl, OQ.out, OD.out, B1.out⟩
theorem canon_len {x : Int} {p N : Nat} (hx : (ofv x.natAbs).length ≤ N) (hp : (ofv p).length ≤ N) (h1 : 1 ≤ N) : (ofv (mkRat x p).num.natAbs).length ≤ N ∧ (ofv (mkRat x p).den).length ≤ N := by
  rcases Nat.eq_zero_or_pos p with e | e
  · subst e
    rw [Rat.mkRat_zero]
    have h0 : (ofv (0 : Rat).num.natAbs).length = 0 := len_zero_iff.2 rfl
    have h2 : (ofv (0 : Rat).den).length = 1 := len_one
    omega
  · have hl := num_len (z := x) e
    exact ⟨Nat.le_trans (len_mono hl.1) hx, Nat.le_trans (len_mono hl.2) hp⟩
set_option maxRecDepth 100000 in
set_option maxHeartbeats 16000000 in
theorem r3sign_any {s : Bool} {A D : Option Addr} {n c m k : Nat} {x : Int} {p : Nat} {w : World} (h : Zin w s A n c x) (h' : Nin w D m k p) (hn : n ≤ 35184372087808) (hm : m ≤ 35184372087808) {r : Int} (hr : sgR (mkRat x p) = r) :
    Calls Tryz.prog 91 #[.agg #[.bool s, .slice A n c, .slice D m k]] w fun e w' => e = .returned (.int .i64 r) ∧ Below w.heap.size w w' := by
  obtain ⟨B1, V0⟩ := start_R w s A n c D m k
  have HX := Lib.hid (h.below B1.out)
  have HP := Lib.hid (h'.below B1.out)
  have LN := Lib.hid hn
  have LM := Lib.hid hm
  obtain ⟨z, ez⟩ : ∃ z0 : Int, (mkRat x p).num = z0 := ⟨_, rfl⟩
  obtain ⟨d, ed⟩ : ∃ z0 : Nat, (mkRat x p).den = z0 := ⟨_, rfl⟩
  have HZ := Lib.hid ez
  have HD := Lib.hid ed
  have lz : (ofv z.natAbs).length ≤ 35184372087808 ∧ (ofv d).length ≤ 35184372087808 := by
    rw [← ez, ← ed]
    exact canon_len (Nat.le_trans h.len hn) (Nat.le_trans h'.len hm) (by decide)
  have LZ := Lib.hid lz.1
  have LD := Lib.hid lz.2
  have KR : Hid (sg z = r) := by show _ = _; rw [← ez]; exact hr
  have LZ4 : Hid ((ofv z.natAbs).length ≤ 70368744177664) := Nat.le_trans lz.1 (by decide)
  clear ez ed lz hr
  clear h h' hn hm
  go_enter Tryz.func91, Tryz.ntmps91
  go_wp2_with fail
  generalize (w.alloc (.cells #[.bool s, .slice A n c, .slice D m k] 29)) = w2 at *
  have hf0 := field0
  have pc0 := Lib.hid trivial
  go_wp2_with (first
    | (clear pc0; go_at_call 41; refine Calls.mono (rnorm_any HX.out HP.out LN.out LM.out HZ.out HD.out) ?_; rintro e w3 ⟨P1, c1, P2, c2, rfl, ho, ho2, hb⟩; replace V0 := Lib.hid (V0.out.below hb V0.out.lt); replace HX := Lib.hid (HX.out.below hb); replace HP := Lib.hid (HP.out.below hb); replace B1 := Lib.hid (B1.out.trans (hb.mono B1.out.size)); have ZZ := Lib.hid (Zo.of_own ho); clear ho ho2; clear hb; have pc1 := Lib.hid trivial)
    | (clear pc1; go_at_call 37; refine Calls.mono (rsign_k (r := r) ZZ.out.in_ LZ4.out KR.out) ?_; rintro e w4 ⟨rfl, hb⟩; replace V0 := Lib.hid (V0.out.below hb V0.out.lt); replace HX := Lib.hid (HX.out.below hb); replace HP := Lib.hid (HP.out.below hb); replace ZZ := Lib.hid (ZZ.out.below hb); replace B1 := Lib.hid (B1.out.trans (hb.mono B1.out.size)); clear hb; have pc2 := Lib.hid trivial))
  clear pc2
  go_ret
  exact ⟨rfl, B1.out⟩
end Go.Proofs.YtfacndibfkamgaaGreat
