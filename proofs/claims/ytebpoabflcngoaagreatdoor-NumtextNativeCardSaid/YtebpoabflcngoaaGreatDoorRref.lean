/-
  Contracts of the reference's package 3: Norm, den, Of, FromInt, Sign, Neg.
-/
import Derived.Test.YtebpoabflcngoaaGreatDoorRmake
import Derived.Test.YtebpoabflcngoaaGreatDoorRate
namespace Go.Proofs.YtebpoabflcngoaaGreatDoor
open Go.RowKit
set_option linter.unusedVariables false

set_option maxRecDepth 100000 in
set_option maxHeartbeats 16000000 in
theorem rof_any {a b z : Int} {d : Nat} (ha : -9223372036854775808 ≤ a ∧ a ≤ 9223372036854775807) (hb : -9223372036854775808 ≤ b ∧ b ≤ 9223372036854775807) (hz : (Rat.divInt a b).num = z) (hd : (Rat.divInt a b).den = d) (w : World) :
    Calls Tryz.prog 28 #[.int .i64 a, .int .i64 b] w (GivesR w z d) := by
  obtain ⟨B1, V0⟩ := start_R0 w
  obtain ⟨a', ea⟩ : ∃ z0 : Int, a = z0 := ⟨_, rfl⟩
  obtain ⟨b', eb⟩ : ∃ z0 : Int, b = z0 := ⟨_, rfl⟩
  have HA := Lib.hid ha
  have HBB := Lib.hid hb
  have EA := Lib.hid ea
  have EB := Lib.hid eb
  have HZ : Hid ((Rat.divInt a' b').num = z) := by show _ = _; rw [← ea, ← eb]; exact hz
  have HD : Hid ((Rat.divInt a' b').den = d) := by show _ = _; rw [← ea, ← eb]; exact hd
  have l64 : ∀ v : Int, -9223372036854775808 ≤ v ∧ v ≤ 9223372036854775807 → (ofv v.natAbs).length ≤ 35184372087808 := fun v hv => by
    have : (ofv v.natAbs).length ≤ 2 := len_ofv_le_of_lt (by rw [pw_succ, pw_succ, pw_zero]; omega)
    omega
  have LA : Hid ((ofv a'.natAbs).length ≤ 35184372087808) := by show _ ≤ _; rw [← ea]; exact l64 a ha
  have LB : Hid ((ofv b'.natAbs).length ≤ 35184372087808) := by show _ ≤ _; rw [← eb]; exact l64 _ hb
  clear ha hb hz hd ea eb l64
  go_enter Tryz.func28, Tryz.ntmps28
  go_wp2_with fail
  generalize (w.alloc (.cells #[.bool false, .slice none 0 0, .slice none 0 0] 26)) = w2 at *
  have pc0 := Lib.hid trivial
  go_wp2_with (first
    | (clear pc0; go_at_call 26; refine Calls.mono (rfromInt_z (v := a) (z := a') HA.out EA.out _) ?_; rintro e w3 ⟨P3, c3, rfl, ho, hb⟩; replace V0 := Lib.hid (V0.out.below hb V0.out.lt); replace B1 := Lib.hid (B1.out.trans (hb.mono B1.out.size)); have ZA := Lib.hid (Zo.of_own ho); clear ho; clear hb; have pc1 := Lib.hid trivial)
    | (clear pc1; go_at_call 26; refine Calls.mono (rfromInt_z (v := b) (z := b') HBB.out EB.out _) ?_; rintro e w4 ⟨P4, c4, rfl, ho, hb⟩; replace V0 := Lib.hid (V0.out.below hb V0.out.lt); replace ZA := Lib.hid (ZA.out.below hb); replace B1 := Lib.hid (B1.out.trans (hb.mono B1.out.size)); have ZB := Lib.hid (Zo.of_own ho); clear ho; clear hb; have pc2 := Lib.hid trivial)
    | (clear pc2; have SZ := Lib.hid B1.out.size; go_at_call 57; refine Calls.mono (rmake_any ZA.out.in_ LA.out ZB.out.in_ LB.out HZ.out HD.out) ?_; rintro e w5 ⟨P1, c1, P2, c2, rfl, ho, ho2, hb⟩; replace V0 := Lib.hid (V0.out.below hb V0.out.lt); replace ZA := Lib.hid (ZA.out.below hb); replace ZB := Lib.hid (ZB.out.below hb); replace B1 := Lib.hid (B1.out.trans (hb.mono B1.out.size)); have OQ := Lib.hid (ho.mono SZ.out); have OD := Lib.hid (ho2.mono SZ.out); clear ho ho2 SZ; clear hb; have pc3 := Lib.hid trivial)
    | (clear pc3; refine wpList_stR (by rfl) _ _ rfl (by rfl) (by rfl) V0.out ?_; intro w6 hz hg; replace ZA := Lib.hid (ZA.out.grR V0.out hg); replace ZB := Lib.hid (ZB.out.grR V0.out hg); replace OQ := Lib.hid (OQ.out.grR V0.out hg); replace OD := Lib.hid (OD.out.grR V0.out hg); replace B1 := Lib.hid (Below.gr B1.out (by omega) hg B1.out.size); replace V0 := Lib.hid hz; clear hz hg; have pc4 := Lib.hid trivial))
  clear pc4
  exact ret_rb Tryz.results28 rfl rfl V0.out ⟨_, _, _, _, rfl, OQ.out, OD.out, B1.out⟩
theorem canon_len {x : Int} {p N : Nat} (hx : (ofv x.natAbs).length ≤ N) (hp : (ofv p).length ≤ N) (h1 : 1 ≤ N) : (ofv (mkRat x p).num.natAbs).length ≤ N ∧ (ofv (mkRat x p).den).length ≤ N := by
  rcases Nat.eq_zero_or_pos p with e | e
  · subst e
    rw [Rat.mkRat_zero]
    have h0 : (ofv (0 : Rat).num.natAbs).length = 0 := len_zero_iff.2 rfl
    have h2 : (ofv (0 : Rat).den).length = 1 := len_one
    omega
  · have hl := num_len (z := x) e
    exact ⟨Nat.le_trans (len_mono hl.1) hx, Nat.le_trans (len_mono hl.2) hp⟩
end Go.Proofs.YtebpoabflcngoaaGreatDoor
