/-
  The statement ApproxSimplest: its walk.
-/
import Derived.Test.YtfmgbfdnmconiaaGreatAst
namespace Go.Proofs.YtfmgbfdnmconiaaGreat
open Go.RowKit
set_option linter.unusedVariables false

theorem tnew_any (A : Option Addr) (n c : Nat) (w : World) :
    Calls Tryz.prog 17 #[.slice A n c] w fun e w' => ∃ g, e = .returned (.pointer (some ⟨g, 0, none⟩)) ∧ w.heap.size ≤ g ∧ Tb w' g A n c 0 ∧ Below w.heap.size w w' := by
  go_enter Tryz.func17, Tryz.ntmps17
  go_wp2
  go_ret
  exact ⟨_, rfl, Nat.le_refl _, heap_alloc_new w _, (Below.refl _ _).alloc (Nat.le_refl _) _⟩
theorem of_small {a b z : Int} {d : Nat} (ha : -1000 ≤ a ∧ a ≤ 1000) (hb : 0 < b ∧ b ≤ 1000) (hz : (Rat.divInt a b).num = z) (hd : (Rat.divInt a b).den = d) :
    (mkRat z d).num = z ∧ (mkRat z d).den = d ∧ (ofv z.natAbs).length ≤ 1048576 ∧ (ofv d).length ≤ 1048576 := by
  have e : mkRat z d = Rat.divInt a b := by rw [← hz, ← hd, mk_self]
  obtain ⟨m, rfl⟩ : ∃ m : Nat, b = (m : Int) := ⟨b.natAbs, by omega⟩
  rw [show Rat.divInt a (m : Int) = mkRat a m from rfl] at hz hd e
  obtain ⟨k1, k2⟩ := num_len (z := a) (d := m) (by omega)
  rw [hz] at k1
  rw [hd] at k2
  exact ⟨by rw [e, hz], by rw [e, hd], Nat.le_trans (len_small (by omega)) (by decide), Nat.le_trans (len_small (by omega)) (by decide)⟩
theorem requal_zero (w : World) : Calls Tryz.prog 15 #[.agg #[.bool false, .slice none 0 0, .slice none 0 0], .agg #[.bool false, .slice none 0 0, .slice none 0 0]] w fun x w' => x = .returned (.bool true) ∧ Below w.heap.size w w' := by
  have n : Rd w none 0 (ofv 0) := by rw [ofv_zero]; exact Rd.nil _ _
  have z : Zo w none 0 0 := n
  have h := r3equal_any (b := true) z z n n (by simp)
  simpa [ofv_zero] using h
set_option maxRecDepth 100000 in
set_option maxHeartbeats 16000000 in
theorem approxSimplest_walk (a0 : Option Addr) (len0 cap0 : Nat) (w : World) (hr : Ri w a0 len0 cap0) :
    Calls Tryz.prog 4 #[.slice a0 len0 cap0] w fun e w' => e = .returned (.bool true) ∧ Below w.heap.size w w' := by
  have RI := Lib.hid hr
  have hr1 := hr.1
  have hr2 := hr.2.1
  have RB : Hid (∀ b o, 0 < len0 → a0 = some ⟨b, o, none⟩ → b < w.heap.size) := fun b o h0 e => by
    rcases hr.2.2 with h | ⟨b', o', e', hl, _⟩
    · omega
    · rw [e'] at e; cases e; exact hl
  have B1 := Lib.hid (Below.refl w.heap.size w)
  clear hr
  go_enter Tryz.func4, Tryz.ntmps4
  have pc0 := Lib.hid trivial
  go_wp2_with (first
    | (clear pc0; go_at_call 17; refine Calls.mono (tnew_any _ _ _ _) ?_; rintro e w1 ⟨g3, rfl, hge, ht, hb⟩; replace B1 := Lib.hid (B1.out.trans (hb.mono B1.out.size)); have TB := Lib.hid ht; have LG := Lib.hid hge; clear ht hge hb; have pc1 := Lib.hid trivial)
    | (clear pc1; go_at_call 19; refine Calls.mono (tnext_any TB.out (by omega) (RI.out.below B1.out) (fun b o h0 e => by have h1 := LG.out; have h2 := RB.out b o h0 e; omega) (by decide)) ?_; rintro e w2 ⟨r1, i1, rfl, hr1, hi, ex, hg⟩; have bx := TB.out.bx; replace B1 := Lib.hid (Below.gr B1.out (LG.out) hg B1.out.size); replace TB := Lib.hid ex; have HI := Lib.hid hi; have ra1 := hr1.1; have rb1 := hr1.2; clear bx hg ex hi hr1; have pc2 := Lib.hid trivial)
    | (clear pc2; go_at_call 19; refine Calls.mono (tnext_any TB.out HI.out (RI.out.below B1.out) (fun b o h0 e => by have h1 := LG.out; have h2 := RB.out b o h0 e; omega) (by decide)) ?_; rintro e w3 ⟨r2, i2, rfl, hr2, hi, ex, hg⟩; have bx := TB.out.bx; replace B1 := Lib.hid (Below.gr B1.out (LG.out) hg B1.out.size); replace TB := Lib.hid ex; replace HI := Lib.hid hi; have ra2 := hr2.1; have rb2 := hr2.2; clear bx hg ex hi hr2; have pc3 := Lib.hid trivial)
    | (clear pc3; obtain ⟨za, ez⟩ : ∃ z0 : Int, (Rat.divInt (r1 - 200) (1 + r2)).num = z0 := ⟨_, rfl⟩; obtain ⟨da, ed⟩ : ∃ z0 : Nat, (Rat.divInt (r1 - 200) (1 + r2)).den = z0 := ⟨_, rfl⟩; have sm := of_small (a := r1 - 200) (b := 1 + r2) (by omega) (by omega) ez ed; have CZa := Lib.hid sm.1; have CDa := Lib.hid sm.2.1; have LZa := Lib.hid sm.2.2.1; have LDa := Lib.hid sm.2.2.2; clear sm; go_at_call 18; refine Calls.mono (rof_any (a := r1 - 200) (b := 1 + r2) (z := za) (d := da) (by omega) (by omega) ez ed _) ?_; rintro e w4 ⟨Pa, ca, Qa, ka, rfl, ho, ho2, hb⟩; replace TB := Lib.hid (TB.out.below hb TB.out.lt); replace B1 := Lib.hid (B1.out.trans (hb.mono B1.out.size)); have Za := Lib.hid (Zo.of_own ho); have Na := Lib.hid ho2.rd; clear ho ho2 hb ez ed; have pc4 := Lib.hid trivial)
    | (clear pc4; go_at_call 19; refine Calls.mono (tnext_any TB.out HI.out (RI.out.below B1.out) (fun b o h0 e => by have h1 := LG.out; have h2 := RB.out b o h0 e; omega) (by decide)) ?_; rintro e w5 ⟨r3, i3, rfl, hr3, hi, ex, hg⟩; have bx := TB.out.bx; replace Za := Lib.hid (Za.out.grB bx hg); replace Na := Lib.hid (Na.out.grB bx hg); replace B1 := Lib.hid (Below.gr B1.out (LG.out) hg B1.out.size); replace TB := Lib.hid ex; replace HI := Lib.hid hi; have ra3 := hr3.1; have rb3 := hr3.2; clear bx hg ex hi hr3; have pc5 := Lib.hid trivial)
    | (clear pc5; go_at_call 19; refine Calls.mono (tnext_any TB.out HI.out (RI.out.below B1.out) (fun b o h0 e => by have h1 := LG.out; have h2 := RB.out b o h0 e; omega) (by decide)) ?_; rintro e w6 ⟨r4, i4, rfl, hr4, hi, ex, hg⟩; have bx := TB.out.bx; replace Za := Lib.hid (Za.out.grB bx hg); replace Na := Lib.hid (Na.out.grB bx hg); replace B1 := Lib.hid (Below.gr B1.out (LG.out) hg B1.out.size); replace TB := Lib.hid ex; replace HI := Lib.hid hi; have ra4 := hr4.1; have rb4 := hr4.2; clear bx hg ex hi hr4; have pc6 := Lib.hid trivial)
    | (clear pc6; obtain ⟨zb, ez⟩ : ∃ z0 : Int, (Rat.divInt (r3 - 200) (1 + r4)).num = z0 := ⟨_, rfl⟩; obtain ⟨db, ed⟩ : ∃ z0 : Nat, (Rat.divInt (r3 - 200) (1 + r4)).den = z0 := ⟨_, rfl⟩; have sm := of_small (a := r3 - 200) (b := 1 + r4) (by omega) (by omega) ez ed; have CZb := Lib.hid sm.1; have CDb := Lib.hid sm.2.1; have LZb := Lib.hid sm.2.2.1; have LDb := Lib.hid sm.2.2.2; clear sm; go_at_call 18; refine Calls.mono (rof_any (a := r3 - 200) (b := 1 + r4) (z := zb) (d := db) (by omega) (by omega) ez ed _) ?_; rintro e w7 ⟨Pb, cb, Qb, kb, rfl, ho, ho2, hb⟩; replace TB := Lib.hid (TB.out.below hb TB.out.lt); replace Za := Lib.hid (Za.out.below hb); replace Na := Lib.hid (Na.out.below hb); replace B1 := Lib.hid (B1.out.trans (hb.mono B1.out.size)); have Zb := Lib.hid (Zo.of_own ho); have Nb := Lib.hid ho2.rd; clear ho ho2 hb ez ed; have pc7 := Lib.hid trivial))
  clear pc7
  clear TB HI RI RB
  have hb : Below w7.heap.size w7 ((w7.alloc (.cells #[.bool (decide (za < 0)), .slice Pa (ofv za.natAbs).length ca, .slice Qa (ofv da).length ka] 26)).alloc (.cells #[.bool (decide (zb < 0)), .slice Pb (ofv zb.natAbs).length cb, .slice Qb (ofv db).length kb] 26)) := (((Below.refl _ _).alloc (by first | exact Nat.le_refl _ | (simp; done) | (simp; omega)) _).alloc (by first | exact Nat.le_refl _ | (simp; done) | (simp; omega)) _)
  replace Za := Lib.hid (Za.out.below hb)
  replace Na := Lib.hid (Na.out.below hb)
  replace Zb := Lib.hid (Zb.out.below hb)
  replace Nb := Lib.hid (Nb.out.below hb)
  replace B1 := Lib.hid (B1.out.trans (hb.mono B1.out.size))
  have V4 : Hid (Rb ((w7.alloc (.cells #[.bool (decide (za < 0)), .slice Pa (ofv za.natAbs).length ca, .slice Qa (ofv da).length ka] 26)).alloc (.cells #[.bool (decide (zb < 0)), .slice Pb (ofv zb.natAbs).length cb, .slice Qb (ofv db).length kb] 26)) (w7.heap.size) (decide (za < 0)) Pa (ofv za.natAbs).length ca Qa (ofv da).length ka) := (by have h := ((Rb.new w7 (decide (za < 0)) Pa (ofv za.natAbs).length ca Qa (ofv da).length ka).alloc (.cells #[.bool (decide (zb < 0)), .slice Pb (ofv zb.natAbs).length cb, .slice Qb (ofv db).length kb] 26)); (try simp only [World.size_alloc] at h); exact h)
  have V5 : Hid (Rb ((w7.alloc (.cells #[.bool (decide (za < 0)), .slice Pa (ofv za.natAbs).length ca, .slice Qa (ofv da).length ka] 26)).alloc (.cells #[.bool (decide (zb < 0)), .slice Pb (ofv zb.natAbs).length cb, .slice Qb (ofv db).length kb] 26)) (w7.heap.size + 1) (decide (zb < 0)) Pb (ofv zb.natAbs).length cb Qb (ofv db).length kb) := (by have h := (Rb.new (w7.alloc (.cells #[.bool (decide (za < 0)), .slice Pa (ofv za.natAbs).length ca, .slice Qa (ofv da).length ka] 26)) (decide (zb < 0)) Pb (ofv zb.natAbs).length cb Qb (ofv db).length kb); (try simp only [World.size_alloc] at h); exact h)
  clear hb
  generalize ((w7.alloc (.cells #[.bool (decide (za < 0)), .slice Pa (ofv za.natAbs).length ca, .slice Qa (ofv da).length ka] 26)).alloc (.cells #[.bool (decide (zb < 0)), .slice Pb (ofv zb.natAbs).length cb, .slice Qb (ofv db).length kb] 26)) = w8 at *
  generalize w7.heap.size = h4 at *
  have PD : Hid (0 < da ∧ 0 < db) := ⟨by rw [← CDa.out]; exact den_pos _, by rw [← CDb.out]; exact den_pos _⟩
  rcases sgR_cases (mkRat za da - mkRat zb db) with hc | hc | hc
  · have HC := Lib.hid hc
    have HC2 : Hid (sgR (mkRat za da - mkRat zb db) = -((1 : Nat) : Int)) := by show _ = _; rw [hc]; rfl
    clear hc
    have pc0 := Lib.hid trivial
    go_wp2_with (first
      | (clear pc0; go_at_call 20; refine Calls.mono (simplest_yesa (zl := za) (zh := zb) (dl := da) (dh := db) Za.out.in_ (Nin.of_rd Na.out) Zb.out.in_ (Nin.of_rd Nb.out) LZa.out LDa.out LZb.out LDb.out CZa.out CDa.out CZb.out CDb.out HC.out) ?_; rintro e w9 ⟨x1, y1, s1, _, P1, c1, Q1, k1, rfl, q1, q2, hb⟩; replace Za := Lib.hid (Za.out.below hb); replace Na := Lib.hid (Na.out.below hb); replace Zb := Lib.hid (Zb.out.below hb); replace Nb := Lib.hid (Nb.out.below hb); replace V4 := Lib.hid (V4.out.below hb V4.out.lt); replace V5 := Lib.hid (V5.out.below hb V5.out.lt); replace B1 := Lib.hid (B1.out.trans (hb.mono B1.out.size)); have S1 := Lib.hid s1; have Z1 := Lib.hid q1; have N1 := Lib.hid q2; clear s1 q1 q2; clear hb; have pc1 := Lib.hid trivial)
      | (clear pc1; have hb : Below w9.heap.size w9 (w9.alloc (.cells #[.bool (decide (x1 < 0)), .slice P1 (ofv x1.natAbs).length c1, .slice Q1 (ofv y1).length k1] 26)) := ((Below.refl _ _).alloc (by first | exact Nat.le_refl _ | (simp; done) | (simp; omega)) _); replace Za := Lib.hid (Za.out.below hb); replace Na := Lib.hid (Na.out.below hb); replace Zb := Lib.hid (Zb.out.below hb); replace Nb := Lib.hid (Nb.out.below hb); replace V4 := Lib.hid (V4.out.below hb V4.out.lt); replace V5 := Lib.hid (V5.out.below hb V5.out.lt); replace Z1 := Lib.hid (Z1.out.below hb); replace N1 := Lib.hid (N1.out.below hb); replace B1 := Lib.hid (B1.out.trans (hb.mono B1.out.size)); have V6 : Hid (Rb (w9.alloc (.cells #[.bool (decide (x1 < 0)), .slice P1 (ofv x1.natAbs).length c1, .slice Q1 (ofv y1).length k1] 26)) (w9.heap.size) (decide (x1 < 0)) P1 (ofv x1.natAbs).length c1 Q1 (ofv y1).length k1) := (by have h := (Rb.new w9 (decide (x1 < 0)) P1 (ofv x1.natAbs).length c1 Q1 (ofv y1).length k1); (try simp only [World.size_alloc] at h); exact h); clear hb; generalize (w9.alloc (.cells #[.bool (decide (x1 < 0)), .slice P1 (ofv x1.natAbs).length c1, .slice Q1 (ofv y1).length k1] 26)) = w10 at *; generalize w9.heap.size = h6 at *; refine wpList_ldR (by rfl) _ rfl (by rfl) V4.out ?_; have pc2 := Lib.hid trivial)
      | (clear pc2; refine wpList_ldR (by rfl) _ rfl (by rfl) V5.out ?_; have pc3 := Lib.hid trivial)
      | (clear pc3; go_at_call 21; refine Calls.mono (rsimplest_yes (zl := za) (zh := zb) (dl := da) (dh := db) (r0 := 1) Za.out.in_ (Nin.of_rd Na.out) Zb.out.in_ (Nin.of_rd Nb.out) LZa.out LDa.out LZb.out LDb.out CZa.out CDa.out CZb.out CDb.out HC2.out) ?_; rintro e w11 ⟨x2, y2, s2, P2, c2, Q2, k2, rfl, q1, q2, hb⟩; replace Za := Lib.hid (Za.out.below hb); replace Na := Lib.hid (Na.out.below hb); replace Zb := Lib.hid (Zb.out.below hb); replace Nb := Lib.hid (Nb.out.below hb); replace V4 := Lib.hid (V4.out.below hb V4.out.lt); replace V5 := Lib.hid (V5.out.below hb V5.out.lt); replace Z1 := Lib.hid (Z1.out.below hb); replace N1 := Lib.hid (N1.out.below hb); replace V6 := Lib.hid (V6.out.below hb V6.out.lt); replace B1 := Lib.hid (B1.out.trans (hb.mono B1.out.size)); have S2 := Lib.hid s2; have Z2 := Lib.hid q1; have N2 := Lib.hid q2; clear s2 q1 q2; clear hb; have pc4 := Lib.hid trivial))
    clear pc4
    have hb : Below w11.heap.size w11 (w11.alloc (.cells #[.bool (decide (x2 < 0)), .slice P2 (ofv x2.natAbs).length c2, .slice Q2 (ofv y2).length k2] 26)) := ((Below.refl _ _).alloc (by first | exact Nat.le_refl _ | (simp; done) | (simp; omega)) _)
    replace Za := Lib.hid (Za.out.below hb)
    replace Na := Lib.hid (Na.out.below hb)
    replace Zb := Lib.hid (Zb.out.below hb)
    replace Nb := Lib.hid (Nb.out.below hb)
    replace V4 := Lib.hid (V4.out.below hb V4.out.lt)
    replace V5 := Lib.hid (V5.out.below hb V5.out.lt)
    replace Z1 := Lib.hid (Z1.out.below hb)
    replace N1 := Lib.hid (N1.out.below hb)
    replace V6 := Lib.hid (V6.out.below hb V6.out.lt)
    replace Z2 := Lib.hid (Z2.out.below hb)
    replace N2 := Lib.hid (N2.out.below hb)
    replace B1 := Lib.hid (B1.out.trans (hb.mono B1.out.size))
    have V8 : Hid (Rb (w11.alloc (.cells #[.bool (decide (x2 < 0)), .slice P2 (ofv x2.natAbs).length c2, .slice Q2 (ofv y2).length k2] 26)) (w11.heap.size) (decide (x2 < 0)) P2 (ofv x2.natAbs).length c2 Q2 (ofv y2).length k2) := (by have h := (Rb.new w11 (decide (x2 < 0)) P2 (ofv x2.natAbs).length c2 Q2 (ofv y2).length k2); (try simp only [World.size_alloc] at h); exact h)
    clear hb
    generalize (w11.alloc (.cells #[.bool (decide (x2 < 0)), .slice P2 (ofv x2.natAbs).length c2, .slice Q2 (ofv y2).length k2] 26)) = w12 at *
    generalize w11.heap.size = h8 at *
    have un := S1.out.uniq S2.out (by have := PD.out; omega) (by have := PD.out; omega)
    have EQ : Hid (x1 = x2 ∧ y1 = y2) := by show _ ∧ _; omega
    clear un
    have pc0 := Lib.hid trivial
    go_wp2_with (first
      | (clear pc0; go_at_call 14; refine Calls.mono (awake5_any _) ?_; rintro e w13 ⟨rfl, hb⟩; replace Za := Lib.hid (Za.out.below hb); replace Na := Lib.hid (Na.out.below hb); replace Zb := Lib.hid (Zb.out.below hb); replace Nb := Lib.hid (Nb.out.below hb); replace V4 := Lib.hid (V4.out.below hb V4.out.lt); replace V5 := Lib.hid (V5.out.below hb V5.out.lt); replace Z1 := Lib.hid (Z1.out.below hb); replace N1 := Lib.hid (N1.out.below hb); replace V6 := Lib.hid (V6.out.below hb V6.out.lt); replace Z2 := Lib.hid (Z2.out.below hb); replace N2 := Lib.hid (N2.out.below hb); replace V8 := Lib.hid (V8.out.below hb V8.out.lt); replace B1 := Lib.hid (B1.out.trans (hb.mono B1.out.size)); clear hb; have pc1 := Lib.hid trivial)
      | (clear pc1; refine wpList_ldR (by rfl) _ rfl (by rfl) V6.out ?_; have pc2 := Lib.hid trivial)
      | (clear pc2; refine wpList_ldR (by rfl) _ rfl (by rfl) V8.out ?_; have pc3 := Lib.hid trivial)
      | (clear pc3; go_at_call 15; refine Calls.mono (r3equal_any (b := true) Z1.out Z2.out N1.out N2.out (by simpa using EQ.out)) ?_; rintro e w14 ⟨rfl, hb⟩; replace Za := Lib.hid (Za.out.below hb); replace Na := Lib.hid (Na.out.below hb); replace Zb := Lib.hid (Zb.out.below hb); replace Nb := Lib.hid (Nb.out.below hb); replace V4 := Lib.hid (V4.out.below hb V4.out.lt); replace V5 := Lib.hid (V5.out.below hb V5.out.lt); replace Z1 := Lib.hid (Z1.out.below hb); replace N1 := Lib.hid (N1.out.below hb); replace V6 := Lib.hid (V6.out.below hb V6.out.lt); replace Z2 := Lib.hid (Z2.out.below hb); replace N2 := Lib.hid (N2.out.below hb); replace V8 := Lib.hid (V8.out.below hb V8.out.lt); replace B1 := Lib.hid (B1.out.trans (hb.mono B1.out.size)); clear hb; have pc4 := Lib.hid trivial))
    clear pc4
    go_ret
    exact ⟨rfl, B1.out⟩
  · have HC := Lib.hid hc
    have HC2 : Hid (sgR (mkRat za da - mkRat zb db) = -((0 : Nat) : Int)) := by show _ = _; rw [hc]; rfl
    clear hc
    have pc0 := Lib.hid trivial
    go_wp2_with (first
      | (clear pc0; go_at_call 20; refine Calls.mono (simplest_yesb (zl := za) (zh := zb) (dl := da) (dh := db) Za.out.in_ (Nin.of_rd Na.out) Zb.out.in_ (Nin.of_rd Nb.out) LZa.out LDa.out LZb.out LDb.out CZa.out CDa.out CZb.out CDb.out HC.out) ?_; rintro e w15 ⟨x1, y1, s1, _, P1, c1, Q1, k1, rfl, q1, q2, hb⟩; replace Za := Lib.hid (Za.out.below hb); replace Na := Lib.hid (Na.out.below hb); replace Zb := Lib.hid (Zb.out.below hb); replace Nb := Lib.hid (Nb.out.below hb); replace V4 := Lib.hid (V4.out.below hb V4.out.lt); replace V5 := Lib.hid (V5.out.below hb V5.out.lt); replace B1 := Lib.hid (B1.out.trans (hb.mono B1.out.size)); have S1 := Lib.hid s1; have Z1 := Lib.hid q1; have N1 := Lib.hid q2; clear s1 q1 q2; clear hb; have pc1 := Lib.hid trivial)
      | (clear pc1; have hb : Below w15.heap.size w15 (w15.alloc (.cells #[.bool (decide (x1 < 0)), .slice P1 (ofv x1.natAbs).length c1, .slice Q1 (ofv y1).length k1] 26)) := ((Below.refl _ _).alloc (by first | exact Nat.le_refl _ | (simp; done) | (simp; omega)) _); replace Za := Lib.hid (Za.out.below hb); replace Na := Lib.hid (Na.out.below hb); replace Zb := Lib.hid (Zb.out.below hb); replace Nb := Lib.hid (Nb.out.below hb); replace V4 := Lib.hid (V4.out.below hb V4.out.lt); replace V5 := Lib.hid (V5.out.below hb V5.out.lt); replace Z1 := Lib.hid (Z1.out.below hb); replace N1 := Lib.hid (N1.out.below hb); replace B1 := Lib.hid (B1.out.trans (hb.mono B1.out.size)); have V6 : Hid (Rb (w15.alloc (.cells #[.bool (decide (x1 < 0)), .slice P1 (ofv x1.natAbs).length c1, .slice Q1 (ofv y1).length k1] 26)) (w15.heap.size) (decide (x1 < 0)) P1 (ofv x1.natAbs).length c1 Q1 (ofv y1).length k1) := (by have h := (Rb.new w15 (decide (x1 < 0)) P1 (ofv x1.natAbs).length c1 Q1 (ofv y1).length k1); (try simp only [World.size_alloc] at h); exact h); clear hb; generalize (w15.alloc (.cells #[.bool (decide (x1 < 0)), .slice P1 (ofv x1.natAbs).length c1, .slice Q1 (ofv y1).length k1] 26)) = w16 at *; generalize w15.heap.size = h6 at *; refine wpList_ldR (by rfl) _ rfl (by rfl) V4.out ?_; have pc2 := Lib.hid trivial)
      | (clear pc2; refine wpList_ldR (by rfl) _ rfl (by rfl) V5.out ?_; have pc3 := Lib.hid trivial)
      | (clear pc3; go_at_call 21; refine Calls.mono (rsimplest_yes (zl := za) (zh := zb) (dl := da) (dh := db) (r0 := 0) Za.out.in_ (Nin.of_rd Na.out) Zb.out.in_ (Nin.of_rd Nb.out) LZa.out LDa.out LZb.out LDb.out CZa.out CDa.out CZb.out CDb.out HC2.out) ?_; rintro e w17 ⟨x2, y2, s2, P2, c2, Q2, k2, rfl, q1, q2, hb⟩; replace Za := Lib.hid (Za.out.below hb); replace Na := Lib.hid (Na.out.below hb); replace Zb := Lib.hid (Zb.out.below hb); replace Nb := Lib.hid (Nb.out.below hb); replace V4 := Lib.hid (V4.out.below hb V4.out.lt); replace V5 := Lib.hid (V5.out.below hb V5.out.lt); replace Z1 := Lib.hid (Z1.out.below hb); replace N1 := Lib.hid (N1.out.below hb); replace V6 := Lib.hid (V6.out.below hb V6.out.lt); replace B1 := Lib.hid (B1.out.trans (hb.mono B1.out.size)); have S2 := Lib.hid s2; have Z2 := Lib.hid q1; have N2 := Lib.hid q2; clear s2 q1 q2; clear hb; have pc4 := Lib.hid trivial))
    clear pc4
    have hb : Below w17.heap.size w17 (w17.alloc (.cells #[.bool (decide (x2 < 0)), .slice P2 (ofv x2.natAbs).length c2, .slice Q2 (ofv y2).length k2] 26)) := ((Below.refl _ _).alloc (by first | exact Nat.le_refl _ | (simp; done) | (simp; omega)) _)
    replace Za := Lib.hid (Za.out.below hb)
    replace Na := Lib.hid (Na.out.below hb)
    replace Zb := Lib.hid (Zb.out.below hb)
    replace Nb := Lib.hid (Nb.out.below hb)
    replace V4 := Lib.hid (V4.out.below hb V4.out.lt)
    replace V5 := Lib.hid (V5.out.below hb V5.out.lt)
    replace Z1 := Lib.hid (Z1.out.below hb)
    replace N1 := Lib.hid (N1.out.below hb)
    replace V6 := Lib.hid (V6.out.below hb V6.out.lt)
    replace Z2 := Lib.hid (Z2.out.below hb)
    replace N2 := Lib.hid (N2.out.below hb)
    replace B1 := Lib.hid (B1.out.trans (hb.mono B1.out.size))
    have V8 : Hid (Rb (w17.alloc (.cells #[.bool (decide (x2 < 0)), .slice P2 (ofv x2.natAbs).length c2, .slice Q2 (ofv y2).length k2] 26)) (w17.heap.size) (decide (x2 < 0)) P2 (ofv x2.natAbs).length c2 Q2 (ofv y2).length k2) := (by have h := (Rb.new w17 (decide (x2 < 0)) P2 (ofv x2.natAbs).length c2 Q2 (ofv y2).length k2); (try simp only [World.size_alloc] at h); exact h)
    clear hb
    generalize (w17.alloc (.cells #[.bool (decide (x2 < 0)), .slice P2 (ofv x2.natAbs).length c2, .slice Q2 (ofv y2).length k2] 26)) = w18 at *
    generalize w17.heap.size = h8 at *
    have un := S1.out.uniq S2.out (by have := PD.out; omega) (by have := PD.out; omega)
    have EQ : Hid (x1 = x2 ∧ y1 = y2) := by show _ ∧ _; omega
    clear un
    have pc0 := Lib.hid trivial
    go_wp2_with (first
      | (clear pc0; go_at_call 14; refine Calls.mono (awake5_any _) ?_; rintro e w19 ⟨rfl, hb⟩; replace Za := Lib.hid (Za.out.below hb); replace Na := Lib.hid (Na.out.below hb); replace Zb := Lib.hid (Zb.out.below hb); replace Nb := Lib.hid (Nb.out.below hb); replace V4 := Lib.hid (V4.out.below hb V4.out.lt); replace V5 := Lib.hid (V5.out.below hb V5.out.lt); replace Z1 := Lib.hid (Z1.out.below hb); replace N1 := Lib.hid (N1.out.below hb); replace V6 := Lib.hid (V6.out.below hb V6.out.lt); replace Z2 := Lib.hid (Z2.out.below hb); replace N2 := Lib.hid (N2.out.below hb); replace V8 := Lib.hid (V8.out.below hb V8.out.lt); replace B1 := Lib.hid (B1.out.trans (hb.mono B1.out.size)); clear hb; have pc1 := Lib.hid trivial)
      | (clear pc1; refine wpList_ldR (by rfl) _ rfl (by rfl) V6.out ?_; have pc2 := Lib.hid trivial)
      | (clear pc2; refine wpList_ldR (by rfl) _ rfl (by rfl) V8.out ?_; have pc3 := Lib.hid trivial)
      | (clear pc3; go_at_call 15; refine Calls.mono (r3equal_any (b := true) Z1.out Z2.out N1.out N2.out (by simpa using EQ.out)) ?_; rintro e w20 ⟨rfl, hb⟩; replace Za := Lib.hid (Za.out.below hb); replace Na := Lib.hid (Na.out.below hb); replace Zb := Lib.hid (Zb.out.below hb); replace Nb := Lib.hid (Nb.out.below hb); replace V4 := Lib.hid (V4.out.below hb V4.out.lt); replace V5 := Lib.hid (V5.out.below hb V5.out.lt); replace Z1 := Lib.hid (Z1.out.below hb); replace N1 := Lib.hid (N1.out.below hb); replace V6 := Lib.hid (V6.out.below hb V6.out.lt); replace Z2 := Lib.hid (Z2.out.below hb); replace N2 := Lib.hid (N2.out.below hb); replace V8 := Lib.hid (V8.out.below hb V8.out.lt); replace B1 := Lib.hid (B1.out.trans (hb.mono B1.out.size)); clear hb; have pc4 := Lib.hid trivial))
    clear pc4
    go_ret
    exact ⟨rfl, B1.out⟩
  · have HC := Lib.hid hc
    clear hc
    have pc0 := Lib.hid trivial
    go_wp2_with (first
      | (clear pc0; go_at_call 20; refine Calls.mono (simplest_no Za.out.in_ (Nin.of_rd Na.out) Zb.out.in_ (Nin.of_rd Nb.out) LZa.out LDa.out LZb.out LDb.out HC.out) ?_; rintro e w21 ⟨rfl, hb⟩; replace Za := Lib.hid (Za.out.below hb); replace Na := Lib.hid (Na.out.below hb); replace Zb := Lib.hid (Zb.out.below hb); replace Nb := Lib.hid (Nb.out.below hb); replace V4 := Lib.hid (V4.out.below hb V4.out.lt); replace V5 := Lib.hid (V5.out.below hb V5.out.lt); replace B1 := Lib.hid (B1.out.trans (hb.mono B1.out.size)); clear hb; have pc1 := Lib.hid trivial)
      | (clear pc1; have hb : Below w21.heap.size w21 (w21.alloc (.cells #[.bool false, .slice none 0 0, .slice none 0 0] 26)) := ((Below.refl _ _).alloc (by first | exact Nat.le_refl _ | (simp; done) | (simp; omega)) _); replace Za := Lib.hid (Za.out.below hb); replace Na := Lib.hid (Na.out.below hb); replace Zb := Lib.hid (Zb.out.below hb); replace Nb := Lib.hid (Nb.out.below hb); replace V4 := Lib.hid (V4.out.below hb V4.out.lt); replace V5 := Lib.hid (V5.out.below hb V5.out.lt); replace B1 := Lib.hid (B1.out.trans (hb.mono B1.out.size)); have V6 : Hid (Rb (w21.alloc (.cells #[.bool false, .slice none 0 0, .slice none 0 0] 26)) (w21.heap.size) false none 0 0 none 0 0) := (by have h := (Rb.new w21 false none 0 0 none 0 0); (try simp only [World.size_alloc] at h); exact h); clear hb; generalize (w21.alloc (.cells #[.bool false, .slice none 0 0, .slice none 0 0] 26)) = w22 at *; generalize w21.heap.size = h6 at *; refine wpList_ldR (by rfl) _ rfl (by rfl) V4.out ?_; have pc2 := Lib.hid trivial)
      | (clear pc2; refine wpList_ldR (by rfl) _ rfl (by rfl) V5.out ?_; have pc3 := Lib.hid trivial)
      | (clear pc3; go_at_call 21; refine Calls.mono (rsimplest_no Za.out.in_ (Nin.of_rd Na.out) Zb.out.in_ (Nin.of_rd Nb.out) LZa.out LDa.out LZb.out LDb.out HC.out) ?_; rintro e w23 ⟨rfl, hb⟩; replace Za := Lib.hid (Za.out.below hb); replace Na := Lib.hid (Na.out.below hb); replace Zb := Lib.hid (Zb.out.below hb); replace Nb := Lib.hid (Nb.out.below hb); replace V4 := Lib.hid (V4.out.below hb V4.out.lt); replace V5 := Lib.hid (V5.out.below hb V5.out.lt); replace V6 := Lib.hid (V6.out.below hb V6.out.lt); replace B1 := Lib.hid (B1.out.trans (hb.mono B1.out.size)); clear hb; have pc4 := Lib.hid trivial))
    clear pc4
    have hb : Below w23.heap.size w23 (w23.alloc (.cells #[.bool false, .slice none 0 0, .slice none 0 0] 26)) := ((Below.refl _ _).alloc (by first | exact Nat.le_refl _ | (simp; done) | (simp; omega)) _)
    replace Za := Lib.hid (Za.out.below hb)
    replace Na := Lib.hid (Na.out.below hb)
    replace Zb := Lib.hid (Zb.out.below hb)
    replace Nb := Lib.hid (Nb.out.below hb)
    replace V4 := Lib.hid (V4.out.below hb V4.out.lt)
    replace V5 := Lib.hid (V5.out.below hb V5.out.lt)
    replace V6 := Lib.hid (V6.out.below hb V6.out.lt)
    replace B1 := Lib.hid (B1.out.trans (hb.mono B1.out.size))
    have V8 : Hid (Rb (w23.alloc (.cells #[.bool false, .slice none 0 0, .slice none 0 0] 26)) (w23.heap.size) false none 0 0 none 0 0) := (by have h := (Rb.new w23 false none 0 0 none 0 0); (try simp only [World.size_alloc] at h); exact h)
    clear hb
    generalize (w23.alloc (.cells #[.bool false, .slice none 0 0, .slice none 0 0] 26)) = w24 at *
    generalize w23.heap.size = h8 at *
    have pc0 := Lib.hid trivial
    go_wp2_with (first
      | (clear pc0; go_at_call 14; refine Calls.mono (awake5_any _) ?_; rintro e w25 ⟨rfl, hb⟩; replace Za := Lib.hid (Za.out.below hb); replace Na := Lib.hid (Na.out.below hb); replace Zb := Lib.hid (Zb.out.below hb); replace Nb := Lib.hid (Nb.out.below hb); replace V4 := Lib.hid (V4.out.below hb V4.out.lt); replace V5 := Lib.hid (V5.out.below hb V5.out.lt); replace V6 := Lib.hid (V6.out.below hb V6.out.lt); replace V8 := Lib.hid (V8.out.below hb V8.out.lt); replace B1 := Lib.hid (B1.out.trans (hb.mono B1.out.size)); clear hb; have pc1 := Lib.hid trivial)
      | (clear pc1; refine wpList_ldR (by rfl) _ rfl (by rfl) V6.out ?_; have pc2 := Lib.hid trivial)
      | (clear pc2; refine wpList_ldR (by rfl) _ rfl (by rfl) V8.out ?_; have pc3 := Lib.hid trivial)
      | (clear pc3; go_at_call 15; refine Calls.mono (requal_zero _) ?_; rintro e w26 ⟨rfl, hb⟩; replace Za := Lib.hid (Za.out.below hb); replace Na := Lib.hid (Na.out.below hb); replace Zb := Lib.hid (Zb.out.below hb); replace Nb := Lib.hid (Nb.out.below hb); replace V4 := Lib.hid (V4.out.below hb V4.out.lt); replace V5 := Lib.hid (V5.out.below hb V5.out.lt); replace V6 := Lib.hid (V6.out.below hb V6.out.lt); replace V8 := Lib.hid (V8.out.below hb V8.out.lt); replace B1 := Lib.hid (B1.out.trans (hb.mono B1.out.size)); clear hb; have pc4 := Lib.hid trivial))
    clear pc4
    go_ret
    exact ⟨rfl, B1.out⟩
end Go.Proofs.YtfmgbfdnmconiaaGreat
