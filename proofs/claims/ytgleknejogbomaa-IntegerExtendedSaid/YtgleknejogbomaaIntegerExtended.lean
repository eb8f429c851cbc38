/-
  The walk of the law IntegerExtended: GCD returns the specified divisor, and Extended expresses it by both numbers with bounded factors.
-/
import Derived.Test.YtgleknejogbomaaZbez
namespace Go.Proofs.Ytgleknejogbomaa
open Go.RowKit
set_option linter.unusedVariables false

set_option maxRecDepth 100000 in
set_option maxHeartbeats 16000000 in
theorem integerExtended_walk (s : Bool) (A : Option Addr) (n c : Nat) (x : Int) (t : Bool) (B : Option Addr) (m d : Nat) (y : Int) (w : World) (h : Zin w s A n c x) (hn : n ≤ 35184372087808) (h' : Zin w t B m d y) (hm : m ≤ 35184372087808) :
    Calls Try.prog 3 #[.agg #[.bool s, .slice A n c], .agg #[.bool t, .slice B m d]] w fun e w' => e = .returned (.bool true) ∧ Below w.heap.size w w' := by
  obtain ⟨B1, V0, V1⟩ := begin2 w s A n c t B m d
  have HX := Lib.hid (h.below B1.out)
  have HY := Lib.hid (h'.below B1.out)
  obtain ⟨gz, eg⟩ : ∃ z : Int, ((Int.gcd x y : Nat) : Int) = z := ⟨_, rfl⟩
  have EG := Lib.hid eg
  have LN := Lib.hid hn
  have LM := Lib.hid hm
  have LN3 : Hid (n ≤ 70368744177663) := by show _ ≤ _; omega
  have LM3 : Hid (m ≤ 70368744177663) := by show _ ≤ _; omega
  have LN7 : Hid (n ≤ 70368744177000) := by show _ ≤ _; omega
  have LM7 : Hid (m ≤ 70368744177000) := by show _ ≤ _; omega
  clear h h' hn hm eg
  go_enter Try.func3, Try.ntmps3
  go_wp2_with fail
  generalize ((w.alloc (.cells #[.bool s, .slice A n c] 24)).alloc (.cells #[.bool t, .slice B m d] 24)) = w2 at *
  have pc0 := Lib.hid trivial
  go_wp2_with (first
    | (clear pc0; go_at_call 12; refine Calls.mono (ext_any HX.out LN.out HY.out LM.out) ?_; rintro e w3 ⟨g, u, v, ok, G, cg, U, cu, V, cv, rfl, ho, ho2, ho3, hb⟩; replace V0 := Lib.hid (V0.out.below hb V0.out.lt); replace V1 := Lib.hid (V1.out.below hb V1.out.lt); replace HX := Lib.hid (HX.out.below hb); replace HY := Lib.hid (HY.out.below hb); replace B1 := Lib.hid (B1.out.trans (hb.mono B1.out.size)); have ZG := Lib.hid (Zo.of_own ho); have ZU := Lib.hid (Zo.of_own ho2); have ZV := Lib.hid (Zo.of_own ho3); have OKK := Lib.hid ok; clear ho ho2 ho3 ok; clear hb; have pc1 := Lib.hid trivial))
  clear pc1
  obtain ⟨hb, U1, U2, U3⟩ := begin3 w3 (decide (g < 0)) G (ofv g.natAbs).length cg (decide (u < 0)) U (ofv u.natAbs).length cu (decide (v < 0)) V (ofv v.natAbs).length cv
  generalize hg : w3.heap.size = gU at U1 U2 U3 ⊢
  generalize (((w3.alloc (.cells #[.bool (decide (g < 0)), .slice G (ofv g.natAbs).length cg] 24)).alloc (.cells #[.bool (decide (u < 0)), .slice U (ofv u.natAbs).length cu] 24)).alloc (.cells #[.bool (decide (v < 0)), .slice V (ofv v.natAbs).length cv] 24)) = w4 at *
  replace hb := hb.out
  replace V0 := Lib.hid (V0.out.below hb V0.out.lt)
  replace V1 := Lib.hid (V1.out.below hb V1.out.lt)
  replace HX := Lib.hid (HX.out.below hb)
  replace HY := Lib.hid (HY.out.below hb)
  replace ZG := Lib.hid (ZG.out.below hb)
  replace ZU := Lib.hid (ZU.out.below hb)
  replace ZV := Lib.hid (ZV.out.below hb)
  replace B1 := Lib.hid (B1.out.trans (hb.mono B1.out.size))
  clear hb hg
  have HB : Hid (Below w4.heap.size w4 w4.drew) := below_drewN _ w4 1
  refine wp_region_held_drew (S := fun w' => Below w4.heap.size w4 w') (by kernel_rfl) (HB.out) (fun hHeld => ?_)
  refine wpAnyH_ready (rs := [0]) (by kernel_rfl) (by simp) ?_
  refine AllReadyH.consL (o := _) rfl (fun K hK => ?_) AllReadyH.nil
  clear hHeld
  go_simp
  go_at_call 13
  refine Calls.mono (zawake_any _) ?_
  rintro e wa ⟨rfl, hb⟩
  replace HB := Lib.hid (HB.out.trans (hb.mono HB.out.size))
  clear hb
  refine hK.out _ _ HB.out (fun hHeld => ?_)
  clear hK K
  try simp only [Act.put, List.setIfInBounds_toArray, List.set_cons_zero, List.set_cons_succ]
  refine wpAnyH_takeL (i := 1) (oi := _) (v := ?_) rfl (by kernel_rfl) (by kernel_rfl) (by kernel_rfl) (fun _ _ _ h => h) (Or.inl ⟨by rfl, ?_⟩) hHeld ?_
  rotate_left
  · (intro w' hSw; (try dsimp only at hSw); go_simp; try (with_reducible rfl))
  try simp only [Act.put, List.setIfInBounds_toArray, List.set_cons_zero, List.set_cons_succ]
  refine wpAnyH_takeL (i := 2) (oi := _) rfl (by kernel_rfl) (by kernel_rfl) (by kernel_rfl) (fun _ _ _ h => h) (yields_ldZ (by rfl) _ rfl (by rfl) (fun _ hb => V0.out.below hb V0.out.lt)) hHeld ?_
  try simp only [Act.put, List.setIfInBounds_toArray, List.set_cons_zero, List.set_cons_succ]
  refine wpAnyH_takeL (i := 3) (oi := _) rfl (by kernel_rfl) (by kernel_rfl) (by kernel_rfl) (fun _ _ _ h => h) (yields_ldZ (by rfl) _ rfl (by rfl) (fun _ hb => V1.out.below hb V1.out.lt)) hHeld ?_
  try simp only [Act.put, List.setIfInBounds_toArray, List.set_cons_zero, List.set_cons_succ]
  refine wpAnyH_takeL (i := 5) (oi := _) rfl (by kernel_rfl) (by kernel_rfl) (by kernel_rfl) (fun _ _ _ h => h) (yields_ldZ (by rfl) _ rfl (by rfl) (fun _ hb => V0.out.below hb V0.out.lt)) hHeld ?_
  try simp only [Act.put, List.setIfInBounds_toArray, List.set_cons_zero, List.set_cons_succ]
  refine wpAnyH_takeL (i := 6) (oi := _) rfl (by kernel_rfl) (by kernel_rfl) (by kernel_rfl) (fun _ _ _ h => h) (yields_ldZ (by rfl) _ rfl (by rfl) (fun _ hb => V1.out.below hb V1.out.lt)) hHeld ?_
  try simp only [Act.put, List.setIfInBounds_toArray, List.set_cons_zero, List.set_cons_succ]
  refine wpAnyH_ready (rs := [4]) (by kernel_rfl) (by simp) ?_
  refine AllReadyH.consL (o := _) rfl (fun K hK => ?_) AllReadyH.nil
  clear hHeld
  go_simp
  go_at_call 15
  refine Calls.mono (gcd_z (x := x) (y := y) (z := gz) (HX.out.below HB.out) (HY.out.below HB.out) LN3.out LM3.out EG.out) ?_
  rintro e wb ⟨P1, cP1, rfl, ho, hb⟩
  replace HB := Lib.hid (HB.out.trans (hb.mono HB.out.size))
  have ZP1 := Lib.hid (Zo.of_own ho)
  clear ho
  clear hb
  refine hK.out _ _ HB.out (fun hHeld => ?_)
  clear hK K
  try simp only [Act.put, List.setIfInBounds_toArray, List.set_cons_zero, List.set_cons_succ]
  refine wpAnyH_ready (rs := [7]) (by kernel_rfl) (by simp) ?_
  refine AllReadyH.consL (o := _) rfl (fun K hK => ?_) AllReadyH.nil
  clear hHeld
  go_simp
  go_at_call 16
  refine Calls.mono (rgcd_z (x := x) (y := y) (z := gz) (HX.out.below HB.out) (HY.out.below HB.out) LN7.out LM7.out EG.out) ?_
  rintro e wc ⟨P2, cP2, rfl, ho, hb⟩
  replace HB := Lib.hid (HB.out.trans (hb.mono HB.out.size))
  replace ZP1 := Lib.hid (ZP1.out.below hb)
  have ZP2 := Lib.hid (Zo.of_own ho)
  clear ho
  clear hb
  refine hK.out _ _ HB.out (fun hHeld => ?_)
  clear hK K
  try simp only [Act.put, List.setIfInBounds_toArray, List.set_cons_zero, List.set_cons_succ]
  refine wpAnyH_ready (rs := [8]) (by kernel_rfl) (by simp) ?_
  refine AllReadyH.consL (o := _) rfl (fun K hK => ?_) AllReadyH.nil
  clear hHeld
  go_simp
  go_at_call 14
  refine Calls.mono (requal_z (z := gz) ZP1.out ZP2.out) ?_
  rintro e wd ⟨rfl, hb⟩
  replace HB := Lib.hid (HB.out.trans (hb.mono HB.out.size))
  clear hb
  refine hK.out _ _ HB.out (fun hHeld => ?_)
  clear hK K
  try simp only [Act.put, List.setIfInBounds_toArray, List.set_cons_zero, List.set_cons_succ]
  refine wpAnyH_takeL (i := 9) (oi := _) (v := ?_) rfl (by kernel_rfl) (by kernel_rfl) (by kernel_rfl) (fun _ _ _ h => h) (Or.inl ⟨by rfl, ?_⟩) hHeld ?_
  rotate_left
  · (intro w' hSw; (try dsimp only at hSw); go_simp; try (with_reducible rfl))
  try simp only [Act.put, List.setIfInBounds_toArray, List.set_cons_zero, List.set_cons_succ]
  refine wpAnyH_takeL (i := 10) (oi := _) (v := ?_) rfl (by kernel_rfl) (by kernel_rfl) (by kernel_rfl) (fun _ _ _ h => h) (Or.inl ⟨by rfl, ?_⟩) hHeld ?_
  rotate_left
  · (intro w' hSw; (try dsimp only at hSw); go_simp; try (with_reducible rfl))
  try simp only [Act.put, List.setIfInBounds_toArray, List.set_cons_zero, List.set_cons_succ]
  refine wpAnyH_takeL (i := 11) (oi := _) rfl (by kernel_rfl) (by kernel_rfl) (by kernel_rfl) (fun _ _ _ h => h) (yields_ldZ (by rfl) _ rfl (by rfl) (fun _ hb => V0.out.below hb V0.out.lt)) hHeld ?_
  try simp only [Act.put, List.setIfInBounds_toArray, List.set_cons_zero, List.set_cons_succ]
  refine wpAnyH_takeL (i := 12) (oi := _) rfl (by kernel_rfl) (by kernel_rfl) (by kernel_rfl) (fun _ _ _ h => h) (yields_ldZ (by rfl) _ rfl (by rfl) (fun _ hb => V1.out.below hb V1.out.lt)) hHeld ?_
  try simp only [Act.put, List.setIfInBounds_toArray, List.set_cons_zero, List.set_cons_succ]
  refine wpAnyH_takeL (i := 13) (oi := _) rfl (by kernel_rfl) (by kernel_rfl) (by kernel_rfl) (fun _ _ _ h => h) (yields_ldZ (by rfl) _ rfl (by rfl) (fun _ hb => U1.out.below hb U1.out.lt)) hHeld ?_
  try simp only [Act.put, List.setIfInBounds_toArray, List.set_cons_zero, List.set_cons_succ]
  refine wpAnyH_takeL (i := 14) (oi := _) rfl (by kernel_rfl) (by kernel_rfl) (by kernel_rfl) (fun _ _ _ h => h) (yields_ldZ (by rfl) _ rfl (by rfl) (fun _ hb => U2.out.below hb U2.out.lt)) hHeld ?_
  try simp only [Act.put, List.setIfInBounds_toArray, List.set_cons_zero, List.set_cons_succ]
  refine wpAnyH_takeL (i := 15) (oi := _) rfl (by kernel_rfl) (by kernel_rfl) (by kernel_rfl) (fun _ _ _ h => h) (yields_ldZ (by rfl) _ rfl (by rfl) (fun _ hb => U3.out.below hb U3.out.lt)) hHeld ?_
  try simp only [Act.put, List.setIfInBounds_toArray, List.set_cons_zero, List.set_cons_succ]
  refine wpAnyH_ready (rs := [16]) (by kernel_rfl) (by simp) ?_
  refine AllReadyH.consL (o := _) rfl (fun K hK => ?_) AllReadyH.nil
  clear hHeld
  go_simp
  go_at_call 17
  refine Calls.mono (bez_any (x := x) (y := y) (HX.out.below HB.out) LN.out (HY.out.below HB.out) LM.out (ZG.out.below HB.out) (ZU.out.below HB.out) (ZV.out.below HB.out) OKK.out) ?_
  rintro e we ⟨rfl, hb⟩
  replace HB := Lib.hid (HB.out.trans (hb.mono HB.out.size))
  clear hb
  refine hK.out _ _ HB.out (fun hHeld => ?_)
  clear hK K
  try simp only [Act.put, List.setIfInBounds_toArray, List.set_cons_zero, List.set_cons_succ]
  refine wpAnyH_takeL (i := 17) (oi := _) (v := ?_) rfl (by kernel_rfl) (by kernel_rfl) (by kernel_rfl) (fun _ _ _ h => h) (Or.inl ⟨by rfl, ?_⟩) hHeld ?_
  rotate_left
  · (intro w' hSw; (try dsimp only at hSw); go_simp; try (with_reducible rfl))
  try simp only [Act.put, List.setIfInBounds_toArray, List.set_cons_zero, List.set_cons_succ]
  refine wpAnyH_takeL (i := 18) (oi := _) (v := ?_) rfl (by kernel_rfl) (by kernel_rfl) (by kernel_rfl) (fun _ _ _ h => h) (Or.inl ⟨by rfl, ?_⟩) hHeld ?_
  rotate_left
  · (intro w' hSw; (try dsimp only at hSw); go_simp; try (with_reducible rfl))
  try simp only [Act.put, List.setIfInBounds_toArray, List.set_cons_zero, List.set_cons_succ]
  skip
  refine wpAnyH_done (by kernel_rfl) ?_ _
  have hb := HB.out
  replace B1 := Lib.hid (B1.out.trans (hb.mono B1.out.size))
  clear hHeld hb HB
  go_wp2
  go_ret
  exact ⟨rfl, B1.out⟩
end Go.Proofs.Ytgleknejogbomaa
