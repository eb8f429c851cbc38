/-
  Contracts of the reference's package 3: Sub, Div, Compare, Canonical, Size.
-/
import Derived.Test.YtfacndibfkamgaaGreatRreg
namespace Go.Proofs.YtfacndibfkamgaaGreat
open Go.RowKit
set_option linter.unusedVariables false

set_option maxRecDepth 100000 in
set_option maxHeartbeats 16000000 in
theorem r3canonical_any {P D : Option Addr} {c m : Nat} {z : Int} {d : Nat} {w : World} (h : Zo w P c z) (hp : Rd w D m (ofv d)) (hn : (ofv z.natAbs).length ≤ 35184372087808) (hm : (ofv d).length ≤ 35184372087808) (hz : (mkRat z d).num = z) (hd : (mkRat z d).den = d) :
    Calls Tryz.prog 51 #[.agg #[.bool (decide (z < 0)), .slice P (ofv z.natAbs).length c, .slice D (ofv d).length m]] w fun e w' => e = .returned (.bool true) ∧ Below w.heap.size w w' := by
  obtain ⟨B1, V0⟩ := start_R w (decide (z < 0)) P (ofv z.natAbs).length c D (ofv d).length m
  have HX := Lib.hid (h.below B1.out)
  have HP := Lib.hid (hp.below B1.out)
  have LN := Lib.hid hn
  have LM := Lib.hid hm
  have HZ := Lib.hid hz
  have HD := Lib.hid hd
  clear h hp hn hm hz hd
  go_enter Tryz.func51, Tryz.ntmps51
  go_wp2_with fail
  generalize (w.alloc (.cells #[.bool (decide (z < 0)), .slice P (ofv z.natAbs).length c, .slice D (ofv d).length m] 29)) = w2 at *
  have HB : Hid (Below w2.heap.size w2 w2.drew) := below_drewN _ w2 1
  refine wp_region_held_drew (S := fun w' => Below w2.heap.size w2 w') (by kernel_rfl) (HB.out) (fun hHeld => ?_)
  refine wpAnyH_takeL (i := 0) (oi := _) rfl (by kernel_rfl) (by kernel_rfl) (by kernel_rfl) (fun _ _ _ h => h) (yields_ldR (by rfl) _ rfl (by rfl) (fun _ hb => V0.out.below hb V0.out.lt)) hHeld ?_
  try simp only [Act.put, List.setIfInBounds_toArray, List.set_cons_zero, List.set_cons_succ]
  refine wpAnyH_takeL (i := 1) (oi := _) rfl (by kernel_rfl) (by kernel_rfl) (by kernel_rfl) (fun _ _ _ h => h) (yields_ldR (by rfl) _ rfl (by rfl) (fun _ hb => V0.out.below hb V0.out.lt)) hHeld ?_
  try simp only [Act.put, List.setIfInBounds_toArray, List.set_cons_zero, List.set_cons_succ]
  refine wpAnyH_ready (rs := [2]) (by kernel_rfl) (by simp) ?_
  refine AllReadyH.consL (o := _) rfl (fun K hK => ?_) AllReadyH.nil
  clear hHeld
  go_simp
  go_at_call 41
  refine Calls.mono (rnorm_any (HX.out.below HB.out).in_ (Nin.of_rd (HP.out.below HB.out)) LN.out LM.out HZ.out HD.out) ?_
  rintro e wa ⟨P3, c3, P4, c4, rfl, ho, ho2, hb⟩
  replace HB := Lib.hid (HB.out.trans (hb.mono HB.out.size))
  have Z1 := Lib.hid (Zo.of_own ho)
  have Z2 := Lib.hid ho2.rd
  clear ho ho2
  clear hb
  refine hK.out _ _ HB.out (fun hHeld => ?_)
  clear hK K
  try simp only [Act.put, List.setIfInBounds_toArray, List.set_cons_zero, List.set_cons_succ]
  refine wpAnyH_ready (rs := [3]) (by kernel_rfl) (by simp) ?_
  refine AllReadyH.consL (o := _) rfl (fun K hK => ?_) AllReadyH.nil
  clear hHeld
  go_simp
  go_at_call 26
  refine Calls.mono (r3equal_any (HX.out.below HB.out) Z1.out (HP.out.below HB.out) Z2.out (b := true) (by simp)) ?_
  rintro e wb ⟨rfl, hb⟩
  replace HB := Lib.hid (HB.out.trans (hb.mono HB.out.size))
  clear hb
  refine hK.out _ _ HB.out (fun hHeld => ?_)
  clear hK K
  try simp only [Act.put, List.setIfInBounds_toArray, List.set_cons_zero, List.set_cons_succ]
  refine wpAnyH_takeL (i := 4) (oi := _) (v := ?_) rfl (by kernel_rfl) (by kernel_rfl) (by kernel_rfl) (fun _ _ _ h => h) (Or.inl ⟨by rfl, ?_⟩) hHeld ?_
  rotate_left
  · (intro w' hSw; (try dsimp only at hSw); go_simp; try (with_reducible rfl))
  try simp only [Act.put, List.setIfInBounds_toArray, List.set_cons_zero, List.set_cons_succ]
  skip
  refine wpAnyH_done (by kernel_rfl) ?_ _
  have hb := HB.out
  replace B1 := Lib.hid (B1.out.trans (hb.mono B1.out.size))
  clear hHeld hb HB
  go_wp2
  go_ret
  exact ⟨rfl, B1.out⟩
end Go.Proofs.YtfacndibfkamgaaGreat
