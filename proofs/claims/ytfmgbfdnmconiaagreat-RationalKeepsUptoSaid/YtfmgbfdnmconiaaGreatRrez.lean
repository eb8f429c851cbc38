/-
  Contracts of the reference's package 3: Sub, Div, Compare, Canonical, Size.
-/
import Derived.Test.YtfmgbfdnmconiaaGreatRreg
namespace Go.Proofs.YtfmgbfdnmconiaaGreat
open Go.RowKit
set_option linter.unusedVariables false

set_option maxRecDepth 100000 in
set_option maxHeartbeats 16000000 in
theorem r3sub_any {s t : Bool} {A D B E : Option Addr} {n c m k n2 c2 m2 k2 : Nat} {x y : Int} {p q : Nat} {w : World} (h : Zin w s A n c x) (hp : Nin w D m k p) (h' : Zin w t B n2 c2 y) (hq : Nin w E m2 k2 q) (hn : n ≤ 17592186043000) (hm : m ≤ 17592186043000) (hn2 : n2 ≤ 17592186043000) (hm2 : m2 ≤ 17592186043000) {z : Int} {d : Nat} (hz : (mkRat x p - mkRat y q).num = z) (hd : (mkRat x p - mkRat y q).den = d) :
    Calls Tryz.prog 72 #[.agg #[.bool s, .slice A n c, .slice D m k], .agg #[.bool t, .slice B n2 c2, .slice E m2 k2]] w (GivesR w z d) := by
  obtain ⟨B1, V0, V1, V2⟩ := start_RRR w s A n c D m k t B n2 c2 E m2 k2
  have HX := Lib.hid (h.below B1.out)
  have HP := Lib.hid (hp.below B1.out)
  have HY := Lib.hid (h'.below B1.out)
  have HQ := Lib.hid (hq.below B1.out)
  have LN : Hid (n ≤ 35184372087808) := Nat.le_trans hn (by decide)
  have LM : Hid (m ≤ 35184372087808) := Nat.le_trans hm (by decide)
  have LN2 : Hid (n2 ≤ 35184372087808) := Nat.le_trans hn2 (by decide)
  have LM2 : Hid (m2 ≤ 35184372087808) := Nat.le_trans hm2 (by decide)
  have KN := Lib.hid hn
  have KM := Lib.hid hm
  have KN2 := Lib.hid hn2
  have KM2 := Lib.hid hm2
  obtain ⟨z1, ez1⟩ : ∃ z0 : Int, (mkRat x p).num = z0 := ⟨_, rfl⟩
  obtain ⟨d1, ed1⟩ : ∃ z0 : Nat, (mkRat x p).den = z0 := ⟨_, rfl⟩
  obtain ⟨z2, ez2⟩ : ∃ z0 : Int, (mkRat y q).num = z0 := ⟨_, rfl⟩
  obtain ⟨d2, ed2⟩ : ∃ z0 : Nat, (mkRat y q).den = z0 := ⟨_, rfl⟩
  obtain ⟨dz1, edz1⟩ : ∃ z0 : Int, (d1 : Int) = z0 := ⟨_, rfl⟩
  obtain ⟨dz2, edz2⟩ : ∃ z0 : Int, (d2 : Int) = z0 := ⟨_, rfl⟩
  have HZ1 := Lib.hid ez1
  have HD1 := Lib.hid ed1
  have HZ2 := Lib.hid ez2
  have HD2 := Lib.hid ed2
  have ED1 : Hid (((mkRat x p).den : Int) = dz1) := by show _ = _; rw [ed1]; exact edz1
  have ED2 : Hid (((mkRat y q).den : Int) = dz2) := by show _ = _; rw [ed2]; exact edz2
  have EA : mkRat z1 d1 = mkRat x p := by rw [← ez1, ← ed1, mk_self]
  have EB : mkRat z2 d2 = mkRat y q := by rw [← ez2, ← ed2, mk_self]
  have dp1 : 0 < d1 := by rw [← ed1]; exact den_pos _
  have dp2 : 0 < d2 := by rw [← ed2]; exact den_pos _
  have l1 := canon_len (Nat.le_trans h.len hn) (Nat.le_trans hp.len hm) (by decide)
  have l2 := canon_len (Nat.le_trans h'.len hn2) (Nat.le_trans hq.len hm2) (by decide)
  rw [ez1, ed1] at l1
  rw [ez2, ed2] at l2
  have ldz1 : (ofv dz1.natAbs).length ≤ 17592186043000 := by rw [← edz1]; simpa using l1.2
  have ldz2 : (ofv dz2.natAbs).length ≤ 17592186043000 := by rw [← edz2]; simpa using l2.2
  obtain ⟨z3, e1⟩ : ∃ z0 : Int, (-mkRat y q).num = z0 := ⟨_, rfl⟩
  obtain ⟨d3, e2⟩ : ∃ z0 : Nat, (-mkRat y q).den = z0 := ⟨_, rfl⟩
  have EM : mkRat x p + mkRat z3 d3 = mkRat x p - mkRat y q := by rw [← e1, ← e2, mk_self, Rat.sub_eq_add_neg]
  have HZ : Hid ((mkRat x p + mkRat z3 d3).num = z) := by show _ = _; rw [EM]; exact hz
  have HD : Hid ((mkRat x p + mkRat z3 d3).den = d) := by show _ = _; rw [EM]; exact hd
  have E1 := Lib.hid e1
  have E2 := Lib.hid e2
  have l3 : (ofv z3.natAbs).length ≤ 17592186043000 ∧ (ofv d3).length ≤ 17592186043000 := by
    have h1 := Rat.neg_num (mkRat y q)
    have h2 : (-mkRat y q).den = (mkRat y q).den := rfl
    rw [e1, ez2] at h1
    rw [e2, ed2] at h2
    rw [h1, h2, Int.natAbs_neg]
    exact l2
  have L3 := Lib.hid l3.1
  have L4 := Lib.hid l3.2
  clear h hp h' hq hn hm hn2 hm2 ez1 ed1 ez2 ed2 edz1 edz2 EA EB dp1 dp2 l1 l2 ldz1 ldz2 e1 e2 EM l3 hz hd
  go_enter Tryz.func72, Tryz.ntmps72
  go_wp2_with fail
  generalize (((w.alloc (.cells #[.bool s, .slice A n c, .slice D m k] 26)).alloc (.cells #[.bool t, .slice B n2 c2, .slice E m2 k2] 26)).alloc (.cells #[.bool false, .slice none 0 0, .slice none 0 0] 26)) = w2 at *
  have HB : Hid (Below w2.heap.size w2 w2.drew) := below_drewN _ w2 1
  refine wp_region_held_drew (S := fun w' => w2.grownBy w' (some (w.heap.size + 2))) (by kernel_rfl) ((grown_below HB.out : World.grownBy _ _ (some (w.heap.size + 2)))) (fun hHeld => ?_)
  refine wpAnyH_takeL (i := 0) (oi := _) rfl (by kernel_rfl) (by kernel_rfl) (by kernel_rfl) (fun _ _ _ h => h) (yields_ldR (by rfl) _ rfl (by rfl) (fun _ hb => V0.out.gro hb (by omega))) hHeld ?_
  try simp only [Act.put, List.setIfInBounds_toArray, List.set_cons_zero, List.set_cons_succ]
  refine wpAnyH_takeL (i := 1) (oi := _) rfl (by kernel_rfl) (by kernel_rfl) (by kernel_rfl) (fun _ _ _ h => h) (yields_ldR (by rfl) _ rfl (by rfl) (fun _ hb => V1.out.gro hb (by omega))) hHeld ?_
  try simp only [Act.put, List.setIfInBounds_toArray, List.set_cons_zero, List.set_cons_succ]
  refine wpAnyH_ready (rs := [2]) (by kernel_rfl) (by simp) ?_
  refine AllReadyH.consL (o := _) rfl (fun K hK => ?_) AllReadyH.nil
  clear hHeld
  go_simp
  go_at_call 113
  refine Calls.mono (r3neg_any (HY.out.below HB.out) (HQ.out.below HB.out) LN2.out LM2.out E1.out E2.out) ?_
  rintro e wa ⟨P3, c3, P4, c4, rfl, ho, ho2, hb⟩
  replace HB := Lib.hid (HB.out.trans (hb.mono HB.out.size))
  have Z1 := Lib.hid (Zo.of_own ho)
  have Z2 := Lib.hid (Nin.of_own ho2)
  clear ho ho2
  clear hb
  refine hK.out _ _ (grown_below HB.out : World.grownBy _ _ (some (w.heap.size + 2))) (fun hHeld => ?_)
  clear hK K
  try simp only [Act.put, List.setIfInBounds_toArray, List.set_cons_zero, List.set_cons_succ]
  refine wpAnyH_ready (rs := [3]) (by kernel_rfl) (by simp) ?_
  refine AllReadyH.consL (o := _) rfl (fun K hK => ?_) AllReadyH.nil
  clear hHeld
  have SZ := Lib.hid (Nat.le_trans B1.out.size HB.out.size)
  go_simp
  go_at_call 116
  refine Calls.mono (r3add_any (HX.out.below HB.out) (HP.out.below HB.out) Z1.out.in_ Z2.out KN.out KM.out L3.out L4.out HZ.out HD.out) ?_
  rintro e wb ⟨P1, c1, P2, c2, rfl, ho, ho2, hb⟩
  replace HB := Lib.hid (HB.out.trans (hb.mono HB.out.size))
  have OQ := Lib.hid (ho.mono SZ.out)
  have OD := Lib.hid (ho2.mono SZ.out)
  clear ho ho2 SZ
  clear hb
  refine hK.out _ _ (grown_below HB.out : World.grownBy _ _ (some (w.heap.size + 2))) (fun hHeld => ?_)
  clear hK K
  try simp only [Act.put, List.setIfInBounds_toArray, List.set_cons_zero, List.set_cons_succ]
  refine wpAnyH_ready (rs := [4]) (by kernel_rfl) (by simp) ?_
  refine AllReadyH.consL (o := _) rfl (fun K hK => ?_) AllReadyH.nil
  clear hHeld
  have hb := HB.out
  replace V0 := Lib.hid (V0.out.below hb V0.out.lt)
  replace V1 := Lib.hid (V1.out.below hb V1.out.lt)
  replace V2 := Lib.hid (V2.out.below hb V2.out.lt)
  replace HX := Lib.hid (HX.out.below hb)
  replace HP := Lib.hid (HP.out.below hb)
  replace HY := Lib.hid (HY.out.below hb)
  replace HQ := Lib.hid (HQ.out.below hb)
  replace B1 := Lib.hid (B1.out.trans (hb.mono B1.out.size))
  rw [if_pos (by rfl)]
  refine wp_stR _ _ rfl (by rfl) (by rfl) V2.out ?_
  intro wst hz hg
  replace V0 := Lib.hid (V0.out.gro hg (by omega))
  replace V1 := Lib.hid (V1.out.gro hg (by omega))
  replace HX := Lib.hid (HX.out.grR V2.out hg)
  replace HP := Lib.hid (HP.out.grR V2.out hg)
  replace HY := Lib.hid (HY.out.grR V2.out hg)
  replace HQ := Lib.hid (HQ.out.grR V2.out hg)
  replace OQ := Lib.hid (OQ.out.grR V2.out hg)
  replace OD := Lib.hid (OD.out.grR V2.out hg)
  replace B1 := Lib.hid (Below.gr B1.out (by omega) hg B1.out.size)
  replace V2 := Lib.hid hz
  refine hK.out _ _ (World.grownBy.trans (grown_below hb) hg) (fun hHeld => ?_)
  clear hK K hg hb HB hz
  try simp only [Act.put]
  skip
  refine wpAnyH_done (by kernel_rfl) ?_ _
  clear hHeld
  go_wp2
  exact ret_rb Tryz.results72 rfl rfl V2.out ⟨_, _, _, _, rfl, OQ.out, OD.out, B1.out⟩
set_option maxRecDepth 100000 in
set_option maxHeartbeats 16000000 in
theorem r3compare_any {s t : Bool} {A D B E : Option Addr} {n c m k n2 c2 m2 k2 : Nat} {x y : Int} {p q : Nat} {w : World} (h : Zin w s A n c x) (hp : Nin w D m k p) (h' : Zin w t B n2 c2 y) (hq : Nin w E m2 k2 q) (hn : n ≤ 17592186043000) (hm : m ≤ 17592186043000) (hn2 : n2 ≤ 17592186043000) (hm2 : m2 ≤ 17592186043000) {r : Int} (hr : sgR (mkRat x p - mkRat y q) = r) :
    Calls Tryz.prog 22 #[.agg #[.bool s, .slice A n c, .slice D m k], .agg #[.bool t, .slice B n2 c2, .slice E m2 k2]] w fun e w' => e = .returned (.int .i64 r) ∧ Below w.heap.size w w' := by
  obtain ⟨B1, V0, V1⟩ := start_R2 w s A n c D m k t B n2 c2 E m2 k2
  have HX := Lib.hid (h.below B1.out)
  have HP := Lib.hid (hp.below B1.out)
  have HY := Lib.hid (h'.below B1.out)
  have HQ := Lib.hid (hq.below B1.out)
  have LN : Hid (n ≤ 35184372087808) := Nat.le_trans hn (by decide)
  have LM : Hid (m ≤ 35184372087808) := Nat.le_trans hm (by decide)
  have LN2 : Hid (n2 ≤ 35184372087808) := Nat.le_trans hn2 (by decide)
  have LM2 : Hid (m2 ≤ 35184372087808) := Nat.le_trans hm2 (by decide)
  have KN := Lib.hid hn
  have KM := Lib.hid hm
  have KN2 := Lib.hid hn2
  have KM2 := Lib.hid hm2
  obtain ⟨z1, ez1⟩ : ∃ z0 : Int, (mkRat x p).num = z0 := ⟨_, rfl⟩
  obtain ⟨d1, ed1⟩ : ∃ z0 : Nat, (mkRat x p).den = z0 := ⟨_, rfl⟩
  obtain ⟨z2, ez2⟩ : ∃ z0 : Int, (mkRat y q).num = z0 := ⟨_, rfl⟩
  obtain ⟨d2, ed2⟩ : ∃ z0 : Nat, (mkRat y q).den = z0 := ⟨_, rfl⟩
  obtain ⟨dz1, edz1⟩ : ∃ z0 : Int, (d1 : Int) = z0 := ⟨_, rfl⟩
  obtain ⟨dz2, edz2⟩ : ∃ z0 : Int, (d2 : Int) = z0 := ⟨_, rfl⟩
  have HZ1 := Lib.hid ez1
  have HD1 := Lib.hid ed1
  have HZ2 := Lib.hid ez2
  have HD2 := Lib.hid ed2
  have ED1 : Hid (((mkRat x p).den : Int) = dz1) := by show _ = _; rw [ed1]; exact edz1
  have ED2 : Hid (((mkRat y q).den : Int) = dz2) := by show _ = _; rw [ed2]; exact edz2
  have EA : mkRat z1 d1 = mkRat x p := by rw [← ez1, ← ed1, mk_self]
  have EB : mkRat z2 d2 = mkRat y q := by rw [← ez2, ← ed2, mk_self]
  have dp1 : 0 < d1 := by rw [← ed1]; exact den_pos _
  have dp2 : 0 < d2 := by rw [← ed2]; exact den_pos _
  have l1 := canon_len (Nat.le_trans h.len hn) (Nat.le_trans hp.len hm) (by decide)
  have l2 := canon_len (Nat.le_trans h'.len hn2) (Nat.le_trans hq.len hm2) (by decide)
  rw [ez1, ed1] at l1
  rw [ez2, ed2] at l2
  have ldz1 : (ofv dz1.natAbs).length ≤ 17592186043000 := by rw [← edz1]; simpa using l1.2
  have ldz2 : (ofv dz2.natAbs).length ≤ 17592186043000 := by rw [← edz2]; simpa using l2.2
  obtain ⟨z3, e1⟩ : ∃ z0 : Int, (mkRat x p - mkRat y q).num = z0 := ⟨_, rfl⟩
  obtain ⟨d3, e2⟩ : ∃ z0 : Nat, (mkRat x p - mkRat y q).den = z0 := ⟨_, rfl⟩
  have E1 := Lib.hid e1
  have E2 := Lib.hid e2
  have HR : Hid (sgR (mkRat z3 d3) = r) := by show _ = _; rw [← e1, ← e2, mk_self]; exact hr
  have l3 : (ofv z3.natAbs).length ≤ 35184372087808 ∧ (ofv d3).length ≤ 35184372087808 := by
    rw [← e1, ← e2, ← EA, ← EB, mk_sub dp1 dp2]
    have k1 := zlen_mul (x := z1) (y := (d2 : Int)) l1.1 (by simpa using l2.2)
    have k2 := zlen_mul (x := z2) (y := (d1 : Int)) l2.1 (by simpa using l1.2)
    have k3 := zlen_sub k1 k2
    have k4 := len_mul d1 d2
    have l1' := l1.2
    have l2' := l2.2
    exact canon_len (by omega) (by omega) (by decide)
  have L3 := Lib.hid l3.1
  have L4 := Lib.hid l3.2
  clear h hp h' hq hn hm hn2 hm2 ez1 ed1 ez2 ed2 edz1 edz2 EA EB dp1 dp2 l1 l2 ldz1 ldz2 e1 e2 l3 hr
  go_enter Tryz.func22, Tryz.ntmps22
  go_wp2_with fail
  generalize ((w.alloc (.cells #[.bool s, .slice A n c, .slice D m k] 26)).alloc (.cells #[.bool t, .slice B n2 c2, .slice E m2 k2] 26)) = w2 at *
  have pc0 := Lib.hid trivial
  go_wp2_with (first
    | (clear pc0; go_at_call 72; refine Calls.mono (r3sub_any HX.out HP.out HY.out HQ.out KN.out KM.out KN2.out KM2.out E1.out E2.out) ?_; rintro e wa ⟨P3, c3, P4, c4, rfl, ho, ho2, hb⟩; replace V0 := Lib.hid (V0.out.below hb V0.out.lt); replace V1 := Lib.hid (V1.out.below hb V1.out.lt); replace HX := Lib.hid (HX.out.below hb); replace HP := Lib.hid (HP.out.below hb); replace HY := Lib.hid (HY.out.below hb); replace HQ := Lib.hid (HQ.out.below hb); replace B1 := Lib.hid (B1.out.trans (hb.mono B1.out.size)); have Z1 := Lib.hid (Zo.of_own ho); have Z2 := Lib.hid (Nin.of_own ho2); clear ho ho2; clear hb; have pc1 := Lib.hid trivial)
    | (clear pc1; go_at_call 71; refine Calls.mono (r3sign_any (r := r) Z1.out.in_ Z2.out L3.out L4.out HR.out) ?_; rintro e wb ⟨rfl, hb⟩; replace V0 := Lib.hid (V0.out.below hb V0.out.lt); replace V1 := Lib.hid (V1.out.below hb V1.out.lt); replace HX := Lib.hid (HX.out.below hb); replace HP := Lib.hid (HP.out.below hb); replace HY := Lib.hid (HY.out.below hb); replace HQ := Lib.hid (HQ.out.below hb); replace Z1 := Lib.hid (Z1.out.below hb); replace Z2 := Lib.hid (Z2.out.below hb); replace B1 := Lib.hid (B1.out.trans (hb.mono B1.out.size)); clear hb; have pc2 := Lib.hid trivial))
  clear pc2
  go_ret
  exact ⟨rfl, B1.out⟩
end Go.Proofs.YtfmgbfdnmconiaaGreat
