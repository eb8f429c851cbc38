/-
  The walk of the law NumtextExact.
-/
import Derived.Test.YtebpoabflcngoaaGreatDoorNW
import Derived.Test.YtebpoabflcngoaaGreatDoorNV
import Derived.Test.YtebpoabflcngoaaGreatDoorRrez
import Derived.Test.YtebpoabflcngoaaGreatDoorRrnd
namespace Go.Proofs.YtebpoabflcngoaaGreatDoor
open Go.RowKit
set_option linter.unusedVariables false
set_option linter.unusedSimpArgs false

set_option maxRecDepth 100000 in
set_option maxHeartbeats 16000000 in
theorem numtextExact_no {t : Bool} {B : Option Addr} {m d : Nat} {y : Int} {D : Option Addr} {k f : Nat} {p : Nat} (w : World) (h2 : Zin w t B m d y) (hm : m ≤ 1048576) (h3 : Nin w D k f p) (hk : k ≤ 1048576) (hE : Env w) {k1 r1 k2 r2 : Nat} (f1 : Facs (mkRat y p).den 2 k1 r1) (f2 : Facs r1 5 k2 r2) (hr2 : r2 ≠ 1) :
    Calls Tryz.prog 6 #[.agg #[.bool t, .slice B m d, .slice D k f]] w fun e w' => e = .returned (.bool true) ∧ Below w.heap.size w w' := by
  obtain ⟨B1, V0⟩ := start_nR w t B m d D k f
  have HY := Lib.hid (h2.below B1.out)
  have HP := Lib.hid (h3.below B1.out)
  have HE := Lib.hid (hE.below B1.out)
  have F1 := Lib.hid f1
  have F2 := Lib.hid f2
  have KM : Hid (m ≤ 1500000) := Nat.le_trans hm (by decide)
  have KK : Hid (k ≤ 1500000) := Nat.le_trans hk (by decide)
  have HR2 := Lib.hid hr2
  clear h2 h3 hm hk hE f1 f2 hr2
  go_enter Tryz.func6, Tryz.ntmps6
  go_wp2_with fail
  generalize (w.alloc (.cells #[.bool t, .slice B m d, .slice D k f] 26)) = w2 at *
  go_wp2_with (refine wpList_ldR (by rfl) _ rfl (by rfl) V0.out ?_)
  refine (decimal_no HY.out HP.out KM.out KK.out HE.out F1.out F2.out HR2.out).mono ?_
  rintro e w3 ⟨rfl, hb⟩
  replace V0 := Lib.hid (V0.out.below hb V0.out.lt)
  replace HY := Lib.hid (HY.out.below hb)
  replace HP := Lib.hid (HP.out.below hb)
  replace HE := Lib.hid (HE.out.below hb)
  replace B1 := Lib.hid (B1.out.trans (hb.mono B1.out.size))
  clear hb
  go_wp2_with fail
  refine (nawake_any HE.out).mono ?_
  rintro e w4 ⟨rfl, hb⟩
  replace V0 := Lib.hid (V0.out.below hb V0.out.lt)
  replace HY := Lib.hid (HY.out.below hb)
  replace HP := Lib.hid (HP.out.below hb)
  replace HE := Lib.hid (HE.out.below hb)
  replace B1 := Lib.hid (B1.out.trans (hb.mono B1.out.size))
  clear hb
  go_wp2
  go_ret
  exact ⟨rfl, B1.out⟩
set_option maxRecDepth 100000 in
set_option maxHeartbeats 16000000 in
theorem numtextExact_long {t : Bool} {B : Option Addr} {m d : Nat} {y : Int} {D : Option Addr} {k f : Nat} {p : Nat} (w : World) (h2 : Zin w t B m d y) (hm : m ≤ 1048576) (h3 : Nin w D k f p) (hk : k ≤ 1048576) (hE : Env w) {k1 r1 k2 : Nat} (f1 : Facs (mkRat y p).den 2 k1 r1) (f2 : Facs r1 5 k2 1) {v : Int} (hv : rndR (mkRat y p * mkRat ((10 ^ max k1 k2 : Nat) : Int) 1) = v) (hv2 : Rat.divInt v ((10 ^ max k1 k2 : Nat) : Int) = mkRat y p) {l : List UInt8} (hl : ptxt v (max k1 k2) = l) (hq : 4096 < l.length) :
    Calls Tryz.prog 6 #[.agg #[.bool t, .slice B m d, .slice D k f]] w fun e w' => e = .returned (.bool true) ∧ Below w.heap.size w w' := by
  obtain ⟨B1, V0⟩ := start_nR w t B m d D k f
  have HY := Lib.hid (h2.below B1.out)
  have HP := Lib.hid (h3.below B1.out)
  have HE := Lib.hid (hE.below B1.out)
  have F1 := Lib.hid f1
  have F2 := Lib.hid f2
  have KM : Hid (m ≤ 1500000) := Nat.le_trans hm (by decide)
  have KK : Hid (k ≤ 1500000) := Nat.le_trans hk (by decide)
  have HV := Lib.hid hv
  have HL := Lib.hid hl
  have S1 : (4096 : Int) < ((txt l).size : Int) := by rw [txt_size]; omega
  clear h2 h3 hm hk hE f1 f2 hv hv2 hl hq
  go_enter Tryz.func6, Tryz.ntmps6
  go_wp2_with fail
  generalize (w.alloc (.cells #[.bool t, .slice B m d, .slice D k f] 26)) = w2 at *
  go_wp2_with (refine wpList_ldR (by rfl) _ rfl (by rfl) V0.out ?_)
  refine (decimal_yes HY.out HP.out KM.out KK.out HE.out F1.out F2.out HV.out HL.out).mono ?_
  rintro e w3 ⟨rfl, hb⟩
  replace V0 := Lib.hid (V0.out.below hb V0.out.lt)
  replace HY := Lib.hid (HY.out.below hb)
  replace HP := Lib.hid (HP.out.below hb)
  replace HE := Lib.hid (HE.out.below hb)
  replace B1 := Lib.hid (B1.out.trans (hb.mono B1.out.size))
  clear hb
  go_wp2_with fail
  refine (nawake_any HE.out).mono ?_
  rintro e w4 ⟨rfl, hb⟩
  replace V0 := Lib.hid (V0.out.below hb V0.out.lt)
  replace HY := Lib.hid (HY.out.below hb)
  replace HP := Lib.hid (HP.out.below hb)
  replace HE := Lib.hid (HE.out.below hb)
  replace B1 := Lib.hid (B1.out.trans (hb.mono B1.out.size))
  clear hb
  go_wp2
  go_ret
  exact ⟨rfl, B1.out⟩
set_option maxRecDepth 100000 in
set_option maxHeartbeats 16000000 in
theorem numtextExact_whole {t : Bool} {B : Option Addr} {m d : Nat} {y : Int} {D : Option Addr} {k f : Nat} {p : Nat} (w : World) (h2 : Zin w t B m d y) (hm : m ≤ 1048576) (h3 : Nin w D k f p) (hk : k ≤ 1048576) (hE : Env w) {k1 r1 k2 : Nat} (f1 : Facs (mkRat y p).den 2 k1 r1) (f2 : Facs r1 5 k2 1) {v : Int} (hv : rndR (mkRat y p * mkRat ((10 ^ max k1 k2 : Nat) : Int) 1) = v) (hv2 : Rat.divInt v ((10 ^ max k1 k2 : Nat) : Int) = mkRat y p) {l : List UInt8} (hl : ptxt v (max k1 k2) = l) (hq : l.length ≤ 4096) (hp : max k1 k2 = 0) :
    Calls Tryz.prog 6 #[.agg #[.bool t, .slice B m d, .slice D k f]] w fun e w' => e = .returned (.bool true) ∧ Below w.heap.size w w' := by
  obtain ⟨B1, V0⟩ := start_nR w t B m d D k f
  have HY := Lib.hid (h2.below B1.out)
  have HP := Lib.hid (h3.below B1.out)
  have HE := Lib.hid (hE.below B1.out)
  have F1 := Lib.hid f1
  have F2 := Lib.hid f2
  have KM : Hid (m ≤ 1500000) := Nat.le_trans hm (by decide)
  have KK : Hid (k ≤ 1500000) := Nat.le_trans hk (by decide)
  have HV := Lib.hid hv
  have HL := Lib.hid hl
  have S1 : ((txt l).size : Int) ≤ 4096 := by rw [txt_size]; omega
  have Q1 := Lib.hid hq
  have HP0 := Lib.hid hp
  obtain ⟨zn, hzn⟩ : ∃ z, (mkRat y p).num = z := ⟨_, rfl⟩
  obtain ⟨zd, hzd⟩ : ∃ z, (mkRat y p).den = z := ⟨_, rfl⟩
  have HZN := Lib.hid hzn
  have HZD := Lib.hid hzd
  have HZN2 : Hid ((Rat.divInt v ((10 ^ max k1 k2 : Nat) : Int)).num = zn) := by show _ = _; rw [hv2]; exact hzn
  have HZD2 : Hid ((Rat.divInt v ((10 ^ max k1 k2 : Nat) : Int)).den = zd) := by show _ = _; rw [hv2]; exact hzd
  obtain ⟨fl, hfl⟩ : ∃ z, (mkRat y p).floor = z := ⟨_, rfl⟩
  obtain ⟨wn, hwn⟩ : ∃ z, (Rat.divInt fl 1).num = z := ⟨_, rfl⟩
  obtain ⟨wd, hwd⟩ : ∃ z, (Rat.divInt fl 1).den = z := ⟨_, rfl⟩
  have HFL := Lib.hid hfl
  have HWN := Lib.hid hwn
  have HWD := Lib.hid hwd
  have hrl : RL (mkRat y p) 1048576 := rl_mk (Nat.le_trans h2.len hm) (Nat.le_trans h3.len hk) (by decide)
  have lfl := floor_len hrl
  rw [hfl] at lfl
  have hrl2 : RL (mkRat fl 1) 1048576 := rl_mk lfl (by rw [one_limb]; decide) (by decide)
  have LFL : Hid ((ofv fl.natAbs).length ≤ 35184372087808) := Nat.le_trans lfl (by decide)
  have LWN : Hid ((ofv wn.natAbs).length ≤ 17592186043000) := by show _ ≤ _; rw [← hwn]; exact Nat.le_trans hrl2.1 (by decide)
  have LWD : Hid ((ofv wd).length ≤ 17592186043000) := by show _ ≤ _; rw [← hwd]; exact Nat.le_trans hrl2.2 (by decide)
  have KM2 : Hid (m ≤ 35184372087808) := Nat.le_trans hm (by decide)
  have KK2 : Hid (k ≤ 35184372087808) := Nat.le_trans hk (by decide)
  have KM3 : Hid (m ≤ 17592186043000) := Nat.le_trans hm (by decide)
  have KK3 : Hid (k ≤ 17592186043000) := Nat.le_trans hk (by decide)
  have HC : Hid (sgR (mkRat y p - mkRat wn wd) = 0) := by show _ = _; rw [← hwn, ← hwd, ← hfl]; exact whole_zero (facs_zero f1 f2 hp)
  have HI : Hid (Lib.itoa v = l) := by
    show _ = _
    rw [hp, ptxt_zero] at hl
    exact hl
  clear h2 h3 hm hk hE f1 f2 hv hv2 hl hq hp hzn hzd hfl hwn hwd hrl lfl hrl2
  go_enter Tryz.func6, Tryz.ntmps6
  go_wp2_with fail
  generalize (w.alloc (.cells #[.bool t, .slice B m d, .slice D k f] 26)) = w2 at *
  go_wp2_with (refine wpList_ldR (by rfl) _ rfl (by rfl) V0.out ?_)
  refine (decimal_yes HY.out HP.out KM.out KK.out HE.out F1.out F2.out HV.out HL.out).mono ?_
  rintro e w3 ⟨rfl, hb⟩
  replace V0 := Lib.hid (V0.out.below hb V0.out.lt)
  replace HY := Lib.hid (HY.out.below hb)
  replace HP := Lib.hid (HP.out.below hb)
  replace HE := Lib.hid (HE.out.below hb)
  replace B1 := Lib.hid (B1.out.trans (hb.mono B1.out.size))
  clear hb
  go_wp2_with fail
  refine (prat_ptxt HZN2.out HZD2.out HL.out Q1.out HE.out).mono ?_
  rintro e w4 ⟨P2, c2, Q2_, k2_, rfl, ho, ho2, hb⟩
  replace V0 := Lib.hid (V0.out.below hb V0.out.lt)
  replace HY := Lib.hid (HY.out.below hb)
  replace HP := Lib.hid (HP.out.below hb)
  replace HE := Lib.hid (HE.out.below hb)
  replace B1 := Lib.hid (B1.out.trans (hb.mono B1.out.size))
  have Z2 := Lib.hid (Zo.of_own ho)
  have N2 := Lib.hid ho2.rd
  clear ho ho2
  clear hb
  go_wp2_with fail
  have hb : Below w4.heap.size w4 (w4.alloc (.cells #[.bool (decide (zn < 0)), .slice P2 (ofv zn.natAbs).length c2, .slice Q2_ (ofv zd).length k2_] 26)) := (Below.refl _ _).alloc (Nat.le_refl _) _
  replace V0 := Lib.hid (V0.out.below hb V0.out.lt)
  replace HY := Lib.hid (HY.out.below hb)
  replace HP := Lib.hid (HP.out.below hb)
  replace HE := Lib.hid (HE.out.below hb)
  replace Z2 := Lib.hid (Z2.out.below hb)
  replace N2 := Lib.hid (N2.out.below hb)
  replace B1 := Lib.hid (B1.out.trans (hb.mono B1.out.size))
  have G1 := Lib.hid (Rb.new w4 (decide (zn < 0)) P2 (ofv zn.natAbs).length c2 Q2_ (ofv zd).length k2_)
  clear hb
  generalize (w4.alloc (.cells #[.bool (decide (zn < 0)), .slice P2 (ofv zn.natAbs).length c2, .slice Q2_ (ofv zd).length k2_] 26)) = w5 at *
  go_wp2_with fail
  refine (pint_itoa HI.out Q1.out _).mono ?_
  rintro e w6 ⟨P1, c1, rfl, ho, hb⟩
  replace V0 := Lib.hid (V0.out.below hb V0.out.lt)
  replace HY := Lib.hid (HY.out.below hb)
  replace HP := Lib.hid (HP.out.below hb)
  replace HE := Lib.hid (HE.out.below hb)
  replace Z2 := Lib.hid (Z2.out.below hb)
  replace N2 := Lib.hid (N2.out.below hb)
  replace G1 := Lib.hid (G1.out.below hb G1.out.lt)
  replace B1 := Lib.hid (B1.out.trans (hb.mono B1.out.size))
  clear ho
  clear hb
  go_wp2_with fail
  have hb : Below w6.heap.size w6 (w6.alloc (.cells #[.bool (decide (v < 0)), .slice P1 (ofv v.natAbs).length c1] 24)) := (Below.refl _ _).alloc (Nat.le_refl _) _
  replace V0 := Lib.hid (V0.out.below hb V0.out.lt)
  replace HY := Lib.hid (HY.out.below hb)
  replace HP := Lib.hid (HP.out.below hb)
  replace HE := Lib.hid (HE.out.below hb)
  replace Z2 := Lib.hid (Z2.out.below hb)
  replace N2 := Lib.hid (N2.out.below hb)
  replace G1 := Lib.hid (G1.out.below hb G1.out.lt)
  replace B1 := Lib.hid (B1.out.trans (hb.mono B1.out.size))
  have G2 := Lib.hid (Zb.new w6 (decide (v < 0)) P1 (ofv v.natAbs).length c1)
  clear hb
  generalize (w6.alloc (.cells #[.bool (decide (v < 0)), .slice P1 (ofv v.natAbs).length c1] 24)) = w7 at *
  have HB : Hid (Below w7.heap.size w7 w7.drew) := below_drewN _ w7 1
  refine wp_region_held_drew (S := fun w' => Below w7.heap.size w7 w') (by kernel_rfl) (HB.out) (fun hHeld => ?_)
  refine wpAnyH_takeL (i := 0) (oi := _) rfl (by kernel_rfl) (by kernel_rfl) (by kernel_rfl) (fun _ _ _ h => h) (yields_ldR (by rfl) _ rfl (by rfl) (fun _ hb => V0.out.below hb V0.out.lt)) hHeld ?_
  try simp only [Act.put, List.setIfInBounds_toArray, List.set_cons_zero, List.set_cons_succ]
  refine wpAnyH_takeL (i := 1) (oi := _) rfl (by kernel_rfl) (by kernel_rfl) (by kernel_rfl) (fun _ _ _ h => h) (yields_ldR (by rfl) _ rfl (by rfl) (fun _ hb => V0.out.below hb V0.out.lt)) hHeld ?_
  try simp only [Act.put, List.setIfInBounds_toArray, List.set_cons_zero, List.set_cons_succ]
  refine wpAnyH_ready (rs := [2]) (by kernel_rfl) (by simp) ?_
  refine AllReadyH.consL (o := _) rfl (fun K hK => ?_) AllReadyH.nil
  clear hHeld
  go_simp
  go_at_call 25
  refine Calls.mono (r3floor_any (HY.out.below HB.out) (HP.out.below HB.out) KM2.out KK2.out HFL.out) ?_
  rintro e w8 ⟨P3, c3, rfl, ho, hb⟩
  replace HB := Lib.hid (HB.out.trans (hb.mono HB.out.size))
  have Z3 := Lib.hid (Zo.of_own ho)
  clear ho
  clear hb
  refine hK.out _ _ HB.out (fun hHeld => ?_)
  clear hK K
  try simp only [Act.put, List.setIfInBounds_toArray, List.set_cons_zero, List.set_cons_succ]
  refine wpAnyH_ready (rs := [3]) (by kernel_rfl) (by simp) ?_
  refine AllReadyH.consL (o := _) rfl (fun K hK => ?_) AllReadyH.nil
  clear hHeld
  go_simp
  go_at_call 24
  refine Calls.mono (r3whole_any Z3.out.in_ LFL.out HWN.out HWD.out) ?_
  rintro e w9 ⟨P4, c4, Q4, k4, rfl, ho, ho2, hb⟩
  replace HB := Lib.hid (HB.out.trans (hb.mono HB.out.size))
  clear Z3
  have Z4 := Lib.hid (Zo.of_own ho)
  have N4 := Lib.hid ho2.rd
  clear ho ho2
  clear hb
  refine hK.out _ _ HB.out (fun hHeld => ?_)
  clear hK K
  try simp only [Act.put, List.setIfInBounds_toArray, List.set_cons_zero, List.set_cons_succ]
  refine wpAnyH_ready (rs := [4]) (by kernel_rfl) (by simp) ?_
  refine AllReadyH.consL (o := _) rfl (fun K hK => ?_) AllReadyH.nil
  clear hHeld
  go_simp
  go_at_call 23
  refine Calls.mono (r3compare_any (r := 0) (HY.out.below HB.out) (HP.out.below HB.out) Z4.out.in_ (Nin.of_rd N4.out) KM3.out KK3.out LWN.out LWD.out HC.out) ?_
  rintro e w10 ⟨rfl, hb⟩
  replace HB := Lib.hid (HB.out.trans (hb.mono HB.out.size))
  clear Z4 N4
  clear hb
  refine hK.out _ _ HB.out (fun hHeld => ?_)
  clear hK K
  try simp only [Act.put, List.setIfInBounds_toArray, List.set_cons_zero, List.set_cons_succ]
  refine wpAnyH_takeL (i := 5) (oi := _) (v := ?_) rfl (by kernel_rfl) (by kernel_rfl) (by kernel_rfl) (fun _ _ _ h => h) (Or.inl ⟨by rfl, ?_⟩) hHeld ?_
  rotate_left
  · (intro w' hSw; (try dsimp only at hSw); go_simp; try (with_reducible rfl))
  try simp only [Act.put, List.setIfInBounds_toArray, List.set_cons_zero, List.set_cons_succ]
  refine wpAnyH_takeL (i := 6) (oi := _) (v := ?_) rfl (by kernel_rfl) (by kernel_rfl) (by kernel_rfl) (fun _ _ _ h => h) (Or.inl ⟨by rfl, ?_⟩) hHeld ?_
  rotate_left
  · (intro w' hSw; (try dsimp only at hSw); go_simp; try (with_reducible rfl))
  try simp only [Act.put, List.setIfInBounds_toArray, List.set_cons_zero, List.set_cons_succ]
  skip
  refine wpAnyH_done (by kernel_rfl) ?_ _
  have hb := HB.out
  replace V0 := Lib.hid (V0.out.below hb V0.out.lt)
  replace HY := Lib.hid (HY.out.below hb)
  replace HP := Lib.hid (HP.out.below hb)
  replace HE := Lib.hid (HE.out.below hb)
  replace Z2 := Lib.hid (Z2.out.below hb)
  replace N2 := Lib.hid (N2.out.below hb)
  replace G1 := Lib.hid (G1.out.below hb G1.out.lt)
  replace G2 := Lib.hid (G2.out.below hb G2.out.lt)
  replace B1 := Lib.hid (B1.out.trans (hb.mono B1.out.size))
  clear hHeld hb HB
  go_wp2_with fail
  have HB : Hid (Below w10.heap.size w10 w10.drew) := below_drewN _ w10 1
  refine wp_region_held_drew (S := fun w' => Below w10.heap.size w10 w') (by kernel_rfl) (HB.out) (fun hHeld => ?_)
  refine wpAnyH_ready (rs := [0]) (by kernel_rfl) (by simp) ?_
  refine AllReadyH.consL (o := _) rfl (fun K hK => ?_) AllReadyH.nil
  clear hHeld
  go_simp
  go_at_call 8
  refine Calls.mono (nawake_any (HE.out.below HB.out)) ?_
  rintro e w11 ⟨rfl, hb⟩
  replace HB := Lib.hid (HB.out.trans (hb.mono HB.out.size))
  clear hb
  refine hK.out _ _ HB.out (fun hHeld => ?_)
  clear hK K
  try simp only [Act.put, List.setIfInBounds_toArray, List.set_cons_zero, List.set_cons_succ]
  refine wpAnyH_takeL (i := 1) (oi := _) (v := ?_) rfl (by kernel_rfl) (by kernel_rfl) (by kernel_rfl) (fun _ _ _ h => h) (Or.inl ⟨by rfl, ?_⟩) hHeld ?_
  rotate_left
  · (intro w' hSw; (try dsimp only at hSw); go_simp; try (with_reducible rfl))
  try simp only [Act.put, List.setIfInBounds_toArray, List.set_cons_zero, List.set_cons_succ]
  refine wpAnyH_takeL (i := 2) (oi := _) (v := ?_) rfl (by kernel_rfl) (by kernel_rfl) (by kernel_rfl) (fun _ _ _ h => h) (Or.inl ⟨by rfl, ?_⟩) hHeld ?_
  rotate_left
  · (intro w' hSw; (try dsimp only at hSw); go_simp; try (with_reducible rfl))
  try simp only [Act.put, List.setIfInBounds_toArray, List.set_cons_zero, List.set_cons_succ]
  refine wpAnyH_takeL (i := 3) (oi := _) (v := ?_) rfl (by kernel_rfl) (by kernel_rfl) (by kernel_rfl) (fun _ _ _ h => h) (Or.inl ⟨by rfl, ?_⟩) hHeld ?_
  rotate_left
  · (intro w' hSw; (try dsimp only at hSw); go_simp; try (with_reducible rfl))
  try simp only [Act.put, List.setIfInBounds_toArray, List.set_cons_zero, List.set_cons_succ]
  refine wpAnyH_takeL (i := 4) (oi := _) (v := ?_) rfl (by kernel_rfl) (by kernel_rfl) (by kernel_rfl) (fun _ _ _ h => h) (Or.inl ⟨by rfl, ?_⟩) hHeld ?_
  rotate_left
  · (intro w' hSw; (try dsimp only at hSw); go_simp; try (with_reducible rfl))
  try simp only [Act.put, List.setIfInBounds_toArray, List.set_cons_zero, List.set_cons_succ]
  refine wpAnyH_takeL (i := 5) (oi := _) (v := ?_) rfl (by kernel_rfl) (by kernel_rfl) (by kernel_rfl) (fun _ _ _ h => h) (Or.inl ⟨by rfl, ?_⟩) hHeld ?_
  rotate_left
  · (intro w' hSw; (try dsimp only at hSw); go_simp; try (with_reducible rfl))
  try simp only [Act.put, List.setIfInBounds_toArray, List.set_cons_zero, List.set_cons_succ]
  refine wpAnyH_takeL (i := 6) (oi := _) rfl (by kernel_rfl) (by kernel_rfl) (by kernel_rfl) (fun _ _ _ h => h) (yields_ldR (by rfl) _ rfl (by rfl) (fun _ hb => G1.out.below hb G1.out.lt)) hHeld ?_
  try simp only [Act.put, List.setIfInBounds_toArray, List.set_cons_zero, List.set_cons_succ]
  refine wpAnyH_takeL (i := 7) (oi := _) rfl (by kernel_rfl) (by kernel_rfl) (by kernel_rfl) (fun _ _ _ h => h) (yields_ldR (by rfl) _ rfl (by rfl) (fun _ hb => V0.out.below hb V0.out.lt)) hHeld ?_
  try simp only [Act.put, List.setIfInBounds_toArray, List.set_cons_zero, List.set_cons_succ]
  refine wpAnyH_ready (rs := [8]) (by kernel_rfl) (by simp) ?_
  refine AllReadyH.consL (o := _) rfl (fun K hK => ?_) AllReadyH.nil
  clear hHeld
  go_simp
  go_at_call 22
  refine Calls.mono (rnorm_any (HY.out.below HB.out) (HP.out.below HB.out) KM2.out KK2.out HZN.out HZD.out) ?_
  rintro e w12 ⟨P5, c5, Q5, k5, rfl, ho, ho2, hb⟩
  replace HB := Lib.hid (HB.out.trans (hb.mono HB.out.size))
  have Z5 := Lib.hid (Zo.of_own ho)
  have N5 := Lib.hid ho2.rd
  clear ho ho2
  clear hb
  refine hK.out _ _ HB.out (fun hHeld => ?_)
  clear hK K
  try simp only [Act.put, List.setIfInBounds_toArray, List.set_cons_zero, List.set_cons_succ]
  refine wpAnyH_ready (rs := [9]) (by kernel_rfl) (by simp) ?_
  refine AllReadyH.consL (o := _) rfl (fun K hK => ?_) AllReadyH.nil
  clear hHeld
  go_simp
  go_at_call 21
  refine Calls.mono (r3equal_any (b := true) (Z2.out.below HB.out) Z5.out (N2.out.below HB.out) N5.out (by simp)) ?_
  rintro e w13 ⟨rfl, hb⟩
  replace HB := Lib.hid (HB.out.trans (hb.mono HB.out.size))
  clear Z5 N5
  clear hb
  refine hK.out _ _ HB.out (fun hHeld => ?_)
  clear hK K
  try simp only [Act.put, List.setIfInBounds_toArray, List.set_cons_zero, List.set_cons_succ]
  refine wpAnyH_takeL (i := 10) (oi := _) (v := ?_) rfl (by kernel_rfl) (by kernel_rfl) (by kernel_rfl) (fun _ _ _ h => h) (Or.inl ⟨by rfl, ?_⟩) hHeld ?_
  rotate_left
  · (intro w' hSw; (try dsimp only at hSw); go_simp; try (with_reducible rfl))
  try simp only [Act.put, List.setIfInBounds_toArray, List.set_cons_zero, List.set_cons_succ]
  refine wpAnyH_takeL (i := 11) (oi := _) (v := ?_) rfl (by kernel_rfl) (by kernel_rfl) (by kernel_rfl) (fun _ _ _ h => h) (Or.inl ⟨by rfl, ?_⟩) hHeld ?_
  rotate_left
  · (intro w' hSw; (try dsimp only at hSw); go_simp; try (with_reducible rfl))
  try simp only [Act.put, List.setIfInBounds_toArray, List.set_cons_zero, List.set_cons_succ]
  refine wpAnyH_takeL (i := 12) (oi := _) (v := ?_) rfl (by kernel_rfl) (by kernel_rfl) (by kernel_rfl) (fun _ _ _ h => h) (Or.inl ⟨by rfl, ?_⟩) hHeld ?_
  rotate_left
  · (intro w' hSw; (try dsimp only at hSw); go_simp; try (with_reducible rfl))
  try simp only [Act.put, List.setIfInBounds_toArray, List.set_cons_zero, List.set_cons_succ]
  refine wpAnyH_takeL (i := 13) (oi := _) (v := ?_) rfl (by kernel_rfl) (by kernel_rfl) (by kernel_rfl) (fun _ _ _ h => h) (Or.inl ⟨by rfl, ?_⟩) hHeld ?_
  rotate_left
  · (intro w' hSw; (try dsimp only at hSw); go_simp; try (with_reducible rfl))
  try simp only [Act.put, List.setIfInBounds_toArray, List.set_cons_zero, List.set_cons_succ]
  refine wpAnyH_takeL (i := 14) (oi := _) (v := ?_) rfl (by kernel_rfl) (by kernel_rfl) (by kernel_rfl) (fun _ _ _ h => h) (Or.inl ⟨by rfl, ?_⟩) hHeld ?_
  rotate_left
  · (intro w' hSw; (try dsimp only at hSw); go_simp; try (with_reducible rfl))
  try simp only [Act.put, List.setIfInBounds_toArray, List.set_cons_zero, List.set_cons_succ]
  refine wpAnyH_takeL (i := 15) (oi := _) (v := ?_) rfl (by kernel_rfl) (by kernel_rfl) (by kernel_rfl) (fun _ _ _ h => h) (Or.inl ⟨by rfl, ?_⟩) hHeld ?_
  rotate_left
  · (intro w' hSw; (try dsimp only at hSw); go_simp; try (with_reducible rfl))
  try simp only [Act.put, List.setIfInBounds_toArray, List.set_cons_zero, List.set_cons_succ]
  refine wpAnyH_takeL (i := 16) (oi := _) (v := ?_) rfl (by kernel_rfl) (by kernel_rfl) (by kernel_rfl) (fun _ _ _ h => h) (Or.inl ⟨by rfl, ?_⟩) hHeld ?_
  rotate_left
  · (intro w' hSw; (try dsimp only at hSw); go_simp; try (with_reducible rfl))
  try simp only [Act.put, List.setIfInBounds_toArray, List.set_cons_zero, List.set_cons_succ]
  refine wpAnyH_takeL (i := 17) (oi := _) (v := ?_) rfl (by kernel_rfl) (by kernel_rfl) (by kernel_rfl) (fun _ _ _ h => h) (Or.inl ⟨by rfl, ?_⟩) hHeld ?_
  rotate_left
  · (intro w' hSw; (try dsimp only at hSw); go_simp; try (with_reducible rfl))
  try simp only [Act.put, List.setIfInBounds_toArray, List.set_cons_zero, List.set_cons_succ]
  skip
  refine wpAnyH_done (by kernel_rfl) ?_ _
  have hb := HB.out
  replace V0 := Lib.hid (V0.out.below hb V0.out.lt)
  replace HY := Lib.hid (HY.out.below hb)
  replace HP := Lib.hid (HP.out.below hb)
  replace HE := Lib.hid (HE.out.below hb)
  replace Z2 := Lib.hid (Z2.out.below hb)
  replace N2 := Lib.hid (N2.out.below hb)
  replace G1 := Lib.hid (G1.out.below hb G1.out.lt)
  replace G2 := Lib.hid (G2.out.below hb G2.out.lt)
  replace B1 := Lib.hid (B1.out.trans (hb.mono B1.out.size))
  clear hb
  go_wp2
  go_ret
  exact ⟨rfl, B1.out⟩
set_option maxRecDepth 100000 in
set_option maxHeartbeats 16000000 in
theorem numtextExact_part {t : Bool} {B : Option Addr} {m d : Nat} {y : Int} {D : Option Addr} {k f : Nat} {p : Nat} (w : World) (h2 : Zin w t B m d y) (hm : m ≤ 1048576) (h3 : Nin w D k f p) (hk : k ≤ 1048576) (hE : Env w) {k1 r1 k2 : Nat} (f1 : Facs (mkRat y p).den 2 k1 r1) (f2 : Facs r1 5 k2 1) {v : Int} (hv : rndR (mkRat y p * mkRat ((10 ^ max k1 k2 : Nat) : Int) 1) = v) (hv2 : Rat.divInt v ((10 ^ max k1 k2 : Nat) : Int) = mkRat y p) {l : List UInt8} (hl : ptxt v (max k1 k2) = l) (hq : l.length ≤ 4096) (hp : max k1 k2 ≠ 0) :
    Calls Tryz.prog 6 #[.agg #[.bool t, .slice B m d, .slice D k f]] w fun e w' => e = .returned (.bool true) ∧ Below w.heap.size w w' := by
  obtain ⟨B1, V0⟩ := start_nR w t B m d D k f
  have HY := Lib.hid (h2.below B1.out)
  have HP := Lib.hid (h3.below B1.out)
  have HE := Lib.hid (hE.below B1.out)
  have F1 := Lib.hid f1
  have F2 := Lib.hid f2
  have KM : Hid (m ≤ 1500000) := Nat.le_trans hm (by decide)
  have KK : Hid (k ≤ 1500000) := Nat.le_trans hk (by decide)
  have HV := Lib.hid hv
  have HL := Lib.hid hl
  have S1 : ((txt l).size : Int) ≤ 4096 := by rw [txt_size]; omega
  have Q1 := Lib.hid hq
  have HP0 := Lib.hid hp
  obtain ⟨zn, hzn⟩ : ∃ z, (mkRat y p).num = z := ⟨_, rfl⟩
  obtain ⟨zd, hzd⟩ : ∃ z, (mkRat y p).den = z := ⟨_, rfl⟩
  have HZN := Lib.hid hzn
  have HZD := Lib.hid hzd
  have HZN2 : Hid ((Rat.divInt v ((10 ^ max k1 k2 : Nat) : Int)).num = zn) := by show _ = _; rw [hv2]; exact hzn
  have HZD2 : Hid ((Rat.divInt v ((10 ^ max k1 k2 : Nat) : Int)).den = zd) := by show _ = _; rw [hv2]; exact hzd
  obtain ⟨fl, hfl⟩ : ∃ z, (mkRat y p).floor = z := ⟨_, rfl⟩
  obtain ⟨wn, hwn⟩ : ∃ z, (Rat.divInt fl 1).num = z := ⟨_, rfl⟩
  obtain ⟨wd, hwd⟩ : ∃ z, (Rat.divInt fl 1).den = z := ⟨_, rfl⟩
  have HFL := Lib.hid hfl
  have HWN := Lib.hid hwn
  have HWD := Lib.hid hwd
  have hrl : RL (mkRat y p) 1048576 := rl_mk (Nat.le_trans h2.len hm) (Nat.le_trans h3.len hk) (by decide)
  have lfl := floor_len hrl
  rw [hfl] at lfl
  have hrl2 : RL (mkRat fl 1) 1048576 := rl_mk lfl (by rw [one_limb]; decide) (by decide)
  have LFL : Hid ((ofv fl.natAbs).length ≤ 35184372087808) := Nat.le_trans lfl (by decide)
  have LWN : Hid ((ofv wn.natAbs).length ≤ 17592186043000) := by show _ ≤ _; rw [← hwn]; exact Nat.le_trans hrl2.1 (by decide)
  have LWD : Hid ((ofv wd).length ≤ 17592186043000) := by show _ ≤ _; rw [← hwd]; exact Nat.le_trans hrl2.2 (by decide)
  have KM2 : Hid (m ≤ 35184372087808) := Nat.le_trans hm (by decide)
  have KK2 : Hid (k ≤ 35184372087808) := Nat.le_trans hk (by decide)
  have KM3 : Hid (m ≤ 17592186043000) := Nat.le_trans hm (by decide)
  have KK3 : Hid (k ≤ 17592186043000) := Nat.le_trans hk (by decide)
  have HC : Hid (sgR (mkRat y p - mkRat wn wd) = 1) := by
    show _ = _
    rw [← hwn, ← hwd, ← hfl]
    refine whole_one fun e => hp ?_
    rw [e] at f1
    exact facs_one f1 f2
  clear h2 h3 hm hk hE f1 f2 hv hv2 hl hq hp hzn hzd hfl hwn hwd hrl lfl hrl2
  go_enter Tryz.func6, Tryz.ntmps6
  go_wp2_with fail
  generalize (w.alloc (.cells #[.bool t, .slice B m d, .slice D k f] 26)) = w2 at *
  go_wp2_with (refine wpList_ldR (by rfl) _ rfl (by rfl) V0.out ?_)
  refine (decimal_yes HY.out HP.out KM.out KK.out HE.out F1.out F2.out HV.out HL.out).mono ?_
  rintro e w3 ⟨rfl, hb⟩
  replace V0 := Lib.hid (V0.out.below hb V0.out.lt)
  replace HY := Lib.hid (HY.out.below hb)
  replace HP := Lib.hid (HP.out.below hb)
  replace HE := Lib.hid (HE.out.below hb)
  replace B1 := Lib.hid (B1.out.trans (hb.mono B1.out.size))
  clear hb
  go_wp2_with fail
  refine (prat_ptxt HZN2.out HZD2.out HL.out Q1.out HE.out).mono ?_
  rintro e w4 ⟨P2, c2, Q2_, k2_, rfl, ho, ho2, hb⟩
  replace V0 := Lib.hid (V0.out.below hb V0.out.lt)
  replace HY := Lib.hid (HY.out.below hb)
  replace HP := Lib.hid (HP.out.below hb)
  replace HE := Lib.hid (HE.out.below hb)
  replace B1 := Lib.hid (B1.out.trans (hb.mono B1.out.size))
  have Z2 := Lib.hid (Zo.of_own ho)
  have N2 := Lib.hid ho2.rd
  clear ho ho2
  clear hb
  go_wp2_with fail
  have hb : Below w4.heap.size w4 (w4.alloc (.cells #[.bool (decide (zn < 0)), .slice P2 (ofv zn.natAbs).length c2, .slice Q2_ (ofv zd).length k2_] 26)) := (Below.refl _ _).alloc (Nat.le_refl _) _
  replace V0 := Lib.hid (V0.out.below hb V0.out.lt)
  replace HY := Lib.hid (HY.out.below hb)
  replace HP := Lib.hid (HP.out.below hb)
  replace HE := Lib.hid (HE.out.below hb)
  replace Z2 := Lib.hid (Z2.out.below hb)
  replace N2 := Lib.hid (N2.out.below hb)
  replace B1 := Lib.hid (B1.out.trans (hb.mono B1.out.size))
  have G1 := Lib.hid (Rb.new w4 (decide (zn < 0)) P2 (ofv zn.natAbs).length c2 Q2_ (ofv zd).length k2_)
  clear hb
  generalize (w4.alloc (.cells #[.bool (decide (zn < 0)), .slice P2 (ofv zn.natAbs).length c2, .slice Q2_ (ofv zd).length k2_] 26)) = w5 at *
  go_wp2_with fail
  refine (pint_ptxt HP0.out HL.out _).mono ?_
  rintro e w6 ⟨rfl, hb⟩
  replace V0 := Lib.hid (V0.out.below hb V0.out.lt)
  replace HY := Lib.hid (HY.out.below hb)
  replace HP := Lib.hid (HP.out.below hb)
  replace HE := Lib.hid (HE.out.below hb)
  replace Z2 := Lib.hid (Z2.out.below hb)
  replace N2 := Lib.hid (N2.out.below hb)
  replace G1 := Lib.hid (G1.out.below hb G1.out.lt)
  replace B1 := Lib.hid (B1.out.trans (hb.mono B1.out.size))
  clear hb
  go_wp2_with fail
  have hb : Below w6.heap.size w6 (w6.alloc (.cells #[.bool false, .slice none 0 0] 24)) := (Below.refl _ _).alloc (Nat.le_refl _) _
  replace V0 := Lib.hid (V0.out.below hb V0.out.lt)
  replace HY := Lib.hid (HY.out.below hb)
  replace HP := Lib.hid (HP.out.below hb)
  replace HE := Lib.hid (HE.out.below hb)
  replace Z2 := Lib.hid (Z2.out.below hb)
  replace N2 := Lib.hid (N2.out.below hb)
  replace G1 := Lib.hid (G1.out.below hb G1.out.lt)
  replace B1 := Lib.hid (B1.out.trans (hb.mono B1.out.size))
  have G2 := Lib.hid (Zb.new w6 false none 0 0)
  clear hb
  generalize (w6.alloc (.cells #[.bool false, .slice none 0 0] 24)) = w7 at *
  have HB : Hid (Below w7.heap.size w7 w7.drew) := below_drewN _ w7 1
  refine wp_region_held_drew (S := fun w' => Below w7.heap.size w7 w') (by kernel_rfl) (HB.out) (fun hHeld => ?_)
  refine wpAnyH_takeL (i := 0) (oi := _) rfl (by kernel_rfl) (by kernel_rfl) (by kernel_rfl) (fun _ _ _ h => h) (yields_ldR (by rfl) _ rfl (by rfl) (fun _ hb => V0.out.below hb V0.out.lt)) hHeld ?_
  try simp only [Act.put, List.setIfInBounds_toArray, List.set_cons_zero, List.set_cons_succ]
  refine wpAnyH_takeL (i := 1) (oi := _) rfl (by kernel_rfl) (by kernel_rfl) (by kernel_rfl) (fun _ _ _ h => h) (yields_ldR (by rfl) _ rfl (by rfl) (fun _ hb => V0.out.below hb V0.out.lt)) hHeld ?_
  try simp only [Act.put, List.setIfInBounds_toArray, List.set_cons_zero, List.set_cons_succ]
  refine wpAnyH_ready (rs := [2]) (by kernel_rfl) (by simp) ?_
  refine AllReadyH.consL (o := _) rfl (fun K hK => ?_) AllReadyH.nil
  clear hHeld
  go_simp
  go_at_call 25
  refine Calls.mono (r3floor_any (HY.out.below HB.out) (HP.out.below HB.out) KM2.out KK2.out HFL.out) ?_
  rintro e w8 ⟨P3, c3, rfl, ho, hb⟩
  replace HB := Lib.hid (HB.out.trans (hb.mono HB.out.size))
  have Z3 := Lib.hid (Zo.of_own ho)
  clear ho
  clear hb
  refine hK.out _ _ HB.out (fun hHeld => ?_)
  clear hK K
  try simp only [Act.put, List.setIfInBounds_toArray, List.set_cons_zero, List.set_cons_succ]
  refine wpAnyH_ready (rs := [3]) (by kernel_rfl) (by simp) ?_
  refine AllReadyH.consL (o := _) rfl (fun K hK => ?_) AllReadyH.nil
  clear hHeld
  go_simp
  go_at_call 24
  refine Calls.mono (r3whole_any Z3.out.in_ LFL.out HWN.out HWD.out) ?_
  rintro e w9 ⟨P4, c4, Q4, k4, rfl, ho, ho2, hb⟩
  replace HB := Lib.hid (HB.out.trans (hb.mono HB.out.size))
  clear Z3
  have Z4 := Lib.hid (Zo.of_own ho)
  have N4 := Lib.hid ho2.rd
  clear ho ho2
  clear hb
  refine hK.out _ _ HB.out (fun hHeld => ?_)
  clear hK K
  try simp only [Act.put, List.setIfInBounds_toArray, List.set_cons_zero, List.set_cons_succ]
  refine wpAnyH_ready (rs := [4]) (by kernel_rfl) (by simp) ?_
  refine AllReadyH.consL (o := _) rfl (fun K hK => ?_) AllReadyH.nil
  clear hHeld
  go_simp
  go_at_call 23
  refine Calls.mono (r3compare_any (r := 1) (HY.out.below HB.out) (HP.out.below HB.out) Z4.out.in_ (Nin.of_rd N4.out) KM3.out KK3.out LWN.out LWD.out HC.out) ?_
  rintro e w10 ⟨rfl, hb⟩
  replace HB := Lib.hid (HB.out.trans (hb.mono HB.out.size))
  clear Z4 N4
  clear hb
  refine hK.out _ _ HB.out (fun hHeld => ?_)
  clear hK K
  try simp only [Act.put, List.setIfInBounds_toArray, List.set_cons_zero, List.set_cons_succ]
  refine wpAnyH_takeL (i := 5) (oi := _) (v := ?_) rfl (by kernel_rfl) (by kernel_rfl) (by kernel_rfl) (fun _ _ _ h => h) (Or.inl ⟨by rfl, ?_⟩) hHeld ?_
  rotate_left
  · (intro w' hSw; (try dsimp only at hSw); go_simp; try (with_reducible rfl))
  try simp only [Act.put, List.setIfInBounds_toArray, List.set_cons_zero, List.set_cons_succ]
  refine wpAnyH_takeL (i := 6) (oi := _) (v := ?_) rfl (by kernel_rfl) (by kernel_rfl) (by kernel_rfl) (fun _ _ _ h => h) (Or.inl ⟨by rfl, ?_⟩) hHeld ?_
  rotate_left
  · (intro w' hSw; (try dsimp only at hSw); go_simp; try (with_reducible rfl))
  try simp only [Act.put, List.setIfInBounds_toArray, List.set_cons_zero, List.set_cons_succ]
  skip
  refine wpAnyH_done (by kernel_rfl) ?_ _
  have hb := HB.out
  replace V0 := Lib.hid (V0.out.below hb V0.out.lt)
  replace HY := Lib.hid (HY.out.below hb)
  replace HP := Lib.hid (HP.out.below hb)
  replace HE := Lib.hid (HE.out.below hb)
  replace Z2 := Lib.hid (Z2.out.below hb)
  replace N2 := Lib.hid (N2.out.below hb)
  replace G1 := Lib.hid (G1.out.below hb G1.out.lt)
  replace G2 := Lib.hid (G2.out.below hb G2.out.lt)
  replace B1 := Lib.hid (B1.out.trans (hb.mono B1.out.size))
  clear hHeld hb HB
  go_wp2_with fail
  have HB : Hid (Below w10.heap.size w10 w10.drew) := below_drewN _ w10 1
  refine wp_region_held_drew (S := fun w' => Below w10.heap.size w10 w') (by kernel_rfl) (HB.out) (fun hHeld => ?_)
  refine wpAnyH_ready (rs := [0]) (by kernel_rfl) (by simp) ?_
  refine AllReadyH.consL (o := _) rfl (fun K hK => ?_) AllReadyH.nil
  clear hHeld
  go_simp
  go_at_call 8
  refine Calls.mono (nawake_any (HE.out.below HB.out)) ?_
  rintro e w11 ⟨rfl, hb⟩
  replace HB := Lib.hid (HB.out.trans (hb.mono HB.out.size))
  clear hb
  refine hK.out _ _ HB.out (fun hHeld => ?_)
  clear hK K
  try simp only [Act.put, List.setIfInBounds_toArray, List.set_cons_zero, List.set_cons_succ]
  refine wpAnyH_takeL (i := 1) (oi := _) (v := ?_) rfl (by kernel_rfl) (by kernel_rfl) (by kernel_rfl) (fun _ _ _ h => h) (Or.inl ⟨by rfl, ?_⟩) hHeld ?_
  rotate_left
  · (intro w' hSw; (try dsimp only at hSw); go_simp; try (with_reducible rfl))
  try simp only [Act.put, List.setIfInBounds_toArray, List.set_cons_zero, List.set_cons_succ]
  refine wpAnyH_takeL (i := 2) (oi := _) (v := ?_) rfl (by kernel_rfl) (by kernel_rfl) (by kernel_rfl) (fun _ _ _ h => h) (Or.inl ⟨by rfl, ?_⟩) hHeld ?_
  rotate_left
  · (intro w' hSw; (try dsimp only at hSw); go_simp; try (with_reducible rfl))
  try simp only [Act.put, List.setIfInBounds_toArray, List.set_cons_zero, List.set_cons_succ]
  refine wpAnyH_takeL (i := 3) (oi := _) (v := ?_) rfl (by kernel_rfl) (by kernel_rfl) (by kernel_rfl) (fun _ _ _ h => h) (Or.inl ⟨by rfl, ?_⟩) hHeld ?_
  rotate_left
  · (intro w' hSw; (try dsimp only at hSw); go_simp; try (with_reducible rfl))
  try simp only [Act.put, List.setIfInBounds_toArray, List.set_cons_zero, List.set_cons_succ]
  refine wpAnyH_takeL (i := 4) (oi := _) (v := ?_) rfl (by kernel_rfl) (by kernel_rfl) (by kernel_rfl) (fun _ _ _ h => h) (Or.inl ⟨by rfl, ?_⟩) hHeld ?_
  rotate_left
  · (intro w' hSw; (try dsimp only at hSw); go_simp; try (with_reducible rfl))
  try simp only [Act.put, List.setIfInBounds_toArray, List.set_cons_zero, List.set_cons_succ]
  refine wpAnyH_takeL (i := 5) (oi := _) (v := ?_) rfl (by kernel_rfl) (by kernel_rfl) (by kernel_rfl) (fun _ _ _ h => h) (Or.inl ⟨by rfl, ?_⟩) hHeld ?_
  rotate_left
  · (intro w' hSw; (try dsimp only at hSw); go_simp; try (with_reducible rfl))
  try simp only [Act.put, List.setIfInBounds_toArray, List.set_cons_zero, List.set_cons_succ]
  refine wpAnyH_takeL (i := 6) (oi := _) rfl (by kernel_rfl) (by kernel_rfl) (by kernel_rfl) (fun _ _ _ h => h) (yields_ldR (by rfl) _ rfl (by rfl) (fun _ hb => G1.out.below hb G1.out.lt)) hHeld ?_
  try simp only [Act.put, List.setIfInBounds_toArray, List.set_cons_zero, List.set_cons_succ]
  refine wpAnyH_takeL (i := 7) (oi := _) rfl (by kernel_rfl) (by kernel_rfl) (by kernel_rfl) (fun _ _ _ h => h) (yields_ldR (by rfl) _ rfl (by rfl) (fun _ hb => V0.out.below hb V0.out.lt)) hHeld ?_
  try simp only [Act.put, List.setIfInBounds_toArray, List.set_cons_zero, List.set_cons_succ]
  refine wpAnyH_ready (rs := [8]) (by kernel_rfl) (by simp) ?_
  refine AllReadyH.consL (o := _) rfl (fun K hK => ?_) AllReadyH.nil
  clear hHeld
  go_simp
  go_at_call 22
  refine Calls.mono (rnorm_any (HY.out.below HB.out) (HP.out.below HB.out) KM2.out KK2.out HZN.out HZD.out) ?_
  rintro e w12 ⟨P5, c5, Q5, k5, rfl, ho, ho2, hb⟩
  replace HB := Lib.hid (HB.out.trans (hb.mono HB.out.size))
  have Z5 := Lib.hid (Zo.of_own ho)
  have N5 := Lib.hid ho2.rd
  clear ho ho2
  clear hb
  refine hK.out _ _ HB.out (fun hHeld => ?_)
  clear hK K
  try simp only [Act.put, List.setIfInBounds_toArray, List.set_cons_zero, List.set_cons_succ]
  refine wpAnyH_ready (rs := [9]) (by kernel_rfl) (by simp) ?_
  refine AllReadyH.consL (o := _) rfl (fun K hK => ?_) AllReadyH.nil
  clear hHeld
  go_simp
  go_at_call 21
  refine Calls.mono (r3equal_any (b := true) (Z2.out.below HB.out) Z5.out (N2.out.below HB.out) N5.out (by simp)) ?_
  rintro e w13 ⟨rfl, hb⟩
  replace HB := Lib.hid (HB.out.trans (hb.mono HB.out.size))
  clear Z5 N5
  clear hb
  refine hK.out _ _ HB.out (fun hHeld => ?_)
  clear hK K
  try simp only [Act.put, List.setIfInBounds_toArray, List.set_cons_zero, List.set_cons_succ]
  refine wpAnyH_takeL (i := 10) (oi := _) (v := ?_) rfl (by kernel_rfl) (by kernel_rfl) (by kernel_rfl) (fun _ _ _ h => h) (Or.inl ⟨by rfl, ?_⟩) hHeld ?_
  rotate_left
  · (intro w' hSw; (try dsimp only at hSw); go_simp; try (with_reducible rfl))
  try simp only [Act.put, List.setIfInBounds_toArray, List.set_cons_zero, List.set_cons_succ]
  refine wpAnyH_takeL (i := 11) (oi := _) (v := ?_) rfl (by kernel_rfl) (by kernel_rfl) (by kernel_rfl) (fun _ _ _ h => h) (Or.inl ⟨by rfl, ?_⟩) hHeld ?_
  rotate_left
  · (intro w' hSw; (try dsimp only at hSw); go_simp; try (with_reducible rfl))
  try simp only [Act.put, List.setIfInBounds_toArray, List.set_cons_zero, List.set_cons_succ]
  refine wpAnyH_takeL (i := 12) (oi := _) (v := ?_) rfl (by kernel_rfl) (by kernel_rfl) (by kernel_rfl) (fun _ _ _ h => h) (Or.inl ⟨by rfl, ?_⟩) hHeld ?_
  rotate_left
  · (intro w' hSw; (try dsimp only at hSw); go_simp; try (with_reducible rfl))
  try simp only [Act.put, List.setIfInBounds_toArray, List.set_cons_zero, List.set_cons_succ]
  refine wpAnyH_takeL (i := 13) (oi := _) (v := ?_) rfl (by kernel_rfl) (by kernel_rfl) (by kernel_rfl) (fun _ _ _ h => h) (Or.inl ⟨by rfl, ?_⟩) hHeld ?_
  rotate_left
  · (intro w' hSw; (try dsimp only at hSw); go_simp; try (with_reducible rfl))
  try simp only [Act.put, List.setIfInBounds_toArray, List.set_cons_zero, List.set_cons_succ]
  refine wpAnyH_takeL (i := 14) (oi := _) (v := ?_) rfl (by kernel_rfl) (by kernel_rfl) (by kernel_rfl) (fun _ _ _ h => h) (Or.inl ⟨by rfl, ?_⟩) hHeld ?_
  rotate_left
  · (intro w' hSw; (try dsimp only at hSw); go_simp; try (with_reducible rfl))
  try simp only [Act.put, List.setIfInBounds_toArray, List.set_cons_zero, List.set_cons_succ]
  refine wpAnyH_takeL (i := 15) (oi := _) (v := ?_) rfl (by kernel_rfl) (by kernel_rfl) (by kernel_rfl) (fun _ _ _ h => h) (Or.inl ⟨by rfl, ?_⟩) hHeld ?_
  rotate_left
  · (intro w' hSw; (try dsimp only at hSw); go_simp; try (with_reducible rfl))
  try simp only [Act.put, List.setIfInBounds_toArray, List.set_cons_zero, List.set_cons_succ]
  refine wpAnyH_takeL (i := 16) (oi := _) (v := ?_) rfl (by kernel_rfl) (by kernel_rfl) (by kernel_rfl) (fun _ _ _ h => h) (Or.inl ⟨by rfl, ?_⟩) hHeld ?_
  rotate_left
  · (intro w' hSw; (try dsimp only at hSw); go_simp; try (with_reducible rfl))
  try simp only [Act.put, List.setIfInBounds_toArray, List.set_cons_zero, List.set_cons_succ]
  refine wpAnyH_takeL (i := 17) (oi := _) (v := ?_) rfl (by kernel_rfl) (by kernel_rfl) (by kernel_rfl) (fun _ _ _ h => h) (Or.inl ⟨by rfl, ?_⟩) hHeld ?_
  rotate_left
  · (intro w' hSw; (try dsimp only at hSw); go_simp; try (with_reducible rfl))
  try simp only [Act.put, List.setIfInBounds_toArray, List.set_cons_zero, List.set_cons_succ]
  skip
  refine wpAnyH_done (by kernel_rfl) ?_ _
  have hb := HB.out
  replace V0 := Lib.hid (V0.out.below hb V0.out.lt)
  replace HY := Lib.hid (HY.out.below hb)
  replace HP := Lib.hid (HP.out.below hb)
  replace HE := Lib.hid (HE.out.below hb)
  replace Z2 := Lib.hid (Z2.out.below hb)
  replace N2 := Lib.hid (N2.out.below hb)
  replace G1 := Lib.hid (G1.out.below hb G1.out.lt)
  replace G2 := Lib.hid (G2.out.below hb G2.out.lt)
  replace B1 := Lib.hid (B1.out.trans (hb.mono B1.out.size))
  clear hb
  go_wp2
  go_ret
  exact ⟨rfl, B1.out⟩
theorem numtextExact_walk {t : Bool} {B : Option Addr} {m d : Nat} {y : Int} {D : Option Addr} {k f : Nat} {p : Nat} (w : World) (h2 : Zin w t B m d y) (hm : m ≤ 1048576) (h3 : Nin w D k f p) (hk : k ≤ 1048576) (hE : Env w) : Calls Tryz.prog 6 #[.agg #[.bool t, .slice B m d, .slice D k f]] w fun e w' => e = .returned (.bool true) ∧ Below w.heap.size w w' := by
  obtain ⟨k1, r1, f1⟩ := facs_exists 2 (by omega) (mkRat y p).den (den_pos _)
  obtain ⟨k2, r2, f2⟩ := facs_exists 5 (by omega) r1 (f1.pos (den_pos _))
  by_cases h1 : r2 = 1
  · subst h1
    obtain ⟨v, hv, hv2⟩ := dec_exact f1 f2 (Nat.le_max_left k1 k2) (Nat.le_max_right k1 k2)
    by_cases hq : (ptxt v (max k1 k2)).length ≤ 4096
    · by_cases hp : max k1 k2 = 0
      · exact numtextExact_whole w h2 hm h3 hk hE f1 f2 hv hv2 rfl hq hp
      · exact numtextExact_part w h2 hm h3 hk hE f1 f2 hv hv2 rfl hq hp
    · exact numtextExact_long w h2 hm h3 hk hE f1 f2 hv hv2 rfl (by omega)
  · exact numtextExact_no w h2 hm h3 hk hE f1 f2 h1
end Go.Proofs.YtebpoabflcngoaaGreatDoor
