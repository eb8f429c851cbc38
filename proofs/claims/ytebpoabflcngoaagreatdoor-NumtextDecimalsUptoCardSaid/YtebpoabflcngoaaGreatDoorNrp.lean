/-
  Contracts of the reference's texts: power, point, Fixed.
-/
import Derived.Test.YtebpoabflcngoaaGreatDoorNref
import Derived.Test.YtebpoabflcngoaaGreatDoorNW
import Derived.Test.YtebpoabflcngoaaGreatDoorRreg
import Derived.Test.YtebpoabflcngoaaGreatDoorRround
namespace Go.Proofs.YtebpoabflcngoaaGreatDoor
open Go.RowKit
set_option linter.unusedVariables false
set_option linter.unusedSimpArgs false

set_option maxRecDepth 100000 in
set_option maxHeartbeats 16000000 in
theorem rten_any {z : Int} (hz : 10 = z) (w : World) : Calls Tryz.prog 87 #[] w (GivesZ w z) := by
  obtain ⟨B1, V0⟩ := start_nZ0 w
  have K1 : Hid (-9223372036854775808 ≤ (10 : Int) ∧ (10 : Int) ≤ 9223372036854775807) := by show _ ∧ _; omega
  have E1 := Lib.hid hz
  clear hz
  go_enter Tryz.func87, Tryz.ntmps87
  go_wp2_with fail
  generalize (w.alloc (.cells #[.bool false, .slice none 0 0] 24)) = w2 at *
  have pc0 := Lib.hid trivial
  go_wp2_with (first
    | (clear pc0; have SZ := Lib.hid B1.out.size; go_at_call 26; refine Calls.mono (rfromInt_z (v := 10) K1.out E1.out _) ?_; rintro e w3 ⟨P1, c1, rfl, ho, hb⟩; replace V0 := Lib.hid (V0.out.below hb V0.out.lt); replace B1 := Lib.hid (B1.out.trans (hb.mono B1.out.size)); have OQ := Lib.hid (ho.mono SZ.out); clear ho SZ; clear hb; have pc1 := Lib.hid trivial)
    | (clear pc1; refine wpList_stZ (by rfl) _ _ rfl (by rfl) (by rfl) V0.out ?_; intro w4 hz hg; replace OQ := Lib.hid (OQ.out.gr V0.out hg); replace B1 := Lib.hid (Below.gr B1.out (by omega) hg B1.out.size); replace V0 := Lib.hid hz; clear hz hg; have pc2 := Lib.hid trivial))
  clear pc2
  exact ret_zb Tryz.results87 rfl rfl V0.out ⟨_, _, rfl, OQ.out, B1.out⟩
def PwInv (w : World) (n i : Nat) (g3 : Nat) (y : Int) (P : Option Addr) (c : Nat) (wr : World) : Prop :=
  i ≤ n ∧ ((10 ^ i : Nat) : Int) = y ∧ Zb wr g3 (decide (y < 0)) P (ofv y.natAbs).length c ∧ Own wr w.heap.size P c (ofv y.natAbs) ∧ Zb wr w.heap.size false none 0 0 ∧ Below w.heap.size w wr
set_option maxRecDepth 100000 in
set_option maxHeartbeats 16000000 in
theorem rpower_any {n : Nat} (hn : n ≤ 1000000000) {v z : Int} (hv : v = (n : Int)) (hz : ((10 ^ n : Nat) : Int) = z) (w : World) : Calls Tryz.prog 46 #[.int .i64 v] w (GivesZ w z) := by
  subst hv
  obtain ⟨B1, V0⟩ := start_nZ0 w
  have K1 : Hid (-9223372036854775808 ≤ (1 : Int) ∧ (1 : Int) ≤ 9223372036854775807) := by show _ ∧ _; omega
  obtain ⟨one, h1⟩ : ∃ z : Int, 1 = z := ⟨_, rfl⟩
  obtain ⟨ten, h10⟩ : ∃ z : Int, 10 = z := ⟨_, rfl⟩
  have E1 := Lib.hid h1
  have E10 := Lib.hid h10
  have HN := Lib.hid hn
  have HZ := Lib.hid hz
  have lten : (ofv ten.natAbs).length ≤ 1 := by rw [← h10]; exact len_small (by decide)
  have LTEN := Lib.hid lten
  clear hn hz h1 h10 lten
  go_enter Tryz.func46, Tryz.ntmps46
  go_wp2_with fail
  generalize (w.alloc (.cells #[.bool false, .slice none 0 0] 24)) = w2 at *
  have SZ : Hid (w.heap.size ≤ w2.heap.size) := B1.out.size
  go_wp2_with fail
  refine (rfromInt_z (v := 1) (z := one) K1.out E1.out _).mono ?_
  rintro e w3 ⟨P, c, rfl, ho, hb⟩
  replace V0 := Lib.hid (V0.out.below hb V0.out.lt)
  replace B1 := Lib.hid (B1.out.trans (hb.mono B1.out.size))
  have OP := Lib.hid (ho.mono SZ.out)
  clear ho SZ
  clear hb
  go_wp2_with fail
  have LW3 : Hid (w.heap.size < w3.heap.size) := V0.out.lt
  have hb : Below w3.heap.size w3 (w3.alloc (.cells #[.bool (decide (one < 0)), .slice P (ofv one.natAbs).length c] 24)) := (Below.refl _ _).alloc (Nat.le_refl _) _
  replace V0 := Lib.hid (V0.out.below hb V0.out.lt)
  replace OP := Lib.hid (OP.out.below hb)
  replace B1 := Lib.hid (B1.out.trans (hb.mono B1.out.size))
  have V1 := Lib.hid (Zb.new w3 (decide (one < 0)) P (ofv one.natAbs).length c)
  clear hb
  generalize (w3.alloc (.cells #[.bool (decide (one < 0)), .slice P (ofv one.natAbs).length c] 24)) = w4 at *
  have LG : Hid (w.heap.size < w3.heap.size) := by have h0 := LW3.out; exact h0
  generalize w3.heap.size = g3 at *
  clear LW3
  go_loopw [4] (fun a wr => ∃ (i : Nat) (y : Int) (P : Option Addr) (c : Nat), Hid (PwInv w n i g3 y P c wr) ∧ a = .int .i64 (i : Int)) (fun a _ => ((n : Int) - intOf a).toNat)
  case atStart => exact ⟨0, one, P, c, ⟨Nat.zero_le _, by rw [← E1.out]; rfl, V1.out, OP.out, V0.out, B1.out⟩, rfl⟩
  case round =>
    obtain ⟨i, y, P, c, INV, rfl⟩ := hrel
    clear V0 V1 OP B1
    have HI := Lib.hid INV.out.1
    have HY := Lib.hid INV.out.2.1
    have V1 := Lib.hid INV.out.2.2.1
    have OY := Lib.hid INV.out.2.2.2.1
    have V0 := Lib.hid INV.out.2.2.2.2.1
    have B1 := Lib.hid INV.out.2.2.2.2.2
    clear INV
    have ly : (ofv y.natAbs).length ≤ 1000000001 := by rw [← HY.out, Int.natAbs_natCast]; exact Nat.le_trans (len_ten _) (by have := HI.out; have := HN.out; omega)
    by_cases hlt : (i : Int) < (n : Int)
    · obtain ⟨y2, hy2⟩ : ∃ z, y * ten = z := ⟨_, rfl⟩
      have HY2 := Lib.hid hy2
      have LM : Hid ((ofv y.natAbs).length + (ofv ten.natAbs).length ≤ 70368744177664) := by have := LTEN.out; show _ ≤ _; omega
      have SB : Hid (w.heap.size ≤ wr.heap.size) := B1.out.size
      have hlt2 : i < n := by omega
      have hw : IntKind.i64.wrap ((i : Int) + 1) = (i : Int) + 1 := IntWalk.i64_in _ (by have := HN.out; omega)
      clear hy2 ly
      go_wp2_with fail
      have HB : Hid (Below wr.heap.size wr wr.drew) := below_drewN _ wr 1
      refine wp_region_held_drew (S := fun _ => True) (by kernel_rfl) trivial (fun hHeld => ?_)
      refine wpAnyH_rgu [(0, some 11), (1, some 12), (2, some 13)] [] (isZ y2 wr.heap.size) [(0, isZ y w.heap.size), (1, isZ ten wr.heap.size)] wr (f0 := 1) (by kernel_rfl) (by kernel_rfl) (by rfl) HB.out (fun _ _ => trivial) (fun _ _ _ _ _ h => h) (isZ_good _ _) ⟨isZ_good _ _, isZ_good _ _, trivial⟩ ?_ ?_ ?_
      · clear hHeld HB
        show RgOps _ _ _ _ _ _ _ _ _ [0, 1, 2]
        refine RgOps.consL (o := _) (ds := []) rfl rfl (by kernel_rfl) (fun vals wr hbr hC hdep K hK => ?_) ?_
        · have BB := Lib.hid hbr
          clear hdep
          clear hbr hC
          simp only [Upd2, Act.put, List.setIfInBounds_toArray, List.set_cons_zero, List.set_cons_succ] at hK ⊢
          rw [if_pos (by rfl)]
          refine wp_ldZ _ rfl (by rfl) (V1.out.below BB.out V1.out.lt) ?_
          exact hK.out _ _ (LeavesB.same ⟨_, _, rfl, OY.out.below BB.out⟩ rfl)
        refine RgOps.consL (o := _) (ds := []) rfl rfl (by kernel_rfl) (fun vals wr hbr hC hdep K hK => ?_) ?_
        · have BB := Lib.hid hbr
          clear hdep
          clear hbr hC
          simp only [Upd2, Act.put, List.setIfInBounds_toArray, List.set_cons_zero, List.set_cons_succ] at hK ⊢
          go_simp
          go_at_call 87
          refine Calls.mono (rten_any E10.out _) ?_
          rintro e wq ⟨R, cR, rfl, ho, hb⟩
          exact hK.out _ _ (LeavesB.giveZ BB.out.size ho hb)
        refine RgOps.consL (o := _) (ds := [0, 1]) rfl rfl (by kernel_rfl) (fun vals wr hbr hC hdep K hK => ?_) RgOps.nil
        · have BB := Lib.hid hbr
          obtain ⟨⟨P0, c0, e0, o0⟩, ⟨P1, c1, e1, o1⟩, -⟩ := hdep
          clear hbr hC
          simp only [e0, e1, Upd2, Act.put, List.setIfInBounds_toArray, List.set_cons_zero, List.set_cons_succ] at hK ⊢
          clear e0 e1
          go_simp
          go_at_call 86
          refine Calls.mono (rmul_z (Zo.of_own o0).in_ (Zo.of_own o1).in_ LM.out HY2.out) ?_
          rintro e wq ⟨R, cR, rfl, ho, hb⟩
          exact hK.out _ _ (LeavesB.giveZ BB.out.size ho hb)
      · clear hHeld HB
        show TaAll _ _ _ _ _ []
        exact TaAll.nil
      clear hHeld HB
      intro vals wr hb hdep hD
      obtain ⟨⟨P0, c0, e0, o0⟩, ⟨P1, c1, e1, o1⟩, ⟨P2, c2, e2, o2⟩, -⟩ := hdep
      simp only [Upd2, e0, e1, e2, Act.put, List.setIfInBounds_toArray, List.set_cons_zero, List.set_cons_succ]
      clear e0 e1 e2
      clear hD vals
      replace V0 := Lib.hid (V0.out.below hb V0.out.lt)
      replace V1 := Lib.hid (V1.out.below hb V1.out.lt)
      replace OY := Lib.hid (OY.out.below hb)
      replace B1 := Lib.hid (B1.out.trans (hb.mono B1.out.size))
      have HB := Lib.hid hb
      clear hb
      have O2 := Lib.hid (o2.mono SB.out)
      clear o0 o1 o2
      refine wpAnyH_ready (rs := [3]) (by kernel_rfl) (by simp) ?_
      refine AllReadyH.consL (o := _) rfl (fun K hK => ?_) AllReadyH.nil
      rw [if_pos (by rfl)]
      refine wp_stZ _ _ rfl (by rfl) (by rfl) V1.out ?_
      intro w6_0 hz hg
      replace V0 := Lib.hid (V0.out.gr hg (by have := LG.out; omega))
      replace OY := Lib.hid (OY.out.gr V1.out hg)
      replace O2 := Lib.hid (O2.out.gr V1.out hg)
      replace B1 := Lib.hid (Below.gr B1.out (by have := LG.out; omega) hg B1.out.size)
      replace V1 := Lib.hid hz
      refine hK.out _ _ trivial (fun _ => ?_)
      clear hK K hg hz
      try simp only [Act.put]
      refine wpAnyH_done (by kernel_rfl) ?_ _
      clear HB
      go_wp2
      go_roundw
      case rel =>
        refine ⟨i + 1, y2, _, _, ⟨by omega, ?_, V1.out, O2.out, V0.out, B1.out⟩, by simp⟩
        rw [← HY2.out, ← HY.out, ← E10.out, Nat.pow_succ]
        simp
      case measure => simp [intOf]; omega
    · have hi : i = n := by have := HI.out; omega
      have HYZ : Hid (y = z) := by show _ = _; rw [← HY.out, hi]; exact HZ.out
      clear hi ly
      have pc0 := Lib.hid trivial
      go_wp2_with (first
        | (clear pc0; refine wpList_ldZ (by rfl) _ rfl (by rfl) V1.out ?_; have pc1 := Lib.hid trivial)
        | (clear pc1; refine wpList_stZ (by rfl) _ _ rfl (by rfl) (by rfl) V0.out ?_; intro w7 hz hg; replace V1 := Lib.hid (V1.out.gr hg (by have := LG.out; omega)); replace OY := Lib.hid (OY.out.gr V0.out hg); replace B1 := Lib.hid (Below.gr B1.out (by omega) hg B1.out.size); replace V0 := Lib.hid hz; clear hz hg; have pc2 := Lib.hid trivial))
      clear pc2
      have e := HYZ.out
      subst e
      exact ret_zb Tryz.results46 rfl rfl V0.out ⟨_, _, rfl, OY.out, B1.out⟩
def PtInv (w : World) (K k : Nat) (sb : Bool) (z : Int) (P : Option Addr) (c : Nat) (wr : World) : Prop := k ≤ K ∧ Zb wr w.heap.size sb P (ofv z.natAbs).length c ∧ Below w.heap.size w wr
set_option maxRecDepth 100000 in
set_option maxHeartbeats 16000000 in
theorem rpoint_any {s : Bool} {A : Option Addr} {n c : Nat} {x : Int} {w : World} (h : Zin w s A n c x) (hn : n ≤ 300000000) {p : Nat} (hp : p ≤ 1000000000) {pv : Int} (hpv : pv = (p : Int)) {l : List UInt8} (hl : ptxt x p = l) :
    Calls Tryz.prog 47 #[.agg #[.bool s, .slice A n c], .int .i64 pv] w fun e w' => e = .returned (.string (txt l)) ∧ Below w.heap.size w w' := by
  subst hpv
  obtain ⟨B1, V0⟩ := start_nZ w s A n c
  obtain ⟨z, hz⟩ : ∃ z, x = z := ⟨_, rfl⟩
  obtain ⟨l1, hl1⟩ : ∃ l, Lib.decDigits z.natAbs = l := ⟨_, rfl⟩
  obtain ⟨zz, hzz⟩ : ∃ l, padz (p + 1) l1 = l := ⟨_, rfl⟩
  have HX := Lib.hid (h.below B1.out)
  have HZ := Lib.hid hz
  have HL1 := Lib.hid hl1
  have KN : Hid (n ≤ 70368744177664) := Nat.le_trans hn (by decide)
  have lz : (ofv z.natAbs).length ≤ 300000000 := by rw [← hz]; exact Nat.le_trans h.len hn
  have LZ : Hid ((ofv z.natAbs).length ≤ 10000000000) := Nat.le_trans lz (by decide)
  have ll : l1.length ≤ 3000000002 := by
    have := itoa_len (x := ((z.natAbs : Nat) : Int)) (N := 300000000) (by rw [Int.natAbs_natCast]; exact lz)
    rw [itoa_nat, hl1] at this
    exact this
  have l1pos : 1 ≤ l1.length := by rw [← hl1]; exact List.length_pos_iff.2 (dec_ne _)
  have hzl : zz.length = max (p + 1) l1.length := by rw [← hzz]; unfold padz; rw [List.length_append, List.length_replicate]; omega
  obtain ⟨K, hK⟩ : ∃ K, p + 1 - l1.length = K := ⟨_, rfl⟩
  have HK := Lib.hid hK
  have HZZ : Hid (List.replicate K 48 ++ l1 = zz) := by show _ = _; rw [← hzz, ← hK]; rfl
  have LL := Lib.hid ll
  have LP := Lib.hid l1pos
  have HZL := Lib.hid hzl
  have HP := Lib.hid hp
  have SZ : Hid (w.heap.size ≤ (w.alloc (.cells #[.bool s, .slice A n c] 24)).heap.size) := B1.out.size
  rw [hz] at hl
  have HL := Lib.hid hl
  have cz : ¬ 9223372036854775807 < 1 + (txt zz).size := by rw [txt_size]; omega
  clear h hn hp hl hz hl1 lz ll l1pos hzz hzl hK
  by_cases hneg : z < 0 <;> by_cases hp0 : p = 0
  · have FIN : Hid (l = 45 :: zz) := by
      show _ = _
      have h1 := HZL.out
      have h2 := LP.out
      have h3 := HK.out
      rw [← HL.out, hp0, ptxt_zero, itoa_neg hneg, HL1.out, ← HZZ.out, show K = 0 by omega]
      rfl
    clear HL
    go_enter Tryz.func47, Tryz.ntmps47
    go_wp2_with fail
    generalize (w.alloc (.cells #[.bool s, .slice A n c] 24)) = w2 at *
    go_wp2_with (refine wpList_ldZ (by rfl) _ rfl (by rfl) V0.out ?_)
    refine (rnrm_z HX.out KN.out HZ.out).mono ?_
    rintro e w3 ⟨P1, c1, rfl, ho, hb⟩
    replace V0 := Lib.hid (V0.out.below hb V0.out.lt)
    replace HX := Lib.hid (HX.out.below hb)
    replace B1 := Lib.hid (B1.out.trans (hb.mono B1.out.size))
    have OZ := Lib.hid (ho.mono SZ.out)
    clear ho hb HX
    have pc0 := Lib.hid trivial
    go_wp2_with (first
      | (clear pc0; refine wpList_stZ (by rfl) _ _ rfl (by rfl) (by rfl) V0.out ?_; intro w4 hz hg; replace OZ := Lib.hid (OZ.out.gr V0.out hg); replace B1 := Lib.hid (Below.gr B1.out (by omega) hg B1.out.size); replace V0 := Lib.hid hz; clear hz hg; have pc1 := Lib.hid trivial)
      | (clear pc1; refine wpList_ldZm (by rfl) _ rfl (by rfl) V0.out ?_; have pc2 := Lib.hid trivial))
    clear pc2
    refine (digits_any OZ.out.rd LZ.out HL1.out).mono ?_
    rintro e w5 ⟨rfl, hb⟩
    replace V0 := Lib.hid (V0.out.below hb V0.out.lt)
    replace OZ := Lib.hid (OZ.out.below hb)
    replace B1 := Lib.hid (B1.out.trans (hb.mono B1.out.size))
    clear hb OZ
    go_wp2_with fail
    go_loopw [5] (fun s wr => ∃ k : Nat, Hid (PtInv w K k true z P1 c1 wr) ∧ s = .string (txt (List.replicate k 48 ++ l1))) (fun s _ => p + 1 - sizeS s)
    case atStart => exact ⟨0, ⟨Nat.zero_le _, V0.out, B1.out⟩, rfl⟩
    case round =>
      obtain ⟨k, INV, rfl⟩ := hrel
      clear V0 B1
      have V0 := Lib.hid INV.out.2.1
      have B1 := Lib.hid INV.out.2.2
      have hk := INV.out.1
      clear INV
      obtain ⟨m, hm⟩ : ∃ m, List.replicate k 48 ++ l1 = m := ⟨_, rfl⟩
      have hml : m.length = k + l1.length := by rw [← hm, List.length_append, List.length_replicate]
      have k1 := HK.out
      have k2 := LL.out
      have k3 := HP.out
      have k4 := LP.out
      rw [hm]
      have hlt : ¬ k < K := by omega
      have hkk : k = K := by omega
      have hmz : m = zz := by rw [← hm, hkk]; exact HZZ.out
      have hs := txt_size zz
      have zl : p + 1 ≤ zz.length := by rw [HZL.out]; omega
      have zm : zz.length ≤ 4611686018427387904 := by rw [HZL.out]; omega
      have hne : ¬ zz = [] := fun e => by (have h0 : zz.length = 0 := (by rw [e]; rfl)); omega
      rw [hmz]
      clear hk hml k1 k2 k3 k4 hlt hm hkk hmz
      have hpz : (p : Int) = 0 := by omega
      go_wp2_with (refine wpList_ldZs (by rfl) _ rfl (by rfl) V0.out ?_)
      go_ret
      refine ⟨?_, B1.out⟩
      rw [FIN.out]
      rfl
  · have FIN : Hid (l = 45 :: (zz.take (zz.length - p) ++ 46 :: zz.drop (zz.length - p))) := by
      show _ = _
      rw [← HL.out]
      unfold ptxt ptd
      rw [if_pos hneg, if_neg hp0, HL1.out]
      rw [← HZZ.out, ← HK.out]
      rfl
    clear HL
    go_enter Tryz.func47, Tryz.ntmps47
    go_wp2_with fail
    generalize (w.alloc (.cells #[.bool s, .slice A n c] 24)) = w2 at *
    go_wp2_with (refine wpList_ldZ (by rfl) _ rfl (by rfl) V0.out ?_)
    refine (rnrm_z HX.out KN.out HZ.out).mono ?_
    rintro e w3 ⟨P1, c1, rfl, ho, hb⟩
    replace V0 := Lib.hid (V0.out.below hb V0.out.lt)
    replace HX := Lib.hid (HX.out.below hb)
    replace B1 := Lib.hid (B1.out.trans (hb.mono B1.out.size))
    have OZ := Lib.hid (ho.mono SZ.out)
    clear ho hb HX
    have pc0 := Lib.hid trivial
    go_wp2_with (first
      | (clear pc0; refine wpList_stZ (by rfl) _ _ rfl (by rfl) (by rfl) V0.out ?_; intro w4 hz hg; replace OZ := Lib.hid (OZ.out.gr V0.out hg); replace B1 := Lib.hid (Below.gr B1.out (by omega) hg B1.out.size); replace V0 := Lib.hid hz; clear hz hg; have pc1 := Lib.hid trivial)
      | (clear pc1; refine wpList_ldZm (by rfl) _ rfl (by rfl) V0.out ?_; have pc2 := Lib.hid trivial))
    clear pc2
    refine (digits_any OZ.out.rd LZ.out HL1.out).mono ?_
    rintro e w5 ⟨rfl, hb⟩
    replace V0 := Lib.hid (V0.out.below hb V0.out.lt)
    replace OZ := Lib.hid (OZ.out.below hb)
    replace B1 := Lib.hid (B1.out.trans (hb.mono B1.out.size))
    clear hb OZ
    go_wp2_with fail
    go_loopw [5] (fun s wr => ∃ k : Nat, Hid (PtInv w K k true z P1 c1 wr) ∧ s = .string (txt (List.replicate k 48 ++ l1))) (fun s _ => p + 1 - sizeS s)
    case atStart => exact ⟨0, ⟨Nat.zero_le _, V0.out, B1.out⟩, rfl⟩
    case round =>
      obtain ⟨k, INV, rfl⟩ := hrel
      clear V0 B1
      have V0 := Lib.hid INV.out.2.1
      have B1 := Lib.hid INV.out.2.2
      have hk := INV.out.1
      clear INV
      obtain ⟨m, hm⟩ : ∃ m, List.replicate k 48 ++ l1 = m := ⟨_, rfl⟩
      have hml : m.length = k + l1.length := by rw [← hm, List.length_append, List.length_replicate]
      have k1 := HK.out
      have k2 := LL.out
      have k3 := HP.out
      have k4 := LP.out
      rw [hm]
      by_cases hlt : k < K
      · have c1 : ((txt m).size : Int) ≤ (p : Int) := by rw [txt_size]; omega
        have hcat : ¬ 9223372036854775807 < 1 + (txt m).size := by rw [txt_size]; omega
        have HM := Lib.hid hm
        have HML := Lib.hid hml
        have HLT := Lib.hid hlt
        clear hk hml k1 k2 k3 k4 hlt hm cz
        go_wp2
        go_roundw
        case rel => exact ⟨k + 1, ⟨HLT.out, V0.out, B1.out⟩, by rw [List.replicate_succ, List.cons_append, HM.out]; rfl⟩
        case measure =>
          have h1 := HK.out
          have h2 := HLT.out
          have h3 := HML.out
          have h4 : (txt m).size = m.length := rfl
          simp [sizeS, h4]
          show p + 1 - (1 + m.length) < p + 1 - m.length
          omega
      · have hkk : k = K := by omega
        have hmz : m = zz := by rw [← hm, hkk]; exact HZZ.out
        have hs := txt_size zz
        have zl : p + 1 ≤ zz.length := by rw [HZL.out]; omega
        have zm : zz.length ≤ 4611686018427387904 := by rw [HZL.out]; omega
        have c1 : (p : Int) < ((txt zz).size : Int) := by rw [txt_size]; omega
        rw [hmz]
        clear hk hml k1 k2 k3 k4 hlt hm hkk hmz
        have hpz : 0 < (p : Int) := by omega
        go_wp2_with fail
        go_region
        go_wp2_with (refine wpList_ldZs (by rfl) _ rfl (by rfl) V0.out ?_)
        go_ret
        refine ⟨?_, B1.out.drew⟩
        rw [FIN.out]
        show Ending.returned (.string (txt [45] ++ ((txt zz).extract 0 (zz.length - p) ++ txt [46] ++ (txt zz).extract (zz.length - p) zz.length))) = _
        rw [txt_extract, txt_extract, txt_append, txt_append, List.append_assoc]
        have e : (zz.drop (zz.length - p)).take (zz.length - (zz.length - p)) = zz.drop (zz.length - p) := List.take_of_length_le (by rw [List.length_drop]; omega)
        rw [e]
        rw [txt_append]
        rfl
  · have FIN : Hid (l = zz) := by
      show _ = _
      have h1 := HZL.out
      have h2 := LP.out
      have h3 := HK.out
      rw [← HL.out, hp0, ptxt_zero, itoa_pos hneg, HL1.out, ← HZZ.out, show K = 0 by omega]
      rfl
    clear HL
    go_enter Tryz.func47, Tryz.ntmps47
    go_wp2_with fail
    generalize (w.alloc (.cells #[.bool s, .slice A n c] 24)) = w2 at *
    go_wp2_with (refine wpList_ldZ (by rfl) _ rfl (by rfl) V0.out ?_)
    refine (rnrm_z HX.out KN.out HZ.out).mono ?_
    rintro e w3 ⟨P1, c1, rfl, ho, hb⟩
    replace V0 := Lib.hid (V0.out.below hb V0.out.lt)
    replace HX := Lib.hid (HX.out.below hb)
    replace B1 := Lib.hid (B1.out.trans (hb.mono B1.out.size))
    have OZ := Lib.hid (ho.mono SZ.out)
    clear ho hb HX
    have pc0 := Lib.hid trivial
    go_wp2_with (first
      | (clear pc0; refine wpList_stZ (by rfl) _ _ rfl (by rfl) (by rfl) V0.out ?_; intro w4 hz hg; replace OZ := Lib.hid (OZ.out.gr V0.out hg); replace B1 := Lib.hid (Below.gr B1.out (by omega) hg B1.out.size); replace V0 := Lib.hid hz; clear hz hg; have pc1 := Lib.hid trivial)
      | (clear pc1; refine wpList_ldZm (by rfl) _ rfl (by rfl) V0.out ?_; have pc2 := Lib.hid trivial))
    clear pc2
    refine (digits_any OZ.out.rd LZ.out HL1.out).mono ?_
    rintro e w5 ⟨rfl, hb⟩
    replace V0 := Lib.hid (V0.out.below hb V0.out.lt)
    replace OZ := Lib.hid (OZ.out.below hb)
    replace B1 := Lib.hid (B1.out.trans (hb.mono B1.out.size))
    clear hb OZ
    go_wp2_with fail
    rw [show decide (z < 0) = false from decide_eq_false (by omega)] at V0
    go_loopw [5] (fun s wr => ∃ k : Nat, Hid (PtInv w K k false z P1 c1 wr) ∧ s = .string (txt (List.replicate k 48 ++ l1))) (fun s _ => p + 1 - sizeS s)
    case atStart => exact ⟨0, ⟨Nat.zero_le _, V0.out, B1.out⟩, rfl⟩
    case round =>
      obtain ⟨k, INV, rfl⟩ := hrel
      clear V0 B1
      have V0 := Lib.hid INV.out.2.1
      have B1 := Lib.hid INV.out.2.2
      have hk := INV.out.1
      clear INV
      obtain ⟨m, hm⟩ : ∃ m, List.replicate k 48 ++ l1 = m := ⟨_, rfl⟩
      have hml : m.length = k + l1.length := by rw [← hm, List.length_append, List.length_replicate]
      have k1 := HK.out
      have k2 := LL.out
      have k3 := HP.out
      have k4 := LP.out
      rw [hm]
      have hlt : ¬ k < K := by omega
      have hkk : k = K := by omega
      have hmz : m = zz := by rw [← hm, hkk]; exact HZZ.out
      have hs := txt_size zz
      have zl : p + 1 ≤ zz.length := by rw [HZL.out]; omega
      have zm : zz.length ≤ 4611686018427387904 := by rw [HZL.out]; omega
      have hne : ¬ zz = [] := fun e => by (have h0 : zz.length = 0 := (by rw [e]; rfl)); omega
      rw [hmz]
      clear hk hml k1 k2 k3 k4 hlt hm hkk hmz
      have hpz : (p : Int) = 0 := by omega
      go_wp2_with (refine wpList_ldZs (by rfl) _ rfl (by rfl) V0.out ?_)
      go_ret
      refine ⟨?_, B1.out⟩
      rw [FIN.out]
      rfl
  · have FIN : Hid (l = zz.take (zz.length - p) ++ 46 :: zz.drop (zz.length - p)) := by
      show _ = _
      rw [← HL.out]
      unfold ptxt ptd
      rw [if_neg hneg, if_neg hp0, HL1.out]
      rw [← HZZ.out, ← HK.out]
      rfl
    clear HL
    go_enter Tryz.func47, Tryz.ntmps47
    go_wp2_with fail
    generalize (w.alloc (.cells #[.bool s, .slice A n c] 24)) = w2 at *
    go_wp2_with (refine wpList_ldZ (by rfl) _ rfl (by rfl) V0.out ?_)
    refine (rnrm_z HX.out KN.out HZ.out).mono ?_
    rintro e w3 ⟨P1, c1, rfl, ho, hb⟩
    replace V0 := Lib.hid (V0.out.below hb V0.out.lt)
    replace HX := Lib.hid (HX.out.below hb)
    replace B1 := Lib.hid (B1.out.trans (hb.mono B1.out.size))
    have OZ := Lib.hid (ho.mono SZ.out)
    clear ho hb HX
    have pc0 := Lib.hid trivial
    go_wp2_with (first
      | (clear pc0; refine wpList_stZ (by rfl) _ _ rfl (by rfl) (by rfl) V0.out ?_; intro w4 hz hg; replace OZ := Lib.hid (OZ.out.gr V0.out hg); replace B1 := Lib.hid (Below.gr B1.out (by omega) hg B1.out.size); replace V0 := Lib.hid hz; clear hz hg; have pc1 := Lib.hid trivial)
      | (clear pc1; refine wpList_ldZm (by rfl) _ rfl (by rfl) V0.out ?_; have pc2 := Lib.hid trivial))
    clear pc2
    refine (digits_any OZ.out.rd LZ.out HL1.out).mono ?_
    rintro e w5 ⟨rfl, hb⟩
    replace V0 := Lib.hid (V0.out.below hb V0.out.lt)
    replace OZ := Lib.hid (OZ.out.below hb)
    replace B1 := Lib.hid (B1.out.trans (hb.mono B1.out.size))
    clear hb OZ
    go_wp2_with fail
    rw [show decide (z < 0) = false from decide_eq_false (by omega)] at V0
    go_loopw [5] (fun s wr => ∃ k : Nat, Hid (PtInv w K k false z P1 c1 wr) ∧ s = .string (txt (List.replicate k 48 ++ l1))) (fun s _ => p + 1 - sizeS s)
    case atStart => exact ⟨0, ⟨Nat.zero_le _, V0.out, B1.out⟩, rfl⟩
    case round =>
      obtain ⟨k, INV, rfl⟩ := hrel
      clear V0 B1
      have V0 := Lib.hid INV.out.2.1
      have B1 := Lib.hid INV.out.2.2
      have hk := INV.out.1
      clear INV
      obtain ⟨m, hm⟩ : ∃ m, List.replicate k 48 ++ l1 = m := ⟨_, rfl⟩
      have hml : m.length = k + l1.length := by rw [← hm, List.length_append, List.length_replicate]
      have k1 := HK.out
      have k2 := LL.out
      have k3 := HP.out
      have k4 := LP.out
      rw [hm]
      by_cases hlt : k < K
      · have c1 : ((txt m).size : Int) ≤ (p : Int) := by rw [txt_size]; omega
        have hcat : ¬ 9223372036854775807 < 1 + (txt m).size := by rw [txt_size]; omega
        have HM := Lib.hid hm
        have HML := Lib.hid hml
        have HLT := Lib.hid hlt
        clear hk hml k1 k2 k3 k4 hlt hm cz
        go_wp2
        go_roundw
        case rel => exact ⟨k + 1, ⟨HLT.out, V0.out, B1.out⟩, by rw [List.replicate_succ, List.cons_append, HM.out]; rfl⟩
        case measure =>
          have h1 := HK.out
          have h2 := HLT.out
          have h3 := HML.out
          have h4 : (txt m).size = m.length := rfl
          simp [sizeS, h4]
          show p + 1 - (1 + m.length) < p + 1 - m.length
          omega
      · have hkk : k = K := by omega
        have hmz : m = zz := by rw [← hm, hkk]; exact HZZ.out
        have hs := txt_size zz
        have zl : p + 1 ≤ zz.length := by rw [HZL.out]; omega
        have zm : zz.length ≤ 4611686018427387904 := by rw [HZL.out]; omega
        have c1 : (p : Int) < ((txt zz).size : Int) := by rw [txt_size]; omega
        rw [hmz]
        clear hk hml k1 k2 k3 k4 hlt hm hkk hmz
        have hpz : 0 < (p : Int) := by omega
        go_wp2_with fail
        go_region
        go_wp2_with (refine wpList_ldZs (by rfl) _ rfl (by rfl) V0.out ?_)
        go_ret
        refine ⟨?_, B1.out.drew⟩
        rw [FIN.out]
        show Ending.returned (.string (((txt zz).extract 0 (zz.length - p) ++ txt [46] ++ (txt zz).extract (zz.length - p) zz.length))) = _
        rw [txt_extract, txt_extract, txt_append, txt_append, List.append_assoc]
        have e : (zz.drop (zz.length - p)).take (zz.length - (zz.length - p)) = zz.drop (zz.length - p) := List.take_of_length_le (by rw [List.length_drop]; omega)
        rw [e]
        rfl
theorem rl_ten {q N : Nat} (h : q ≤ N) (h1 : 1 ≤ N + 1) : RL (Rat.divInt ((10 ^ q : Nat) : Int) 1) (N + 1) := by
  rw [divInt_one]
  exact rl_mk (by rw [Int.natAbs_natCast]; exact Nat.le_trans (len_ten _) (by omega)) (by rw [one_limb]; exact h1) h1
set_option maxRecDepth 100000 in
set_option maxHeartbeats 16000000 in
theorem rfixed_ok {s : Bool} {A D : Option Addr} {n c m k : Nat} {x : Int} {p : Nat} {w : World} (h : Zin w s A n c x) (h' : Nin w D m k p) (hn : n ≤ 2000000) (hm : m ≤ 2000000) {pl : Nat} (hpl : pl ≤ 100) {pv : Int} (hpv : pv = (pl : Int)) {v : Int} (hv : rndR (mkRat x p * mkRat ((10 ^ pl : Nat) : Int) 1) = v) {l : List UInt8} (hl : ptxt v pl = l) :
    Calls Tryz.prog 16 #[.agg #[.bool s, .slice A n c, .slice D m k], .int .i64 pv] w fun e w' => e = .returned (.tuple #[.string (txt l), .int .i64 0]) ∧ Below w.heap.size w w' := by
  subst hpv
  obtain ⟨B1, V0⟩ := start_nR w s A n c D m k
  have HX := Lib.hid (h.below B1.out)
  have HP := Lib.hid (h'.below B1.out)
  obtain ⟨t, ht⟩ : ∃ t : Int, ((10 ^ pl : Nat) : Int) = t := ⟨_, rfl⟩
  obtain ⟨wn, hwn⟩ : ∃ z, (Rat.divInt t 1).num = z := ⟨_, rfl⟩
  obtain ⟨wd, hwd⟩ : ∃ z, (Rat.divInt t 1).den = z := ⟨_, rfl⟩
  have ew : mkRat wn wd = mkRat t 1 := by rw [← hwn, ← hwd, mk_self]; rfl
  obtain ⟨mz, hmz⟩ : ∃ z, (mkRat x p * mkRat wn wd).num = z := ⟨_, rfl⟩
  obtain ⟨md, hmd⟩ : ∃ z, (mkRat x p * mkRat wn wd).den = z := ⟨_, rfl⟩
  have em : mkRat mz md = mkRat x p * mkRat wn wd := by rw [← hmz, ← hmd, mk_self]
  have rA : RL (mkRat x p) 2000000 := rl_mk (Nat.le_trans h.len hn) (Nat.le_trans h'.len hm) (by decide)
  have rT : RL (Rat.divInt t 1) 101 := by rw [← ht]; exact rl_ten hpl (by decide)
  have rW : RL (mkRat wn wd) 101 := by rw [ew]; exact rT
  have rM := rl_mul rA rW
  have lv : (ofv v.natAbs).length ≤ 300000000 := by
    rw [← hv, ht, ← ew]
    exact Nat.le_trans (rnd_len rM (by decide)) (by decide)
  have HT := Lib.hid ht
  have HWN := Lib.hid hwn
  have HWD := Lib.hid hwd
  have HMZ := Lib.hid hmz
  have HMD := Lib.hid hmd
  have HV : Hid (rndR (mkRat mz md) = v) := by show _ = _; rw [em, ew, ← ht]; exact hv
  have HL := Lib.hid hl
  have LT : Hid ((ofv t.natAbs).length ≤ 35184372087808) := by show _ ≤ _; rw [← ht, Int.natAbs_natCast]; exact Nat.le_trans (len_ten _) (by omega)
  have LWN : Hid ((ofv wn.natAbs).length ≤ 17592186043000) := by show _ ≤ _; rw [← hwn]; exact Nat.le_trans rT.1 (by decide)
  have LWD : Hid ((ofv wd).length ≤ 17592186043000) := by show _ ≤ _; rw [← hwd]; exact Nat.le_trans rT.2 (by decide)
  have LMZ : Hid ((ofv mz.natAbs).length ≤ 8000000000000) := by show _ ≤ _; rw [← hmz]; exact Nat.le_trans rM.1 (by decide)
  have LMD : Hid ((ofv md).length ≤ 8000000000000) := by show _ ≤ _; rw [← hmd]; exact Nat.le_trans rM.2 (by decide)
  have LV := Lib.hid lv
  have KN : Hid (n ≤ 17592186043000) := Nat.le_trans hn (by decide)
  have KM : Hid (m ≤ 17592186043000) := Nat.le_trans hm (by decide)
  have KP : Hid (pl ≤ 1000000000) := Nat.le_trans hpl (by decide)
  have c1 : ¬ (pl : Int) < 0 := by omega
  have c2 : (pl : Int) ≤ 100 := by omega
  clear h h' hn hm hpl hv hl ht hwn hwd hmz hmd em ew rA rT rW rM lv
  go_enter Tryz.func16, Tryz.ntmps16
  go_wp2_with fail
  generalize (w.alloc (.cells #[.bool s, .slice A n c, .slice D m k] 26)) = w2 at *
  have HB : Hid (Below w2.heap.size w2 w2.drew) := below_drewN _ w2 1
  refine wp_region_held_drew (S := fun w' => Below w2.heap.size w2 w') (by kernel_rfl) (HB.out) (fun hHeld => ?_)
  refine wpAnyH_takeL (i := 0) (oi := _) rfl (by kernel_rfl) (by kernel_rfl) (by kernel_rfl) (fun _ _ _ h => h) (yields_ldR (by rfl) _ rfl (by rfl) (fun _ hb => V0.out.below hb V0.out.lt)) hHeld ?_
  try simp only [Act.put, List.setIfInBounds_toArray, List.set_cons_zero, List.set_cons_succ]
  refine wpAnyH_takeL (i := 1) (oi := _) (v := ?_) rfl (by kernel_rfl) (by kernel_rfl) (by kernel_rfl) (fun _ _ _ h => h) (Or.inl ⟨by rfl, ?_⟩) hHeld ?_
  rotate_left
  · (intro w' hSw; (try dsimp only at hSw); go_simp; try (with_reducible rfl))
  try simp only [Act.put, List.setIfInBounds_toArray, List.set_cons_zero, List.set_cons_succ]
  refine wpAnyH_takeL (i := 6) (oi := _) (v := ?_) rfl (by kernel_rfl) (by kernel_rfl) (by kernel_rfl) (fun _ _ _ h => h) (Or.inl ⟨by rfl, ?_⟩) hHeld ?_
  rotate_left
  · (intro w' hSw; (try dsimp only at hSw); go_simp; try (with_reducible rfl))
  try simp only [Act.put, List.setIfInBounds_toArray, List.set_cons_zero, List.set_cons_succ]
  refine wpAnyH_ready (rs := [2]) (by kernel_rfl) (by simp) ?_
  refine AllReadyH.consL (o := _) rfl (fun K hK => ?_) AllReadyH.nil
  clear hHeld
  go_simp
  go_at_call 46
  refine Calls.mono (rpower_any KP.out rfl HT.out _) ?_
  rintro e w3 ⟨P3, c3, rfl, ho, hb⟩
  replace HB := Lib.hid (HB.out.trans (hb.mono HB.out.size))
  have Z3 := Lib.hid (Zo.of_own ho)
  clear ho
  clear hb
  refine hK.out _ _ HB.out (fun hHeld => ?_)
  clear hK K
  try simp only [Act.put, List.setIfInBounds_toArray, List.set_cons_zero, List.set_cons_succ]
  refine wpAnyH_ready (rs := [3]) (by kernel_rfl) (by simp) ?_
  refine AllReadyH.consL (o := _) rfl (fun K hK => ?_) AllReadyH.nil
  clear hHeld
  go_simp
  go_at_call 24
  refine Calls.mono (r3whole_any Z3.out.in_ LT.out HWN.out HWD.out) ?_
  rintro e w4 ⟨P4, c4, Q4, k4, rfl, ho, ho2, hb⟩
  replace HB := Lib.hid (HB.out.trans (hb.mono HB.out.size))
  clear Z3
  have Z4 := Lib.hid (Zo.of_own ho)
  have N4 := Lib.hid ho2.rd
  clear ho ho2
  clear hb
  refine hK.out _ _ HB.out (fun hHeld => ?_)
  clear hK K
  try simp only [Act.put, List.setIfInBounds_toArray, List.set_cons_zero, List.set_cons_succ]
  refine wpAnyH_ready (rs := [4]) (by kernel_rfl) (by simp) ?_
  refine AllReadyH.consL (o := _) rfl (fun K hK => ?_) AllReadyH.nil
  clear hHeld
  go_simp
  go_at_call 45
  refine Calls.mono (r3mul_any (HX.out.below HB.out) (HP.out.below HB.out) Z4.out.in_ (Nin.of_rd N4.out) KN.out KM.out LWN.out LWD.out HMZ.out HMD.out) ?_
  rintro e w5 ⟨P5, c5, Q5, k5, rfl, ho, ho2, hb⟩
  replace HB := Lib.hid (HB.out.trans (hb.mono HB.out.size))
  clear Z4 N4
  have Z5 := Lib.hid (Zo.of_own ho)
  have N5 := Lib.hid ho2.rd
  clear ho ho2
  clear hb
  refine hK.out _ _ HB.out (fun hHeld => ?_)
  clear hK K
  try simp only [Act.put, List.setIfInBounds_toArray, List.set_cons_zero, List.set_cons_succ]
  refine wpAnyH_ready (rs := [5]) (by kernel_rfl) (by simp) ?_
  refine AllReadyH.consL (o := _) rfl (fun K hK => ?_) AllReadyH.nil
  clear hHeld
  go_simp
  go_at_call 48
  refine Calls.mono (r3round_any Z5.out.in_ (Nin.of_rd N5.out) LMZ.out LMD.out HV.out) ?_
  rintro e w6 ⟨P6, c6, rfl, ho, hb⟩
  replace HB := Lib.hid (HB.out.trans (hb.mono HB.out.size))
  clear Z5 N5
  have Z6 := Lib.hid (Zo.of_own ho)
  clear ho
  clear hb
  refine hK.out _ _ HB.out (fun hHeld => ?_)
  clear hK K
  try simp only [Act.put, List.setIfInBounds_toArray, List.set_cons_zero, List.set_cons_succ]
  refine wpAnyH_ready (rs := [7]) (by kernel_rfl) (by simp) ?_
  refine AllReadyH.consL (o := _) rfl (fun K hK => ?_) AllReadyH.nil
  clear hHeld
  go_simp
  go_at_call 47
  refine Calls.mono (rpoint_any Z6.out.in_ LV.out KP.out rfl HL.out) ?_
  rintro e w7 ⟨rfl, hb⟩
  replace HB := Lib.hid (HB.out.trans (hb.mono HB.out.size))
  clear Z6
  clear hb
  refine hK.out _ _ HB.out (fun hHeld => ?_)
  clear hK K
  try simp only [Act.put, List.setIfInBounds_toArray, List.set_cons_zero, List.set_cons_succ]
  refine wpAnyH_takeL (i := 8) (oi := _) (v := ?_) rfl (by kernel_rfl) (by kernel_rfl) (by kernel_rfl) (fun _ _ _ h => h) (Or.inl ⟨by rfl, ?_⟩) hHeld ?_
  rotate_left
  · (intro w' hSw; (try dsimp only at hSw); go_simp; try (with_reducible rfl))
  try simp only [Act.put, List.setIfInBounds_toArray, List.set_cons_zero, List.set_cons_succ]
  refine wpAnyH_takeL (i := 9) (oi := _) (v := ?_) rfl (by kernel_rfl) (by kernel_rfl) (by kernel_rfl) (fun _ _ _ h => h) (Or.inl ⟨by rfl, ?_⟩) hHeld ?_
  rotate_left
  · (intro w' hSw; (try dsimp only at hSw); go_simp; try (with_reducible rfl))
  try simp only [Act.put, List.setIfInBounds_toArray, List.set_cons_zero, List.set_cons_succ]
  skip
  refine wpAnyH_done (by kernel_rfl) ?_ _
  have hb := HB.out
  replace V0 := Lib.hid (V0.out.below hb V0.out.lt)
  replace HX := Lib.hid (HX.out.below hb)
  replace HP := Lib.hid (HP.out.below hb)
  replace B1 := Lib.hid (B1.out.trans (hb.mono B1.out.size))
  clear hHeld hb HB
  go_wp2
  go_ret2
  exact ⟨rfl, B1.out⟩
set_option maxRecDepth 100000 in
set_option maxHeartbeats 16000000 in
theorem rfixed_bad {s : Bool} {A D : Option Addr} {n c m k : Nat} {pv : Int} (hp : pv < 0 ∨ 100 < pv) (w : World) :
    Calls Tryz.prog 16 #[.agg #[.bool s, .slice A n c, .slice D m k], .int .i64 pv] w fun e w' => e = .returned (.tuple #[.string ⟨#[]⟩, .int .i64 3]) ∧ Below w.heap.size w w' := by
  obtain ⟨B1, V0⟩ := start_nR w s A n c D m k
  rcases hp with hp | hp
  · go_enter Tryz.func16, Tryz.ntmps16
    go_wp2
    go_ret2
    exact ⟨rfl, B1.out⟩
  · have hp2 : ¬ pv < 0 := by omega
    go_enter Tryz.func16, Tryz.ntmps16
    go_wp2
    go_ret2
    exact ⟨rfl, B1.out⟩
end Go.Proofs.YtebpoabflcngoaaGreatDoor
