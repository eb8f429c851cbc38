/-
  Contract of package rational: lowestShort.
-/
import Derived.Test.YtfacndibfkamgaaGreatRats
namespace Go.Proofs.YtfacndibfkamgaaGreat
open Go.RowKit
set_option linter.unusedVariables false

/-- The loop: two numbers with the same greatest common divisor. -/
def LsInv (w : World) (num : Int) (p : Nat) (u v : Int) (wr : World) : Prop :=
  u ≠ 0 ∧ (-9223372036854775807 ≤ u ∧ u ≤ 9223372036854775807) ∧ (-9223372036854775807 ≤ v ∧ v ≤ 9223372036854775807) ∧ Int.gcd u v = Int.gcd num (p : Int) ∧ Below w.heap.size w wr ∧ Rb wr w.heap.size false none 0 0 none 0 0
theorem LsInv.step {w wr wd : World} {num u v r : Int} {p : Nat} (h : LsInv w num p u v wr) (hv : v ≠ 0) (hr : u.tmod v = r) (hb : Below wr.heap.size wr wd) : LsInv w num p v r wd ∧ r.natAbs < v.natAbs := by
  obtain ⟨h1, h2, h3, h4, h5, h6⟩ := h
  have e1 : r.natAbs = u.natAbs % v.natAbs := by rw [← hr]; exact Int.natAbs_tmod u v
  have e2 : u.natAbs % v.natAbs < v.natAbs := Nat.mod_lt _ (by omega)
  refine ⟨⟨hv, h3, by omega, ?_, h5.trans (hb.mono h5.size), h6.below hb h6.lt⟩, by omega⟩
  rw [← h4]
  unfold Int.gcd
  rw [e1, Nat.gcd_comm, Nat.gcd_comm u.natAbs, ← Nat.gcd_rec]
theorem LsInv.done {w wr : World} {num u : Int} {p : Nat} (h : LsInv w num p u 0 wr) : ((u.natAbs : Nat)) = Nat.gcd num.natAbs p := by
  obtain ⟨h1, h2, h3, h4, h5, h6⟩ := h
  rw [Int.gcd_zero_right] at h4
  rw [h4]
  unfold Int.gcd
  rfl
set_option maxRecDepth 100000 in
set_option maxHeartbeats 16000000 in
theorem lowestShort_any {num z : Int} {p d : Nat} (hn : -9223372036854775807 ≤ num ∧ num ≤ 9223372036854775807) (hp : 0 < p ∧ p ≤ 9223372036854775807) (hz : (mkRat num p).num = z) (hd : (mkRat num p).den = d) (w : World) :
    Calls Tryz.prog 102 #[.int .i64 num, .int .i64 (p : Int)] w (GivesR w z d) := by
  obtain ⟨B1, V0⟩ := start_R0 w
  obtain ⟨q, hq⟩ : ∃ q : Int, (p : Int) = q := ⟨_, rfl⟩
  have HN := Lib.hid hn
  have HP := Lib.hid hp
  have HZ := Lib.hid hz
  have HD := Lib.hid hd
  have HQ := Lib.hid hq
  rw [hq]
  clear hn hp hz hd hq
  go_enter Tryz.func102, Tryz.ntmps102
  go_wp2_with fail
  generalize (w.alloc (.cells #[.bool false, .slice none 0 0, .slice none 0 0] 29)) = w2 at *
  go_loopw [5, 6] (fun a b wr => ∃ u v : Int, LsInv w num p u v wr ∧ a = .int .i64 u ∧ b = .int .i64 v) (fun _ b _ => (intOf b).natAbs)
  case atStart =>
    refine ⟨q, num, ⟨?_, ?_, HN.out, ?_, B1.out, V0.out⟩, rfl, rfl⟩
    · have := HP.out; have := HQ.out; omega
    · have := HP.out; have := HQ.out; omega
    · rw [← HQ.out, Int.gcd_comm]
  case round =>
    obtain ⟨u, v, hinv, rfl, rfl⟩ := hrel
    have INV := Lib.hid hinv
    clear hinv
    rcases Int.decEq v 0 with hv | hv
    · obtain ⟨r, hr⟩ : ∃ r, u.tmod v = r := ⟨_, rfl⟩
      have ST := Lib.hid (INV.out.step hv hr (below_drewN wr.heap.size wr 1))
      have hv2 : (v == 0) = false := by simpa using hv
      have hv3 : (v != 0) = true := by simpa using hv
      have hw : IntKind.i64.wrap r = r := IntWalk.i64_in _ (by have := ST.out.1; obtain ⟨_, _, h3, _⟩ := this; omega)
      go_wp2
      have HB : Hid (Below wr.heap.size wr wr.drew) := below_drewN _ wr 1
      refine wp_region_held_drew (S := fun w' => Below wr.heap.size wr w') (by kernel_rfl) (HB.out) (fun hHeld => ?_)
      refine wpAnyH_takeL (i := 0) (oi := _) (v := ?_) rfl (by kernel_rfl) (by kernel_rfl) (by kernel_rfl) (fun _ _ _ h => h) (Or.inl ⟨by rfl, ?_⟩) hHeld ?_
      rotate_left
      · (intro w' hSw; (try dsimp only at hSw); go_simp; try (with_reducible rfl))
      try simp only [Act.put, List.setIfInBounds_toArray, List.set_cons_zero, List.set_cons_succ]
      refine wpAnyH_takeL (i := 1) (oi := _) (v := ?_) rfl (by kernel_rfl) (by kernel_rfl) (by kernel_rfl) (fun _ _ _ h => h) (Or.inl ⟨by rfl, ?_⟩) hHeld ?_
      rotate_left
      · (intro w' hSw; (try dsimp only at hSw); go_simp; try (with_reducible rfl))
      try simp only [Act.put, List.setIfInBounds_toArray, List.set_cons_zero, List.set_cons_succ]
      refine wpAnyH_takeL (i := 2) (oi := _) (v := ?_) rfl (by kernel_rfl) (by kernel_rfl) (by kernel_rfl) (fun _ _ _ h => h) (Or.inl ⟨by rfl, ?_⟩) hHeld ?_
      rotate_left
      · (intro w' hSw; (try dsimp only at hSw); go_simp; try (with_reducible rfl))
      try simp only [Act.put, List.setIfInBounds_toArray, List.set_cons_zero, List.set_cons_succ]
      refine wpAnyH_takeL (i := 3) (oi := _) (v := ?_) rfl (by kernel_rfl) (by kernel_rfl) (by kernel_rfl) (fun _ _ _ h => h) (Or.inl ⟨by rfl, ?_⟩) hHeld ?_
      rotate_left
      · (intro w' hSw; (try dsimp only at hSw); go_simp; try (with_reducible rfl))
      try simp only [Act.put, List.setIfInBounds_toArray, List.set_cons_zero, List.set_cons_succ]
      refine wpAnyH_takeL (i := 4) (oi := _) (v := ?_) rfl (by kernel_rfl) (by kernel_rfl) (by kernel_rfl) (fun _ _ _ h => h) (Or.inl ⟨by rfl, ?_⟩) hHeld ?_
      rotate_left
      · (intro w' hSw; (try dsimp only at hSw); go_simp; try (with_reducible rfl))
      try simp only [Act.put, List.setIfInBounds_toArray, List.set_cons_zero, List.set_cons_succ]
      refine wpAnyH_takeL (i := 5) (oi := _) (v := ?_) rfl (by kernel_rfl) (by kernel_rfl) (by kernel_rfl) (fun _ _ _ h => h) (Or.inl ⟨by rfl, ?_⟩) hHeld ?_
      rotate_left
      · (intro w' hSw; (try dsimp only at hSw); go_simp; try (with_reducible rfl))
      try simp only [Act.put, List.setIfInBounds_toArray, List.set_cons_zero, List.set_cons_succ]
      skip
      refine wpAnyH_done (by kernel_rfl) ?_ _
      clear hHeld HB
      go_wp2
      go_roundw
      case rel => exact ⟨v, r, ST.out.1, rfl, rfl⟩
      case measure => have := ST.out.2; simp [intOf]; omega
    · have hv0 : v = 0 := hv
      subst hv0
      have hg := INV.out.done
      obtain ⟨hu0, ⟨hu1, hu2⟩, _, _, hB, hV⟩ := INV.out
      obtain ⟨gz, hgz⟩ : ∃ g : Int, ((u.natAbs : Nat) : Int) = g := ⟨_, rfl⟩
      obtain ⟨l1, l2⟩ := mk_low (z := num) HP.out.1 hg.symm
      have dvd1 : (gz : Int) ∣ num := by rw [← hgz, hg]; exact Int.ofNat_dvd_left.2 (Nat.gcd_dvd_left _ _)
      have t1 : num.tdiv gz = z := by rw [← HZ.out, l1, hgz]; exact Int.tdiv_eq_ediv_of_dvd dvd1
      have t2 : q.tdiv gz = ((d : Nat) : Int) := by rw [← HD.out, l2, ← HQ.out, ← hgz, Int.natCast_ediv]; exact Int.tdiv_eq_ediv_of_nonneg (by omega)
      obtain ⟨dz, hdz⟩ : ∃ g : Int, ((d : Nat) : Int) = g := ⟨_, rfl⟩
      rw [hdz] at t2
      have nl := num_len (z := num) HP.out.1
      rw [HZ.out, HD.out] at nl
      have w1 : IntKind.i64.wrap z = z := IntWalk.i64_in _ (by have := HN.out; omega)
      have w2' : IntKind.i64.wrap dz = dz := IntWalk.i64_in _ (by have := HP.out; omega)
      have dz0 : 0 ≤ dz := by omega
      have w3' : IntKind.u64.wrap dz = dz := by rw [IntKind.wrap_u64]; have := HP.out; omega
      have gz0 : 0 < gz := by omega
      have hgz0 : ¬ gz = 0 := by omega
      have hmax : max u (-u) = gz := by omega
      have HB1 := Lib.hid hB
      have HV := Lib.hid hV
      have DZ := Lib.hid hdz
      obtain ⟨zl, hzl⟩ : ∃ g : Int, z = g := ⟨_, rfl⟩
      have HZL := Lib.hid hzl
      clear hzl
      have IZ : Hid (-9223372036854775808 ≤ z ∧ z ≤ 9223372036854775807) := by have := HN.out; show _ ∧ _; omega
      have ID : Hid (d < 18446744073709551616) := by have := HP.out; show _ < _; omega
      clear hg hB hV l1 l2 dvd1 nl hgz hdz INV hv
      go_wp2
      have HB : Hid (Below wr.heap.size wr wr.drew) := below_drewN _ wr 1
      refine wp_region_held_drew (S := fun w' => wr.grownBy w' (some (w.heap.size))) (by kernel_rfl) ((grown_below HB.out : World.grownBy _ _ (some (w.heap.size)))) (fun hHeld => ?_)
      refine wpAnyH_takeL (i := 0) (oi := _) (v := ?_) rfl (by kernel_rfl) (by kernel_rfl) (by kernel_rfl) (fun _ _ _ h => h) (Or.inl ⟨by rfl, ?_⟩) hHeld ?_
      rotate_left
      · (intro w' hSw; (try dsimp only at hSw); go_simp; try (with_reducible rfl))
      try simp only [Act.put, List.setIfInBounds_toArray, List.set_cons_zero, List.set_cons_succ]
      refine wpAnyH_takeL (i := 1) (oi := _) (v := ?_) rfl (by kernel_rfl) (by kernel_rfl) (by kernel_rfl) (fun _ _ _ h => h) (Or.inl ⟨by rfl, ?_⟩) hHeld ?_
      rotate_left
      · (intro w' hSw; (try dsimp only at hSw); go_simp; try (with_reducible rfl))
      try simp only [Act.put, List.setIfInBounds_toArray, List.set_cons_zero, List.set_cons_succ]
      refine wpAnyH_takeL (i := 2) (oi := _) (v := ?_) rfl (by kernel_rfl) (by kernel_rfl) (by kernel_rfl) (fun _ _ _ h => h) (Or.inl ⟨by rfl, ?_⟩) hHeld ?_
      rotate_left
      · (intro w' hSw; (try dsimp only at hSw); go_simp; try (with_reducible rfl))
      try simp only [Act.put, List.setIfInBounds_toArray, List.set_cons_zero, List.set_cons_succ]
      refine wpAnyH_takeL (i := 4) (oi := _) (v := ?_) rfl (by kernel_rfl) (by kernel_rfl) (by kernel_rfl) (fun _ _ _ h => h) (Or.inl ⟨by rfl, ?_⟩) hHeld ?_
      rotate_left
      · (intro w' hSw; (try dsimp only at hSw); go_simp; try (with_reducible rfl))
      try simp only [Act.put, List.setIfInBounds_toArray, List.set_cons_zero, List.set_cons_succ]
      refine wpAnyH_takeL (i := 5) (oi := _) (v := ?_) rfl (by kernel_rfl) (by kernel_rfl) (by kernel_rfl) (fun _ _ _ h => h) (Or.inl ⟨by rfl, ?_⟩) hHeld ?_
      rotate_left
      · (intro w' hSw; (try dsimp only at hSw); go_simp; try (with_reducible rfl))
      try simp only [Act.put, List.setIfInBounds_toArray, List.set_cons_zero, List.set_cons_succ]
      refine wpAnyH_takeL (i := 6) (oi := _) (v := ?_) rfl (by kernel_rfl) (by kernel_rfl) (by kernel_rfl) (fun _ _ _ h => h) (Or.inl ⟨by rfl, ?_⟩) hHeld ?_
      rotate_left
      · (intro w' hSw; (try dsimp only at hSw); go_simp; try (with_reducible rfl))
      try simp only [Act.put, List.setIfInBounds_toArray, List.set_cons_zero, List.set_cons_succ]
      refine wpAnyH_takeL (i := 7) (oi := _) (v := ?_) rfl (by kernel_rfl) (by kernel_rfl) (by kernel_rfl) (fun _ _ _ h => h) (Or.inl ⟨by rfl, ?_⟩) hHeld ?_
      rotate_left
      · (intro w' hSw; (try dsimp only at hSw); go_simp; try (with_reducible rfl))
      try simp only [Act.put, List.setIfInBounds_toArray, List.set_cons_zero, List.set_cons_succ]
      refine wpAnyH_ready (rs := [3]) (by kernel_rfl) (by simp) ?_
      refine AllReadyH.consL (o := _) rfl (fun K hK => ?_) AllReadyH.nil
      clear hHeld
      have HBS := Lib.hid HB.out.size
      go_simp
      go_at_call 72
      refine Calls.mono (fromInt_z (v := z) (z := zl) IZ.out HZL.out _) ?_
      rintro e wa ⟨P1, c1, rfl, ho, hb⟩
      replace HB := Lib.hid (HB.out.trans (hb.mono HB.out.size))
      have OP := Lib.hid (ho.mono (Nat.le_trans HB1.out.size HBS.out))
      clear ho HBS
      clear hb
      refine hK.out _ _ (grown_below HB.out : World.grownBy _ _ (some (w.heap.size))) (fun hHeld => ?_)
      clear hK K
      try simp only [Act.put, List.setIfInBounds_toArray, List.set_cons_zero, List.set_cons_succ]
      refine wpAnyH_ready (rs := [8]) (by kernel_rfl) (by simp) ?_
      refine AllReadyH.consL (o := _) rfl (fun K hK => ?_) AllReadyH.nil
      clear hHeld
      have HBS := Lib.hid HB.out.size
      go_simp
      go_at_call 115
      refine Calls.mono (from_d (v := d) (z := dz) ID.out DZ.out _) ?_
      rintro e wb ⟨P2, c2, rfl, ho, hb⟩
      replace HB := Lib.hid (HB.out.trans (hb.mono HB.out.size))
      replace OP := Lib.hid (OP.out.below hb)
      have OQ := Lib.hid (ho.mono (Nat.le_trans HB1.out.size HBS.out))
      clear ho HBS
      clear hb
      refine hK.out _ _ (grown_below HB.out : World.grownBy _ _ (some (w.heap.size))) (fun hHeld => ?_)
      clear hK K
      try simp only [Act.put, List.setIfInBounds_toArray, List.set_cons_zero, List.set_cons_succ]
      refine wpAnyH_takeL (i := 9) (oi := _) (v := ?_) rfl (by kernel_rfl) (by kernel_rfl) (by kernel_rfl) (fun _ _ _ h => h) (Or.inl ⟨by rfl, ?_⟩) hHeld ?_
      rotate_left
      · (intro w' hSw; (try dsimp only at hSw); go_simp; try (with_reducible rfl))
      try simp only [Act.put, List.setIfInBounds_toArray, List.set_cons_zero, List.set_cons_succ]
      refine wpAnyH_ready (rs := [10]) (by kernel_rfl) (by simp) ?_
      refine AllReadyH.consL (o := _) rfl (fun K hK => ?_) AllReadyH.nil
      clear hHeld
      have hb := HB.out
      replace HV := Lib.hid (HV.out.below hb HV.out.lt)
      replace HB1 := Lib.hid (HB1.out.trans (hb.mono HB1.out.size))
      rw [if_pos (by rfl)]
      refine wp_stR _ _ rfl (by rfl) (by rfl) HV.out ?_
      intro wst hz hg
      replace OP := Lib.hid (OP.out.grR HV.out hg)
      replace OQ := Lib.hid (OQ.out.grR HV.out hg)
      replace HB1 := Lib.hid (Below.gr HB1.out (by exact Nat.le_refl _) hg HB1.out.size)
      replace HV := Lib.hid hz
      refine hK.out _ _ (World.grownBy.trans (grown_below hb) hg) (fun hHeld => ?_)
      clear hK K hg hb HB hz
      try simp only [Act.put]
      skip
      refine wpAnyH_done (by kernel_rfl) ?_ _
      clear hHeld
      go_wp2
      exact ret_rb Tryz.results102 rfl rfl HV.out ⟨_, _, _, _, by rw [HZL.out], by rw [← HZL.out] at *; exact OP.out, OQ.out, HB1.out⟩
end Go.Proofs.YtfacndibfkamgaaGreat
