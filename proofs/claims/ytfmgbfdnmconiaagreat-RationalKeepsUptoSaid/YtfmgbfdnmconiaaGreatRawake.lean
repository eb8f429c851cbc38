/-
  The statements' own sanity check of package rational.
-/
import Derived.Test.YtfmgbfdnmconiaaGreatRrez
import Derived.Test.YtfmgbfdnmconiaaGreatRate
namespace Go.Proofs.YtfmgbfdnmconiaaGreat
open Go.RowKit
set_option linter.unusedVariables false

theorem nin_nine (w : World) : Nin (w.alloc (.cells #[.int .u32 9] 52)) (some ⟨w.heap.size, 0, none⟩) 1 1 9 := by
  have hr : Row (w.alloc (.cells #[.int .u32 9] 52)) w.heap.size [9] := row_new rfl rfl
  have := Own.of_row (lo := 0) hr (okl1 (by omega)) (Nat.zero_le _) (by simp)
  exact ⟨[9], this.rd, rfl, by simp [val]⟩
theorem len_small {v : Nat} (h : v < 4294967296) : (ofv v).length ≤ 1 := len_ofv_le_of_lt (by rw [pw_succ, pw_zero]; omega)
set_option maxRecDepth 100000 in
set_option maxHeartbeats 16000000 in
theorem rawake_any (w : World) : Calls Tryz.prog 42 #[] w fun e w' => e = .returned (.bool true) ∧ Below w.heap.size w w' := by
  obtain ⟨na, e_na⟩ : ∃ z0 : Int, ((1 : Int)) = z0 := ⟨_, rfl⟩
  obtain ⟨qa, e_qa⟩ : ∃ z0 : Int, ((6 : Int)) = z0 := ⟨_, rfl⟩
  obtain ⟨za, e_za⟩ : ∃ z0 : Int, (Rat.divInt (1) 6).num = z0 := ⟨_, rfl⟩
  obtain ⟨da, e_da⟩ : ∃ z0 : Nat, (Rat.divInt (1) 6).den = z0 := ⟨_, rfl⟩
  obtain ⟨nh, e_nh⟩ : ∃ z0 : Int, ((1 : Int)) = z0 := ⟨_, rfl⟩
  obtain ⟨qh, e_qh⟩ : ∃ z0 : Int, ((2 : Int)) = z0 := ⟨_, rfl⟩
  obtain ⟨zh, e_zh⟩ : ∃ z0 : Int, (Rat.divInt (1) 2).num = z0 := ⟨_, rfl⟩
  obtain ⟨dh, e_dh⟩ : ∃ z0 : Nat, (Rat.divInt (1) 2).den = z0 := ⟨_, rfl⟩
  obtain ⟨nf, e_nf⟩ : ∃ z0 : Int, ((5 : Int)) = z0 := ⟨_, rfl⟩
  obtain ⟨qf, e_qf⟩ : ∃ z0 : Int, ((2 : Int)) = z0 := ⟨_, rfl⟩
  obtain ⟨zf, e_zf⟩ : ∃ z0 : Int, (Rat.divInt (5) 2).num = z0 := ⟨_, rfl⟩
  obtain ⟨df, e_df⟩ : ∃ z0 : Nat, (Rat.divInt (5) 2).den = z0 := ⟨_, rfl⟩
  obtain ⟨ns, e_ns⟩ : ∃ z0 : Int, ((-7 : Int)) = z0 := ⟨_, rfl⟩
  obtain ⟨qs, e_qs⟩ : ∃ z0 : Int, ((2 : Int)) = z0 := ⟨_, rfl⟩
  obtain ⟨zs, e_zs⟩ : ∃ z0 : Int, (Rat.divInt (-7) 2).num = z0 := ⟨_, rfl⟩
  obtain ⟨ds, e_ds⟩ : ∃ z0 : Nat, (Rat.divInt (-7) 2).den = z0 := ⟨_, rfl⟩
  obtain ⟨nm, e_nm⟩ : ∃ z0 : Int, ((-1 : Int)) = z0 := ⟨_, rfl⟩
  obtain ⟨qm, e_qm⟩ : ∃ z0 : Int, ((3 : Int)) = z0 := ⟨_, rfl⟩
  obtain ⟨zm, e_zm⟩ : ∃ z0 : Int, (Rat.divInt (-1) 3).num = z0 := ⟨_, rfl⟩
  obtain ⟨dm, e_dm⟩ : ∃ z0 : Nat, (Rat.divInt (-1) 3).den = z0 := ⟨_, rfl⟩
  obtain ⟨th, e_th⟩ : ∃ z0 : Int, (3 : Int) = z0 := ⟨_, rfl⟩
  obtain ⟨zt, e_zt⟩ : ∃ z0 : Int, (mkRat za da + mkRat th 9).num = z0 := ⟨_, rfl⟩
  obtain ⟨dt, e_dt⟩ : ∃ z0 : Nat, (mkRat za da + mkRat th 9).den = z0 := ⟨_, rfl⟩
  obtain ⟨vf, e_vf⟩ : ∃ z0 : Int, (2 : Int) = z0 := ⟨_, rfl⟩
  obtain ⟨vs, e_vs⟩ : ∃ z0 : Int, (-4 : Int) = z0 := ⟨_, rfl⟩
  obtain ⟨vm, e_vm⟩ : ∃ z0 : Int, (-1 : Int) = z0 := ⟨_, rfl⟩
  obtain ⟨so, e_so⟩ : ∃ z0 : Int, (1 : Int) = z0 := ⟨_, rfl⟩
  have v_a : za = 1 ∧ da = 6 := by rw [← e_za, ← e_da]; exact ⟨by decide +kernel, by decide +kernel⟩
  have v_h : zh = 1 ∧ dh = 2 := by rw [← e_zh, ← e_dh]; exact ⟨by decide +kernel, by decide +kernel⟩
  have v_f : zf = 5 ∧ df = 2 := by rw [← e_zf, ← e_df]; exact ⟨by decide +kernel, by decide +kernel⟩
  have v_s : zs = -7 ∧ ds = 2 := by rw [← e_zs, ← e_ds]; exact ⟨by decide +kernel, by decide +kernel⟩
  have v_m : zm = -1 ∧ dm = 3 := by rw [← e_zm, ← e_dm]; exact ⟨by decide +kernel, by decide +kernel⟩
  have v_t : zt = 1 ∧ dt = 2 := by rw [← e_zt, ← e_dt, v_a.1, v_a.2, ← e_th]; exact ⟨by decide +kernel, by decide +kernel⟩
  have EQT : Hid (zt = zh ∧ dt = dh) := by show _ ∧ _; rw [v_t.1, v_t.2, v_h.1, v_h.2]; exact ⟨rfl, rfl⟩
  have RF : Hid (rndR (mkRat zf df) = vf) := by show _ = _; rw [v_f.1, v_f.2, ← e_vf]; decide +kernel
  have RS : Hid (rndR (mkRat zs ds) = vs) := by show _ = _; rw [v_s.1, v_s.2, ← e_vs]; decide +kernel
  have RM : Hid ((mkRat zm dm).floor = vm) := by show _ = _; rw [v_m.1, v_m.2, ← e_vm]; decide +kernel
  have SO : Hid (((nbits (mkRat 0 0).num.natAbs : Nat) : Int) + ((nbits (mkRat 0 0).den : Nat) : Int) = 1) := by
    show _ = _
    have h1 : (mkRat 0 0).num.natAbs = 0 := by decide +kernel
    have h2 : (mkRat 0 0).den = 1 := by decide +kernel
    rw [h1, h2, nbits_zero, nbits_one]; rfl
  have I1 : ∀ v : Int, -100 ≤ v → v ≤ 100 → Hid (-9223372036854775808 ≤ v ∧ v ≤ 9223372036854775807) := fun v h1 h2 => by show _ ∧ _; omega
  have INa := I1 (1) (by decide) (by decide)
  have IQa := I1 6 (by decide) (by decide)
  have HZa := Lib.hid e_za
  have HDa := Lib.hid e_da
  have LZa : Hid ((ofv za.natAbs).length ≤ 1) := by show _ ≤ _; rw [v_a.1]; exact len_small (by decide)
  have LDa : Hid ((ofv da).length ≤ 1) := by show _ ≤ _; rw [v_a.2]; exact len_small (by decide)
  have INh := I1 (1) (by decide) (by decide)
  have IQh := I1 2 (by decide) (by decide)
  have HZh := Lib.hid e_zh
  have HDh := Lib.hid e_dh
  have LZh : Hid ((ofv zh.natAbs).length ≤ 1) := by show _ ≤ _; rw [v_h.1]; exact len_small (by decide)
  have LDh : Hid ((ofv dh).length ≤ 1) := by show _ ≤ _; rw [v_h.2]; exact len_small (by decide)
  have INf := I1 (5) (by decide) (by decide)
  have IQf := I1 2 (by decide) (by decide)
  have HZf := Lib.hid e_zf
  have HDf := Lib.hid e_df
  have LZf : Hid ((ofv zf.natAbs).length ≤ 1) := by show _ ≤ _; rw [v_f.1]; exact len_small (by decide)
  have LDf : Hid ((ofv df).length ≤ 1) := by show _ ≤ _; rw [v_f.2]; exact len_small (by decide)
  have INs := I1 (-7) (by decide) (by decide)
  have IQs := I1 2 (by decide) (by decide)
  have HZs := Lib.hid e_zs
  have HDs := Lib.hid e_ds
  have LZs : Hid ((ofv zs.natAbs).length ≤ 1) := by show _ ≤ _; rw [v_s.1]; exact len_small (by decide)
  have LDs : Hid ((ofv ds).length ≤ 1) := by show _ ≤ _; rw [v_s.2]; exact len_small (by decide)
  have INm := I1 (-1) (by decide) (by decide)
  have IQm := I1 3 (by decide) (by decide)
  have HZm := Lib.hid e_zm
  have HDm := Lib.hid e_dm
  have LZm : Hid ((ofv zm.natAbs).length ≤ 1) := by show _ ≤ _; rw [v_m.1]; exact len_small (by decide)
  have LDm : Hid ((ofv dm).length ≤ 1) := by show _ ≤ _; rw [v_m.2]; exact len_small (by decide)
  have I3 := I1 3 (by decide) (by decide)
  have IF2 := I1 2 (by decide) (by decide)
  have IS4 := I1 (-4) (by decide) (by decide)
  have IM1 := I1 (-1) (by decide) (by decide)
  have ETH := Lib.hid e_th
  have EVF := Lib.hid e_vf
  have EVS := Lib.hid e_vs
  have EVM := Lib.hid e_vm
  have HZT := Lib.hid e_zt
  have HDT := Lib.hid e_dt
  have LTH : Hid ((ofv th.natAbs).length ≤ 1) := by show _ ≤ _; rw [← e_th]; exact len_small (by decide)
  have LL : Hid (1 ≤ 1 ∧ 1 ≤ 35184372088829) := by show _ ∧ _; omega
  have LL2 : Hid (1 ≤ 1 ∧ 1 ≤ 70368744177660) := by show _ ∧ _; omega
  have B1 := Lib.hid (Below.refl w.heap.size w)
  clear v_a v_h v_f v_s v_m v_t I1 e_na e_qa e_za e_da e_nh e_qh e_zh e_dh e_nf e_qf e_zf e_df e_ns e_qs e_zs e_ds e_nm e_qm e_zm e_dm e_th e_zt e_dt e_vf e_vs e_vm e_so
  go_enter Tryz.func42, Tryz.ntmps42
  have pc0 := Lib.hid trivial
  go_wp2_with (first
    | (clear pc0; go_at_call 18; refine Calls.mono (rof_any (a := 1) (b := 6) (z := za) (d := da) INa.out IQa.out HZa.out HDa.out _) ?_; rintro e w1 ⟨Pa, ca, Qa, ka, rfl, ho, ho2, hb⟩; replace B1 := Lib.hid (B1.out.trans (hb.mono B1.out.size)); have Za := Lib.hid (Zo.of_own ho); have Na := Lib.hid (ho2.rd); clear ho ho2; clear hb; have pc1 := Lib.hid trivial)
    | (clear pc1; go_at_call 13; refine Calls.mono (rfromInt_z (v := 3) (z := th) I3.out ETH.out _) ?_; rintro e w2 ⟨Pth, cth, rfl, ho, hb⟩; replace Za := Lib.hid (Za.out.below hb); replace Na := Lib.hid (Na.out.below hb); replace B1 := Lib.hid (B1.out.trans (hb.mono B1.out.size)); have Zth := Lib.hid (Zo.of_own ho); clear ho; clear hb; have pc2 := Lib.hid trivial)
    | (clear pc2; have nn := nin_nine w2; have hb : Below w2.heap.size w2 (w2.alloc (.cells #[.int .u32 9] 52)) := (Below.refl _ _).alloc (Nat.le_refl _) _; replace Za := Lib.hid (Za.out.below hb); replace Na := Lib.hid (Na.out.below hb); replace Zth := Lib.hid (Zth.out.below hb); replace B1 := Lib.hid (B1.out.trans (hb.mono B1.out.size)); clear hb; have N9 := Lib.hid nn; clear nn; go_at_call 32; refine Calls.mono (qadd_any (L := 1) (z := zt) (d := dt) Za.out.in_ (Nin.of_rd Na.out) Zth.out.in_ N9.out LZa.out LDa.out LTH.out (Nat.le_refl 1) LL.out HZT.out HDT.out) ?_; rintro e w3 ⟨Pt, ct, Qt, kt, rfl, ho, ho2, hb⟩; replace Za := Lib.hid (Za.out.below hb); replace Na := Lib.hid (Na.out.below hb); replace Zth := Lib.hid (Zth.out.below hb); replace N9 := Lib.hid (N9.out.below hb); replace B1 := Lib.hid (B1.out.trans (hb.mono B1.out.size)); have Zt := Lib.hid (Zo.of_own ho); have Nt := Lib.hid ho2.rd; clear ho ho2; clear hb; have pc3 := Lib.hid trivial)
    | (clear pc3; go_at_call 18; refine Calls.mono (rof_any (a := 1) (b := 2) (z := zh) (d := dh) INh.out IQh.out HZh.out HDh.out _) ?_; rintro e w4 ⟨Ph, ch, Qh, kh, rfl, ho, ho2, hb⟩; replace Za := Lib.hid (Za.out.below hb); replace Na := Lib.hid (Na.out.below hb); replace Zth := Lib.hid (Zth.out.below hb); replace N9 := Lib.hid (N9.out.below hb); replace Zt := Lib.hid (Zt.out.below hb); replace Nt := Lib.hid (Nt.out.below hb); replace B1 := Lib.hid (B1.out.trans (hb.mono B1.out.size)); have Zh := Lib.hid (Zo.of_own ho); have Nh := Lib.hid (ho2.rd); clear ho ho2; clear hb; have pc4 := Lib.hid trivial)
    | (clear pc4; go_at_call 15; refine Calls.mono (r3equal_any (b := true) Zt.out Zh.out Nt.out Nh.out (by simpa using EQT.out)) ?_; rintro e w5 ⟨rfl, hb⟩; replace Za := Lib.hid (Za.out.below hb); replace Na := Lib.hid (Na.out.below hb); replace Zth := Lib.hid (Zth.out.below hb); replace N9 := Lib.hid (N9.out.below hb); replace Zt := Lib.hid (Zt.out.below hb); replace Nt := Lib.hid (Nt.out.below hb); replace Zh := Lib.hid (Zh.out.below hb); replace Nh := Lib.hid (Nh.out.below hb); replace B1 := Lib.hid (B1.out.trans (hb.mono B1.out.size)); clear hb; have pc5 := Lib.hid trivial)
    | (clear pc5; go_at_call 18; refine Calls.mono (rof_any (a := 5) (b := 2) (z := zf) (d := df) INf.out IQf.out HZf.out HDf.out _) ?_; rintro e w6 ⟨Pf, cf, Qf, kf, rfl, ho, ho2, hb⟩; replace Za := Lib.hid (Za.out.below hb); replace Na := Lib.hid (Na.out.below hb); replace Zth := Lib.hid (Zth.out.below hb); replace N9 := Lib.hid (N9.out.below hb); replace Zt := Lib.hid (Zt.out.below hb); replace Nt := Lib.hid (Nt.out.below hb); replace Zh := Lib.hid (Zh.out.below hb); replace Nh := Lib.hid (Nh.out.below hb); replace B1 := Lib.hid (B1.out.trans (hb.mono B1.out.size)); have Zf := Lib.hid (Zo.of_own ho); have Nf := Lib.hid (ho2.rd); clear ho ho2; clear hb; have pc6 := Lib.hid trivial)
    | (clear pc6; go_at_call 41; refine Calls.mono (qround_any (L := 1) (v := vf) Zf.out.in_ (Nin.of_rd Nf.out) LZf.out LDf.out LL2.out RF.out) ?_; rintro e w7 ⟨Prf, crf, rfl, ho, hb⟩; replace Za := Lib.hid (Za.out.below hb); replace Na := Lib.hid (Na.out.below hb); replace Zth := Lib.hid (Zth.out.below hb); replace N9 := Lib.hid (N9.out.below hb); replace Zt := Lib.hid (Zt.out.below hb); replace Nt := Lib.hid (Nt.out.below hb); replace Zh := Lib.hid (Zh.out.below hb); replace Nh := Lib.hid (Nh.out.below hb); replace Zf := Lib.hid (Zf.out.below hb); replace Nf := Lib.hid (Nf.out.below hb); replace B1 := Lib.hid (B1.out.trans (hb.mono B1.out.size)); have Zrf := Lib.hid (Zo.of_own ho); clear ho; clear hb; have pc7 := Lib.hid trivial)
    | (clear pc7; go_at_call 13; refine Calls.mono (rfromInt_z (v := 2) (z := vf) IF2.out EVF.out _) ?_; rintro e w8 ⟨Pif, cif, rfl, ho, hb⟩; replace Za := Lib.hid (Za.out.below hb); replace Na := Lib.hid (Na.out.below hb); replace Zth := Lib.hid (Zth.out.below hb); replace N9 := Lib.hid (N9.out.below hb); replace Zt := Lib.hid (Zt.out.below hb); replace Nt := Lib.hid (Nt.out.below hb); replace Zh := Lib.hid (Zh.out.below hb); replace Nh := Lib.hid (Nh.out.below hb); replace Zf := Lib.hid (Zf.out.below hb); replace Nf := Lib.hid (Nf.out.below hb); replace Zrf := Lib.hid (Zrf.out.below hb); replace B1 := Lib.hid (B1.out.trans (hb.mono B1.out.size)); have Zif := Lib.hid (Zo.of_own ho); clear ho; clear hb; have pc8 := Lib.hid trivial)
    | (clear pc8; go_at_call 58; refine Calls.mono (requal_z (z := vf) Zrf.out Zif.out) ?_; rintro e w9 ⟨rfl, hb⟩; replace Za := Lib.hid (Za.out.below hb); replace Na := Lib.hid (Na.out.below hb); replace Zth := Lib.hid (Zth.out.below hb); replace N9 := Lib.hid (N9.out.below hb); replace Zt := Lib.hid (Zt.out.below hb); replace Nt := Lib.hid (Nt.out.below hb); replace Zh := Lib.hid (Zh.out.below hb); replace Nh := Lib.hid (Nh.out.below hb); replace Zf := Lib.hid (Zf.out.below hb); replace Nf := Lib.hid (Nf.out.below hb); replace Zrf := Lib.hid (Zrf.out.below hb); replace Zif := Lib.hid (Zif.out.below hb); replace B1 := Lib.hid (B1.out.trans (hb.mono B1.out.size)); clear hb; have pc9 := Lib.hid trivial)
    | (clear pc9; go_at_call 18; refine Calls.mono (rof_any (a := -7) (b := 2) (z := zs) (d := ds) INs.out IQs.out HZs.out HDs.out _) ?_; rintro e w10 ⟨Ps, cs, Qs, ks, rfl, ho, ho2, hb⟩; replace Za := Lib.hid (Za.out.below hb); replace Na := Lib.hid (Na.out.below hb); replace Zth := Lib.hid (Zth.out.below hb); replace N9 := Lib.hid (N9.out.below hb); replace Zt := Lib.hid (Zt.out.below hb); replace Nt := Lib.hid (Nt.out.below hb); replace Zh := Lib.hid (Zh.out.below hb); replace Nh := Lib.hid (Nh.out.below hb); replace Zf := Lib.hid (Zf.out.below hb); replace Nf := Lib.hid (Nf.out.below hb); replace Zrf := Lib.hid (Zrf.out.below hb); replace Zif := Lib.hid (Zif.out.below hb); replace B1 := Lib.hid (B1.out.trans (hb.mono B1.out.size)); have Zs := Lib.hid (Zo.of_own ho); have Ns := Lib.hid (ho2.rd); clear ho ho2; clear hb; have pc10 := Lib.hid trivial)
    | (clear pc10; go_at_call 41; refine Calls.mono (qround_any (L := 1) (v := vs) Zs.out.in_ (Nin.of_rd Ns.out) LZs.out LDs.out LL2.out RS.out) ?_; rintro e w11 ⟨Prs, crs, rfl, ho, hb⟩; replace Za := Lib.hid (Za.out.below hb); replace Na := Lib.hid (Na.out.below hb); replace Zth := Lib.hid (Zth.out.below hb); replace N9 := Lib.hid (N9.out.below hb); replace Zt := Lib.hid (Zt.out.below hb); replace Nt := Lib.hid (Nt.out.below hb); replace Zh := Lib.hid (Zh.out.below hb); replace Nh := Lib.hid (Nh.out.below hb); replace Zf := Lib.hid (Zf.out.below hb); replace Nf := Lib.hid (Nf.out.below hb); replace Zrf := Lib.hid (Zrf.out.below hb); replace Zif := Lib.hid (Zif.out.below hb); replace Zs := Lib.hid (Zs.out.below hb); replace Ns := Lib.hid (Ns.out.below hb); replace B1 := Lib.hid (B1.out.trans (hb.mono B1.out.size)); have Zrs := Lib.hid (Zo.of_own ho); clear ho; clear hb; have pc11 := Lib.hid trivial)
    | (clear pc11; go_at_call 13; refine Calls.mono (rfromInt_z (v := -4) (z := vs) IS4.out EVS.out _) ?_; rintro e w12 ⟨Pis, cis, rfl, ho, hb⟩; replace Za := Lib.hid (Za.out.below hb); replace Na := Lib.hid (Na.out.below hb); replace Zth := Lib.hid (Zth.out.below hb); replace N9 := Lib.hid (N9.out.below hb); replace Zt := Lib.hid (Zt.out.below hb); replace Nt := Lib.hid (Nt.out.below hb); replace Zh := Lib.hid (Zh.out.below hb); replace Nh := Lib.hid (Nh.out.below hb); replace Zf := Lib.hid (Zf.out.below hb); replace Nf := Lib.hid (Nf.out.below hb); replace Zrf := Lib.hid (Zrf.out.below hb); replace Zif := Lib.hid (Zif.out.below hb); replace Zs := Lib.hid (Zs.out.below hb); replace Ns := Lib.hid (Ns.out.below hb); replace Zrs := Lib.hid (Zrs.out.below hb); replace B1 := Lib.hid (B1.out.trans (hb.mono B1.out.size)); have Zis := Lib.hid (Zo.of_own ho); clear ho; clear hb; have pc12 := Lib.hid trivial)
    | (clear pc12; go_at_call 58; refine Calls.mono (requal_z (z := vs) Zrs.out Zis.out) ?_; rintro e w13 ⟨rfl, hb⟩; replace Za := Lib.hid (Za.out.below hb); replace Na := Lib.hid (Na.out.below hb); replace Zth := Lib.hid (Zth.out.below hb); replace N9 := Lib.hid (N9.out.below hb); replace Zt := Lib.hid (Zt.out.below hb); replace Nt := Lib.hid (Nt.out.below hb); replace Zh := Lib.hid (Zh.out.below hb); replace Nh := Lib.hid (Nh.out.below hb); replace Zf := Lib.hid (Zf.out.below hb); replace Nf := Lib.hid (Nf.out.below hb); replace Zrf := Lib.hid (Zrf.out.below hb); replace Zif := Lib.hid (Zif.out.below hb); replace Zs := Lib.hid (Zs.out.below hb); replace Ns := Lib.hid (Ns.out.below hb); replace Zrs := Lib.hid (Zrs.out.below hb); replace Zis := Lib.hid (Zis.out.below hb); replace B1 := Lib.hid (B1.out.trans (hb.mono B1.out.size)); clear hb; have pc13 := Lib.hid trivial)
    | (clear pc13; go_at_call 18; refine Calls.mono (rof_any (a := -1) (b := 3) (z := zm) (d := dm) INm.out IQm.out HZm.out HDm.out _) ?_; rintro e w14 ⟨Pm, cm, Qm, km, rfl, ho, ho2, hb⟩; replace Za := Lib.hid (Za.out.below hb); replace Na := Lib.hid (Na.out.below hb); replace Zth := Lib.hid (Zth.out.below hb); replace N9 := Lib.hid (N9.out.below hb); replace Zt := Lib.hid (Zt.out.below hb); replace Nt := Lib.hid (Nt.out.below hb); replace Zh := Lib.hid (Zh.out.below hb); replace Nh := Lib.hid (Nh.out.below hb); replace Zf := Lib.hid (Zf.out.below hb); replace Nf := Lib.hid (Nf.out.below hb); replace Zrf := Lib.hid (Zrf.out.below hb); replace Zif := Lib.hid (Zif.out.below hb); replace Zs := Lib.hid (Zs.out.below hb); replace Ns := Lib.hid (Ns.out.below hb); replace Zrs := Lib.hid (Zrs.out.below hb); replace Zis := Lib.hid (Zis.out.below hb); replace B1 := Lib.hid (B1.out.trans (hb.mono B1.out.size)); have Zm := Lib.hid (Zo.of_own ho); have Nm := Lib.hid (ho2.rd); clear ho ho2; clear hb; have pc14 := Lib.hid trivial)
    | (clear pc14; go_at_call 39; refine Calls.mono (qfloor_any (L := 1) (v := vm) Zm.out.in_ (Nin.of_rd Nm.out) LZm.out LDm.out LL2.out RM.out) ?_; rintro e w15 ⟨Prm, crm, rfl, ho, hb⟩; replace Za := Lib.hid (Za.out.below hb); replace Na := Lib.hid (Na.out.below hb); replace Zth := Lib.hid (Zth.out.below hb); replace N9 := Lib.hid (N9.out.below hb); replace Zt := Lib.hid (Zt.out.below hb); replace Nt := Lib.hid (Nt.out.below hb); replace Zh := Lib.hid (Zh.out.below hb); replace Nh := Lib.hid (Nh.out.below hb); replace Zf := Lib.hid (Zf.out.below hb); replace Nf := Lib.hid (Nf.out.below hb); replace Zrf := Lib.hid (Zrf.out.below hb); replace Zif := Lib.hid (Zif.out.below hb); replace Zs := Lib.hid (Zs.out.below hb); replace Ns := Lib.hid (Ns.out.below hb); replace Zrs := Lib.hid (Zrs.out.below hb); replace Zis := Lib.hid (Zis.out.below hb); replace Zm := Lib.hid (Zm.out.below hb); replace Nm := Lib.hid (Nm.out.below hb); replace B1 := Lib.hid (B1.out.trans (hb.mono B1.out.size)); have Zrm := Lib.hid (Zo.of_own ho); clear ho; clear hb; have pc15 := Lib.hid trivial)
    | (clear pc15; go_at_call 13; refine Calls.mono (rfromInt_z (v := -1) (z := vm) IM1.out EVM.out _) ?_; rintro e w16 ⟨Pim, cim, rfl, ho, hb⟩; replace Za := Lib.hid (Za.out.below hb); replace Na := Lib.hid (Na.out.below hb); replace Zth := Lib.hid (Zth.out.below hb); replace N9 := Lib.hid (N9.out.below hb); replace Zt := Lib.hid (Zt.out.below hb); replace Nt := Lib.hid (Nt.out.below hb); replace Zh := Lib.hid (Zh.out.below hb); replace Nh := Lib.hid (Nh.out.below hb); replace Zf := Lib.hid (Zf.out.below hb); replace Nf := Lib.hid (Nf.out.below hb); replace Zrf := Lib.hid (Zrf.out.below hb); replace Zif := Lib.hid (Zif.out.below hb); replace Zs := Lib.hid (Zs.out.below hb); replace Ns := Lib.hid (Ns.out.below hb); replace Zrs := Lib.hid (Zrs.out.below hb); replace Zis := Lib.hid (Zis.out.below hb); replace Zm := Lib.hid (Zm.out.below hb); replace Nm := Lib.hid (Nm.out.below hb); replace Zrm := Lib.hid (Zrm.out.below hb); replace B1 := Lib.hid (B1.out.trans (hb.mono B1.out.size)); have Zim := Lib.hid (Zo.of_own ho); clear ho; clear hb; have pc16 := Lib.hid trivial)
    | (clear pc16; go_at_call 58; refine Calls.mono (requal_z (z := vm) Zrm.out Zim.out) ?_; rintro e w17 ⟨rfl, hb⟩; replace Za := Lib.hid (Za.out.below hb); replace Na := Lib.hid (Na.out.below hb); replace Zth := Lib.hid (Zth.out.below hb); replace N9 := Lib.hid (N9.out.below hb); replace Zt := Lib.hid (Zt.out.below hb); replace Nt := Lib.hid (Nt.out.below hb); replace Zh := Lib.hid (Zh.out.below hb); replace Nh := Lib.hid (Nh.out.below hb); replace Zf := Lib.hid (Zf.out.below hb); replace Nf := Lib.hid (Nf.out.below hb); replace Zrf := Lib.hid (Zrf.out.below hb); replace Zif := Lib.hid (Zif.out.below hb); replace Zs := Lib.hid (Zs.out.below hb); replace Ns := Lib.hid (Ns.out.below hb); replace Zrs := Lib.hid (Zrs.out.below hb); replace Zis := Lib.hid (Zis.out.below hb); replace Zm := Lib.hid (Zm.out.below hb); replace Nm := Lib.hid (Nm.out.below hb); replace Zrm := Lib.hid (Zrm.out.below hb); replace Zim := Lib.hid (Zim.out.below hb); replace B1 := Lib.hid (B1.out.trans (hb.mono B1.out.size)); clear hb; have pc17 := Lib.hid trivial)
    | (clear pc17; go_at_call 90; refine Calls.mono (qsize_any (L := 1) (x := 0) (p := 0) (v := 1) ⟨[], Rd.nil _ _, rfl, by simp [val, zv]⟩ ⟨[], Rd.nil _ _, rfl, rfl⟩ (Nat.zero_le _) (Nat.zero_le _) LL2.out SO.out) ?_; rintro e w18 ⟨rfl, hb⟩; replace Za := Lib.hid (Za.out.below hb); replace Na := Lib.hid (Na.out.below hb); replace Zth := Lib.hid (Zth.out.below hb); replace N9 := Lib.hid (N9.out.below hb); replace Zt := Lib.hid (Zt.out.below hb); replace Nt := Lib.hid (Nt.out.below hb); replace Zh := Lib.hid (Zh.out.below hb); replace Nh := Lib.hid (Nh.out.below hb); replace Zf := Lib.hid (Zf.out.below hb); replace Nf := Lib.hid (Nf.out.below hb); replace Zrf := Lib.hid (Zrf.out.below hb); replace Zif := Lib.hid (Zif.out.below hb); replace Zs := Lib.hid (Zs.out.below hb); replace Ns := Lib.hid (Ns.out.below hb); replace Zrs := Lib.hid (Zrs.out.below hb); replace Zis := Lib.hid (Zis.out.below hb); replace Zm := Lib.hid (Zm.out.below hb); replace Nm := Lib.hid (Nm.out.below hb); replace Zrm := Lib.hid (Zrm.out.below hb); replace Zim := Lib.hid (Zim.out.below hb); replace B1 := Lib.hid (B1.out.trans (hb.mono B1.out.size)); clear hb; have pc18 := Lib.hid trivial))
  clear pc18
  go_ret
  exact ⟨rfl, B1.out⟩
end Go.Proofs.YtfmgbfdnmconiaaGreat
