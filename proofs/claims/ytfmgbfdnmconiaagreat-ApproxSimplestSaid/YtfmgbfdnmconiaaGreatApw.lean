/-
  The statements' own sanity check of package approx.
-/
import Derived.Test.YtfmgbfdnmconiaaGreatApi
namespace Go.Proofs.YtfmgbfdnmconiaaGreat
open Go.RowKit
set_option linter.unusedVariables false

theorem Cf.inv {x y : Int} {l : List Int} (h : Cf x y l) (hy : y ≠ 0) : ∃ t, l = x / y :: t ∧ Cf y (x % y) t := by
  cases h with
  | nil => exact absurd rfl hy
  | cons h t => exact ⟨_, rfl, t⟩
theorem Cf.end_ {x : Int} {l : List Int} (h : Cf x 0 l) : l = [] := by
  generalize hy : (0 : Int) = y at h
  cases h with
  | nil => rfl
  | cons h t => exact absurd hy.symm h
theorem cf_awake {l : List Int} (h : Cf 415 93 l) : l = [4, 2, 6, 7] := by
  obtain ⟨l1, e1, h1⟩ := h.inv (by decide)
  obtain ⟨l2, e2, h2⟩ := Cf.inv h1 (by decide)
  obtain ⟨l3, e3, h3⟩ := Cf.inv h2 (by decide)
  obtain ⟨l4, e4, h4⟩ := Cf.inv h3 (by decide)
  have e5 := Cf.end_ (show Cf _ 0 l4 from h4)
  rw [e1, e2, e3, e4, e5]
  decide
theorem smp_awake {z d : Int} (h : Smp 3 10 2 5 z d) : z = 1 ∧ d = 3 := by
  have h1 := h.lo; have h2 := h.hi; have h3 := h.p
  have h4 := h.best 1 3 (by decide) (by decide) (by decide)
  have h5 : d = 1 ∨ d = 2 ∨ d = 3 := by omega
  rcases h5 with rfl | rfl | rfl <;> omega
theorem bel_awake {z d : Int} (h : Bel 355 113 10 z d) : z = 25 ∧ d = 8 := by
  have h1 := h.le; have h2 := h.m; have h3 := h.p
  have h4 := h.best 25 8 (by decide) (by decide) (by decide)
  have h5 : d = 1 ∨ d = 2 ∨ d = 3 ∨ d = 4 ∨ d = 5 ∨ d = 6 ∨ d = 7 ∨ d = 8 ∨ d = 9 ∨ d = 10 := by omega
  rcases h5 with rfl | rfl | rfl | rfl | rfl | rfl | rfl | rfl | rfl | rfl <;> omega
theorem abo_awake {z d : Int} (h : Abo 355 113 10 z d) : z = 22 ∧ d = 7 := by
  have h1 := h.le; have h2 := h.m; have h3 := h.p
  have h4 := h.best 22 7 (by decide) (by decide) (by decide)
  have h5 : d = 1 ∨ d = 2 ∨ d = 3 ∨ d = 4 ∨ d = 5 ∨ d = 6 ∨ d = 7 ∨ d = 8 ∨ d = 9 ∨ d = 10 := by omega
  rcases h5 with rfl | rfl | rfl | rfl | rfl | rfl | rfl | rfl | rfl | rfl <;> omega
theorem lr_four {w : World} {a b c d : Int} {PA PB PC PD : Option Addr} {ca cb cc cd : Nat} (h1 : Zo w PA ca a) (h2 : Zo w PB cb b) (h3 : Zo w PC cc c) (h4 : Zo w PD cd d) :
    Lr (w.alloc (.cells #[.bool (decide (a < 0)), .slice PA (ofv a.natAbs).length ca, .bool (decide (b < 0)), .slice PB (ofv b.natAbs).length cb, .bool (decide (c < 0)), .slice PC (ofv c.natAbs).length cc, .bool (decide (d < 0)), .slice PD (ofv d.natAbs).length cd] 24)) (.slice (some ⟨w.heap.size, 0, none⟩) 4 4) [a, b, c, d] := by
  have hb : Below w.heap.size w (w.alloc (.cells #[.bool (decide (a < 0)), .slice PA (ofv a.natAbs).length ca, .bool (decide (b < 0)), .slice PB (ofv b.natAbs).length cb, .bool (decide (c < 0)), .slice PC (ofv c.natAbs).length cc, .bool (decide (d < 0)), .slice PD (ofv d.natAbs).length cd] 24)) := (Below.refl _ _).alloc (Nat.le_refl _) _
  have hn := heap_alloc_new w (.cells #[.bool (decide (a < 0)), .slice PA (ofv a.natAbs).length ca, .bool (decide (b < 0)), .slice PB (ofv b.natAbs).length cb, .bool (decide (c < 0)), .slice PC (ofv c.natAbs).length cc, .bool (decide (d < 0)), .slice PD (ofv d.natAbs).length cd] 24)
  refine ⟨w.heap.size, 4, rfl, by simp, by omega, lt_of_heap hn, fun i z hi => ?_⟩
  have el : ∀ (j : Nat) (z : Int) (P : Option Addr) (k : Nat), Zo w P k z → (#[.bool (decide (a < 0)), .slice PA (ofv a.natAbs).length ca, .bool (decide (b < 0)), .slice PB (ofv b.natAbs).length cb, .bool (decide (c < 0)), .slice PC (ofv c.natAbs).length cc, .bool (decide (d < 0)), .slice PD (ofv d.natAbs).length cd][j * 2]? : Option Value) = some (.bool (decide (z < 0))) → (#[.bool (decide (a < 0)), .slice PA (ofv a.natAbs).length ca, .bool (decide (b < 0)), .slice PB (ofv b.natAbs).length cb, .bool (decide (c < 0)), .slice PC (ofv c.natAbs).length cc, .bool (decide (d < 0)), .slice PD (ofv d.natAbs).length cd][j * 2 + 1]? : Option Value) = some (.slice P (ofv z.natAbs).length k) →
      ∃ P k, (w.alloc (.cells #[.bool (decide (a < 0)), .slice PA (ofv a.natAbs).length ca, .bool (decide (b < 0)), .slice PB (ofv b.natAbs).length cb, .bool (decide (c < 0)), .slice PC (ofv c.natAbs).length cc, .bool (decide (d < 0)), .slice PD (ofv d.natAbs).length cd] 24)).rangeAt w.heap.size (j * 2) [.bool (decide (z < 0)), .slice P (ofv z.natAbs).length k] ∧ Zo (w.alloc (.cells #[.bool (decide (a < 0)), .slice PA (ofv a.natAbs).length ca, .bool (decide (b < 0)), .slice PB (ofv b.natAbs).length cb, .bool (decide (c < 0)), .slice PC (ofv c.natAbs).length cc, .bool (decide (d < 0)), .slice PD (ofv d.natAbs).length cd] 24)) P k z := fun j z P k hz c1 c2 => by
    refine ⟨P, k, fun q u hq => ?_, hz.below hb⟩
    rw [cell_of_row _ _ _ _ _ (0, 0) hn]
    match q, hq with
    | 0, hq => simp at hq; subst hq; exact c1
    | 1, hq => simp at hq; subst hq; exact c2
  match i, hi with
  | 0, hi => simp at hi; subst hi; exact el 0 a PA ca h1 rfl rfl
  | 1, hi => simp at hi; subst hi; exact el 1 b PB cb h2 rfl rfl
  | 2, hi => simp at hi; subst hi; exact el 2 c PC cc h3 rfl rfl
  | 3, hi => simp at hi; subst hi; exact el 3 d PD cd h4 rfl rfl
set_option maxRecDepth 100000 in
set_option maxHeartbeats 16000000 in
theorem awake5_any (w : World) : Calls Tryz.prog 14 #[] w fun e w' => e = .returned (.bool true) ∧ Below w.heap.size w w' := by
  obtain ⟨za, e_za⟩ : ∃ z0 : Int, (Rat.divInt (415) 93).num = z0 := ⟨_, rfl⟩
  obtain ⟨da, e_da⟩ : ∃ z0 : Nat, (Rat.divInt (415) 93).den = z0 := ⟨_, rfl⟩
  have v_a : za = 415 ∧ da = 93 := by rw [← e_za, ← e_da]; exact ⟨by decide +kernel, by decide +kernel⟩
  have INa : Hid (-9223372036854775808 ≤ (415 : Int) ∧ (415 : Int) ≤ 9223372036854775807) := by show _ ∧ _; omega
  have IQa : Hid (-9223372036854775808 ≤ (93 : Int) ∧ (93 : Int) ≤ 9223372036854775807) := by show _ ∧ _; omega
  have HZa := Lib.hid e_za
  have HDa := Lib.hid e_da
  have CZa : Hid ((mkRat za da).num = za) := by show _ = _; rw [v_a.1, v_a.2]; decide +kernel
  have CDa : Hid ((mkRat za da).den = da) := by show _ = _; rw [v_a.1, v_a.2]; decide +kernel
  have LZa : Hid ((ofv za.natAbs).length ≤ 1048576) := by show _ ≤ _; rw [v_a.1]; exact Nat.le_trans (len_small (by decide)) (by decide)
  have LDa : Hid ((ofv da).length ≤ 1048576) := by show _ ≤ _; rw [v_a.2]; exact Nat.le_trans (len_small (by decide)) (by decide)
  have VVa := Lib.hid v_a
  obtain ⟨zs, e_zs⟩ : ∃ z0 : Int, (Rat.divInt (3) 10).num = z0 := ⟨_, rfl⟩
  obtain ⟨ds, e_ds⟩ : ∃ z0 : Nat, (Rat.divInt (3) 10).den = z0 := ⟨_, rfl⟩
  have v_s : zs = 3 ∧ ds = 10 := by rw [← e_zs, ← e_ds]; exact ⟨by decide +kernel, by decide +kernel⟩
  have INs : Hid (-9223372036854775808 ≤ (3 : Int) ∧ (3 : Int) ≤ 9223372036854775807) := by show _ ∧ _; omega
  have IQs : Hid (-9223372036854775808 ≤ (10 : Int) ∧ (10 : Int) ≤ 9223372036854775807) := by show _ ∧ _; omega
  have HZs := Lib.hid e_zs
  have HDs := Lib.hid e_ds
  have CZs : Hid ((mkRat zs ds).num = zs) := by show _ = _; rw [v_s.1, v_s.2]; decide +kernel
  have CDs : Hid ((mkRat zs ds).den = ds) := by show _ = _; rw [v_s.1, v_s.2]; decide +kernel
  have LZs : Hid ((ofv zs.natAbs).length ≤ 1048576) := by show _ ≤ _; rw [v_s.1]; exact Nat.le_trans (len_small (by decide)) (by decide)
  have LDs : Hid ((ofv ds).length ≤ 1048576) := by show _ ≤ _; rw [v_s.2]; exact Nat.le_trans (len_small (by decide)) (by decide)
  have VVs := Lib.hid v_s
  obtain ⟨zt, e_zt⟩ : ∃ z0 : Int, (Rat.divInt (2) 5).num = z0 := ⟨_, rfl⟩
  obtain ⟨dt, e_dt⟩ : ∃ z0 : Nat, (Rat.divInt (2) 5).den = z0 := ⟨_, rfl⟩
  have v_t : zt = 2 ∧ dt = 5 := by rw [← e_zt, ← e_dt]; exact ⟨by decide +kernel, by decide +kernel⟩
  have INt : Hid (-9223372036854775808 ≤ (2 : Int) ∧ (2 : Int) ≤ 9223372036854775807) := by show _ ∧ _; omega
  have IQt : Hid (-9223372036854775808 ≤ (5 : Int) ∧ (5 : Int) ≤ 9223372036854775807) := by show _ ∧ _; omega
  have HZt := Lib.hid e_zt
  have HDt := Lib.hid e_dt
  have CZt : Hid ((mkRat zt dt).num = zt) := by show _ = _; rw [v_t.1, v_t.2]; decide +kernel
  have CDt : Hid ((mkRat zt dt).den = dt) := by show _ = _; rw [v_t.1, v_t.2]; decide +kernel
  have LZt : Hid ((ofv zt.natAbs).length ≤ 1048576) := by show _ ≤ _; rw [v_t.1]; exact Nat.le_trans (len_small (by decide)) (by decide)
  have LDt : Hid ((ofv dt).length ≤ 1048576) := by show _ ≤ _; rw [v_t.2]; exact Nat.le_trans (len_small (by decide)) (by decide)
  have VVt := Lib.hid v_t
  obtain ⟨zb, e_zb⟩ : ∃ z0 : Int, (Rat.divInt (355) 113).num = z0 := ⟨_, rfl⟩
  obtain ⟨db, e_db⟩ : ∃ z0 : Nat, (Rat.divInt (355) 113).den = z0 := ⟨_, rfl⟩
  have v_b : zb = 355 ∧ db = 113 := by rw [← e_zb, ← e_db]; exact ⟨by decide +kernel, by decide +kernel⟩
  have INb : Hid (-9223372036854775808 ≤ (355 : Int) ∧ (355 : Int) ≤ 9223372036854775807) := by show _ ∧ _; omega
  have IQb : Hid (-9223372036854775808 ≤ (113 : Int) ∧ (113 : Int) ≤ 9223372036854775807) := by show _ ∧ _; omega
  have HZb := Lib.hid e_zb
  have HDb := Lib.hid e_db
  have CZb : Hid ((mkRat zb db).num = zb) := by show _ = _; rw [v_b.1, v_b.2]; decide +kernel
  have CDb : Hid ((mkRat zb db).den = db) := by show _ = _; rw [v_b.1, v_b.2]; decide +kernel
  have LZb : Hid ((ofv zb.natAbs).length ≤ 1048576) := by show _ ≤ _; rw [v_b.1]; exact Nat.le_trans (len_small (by decide)) (by decide)
  have LDb : Hid ((ofv db).length ≤ 1048576) := by show _ ≤ _; rw [v_b.2]; exact Nat.le_trans (len_small (by decide)) (by decide)
  have VVb := Lib.hid v_b
  obtain ⟨ze, e_ze⟩ : ∃ z0 : Int, (Rat.divInt (1) 3).num = z0 := ⟨_, rfl⟩
  obtain ⟨de, e_de⟩ : ∃ z0 : Nat, (Rat.divInt (1) 3).den = z0 := ⟨_, rfl⟩
  have v_e : ze = 1 ∧ de = 3 := by rw [← e_ze, ← e_de]; exact ⟨by decide +kernel, by decide +kernel⟩
  have INe : Hid (-9223372036854775808 ≤ (1 : Int) ∧ (1 : Int) ≤ 9223372036854775807) := by show _ ∧ _; omega
  have IQe : Hid (-9223372036854775808 ≤ (3 : Int) ∧ (3 : Int) ≤ 9223372036854775807) := by show _ ∧ _; omega
  have HZe := Lib.hid e_ze
  have HDe := Lib.hid e_de
  have CZe : Hid ((mkRat ze de).num = ze) := by show _ = _; rw [v_e.1, v_e.2]; decide +kernel
  have CDe : Hid ((mkRat ze de).den = de) := by show _ = _; rw [v_e.1, v_e.2]; decide +kernel
  have LZe : Hid ((ofv ze.natAbs).length ≤ 1048576) := by show _ ≤ _; rw [v_e.1]; exact Nat.le_trans (len_small (by decide)) (by decide)
  have LDe : Hid ((ofv de).length ≤ 1048576) := by show _ ≤ _; rw [v_e.2]; exact Nat.le_trans (len_small (by decide)) (by decide)
  have VVe := Lib.hid v_e
  obtain ⟨zf, e_zf⟩ : ∃ z0 : Int, (Rat.divInt (25) 8).num = z0 := ⟨_, rfl⟩
  obtain ⟨df, e_df⟩ : ∃ z0 : Nat, (Rat.divInt (25) 8).den = z0 := ⟨_, rfl⟩
  have v_f : zf = 25 ∧ df = 8 := by rw [← e_zf, ← e_df]; exact ⟨by decide +kernel, by decide +kernel⟩
  have INf : Hid (-9223372036854775808 ≤ (25 : Int) ∧ (25 : Int) ≤ 9223372036854775807) := by show _ ∧ _; omega
  have IQf : Hid (-9223372036854775808 ≤ (8 : Int) ∧ (8 : Int) ≤ 9223372036854775807) := by show _ ∧ _; omega
  have HZf := Lib.hid e_zf
  have HDf := Lib.hid e_df
  have CZf : Hid ((mkRat zf df).num = zf) := by show _ = _; rw [v_f.1, v_f.2]; decide +kernel
  have CDf : Hid ((mkRat zf df).den = df) := by show _ = _; rw [v_f.1, v_f.2]; decide +kernel
  have LZf : Hid ((ofv zf.natAbs).length ≤ 1048576) := by show _ ≤ _; rw [v_f.1]; exact Nat.le_trans (len_small (by decide)) (by decide)
  have LDf : Hid ((ofv df).length ≤ 1048576) := by show _ ≤ _; rw [v_f.2]; exact Nat.le_trans (len_small (by decide)) (by decide)
  have VVf := Lib.hid v_f
  obtain ⟨zg, e_zg⟩ : ∃ z0 : Int, (Rat.divInt (22) 7).num = z0 := ⟨_, rfl⟩
  obtain ⟨dg, e_dg⟩ : ∃ z0 : Nat, (Rat.divInt (22) 7).den = z0 := ⟨_, rfl⟩
  have v_g : zg = 22 ∧ dg = 7 := by rw [← e_zg, ← e_dg]; exact ⟨by decide +kernel, by decide +kernel⟩
  have INg : Hid (-9223372036854775808 ≤ (22 : Int) ∧ (22 : Int) ≤ 9223372036854775807) := by show _ ∧ _; omega
  have IQg : Hid (-9223372036854775808 ≤ (7 : Int) ∧ (7 : Int) ≤ 9223372036854775807) := by show _ ∧ _; omega
  have HZg := Lib.hid e_zg
  have HDg := Lib.hid e_dg
  have CZg : Hid ((mkRat zg dg).num = zg) := by show _ = _; rw [v_g.1, v_g.2]; decide +kernel
  have CDg : Hid ((mkRat zg dg).den = dg) := by show _ = _; rw [v_g.1, v_g.2]; decide +kernel
  have LZg : Hid ((ofv zg.natAbs).length ≤ 1048576) := by show _ ≤ _; rw [v_g.1]; exact Nat.le_trans (len_small (by decide)) (by decide)
  have LDg : Hid ((ofv dg).length ≤ 1048576) := by show _ ≤ _; rw [v_g.2]; exact Nat.le_trans (len_small (by decide)) (by decide)
  have VVg := Lib.hid v_g
  obtain ⟨n4, e_n4⟩ : ∃ z0 : Int, (4 : Int) = z0 := ⟨_, rfl⟩
  have EN4 := Lib.hid e_n4
  obtain ⟨n2, e_n2⟩ : ∃ z0 : Int, (2 : Int) = z0 := ⟨_, rfl⟩
  have EN2 := Lib.hid e_n2
  obtain ⟨n6, e_n6⟩ : ∃ z0 : Int, (6 : Int) = z0 := ⟨_, rfl⟩
  have EN6 := Lib.hid e_n6
  obtain ⟨n7, e_n7⟩ : ∃ z0 : Int, (7 : Int) = z0 := ⟨_, rfl⟩
  have EN7 := Lib.hid e_n7
  obtain ⟨n10, e_n10⟩ : ∃ z0 : Int, (10 : Int) = z0 := ⟨_, rfl⟩
  have EN10 := Lib.hid e_n10
  have HC : Hid (sgR (mkRat zs ds - mkRat zt dt) = -1) := by show _ = _; rw [v_s.1, v_s.2, v_t.1, v_t.2]; decide +kernel
  have L10 : Hid ((ofv n10.natAbs).length ≤ 1048576) := by show _ ≤ _; rw [← e_n10]; exact Nat.le_trans (len_small (by decide)) (by decide)
  have P10 : Hid (0 < n10) := by show _ < _; omega
  have B1 := Lib.hid (Below.refl w.heap.size w)
  clear v_a e_za e_da v_s e_zs e_ds v_t e_zt e_dt v_b e_zb e_db v_e e_ze e_de v_f e_zf e_df v_g e_zg e_dg e_n4 e_n2 e_n6 e_n7 e_n10
  go_enter Tryz.func14, Tryz.ntmps14
  have pc0 := Lib.hid trivial
  go_wp2_with (first
    | (clear pc0; go_at_call 18; refine Calls.mono (rof_any (a := 415) (b := 93) (z := za) (d := da) INa.out IQa.out HZa.out HDa.out _) ?_; rintro e w1 ⟨Pa, ca, Qa, ka, rfl, ho, ho2, hb⟩; replace B1 := Lib.hid (B1.out.trans (hb.mono B1.out.size)); have Za := Lib.hid (Zo.of_own ho); have Na := Lib.hid ho2.rd; clear ho ho2; clear hb; have pc1 := Lib.hid trivial)
    | (clear pc1; go_at_call 9; refine Calls.mono (continued_any (z := za) (d := da) Za.out.in_ (Nin.of_rd Na.out) LZa.out LDa.out CZa.out CDa.out) ?_; rintro e w2 ⟨v1, ll, rfl, cf, _, lr, hb⟩; replace Za := Lib.hid (Za.out.below hb); replace Na := Lib.hid (Na.out.below hb); replace B1 := Lib.hid (B1.out.trans (hb.mono B1.out.size)); rw [VVa.out.1, VVa.out.2] at cf; have cf2 := cf_awake cf; rw [EN4.out, EN2.out, EN6.out, EN7.out] at cf2; subst cf2; have LR := Lib.hid lr; clear lr cf; clear hb; have pc2 := Lib.hid trivial)
    | (clear pc2; go_at_call 18; refine Calls.mono (rof_any (a := 3) (b := 10) (z := zs) (d := ds) INs.out IQs.out HZs.out HDs.out _) ?_; rintro e w3 ⟨Ps, cs, Qs, ks, rfl, ho, ho2, hb⟩; replace Za := Lib.hid (Za.out.below hb); replace Na := Lib.hid (Na.out.below hb); replace LR := Lib.hid (LR.out.below hb); replace B1 := Lib.hid (B1.out.trans (hb.mono B1.out.size)); have Zs := Lib.hid (Zo.of_own ho); have Ns := Lib.hid ho2.rd; clear ho ho2; clear hb; have pc3 := Lib.hid trivial)
    | (clear pc3; go_at_call 18; refine Calls.mono (rof_any (a := 2) (b := 5) (z := zt) (d := dt) INt.out IQt.out HZt.out HDt.out _) ?_; rintro e w4 ⟨Pt, ct, Qt, kt, rfl, ho, ho2, hb⟩; replace Za := Lib.hid (Za.out.below hb); replace Na := Lib.hid (Na.out.below hb); replace LR := Lib.hid (LR.out.below hb); replace Zs := Lib.hid (Zs.out.below hb); replace Ns := Lib.hid (Ns.out.below hb); replace B1 := Lib.hid (B1.out.trans (hb.mono B1.out.size)); have Zt := Lib.hid (Zo.of_own ho); have Nt := Lib.hid ho2.rd; clear ho ho2; clear hb; have pc4 := Lib.hid trivial)
    | (clear pc4; go_at_call 20; refine Calls.mono (simplest_yesa (zl := zs) (zh := zt) (dl := ds) (dh := dt) Zs.out.in_ (Nin.of_rd Ns.out) Zt.out.in_ (Nin.of_rd Nt.out) LZs.out LDs.out LZt.out LDt.out CZs.out CDs.out CZt.out CDt.out HC.out) ?_; rintro e w5 ⟨x1, y1, sm, _, Px, cx, Qx, kx, rfl, q1, q2, hb⟩; replace Za := Lib.hid (Za.out.below hb); replace Na := Lib.hid (Na.out.below hb); replace LR := Lib.hid (LR.out.below hb); replace Zs := Lib.hid (Zs.out.below hb); replace Ns := Lib.hid (Ns.out.below hb); replace Zt := Lib.hid (Zt.out.below hb); replace Nt := Lib.hid (Nt.out.below hb); replace B1 := Lib.hid (B1.out.trans (hb.mono B1.out.size)); rw [VVs.out.1, VVs.out.2, VVt.out.1, VVt.out.2] at sm; have sm2 := smp_awake sm; have EX : Hid (x1 = ze ∧ y1 = de) := (by show _ ∧ _; rw [VVe.out.1, VVe.out.2]; omega); have Zx := Lib.hid q1; have Nx := Lib.hid q2; clear sm sm2 q1 q2; clear hb; have pc5 := Lib.hid trivial))
  clear pc5
  have Lx : Hid (True) := trivial
  have hb : Below w5.heap.size w5 (w5.alloc (.cells #[.bool (decide (x1 < 0)), .slice Px (ofv x1.natAbs).length cx, .slice Qx (ofv y1).length kx] 26)) := ((Below.refl _ _).alloc (by first | exact Nat.le_refl _ | (simp; done) | (simp; omega)) _)
  replace Za := Lib.hid (Za.out.below hb)
  replace Na := Lib.hid (Na.out.below hb)
  replace LR := Lib.hid (LR.out.below hb)
  replace Zs := Lib.hid (Zs.out.below hb)
  replace Ns := Lib.hid (Ns.out.below hb)
  replace Zt := Lib.hid (Zt.out.below hb)
  replace Nt := Lib.hid (Nt.out.below hb)
  replace Zx := Lib.hid (Zx.out.below hb)
  replace Nx := Lib.hid (Nx.out.below hb)
  replace B1 := Lib.hid (B1.out.trans (hb.mono B1.out.size))
  have Vgx : Hid (Rb (w5.alloc (.cells #[.bool (decide (x1 < 0)), .slice Px (ofv x1.natAbs).length cx, .slice Qx (ofv y1).length kx] 26)) (w5.heap.size) (decide (x1 < 0)) Px (ofv x1.natAbs).length cx Qx (ofv y1).length kx) := by have h := (Rb.new w5 (decide (x1 < 0)) Px (ofv x1.natAbs).length cx Qx (ofv y1).length kx); (try simp only [World.size_alloc] at h); exact h
  clear hb
  generalize (w5.alloc (.cells #[.bool (decide (x1 < 0)), .slice Px (ofv x1.natAbs).length cx, .slice Qx (ofv y1).length kx] 26)) = w6 at *
  generalize w5.heap.size = gx at *
  have pc0 := Lib.hid trivial
  go_wp2_with (first
    | (clear pc0; go_at_call 18; refine Calls.mono (rof_any (a := 355) (b := 113) (z := zb) (d := db) INb.out IQb.out HZb.out HDb.out _) ?_; rintro e w7 ⟨Pb, cb, Qb, kb, rfl, ho, ho2, hb⟩; replace Za := Lib.hid (Za.out.below hb); replace Na := Lib.hid (Na.out.below hb); replace LR := Lib.hid (LR.out.below hb); replace Zs := Lib.hid (Zs.out.below hb); replace Ns := Lib.hid (Ns.out.below hb); replace Zt := Lib.hid (Zt.out.below hb); replace Nt := Lib.hid (Nt.out.below hb); replace Zx := Lib.hid (Zx.out.below hb); replace Nx := Lib.hid (Nx.out.below hb); replace Vgx := Lib.hid (Vgx.out.below hb Vgx.out.lt); replace B1 := Lib.hid (B1.out.trans (hb.mono B1.out.size)); have Zb := Lib.hid (Zo.of_own ho); have Nb := Lib.hid ho2.rd; clear ho ho2; clear hb; have pc1 := Lib.hid trivial)
    | (clear pc1; go_at_call 13; refine Calls.mono (rfromInt_z (v := 10) (z := n10) (by decide) EN10.out _) ?_; rintro e w8 ⟨Pn10, cn10, rfl, ho, hb⟩; replace Za := Lib.hid (Za.out.below hb); replace Na := Lib.hid (Na.out.below hb); replace LR := Lib.hid (LR.out.below hb); replace Zs := Lib.hid (Zs.out.below hb); replace Ns := Lib.hid (Ns.out.below hb); replace Zt := Lib.hid (Zt.out.below hb); replace Nt := Lib.hid (Nt.out.below hb); replace Zx := Lib.hid (Zx.out.below hb); replace Nx := Lib.hid (Nx.out.below hb); replace Vgx := Lib.hid (Vgx.out.below hb Vgx.out.lt); replace Zb := Lib.hid (Zb.out.below hb); replace Nb := Lib.hid (Nb.out.below hb); replace B1 := Lib.hid (B1.out.trans (hb.mono B1.out.size)); have Zn10 := Lib.hid (Zo.of_own ho); clear ho; clear hb; have pc2 := Lib.hid trivial)
    | (clear pc2; go_at_call 24; refine Calls.mono (below_yes (z := zb) (d := db) Zb.out.in_ (Nin.of_rd Nb.out) Zn10.out.in_ LZb.out LDb.out L10.out CZb.out CDb.out P10.out) ?_; rintro e w9 ⟨x2, y2, be, _, Py, cy, Qy, ky, rfl, q1, q2, hb⟩; replace Za := Lib.hid (Za.out.below hb); replace Na := Lib.hid (Na.out.below hb); replace LR := Lib.hid (LR.out.below hb); replace Zs := Lib.hid (Zs.out.below hb); replace Ns := Lib.hid (Ns.out.below hb); replace Zt := Lib.hid (Zt.out.below hb); replace Nt := Lib.hid (Nt.out.below hb); replace Zx := Lib.hid (Zx.out.below hb); replace Nx := Lib.hid (Nx.out.below hb); replace Vgx := Lib.hid (Vgx.out.below hb Vgx.out.lt); replace Zb := Lib.hid (Zb.out.below hb); replace Nb := Lib.hid (Nb.out.below hb); replace Zn10 := Lib.hid (Zn10.out.below hb); replace B1 := Lib.hid (B1.out.trans (hb.mono B1.out.size)); rw [VVb.out.1, VVb.out.2, ← EN10.out] at be; have be2 := bel_awake be; have EY : Hid (x2 = zf ∧ y2 = df) := (by show _ ∧ _; rw [VVf.out.1, VVf.out.2]; omega); have Zy := Lib.hid q1; have Ny := Lib.hid q2; clear be be2 q1 q2; clear hb; have pc3 := Lib.hid trivial))
  clear pc3
  have Ly : Hid (gx < w9.heap.size) := Vgx.out.lt
  have hb : Below w9.heap.size w9 (w9.alloc (.cells #[.bool (decide (x2 < 0)), .slice Py (ofv x2.natAbs).length cy, .slice Qy (ofv y2).length ky] 26)) := ((Below.refl _ _).alloc (by first | exact Nat.le_refl _ | (simp; done) | (simp; omega)) _)
  replace Za := Lib.hid (Za.out.below hb)
  replace Na := Lib.hid (Na.out.below hb)
  replace LR := Lib.hid (LR.out.below hb)
  replace Zs := Lib.hid (Zs.out.below hb)
  replace Ns := Lib.hid (Ns.out.below hb)
  replace Zt := Lib.hid (Zt.out.below hb)
  replace Nt := Lib.hid (Nt.out.below hb)
  replace Zx := Lib.hid (Zx.out.below hb)
  replace Nx := Lib.hid (Nx.out.below hb)
  replace Vgx := Lib.hid (Vgx.out.below hb Vgx.out.lt)
  replace Zb := Lib.hid (Zb.out.below hb)
  replace Nb := Lib.hid (Nb.out.below hb)
  replace Zn10 := Lib.hid (Zn10.out.below hb)
  replace Zy := Lib.hid (Zy.out.below hb)
  replace Ny := Lib.hid (Ny.out.below hb)
  replace B1 := Lib.hid (B1.out.trans (hb.mono B1.out.size))
  have Vgy : Hid (Rb (w9.alloc (.cells #[.bool (decide (x2 < 0)), .slice Py (ofv x2.natAbs).length cy, .slice Qy (ofv y2).length ky] 26)) (w9.heap.size) (decide (x2 < 0)) Py (ofv x2.natAbs).length cy Qy (ofv y2).length ky) := by have h := (Rb.new w9 (decide (x2 < 0)) Py (ofv x2.natAbs).length cy Qy (ofv y2).length ky); (try simp only [World.size_alloc] at h); exact h
  clear hb
  generalize (w9.alloc (.cells #[.bool (decide (x2 < 0)), .slice Py (ofv x2.natAbs).length cy, .slice Qy (ofv y2).length ky] 26)) = w10 at *
  generalize w9.heap.size = gy at *
  have pc0 := Lib.hid trivial
  go_wp2_with (first
    | (clear pc0; go_at_call 18; refine Calls.mono (rof_any (a := 355) (b := 113) (z := zb) (d := db) INb.out IQb.out HZb.out HDb.out _) ?_; rintro e w11 ⟨Pb2, cb2, Qb2, kb2, rfl, ho, ho2, hb⟩; replace Za := Lib.hid (Za.out.below hb); replace Na := Lib.hid (Na.out.below hb); replace LR := Lib.hid (LR.out.below hb); replace Zs := Lib.hid (Zs.out.below hb); replace Ns := Lib.hid (Ns.out.below hb); replace Zt := Lib.hid (Zt.out.below hb); replace Nt := Lib.hid (Nt.out.below hb); replace Zx := Lib.hid (Zx.out.below hb); replace Nx := Lib.hid (Nx.out.below hb); replace Vgx := Lib.hid (Vgx.out.below hb Vgx.out.lt); replace Zb := Lib.hid (Zb.out.below hb); replace Nb := Lib.hid (Nb.out.below hb); replace Zn10 := Lib.hid (Zn10.out.below hb); replace Zy := Lib.hid (Zy.out.below hb); replace Ny := Lib.hid (Ny.out.below hb); replace Vgy := Lib.hid (Vgy.out.below hb Vgy.out.lt); replace B1 := Lib.hid (B1.out.trans (hb.mono B1.out.size)); have Zb2 := Lib.hid (Zo.of_own ho); have Nb2 := Lib.hid ho2.rd; clear ho ho2; clear hb; have pc1 := Lib.hid trivial)
    | (clear pc1; go_at_call 13; refine Calls.mono (rfromInt_z (v := 10) (z := n10) (by decide) EN10.out _) ?_; rintro e w12 ⟨Pn10b, cn10b, rfl, ho, hb⟩; replace Za := Lib.hid (Za.out.below hb); replace Na := Lib.hid (Na.out.below hb); replace LR := Lib.hid (LR.out.below hb); replace Zs := Lib.hid (Zs.out.below hb); replace Ns := Lib.hid (Ns.out.below hb); replace Zt := Lib.hid (Zt.out.below hb); replace Nt := Lib.hid (Nt.out.below hb); replace Zx := Lib.hid (Zx.out.below hb); replace Nx := Lib.hid (Nx.out.below hb); replace Vgx := Lib.hid (Vgx.out.below hb Vgx.out.lt); replace Zb := Lib.hid (Zb.out.below hb); replace Nb := Lib.hid (Nb.out.below hb); replace Zn10 := Lib.hid (Zn10.out.below hb); replace Zy := Lib.hid (Zy.out.below hb); replace Ny := Lib.hid (Ny.out.below hb); replace Vgy := Lib.hid (Vgy.out.below hb Vgy.out.lt); replace Zb2 := Lib.hid (Zb2.out.below hb); replace Nb2 := Lib.hid (Nb2.out.below hb); replace B1 := Lib.hid (B1.out.trans (hb.mono B1.out.size)); have Zn10b := Lib.hid (Zo.of_own ho); clear ho; clear hb; have pc2 := Lib.hid trivial)
    | (clear pc2; go_at_call 25; refine Calls.mono (above_yes (z := zb) (d := db) Zb2.out.in_ (Nin.of_rd Nb2.out) Zn10b.out.in_ LZb.out LDb.out L10.out CZb.out CDb.out P10.out) ?_; rintro e w13 ⟨x3, y3, ab, _, Pw, cw, Qw, kw, rfl, q1, q2, hb⟩; replace Za := Lib.hid (Za.out.below hb); replace Na := Lib.hid (Na.out.below hb); replace LR := Lib.hid (LR.out.below hb); replace Zs := Lib.hid (Zs.out.below hb); replace Ns := Lib.hid (Ns.out.below hb); replace Zt := Lib.hid (Zt.out.below hb); replace Nt := Lib.hid (Nt.out.below hb); replace Zx := Lib.hid (Zx.out.below hb); replace Nx := Lib.hid (Nx.out.below hb); replace Vgx := Lib.hid (Vgx.out.below hb Vgx.out.lt); replace Zb := Lib.hid (Zb.out.below hb); replace Nb := Lib.hid (Nb.out.below hb); replace Zn10 := Lib.hid (Zn10.out.below hb); replace Zy := Lib.hid (Zy.out.below hb); replace Ny := Lib.hid (Ny.out.below hb); replace Vgy := Lib.hid (Vgy.out.below hb Vgy.out.lt); replace Zb2 := Lib.hid (Zb2.out.below hb); replace Nb2 := Lib.hid (Nb2.out.below hb); replace Zn10b := Lib.hid (Zn10b.out.below hb); replace B1 := Lib.hid (B1.out.trans (hb.mono B1.out.size)); rw [VVb.out.1, VVb.out.2, ← EN10.out] at ab; have ab2 := abo_awake ab; have EW : Hid (x3 = zg ∧ y3 = dg) := (by show _ ∧ _; rw [VVg.out.1, VVg.out.2]; omega); have Zw := Lib.hid q1; have Nw := Lib.hid q2; clear ab ab2 q1 q2; clear hb; have pc3 := Lib.hid trivial))
  clear pc3
  have Lw : Hid (gx < w13.heap.size ∧ gy < w13.heap.size) := ⟨Vgx.out.lt, Vgy.out.lt⟩
  have hb : Below w13.heap.size w13 (w13.alloc (.cells #[.bool (decide (x3 < 0)), .slice Pw (ofv x3.natAbs).length cw, .slice Qw (ofv y3).length kw] 26)) := ((Below.refl _ _).alloc (by first | exact Nat.le_refl _ | (simp; done) | (simp; omega)) _)
  replace Za := Lib.hid (Za.out.below hb)
  replace Na := Lib.hid (Na.out.below hb)
  replace LR := Lib.hid (LR.out.below hb)
  replace Zs := Lib.hid (Zs.out.below hb)
  replace Ns := Lib.hid (Ns.out.below hb)
  replace Zt := Lib.hid (Zt.out.below hb)
  replace Nt := Lib.hid (Nt.out.below hb)
  replace Zx := Lib.hid (Zx.out.below hb)
  replace Nx := Lib.hid (Nx.out.below hb)
  replace Vgx := Lib.hid (Vgx.out.below hb Vgx.out.lt)
  replace Zb := Lib.hid (Zb.out.below hb)
  replace Nb := Lib.hid (Nb.out.below hb)
  replace Zn10 := Lib.hid (Zn10.out.below hb)
  replace Zy := Lib.hid (Zy.out.below hb)
  replace Ny := Lib.hid (Ny.out.below hb)
  replace Vgy := Lib.hid (Vgy.out.below hb Vgy.out.lt)
  replace Zb2 := Lib.hid (Zb2.out.below hb)
  replace Nb2 := Lib.hid (Nb2.out.below hb)
  replace Zn10b := Lib.hid (Zn10b.out.below hb)
  replace Zw := Lib.hid (Zw.out.below hb)
  replace Nw := Lib.hid (Nw.out.below hb)
  replace B1 := Lib.hid (B1.out.trans (hb.mono B1.out.size))
  have Vgw : Hid (Rb (w13.alloc (.cells #[.bool (decide (x3 < 0)), .slice Pw (ofv x3.natAbs).length cw, .slice Qw (ofv y3).length kw] 26)) (w13.heap.size) (decide (x3 < 0)) Pw (ofv x3.natAbs).length cw Qw (ofv y3).length kw) := by have h := (Rb.new w13 (decide (x3 < 0)) Pw (ofv x3.natAbs).length cw Qw (ofv y3).length kw); (try simp only [World.size_alloc] at h); exact h
  clear hb
  generalize (w13.alloc (.cells #[.bool (decide (x3 < 0)), .slice Pw (ofv x3.natAbs).length cw, .slice Qw (ofv y3).length kw] 26)) = w14 at *
  generalize w13.heap.size = gw at *
  try simp only [Act.put]
  have hb := below_drewN w14.heap.size w14 1
  replace Za := Lib.hid (Za.out.below hb)
  replace Na := Lib.hid (Na.out.below hb)
  replace LR := Lib.hid (LR.out.below hb)
  replace Zs := Lib.hid (Zs.out.below hb)
  replace Ns := Lib.hid (Ns.out.below hb)
  replace Zt := Lib.hid (Zt.out.below hb)
  replace Nt := Lib.hid (Nt.out.below hb)
  replace Zx := Lib.hid (Zx.out.below hb)
  replace Nx := Lib.hid (Nx.out.below hb)
  replace Vgx := Lib.hid (Vgx.out.below hb Vgx.out.lt)
  replace Zb := Lib.hid (Zb.out.below hb)
  replace Nb := Lib.hid (Nb.out.below hb)
  replace Zn10 := Lib.hid (Zn10.out.below hb)
  replace Zy := Lib.hid (Zy.out.below hb)
  replace Ny := Lib.hid (Ny.out.below hb)
  replace Vgy := Lib.hid (Vgy.out.below hb Vgy.out.lt)
  replace Zb2 := Lib.hid (Zb2.out.below hb)
  replace Nb2 := Lib.hid (Nb2.out.below hb)
  replace Zn10b := Lib.hid (Zn10b.out.below hb)
  replace Zw := Lib.hid (Zw.out.below hb)
  replace Nw := Lib.hid (Nw.out.below hb)
  replace Vgw := Lib.hid (Vgw.out.below hb Vgw.out.lt)
  replace B1 := Lib.hid (B1.out.trans (hb.mono B1.out.size))
  clear hb
  refine wp_region_held_drew (S := fun w' => Rb w' gx (decide (x1 < 0)) Px (ofv x1.natAbs).length cx Qx (ofv y1).length kx ∧ Rb w' gy (decide (x2 < 0)) Py (ofv x2.natAbs).length cy Qy (ofv y2).length ky ∧ Rb w' gw (decide (x3 < 0)) Pw (ofv x3.natAbs).length cw Qw (ofv y3).length kw) (by kernel_rfl) ⟨Vgx.out, Vgy.out, Vgw.out⟩ (fun hHeld => ?_)
  refine wpAnyH_takeL (i := 0) (oi := _) (v := ?_) rfl (by kernel_rfl) (by kernel_rfl) (by kernel_rfl) (fun _ _ _ h => h) (Or.inl ⟨by rfl, ?_⟩) hHeld ?_
  rotate_left
  · (intro w' hSw; (try dsimp only at hSw); go_simp; try (with_reducible rfl))
  try simp only [Act.put, List.setIfInBounds_toArray, List.set_cons_zero, List.set_cons_succ]
  refine wpAnyH_ready (rs := [1]) (by kernel_rfl) (by simp) ?_
  refine AllReadyH.consL (o := _) rfl (fun K hK => ?_) AllReadyH.nil
  clear hHeld
  go_simp
  go_at_call 13
  refine Calls.mono (rfromInt_z (v := 4) (z := n4) (by decide) EN4.out _) ?_
  rintro e w15 ⟨Pn4, cn4, rfl, ho, hb⟩
  replace Za := Lib.hid (Za.out.below hb)
  replace Na := Lib.hid (Na.out.below hb)
  replace LR := Lib.hid (LR.out.below hb)
  replace Zs := Lib.hid (Zs.out.below hb)
  replace Ns := Lib.hid (Ns.out.below hb)
  replace Zt := Lib.hid (Zt.out.below hb)
  replace Nt := Lib.hid (Nt.out.below hb)
  replace Zx := Lib.hid (Zx.out.below hb)
  replace Nx := Lib.hid (Nx.out.below hb)
  replace Vgx := Lib.hid (Vgx.out.below hb Vgx.out.lt)
  replace Zb := Lib.hid (Zb.out.below hb)
  replace Nb := Lib.hid (Nb.out.below hb)
  replace Zn10 := Lib.hid (Zn10.out.below hb)
  replace Zy := Lib.hid (Zy.out.below hb)
  replace Ny := Lib.hid (Ny.out.below hb)
  replace Vgy := Lib.hid (Vgy.out.below hb Vgy.out.lt)
  replace Zb2 := Lib.hid (Zb2.out.below hb)
  replace Nb2 := Lib.hid (Nb2.out.below hb)
  replace Zn10b := Lib.hid (Zn10b.out.below hb)
  replace Zw := Lib.hid (Zw.out.below hb)
  replace Nw := Lib.hid (Nw.out.below hb)
  replace Vgw := Lib.hid (Vgw.out.below hb Vgw.out.lt)
  replace B1 := Lib.hid (B1.out.trans (hb.mono B1.out.size))
  have Zn4 := Lib.hid (Zo.of_own ho)
  clear ho
  clear hb
  refine hK.out _ _ ⟨Vgx.out, Vgy.out, Vgw.out⟩ (fun hHeld => ?_)
  clear hK K
  try simp only [Act.put, List.setIfInBounds_toArray, List.set_cons_zero, List.set_cons_succ]
  refine wpAnyH_ready (rs := [2]) (by kernel_rfl) (by simp) ?_
  refine AllReadyH.consL (o := _) rfl (fun K hK => ?_) AllReadyH.nil
  clear hHeld
  go_simp
  go_at_call 13
  refine Calls.mono (rfromInt_z (v := 2) (z := n2) (by decide) EN2.out _) ?_
  rintro e w16 ⟨Pn2, cn2, rfl, ho, hb⟩
  replace Za := Lib.hid (Za.out.below hb)
  replace Na := Lib.hid (Na.out.below hb)
  replace LR := Lib.hid (LR.out.below hb)
  replace Zs := Lib.hid (Zs.out.below hb)
  replace Ns := Lib.hid (Ns.out.below hb)
  replace Zt := Lib.hid (Zt.out.below hb)
  replace Nt := Lib.hid (Nt.out.below hb)
  replace Zx := Lib.hid (Zx.out.below hb)
  replace Nx := Lib.hid (Nx.out.below hb)
  replace Vgx := Lib.hid (Vgx.out.below hb Vgx.out.lt)
  replace Zb := Lib.hid (Zb.out.below hb)
  replace Nb := Lib.hid (Nb.out.below hb)
  replace Zn10 := Lib.hid (Zn10.out.below hb)
  replace Zy := Lib.hid (Zy.out.below hb)
  replace Ny := Lib.hid (Ny.out.below hb)
  replace Vgy := Lib.hid (Vgy.out.below hb Vgy.out.lt)
  replace Zb2 := Lib.hid (Zb2.out.below hb)
  replace Nb2 := Lib.hid (Nb2.out.below hb)
  replace Zn10b := Lib.hid (Zn10b.out.below hb)
  replace Zw := Lib.hid (Zw.out.below hb)
  replace Nw := Lib.hid (Nw.out.below hb)
  replace Vgw := Lib.hid (Vgw.out.below hb Vgw.out.lt)
  replace Zn4 := Lib.hid (Zn4.out.below hb)
  replace B1 := Lib.hid (B1.out.trans (hb.mono B1.out.size))
  have Zn2 := Lib.hid (Zo.of_own ho)
  clear ho
  clear hb
  refine hK.out _ _ ⟨Vgx.out, Vgy.out, Vgw.out⟩ (fun hHeld => ?_)
  clear hK K
  try simp only [Act.put, List.setIfInBounds_toArray, List.set_cons_zero, List.set_cons_succ]
  refine wpAnyH_ready (rs := [3]) (by kernel_rfl) (by simp) ?_
  refine AllReadyH.consL (o := _) rfl (fun K hK => ?_) AllReadyH.nil
  clear hHeld
  go_simp
  go_at_call 13
  refine Calls.mono (rfromInt_z (v := 6) (z := n6) (by decide) EN6.out _) ?_
  rintro e w17 ⟨Pn6, cn6, rfl, ho, hb⟩
  replace Za := Lib.hid (Za.out.below hb)
  replace Na := Lib.hid (Na.out.below hb)
  replace LR := Lib.hid (LR.out.below hb)
  replace Zs := Lib.hid (Zs.out.below hb)
  replace Ns := Lib.hid (Ns.out.below hb)
  replace Zt := Lib.hid (Zt.out.below hb)
  replace Nt := Lib.hid (Nt.out.below hb)
  replace Zx := Lib.hid (Zx.out.below hb)
  replace Nx := Lib.hid (Nx.out.below hb)
  replace Vgx := Lib.hid (Vgx.out.below hb Vgx.out.lt)
  replace Zb := Lib.hid (Zb.out.below hb)
  replace Nb := Lib.hid (Nb.out.below hb)
  replace Zn10 := Lib.hid (Zn10.out.below hb)
  replace Zy := Lib.hid (Zy.out.below hb)
  replace Ny := Lib.hid (Ny.out.below hb)
  replace Vgy := Lib.hid (Vgy.out.below hb Vgy.out.lt)
  replace Zb2 := Lib.hid (Zb2.out.below hb)
  replace Nb2 := Lib.hid (Nb2.out.below hb)
  replace Zn10b := Lib.hid (Zn10b.out.below hb)
  replace Zw := Lib.hid (Zw.out.below hb)
  replace Nw := Lib.hid (Nw.out.below hb)
  replace Vgw := Lib.hid (Vgw.out.below hb Vgw.out.lt)
  replace Zn4 := Lib.hid (Zn4.out.below hb)
  replace Zn2 := Lib.hid (Zn2.out.below hb)
  replace B1 := Lib.hid (B1.out.trans (hb.mono B1.out.size))
  have Zn6 := Lib.hid (Zo.of_own ho)
  clear ho
  clear hb
  refine hK.out _ _ ⟨Vgx.out, Vgy.out, Vgw.out⟩ (fun hHeld => ?_)
  clear hK K
  try simp only [Act.put, List.setIfInBounds_toArray, List.set_cons_zero, List.set_cons_succ]
  refine wpAnyH_ready (rs := [4]) (by kernel_rfl) (by simp) ?_
  refine AllReadyH.consL (o := _) rfl (fun K hK => ?_) AllReadyH.nil
  clear hHeld
  go_simp
  go_at_call 13
  refine Calls.mono (rfromInt_z (v := 7) (z := n7) (by decide) EN7.out _) ?_
  rintro e w18 ⟨Pn7, cn7, rfl, ho, hb⟩
  replace Za := Lib.hid (Za.out.below hb)
  replace Na := Lib.hid (Na.out.below hb)
  replace LR := Lib.hid (LR.out.below hb)
  replace Zs := Lib.hid (Zs.out.below hb)
  replace Ns := Lib.hid (Ns.out.below hb)
  replace Zt := Lib.hid (Zt.out.below hb)
  replace Nt := Lib.hid (Nt.out.below hb)
  replace Zx := Lib.hid (Zx.out.below hb)
  replace Nx := Lib.hid (Nx.out.below hb)
  replace Vgx := Lib.hid (Vgx.out.below hb Vgx.out.lt)
  replace Zb := Lib.hid (Zb.out.below hb)
  replace Nb := Lib.hid (Nb.out.below hb)
  replace Zn10 := Lib.hid (Zn10.out.below hb)
  replace Zy := Lib.hid (Zy.out.below hb)
  replace Ny := Lib.hid (Ny.out.below hb)
  replace Vgy := Lib.hid (Vgy.out.below hb Vgy.out.lt)
  replace Zb2 := Lib.hid (Zb2.out.below hb)
  replace Nb2 := Lib.hid (Nb2.out.below hb)
  replace Zn10b := Lib.hid (Zn10b.out.below hb)
  replace Zw := Lib.hid (Zw.out.below hb)
  replace Nw := Lib.hid (Nw.out.below hb)
  replace Vgw := Lib.hid (Vgw.out.below hb Vgw.out.lt)
  replace Zn4 := Lib.hid (Zn4.out.below hb)
  replace Zn2 := Lib.hid (Zn2.out.below hb)
  replace Zn6 := Lib.hid (Zn6.out.below hb)
  replace B1 := Lib.hid (B1.out.trans (hb.mono B1.out.size))
  have Zn7 := Lib.hid (Zo.of_own ho)
  clear ho
  clear hb
  refine hK.out _ _ ⟨Vgx.out, Vgy.out, Vgw.out⟩ (fun hHeld => ?_)
  clear hK K
  try simp only [Act.put, List.setIfInBounds_toArray, List.set_cons_zero, List.set_cons_succ]
  refine wpAnyH_ready (rs := [5]) (by kernel_rfl) (by simp) ?_
  refine AllReadyH.consL (o := _) rfl (fun K hK => ?_) AllReadyH.nil
  clear hHeld
  go_simp
  have lf := lr_four (w := w18) Zn4.out Zn2.out Zn6.out Zn7.out
  have hb : Below w18.heap.size w18 (w18.alloc (.cells #[.bool (decide (n4 < 0)), .slice Pn4 (ofv n4.natAbs).length cn4, .bool (decide (n2 < 0)), .slice Pn2 (ofv n2.natAbs).length cn2, .bool (decide (n6 < 0)), .slice Pn6 (ofv n6.natAbs).length cn6, .bool (decide (n7 < 0)), .slice Pn7 (ofv n7.natAbs).length cn7] 24)) := ((Below.refl _ _).alloc (by first | exact Nat.le_refl _ | (simp; done) | (simp; omega)) _)
  replace Za := Lib.hid (Za.out.below hb)
  replace Na := Lib.hid (Na.out.below hb)
  replace LR := Lib.hid (LR.out.below hb)
  replace Zs := Lib.hid (Zs.out.below hb)
  replace Ns := Lib.hid (Ns.out.below hb)
  replace Zt := Lib.hid (Zt.out.below hb)
  replace Nt := Lib.hid (Nt.out.below hb)
  replace Zx := Lib.hid (Zx.out.below hb)
  replace Nx := Lib.hid (Nx.out.below hb)
  replace Vgx := Lib.hid (Vgx.out.below hb Vgx.out.lt)
  replace Zb := Lib.hid (Zb.out.below hb)
  replace Nb := Lib.hid (Nb.out.below hb)
  replace Zn10 := Lib.hid (Zn10.out.below hb)
  replace Zy := Lib.hid (Zy.out.below hb)
  replace Ny := Lib.hid (Ny.out.below hb)
  replace Vgy := Lib.hid (Vgy.out.below hb Vgy.out.lt)
  replace Zb2 := Lib.hid (Zb2.out.below hb)
  replace Nb2 := Lib.hid (Nb2.out.below hb)
  replace Zn10b := Lib.hid (Zn10b.out.below hb)
  replace Zw := Lib.hid (Zw.out.below hb)
  replace Nw := Lib.hid (Nw.out.below hb)
  replace Vgw := Lib.hid (Vgw.out.below hb Vgw.out.lt)
  replace Zn4 := Lib.hid (Zn4.out.below hb)
  replace Zn2 := Lib.hid (Zn2.out.below hb)
  replace Zn6 := Lib.hid (Zn6.out.below hb)
  replace Zn7 := Lib.hid (Zn7.out.below hb)
  replace B1 := Lib.hid (B1.out.trans (hb.mono B1.out.size))
  clear hb
  have LF := Lib.hid lf
  clear lf
  generalize hgg : (w18.alloc (.cells #[.bool (decide (n4 < 0)), .slice Pn4 (ofv n4.natAbs).length cn4, .bool (decide (n2 < 0)), .slice Pn2 (ofv n2.natAbs).length cn2, .bool (decide (n6 < 0)), .slice Pn6 (ofv n6.natAbs).length cn6, .bool (decide (n7 < 0)), .slice Pn7 (ofv n7.natAbs).length cn7] 24)) = w19 at *
  clear hgg
  skip
  refine hK.out _ _ ⟨Vgx.out, Vgy.out, Vgw.out⟩ (fun hHeld => ?_)
  clear hK K
  try simp only [Act.put, List.setIfInBounds_toArray, List.set_cons_zero, List.set_cons_succ]
  refine wpAnyH_ready (rs := [6]) (by kernel_rfl) (by simp) ?_
  refine AllReadyH.consL (o := _) rfl (fun K hK => ?_) AllReadyH.nil
  clear hHeld
  go_simp
  go_at_call 57
  refine Calls.mono (ints_same LR.out LF.out) ?_
  rintro e w20 ⟨rfl, hb⟩
  replace Za := Lib.hid (Za.out.below hb)
  replace Na := Lib.hid (Na.out.below hb)
  replace LR := Lib.hid (LR.out.below hb)
  replace Zs := Lib.hid (Zs.out.below hb)
  replace Ns := Lib.hid (Ns.out.below hb)
  replace Zt := Lib.hid (Zt.out.below hb)
  replace Nt := Lib.hid (Nt.out.below hb)
  replace Zx := Lib.hid (Zx.out.below hb)
  replace Nx := Lib.hid (Nx.out.below hb)
  replace Vgx := Lib.hid (Vgx.out.below hb Vgx.out.lt)
  replace Zb := Lib.hid (Zb.out.below hb)
  replace Nb := Lib.hid (Nb.out.below hb)
  replace Zn10 := Lib.hid (Zn10.out.below hb)
  replace Zy := Lib.hid (Zy.out.below hb)
  replace Ny := Lib.hid (Ny.out.below hb)
  replace Vgy := Lib.hid (Vgy.out.below hb Vgy.out.lt)
  replace Zb2 := Lib.hid (Zb2.out.below hb)
  replace Nb2 := Lib.hid (Nb2.out.below hb)
  replace Zn10b := Lib.hid (Zn10b.out.below hb)
  replace Zw := Lib.hid (Zw.out.below hb)
  replace Nw := Lib.hid (Nw.out.below hb)
  replace Vgw := Lib.hid (Vgw.out.below hb Vgw.out.lt)
  replace Zn4 := Lib.hid (Zn4.out.below hb)
  replace Zn2 := Lib.hid (Zn2.out.below hb)
  replace Zn6 := Lib.hid (Zn6.out.below hb)
  replace Zn7 := Lib.hid (Zn7.out.below hb)
  replace LF := Lib.hid (LF.out.below hb)
  replace B1 := Lib.hid (B1.out.trans (hb.mono B1.out.size))
  clear hb
  refine hK.out _ _ ⟨Vgx.out, Vgy.out, Vgw.out⟩ (fun hHeld => ?_)
  clear hK K
  try simp only [Act.put, List.setIfInBounds_toArray, List.set_cons_zero, List.set_cons_succ]
  refine wpAnyH_takeL (i := 7) (oi := _) (v := ?_) rfl (by kernel_rfl) (by kernel_rfl) (by kernel_rfl) (fun _ _ _ h => h) (Or.inl ⟨by rfl, ?_⟩) hHeld ?_
  rotate_left
  · (intro w' hSw; (try dsimp only at hSw); go_simp; try (with_reducible rfl))
  try simp only [Act.put, List.setIfInBounds_toArray, List.set_cons_zero, List.set_cons_succ]
  refine wpAnyH_takeL (i := 8) (oi := _) (v := ?_) rfl (by kernel_rfl) (by kernel_rfl) (by kernel_rfl) (fun _ _ _ h => h) (Or.inl ⟨by rfl, ?_⟩) hHeld ?_
  rotate_left
  · (intro w' hSw; (try dsimp only at hSw); go_simp; try (with_reducible rfl))
  try simp only [Act.put, List.setIfInBounds_toArray, List.set_cons_zero, List.set_cons_succ]
  refine wpAnyH_takeL (i := 9) (oi := _) (v := ?_) rfl (by kernel_rfl) (by kernel_rfl) (by kernel_rfl) (fun _ _ _ h => h) (Or.inl ⟨by rfl, ?_⟩) hHeld ?_
  rotate_left
  · (intro w' hSw; (try dsimp only at hSw); go_simp; try (with_reducible rfl))
  try simp only [Act.put, List.setIfInBounds_toArray, List.set_cons_zero, List.set_cons_succ]
  refine wpAnyH_takeL (i := 10) (oi := _) (v := ?_) rfl (by kernel_rfl) (by kernel_rfl) (by kernel_rfl) (fun _ _ _ h => h) (Or.inl ⟨by rfl, ?_⟩) hHeld ?_
  rotate_left
  · (intro w' hSw; (try dsimp only at hSw); go_simp; try (with_reducible rfl))
  try simp only [Act.put, List.setIfInBounds_toArray, List.set_cons_zero, List.set_cons_succ]
  refine wpAnyH_takeL (i := 11) (oi := _) rfl (by kernel_rfl) (by kernel_rfl) (by kernel_rfl) (fun _ _ _ h => h) (yields_ldR (by rfl) _ rfl (by rfl) (fun _ hS => hS.1)) hHeld ?_
  try simp only [Act.put, List.setIfInBounds_toArray, List.set_cons_zero, List.set_cons_succ]
  refine wpAnyH_ready (rs := [12]) (by kernel_rfl) (by simp) ?_
  refine AllReadyH.consL (o := _) rfl (fun K hK => ?_) AllReadyH.nil
  clear hHeld
  go_simp
  go_at_call 18
  refine Calls.mono (rof_any (a := 1) (b := 3) (z := ze) (d := de) INe.out IQe.out HZe.out HDe.out _) ?_
  rintro e w21 ⟨Pe, ce, Qe, ke, rfl, ho, ho2, hb⟩
  replace Za := Lib.hid (Za.out.below hb)
  replace Na := Lib.hid (Na.out.below hb)
  replace LR := Lib.hid (LR.out.below hb)
  replace Zs := Lib.hid (Zs.out.below hb)
  replace Ns := Lib.hid (Ns.out.below hb)
  replace Zt := Lib.hid (Zt.out.below hb)
  replace Nt := Lib.hid (Nt.out.below hb)
  replace Zx := Lib.hid (Zx.out.below hb)
  replace Nx := Lib.hid (Nx.out.below hb)
  replace Vgx := Lib.hid (Vgx.out.below hb Vgx.out.lt)
  replace Zb := Lib.hid (Zb.out.below hb)
  replace Nb := Lib.hid (Nb.out.below hb)
  replace Zn10 := Lib.hid (Zn10.out.below hb)
  replace Zy := Lib.hid (Zy.out.below hb)
  replace Ny := Lib.hid (Ny.out.below hb)
  replace Vgy := Lib.hid (Vgy.out.below hb Vgy.out.lt)
  replace Zb2 := Lib.hid (Zb2.out.below hb)
  replace Nb2 := Lib.hid (Nb2.out.below hb)
  replace Zn10b := Lib.hid (Zn10b.out.below hb)
  replace Zw := Lib.hid (Zw.out.below hb)
  replace Nw := Lib.hid (Nw.out.below hb)
  replace Vgw := Lib.hid (Vgw.out.below hb Vgw.out.lt)
  replace Zn4 := Lib.hid (Zn4.out.below hb)
  replace Zn2 := Lib.hid (Zn2.out.below hb)
  replace Zn6 := Lib.hid (Zn6.out.below hb)
  replace Zn7 := Lib.hid (Zn7.out.below hb)
  replace LF := Lib.hid (LF.out.below hb)
  replace B1 := Lib.hid (B1.out.trans (hb.mono B1.out.size))
  have Ze := Lib.hid (Zo.of_own ho)
  have Ne := Lib.hid ho2.rd
  clear ho ho2
  clear hb
  refine hK.out _ _ ⟨Vgx.out, Vgy.out, Vgw.out⟩ (fun hHeld => ?_)
  clear hK K
  try simp only [Act.put, List.setIfInBounds_toArray, List.set_cons_zero, List.set_cons_succ]
  refine wpAnyH_ready (rs := [13]) (by kernel_rfl) (by simp) ?_
  refine AllReadyH.consL (o := _) rfl (fun K hK => ?_) AllReadyH.nil
  clear hHeld
  go_simp
  go_at_call 15
  refine Calls.mono (r3equal_any (b := true) Zx.out Ze.out Nx.out Ne.out (by simpa using EX.out)) ?_
  rintro e w22 ⟨rfl, hb⟩
  replace Za := Lib.hid (Za.out.below hb)
  replace Na := Lib.hid (Na.out.below hb)
  replace LR := Lib.hid (LR.out.below hb)
  replace Zs := Lib.hid (Zs.out.below hb)
  replace Ns := Lib.hid (Ns.out.below hb)
  replace Zt := Lib.hid (Zt.out.below hb)
  replace Nt := Lib.hid (Nt.out.below hb)
  replace Zx := Lib.hid (Zx.out.below hb)
  replace Nx := Lib.hid (Nx.out.below hb)
  replace Vgx := Lib.hid (Vgx.out.below hb Vgx.out.lt)
  replace Zb := Lib.hid (Zb.out.below hb)
  replace Nb := Lib.hid (Nb.out.below hb)
  replace Zn10 := Lib.hid (Zn10.out.below hb)
  replace Zy := Lib.hid (Zy.out.below hb)
  replace Ny := Lib.hid (Ny.out.below hb)
  replace Vgy := Lib.hid (Vgy.out.below hb Vgy.out.lt)
  replace Zb2 := Lib.hid (Zb2.out.below hb)
  replace Nb2 := Lib.hid (Nb2.out.below hb)
  replace Zn10b := Lib.hid (Zn10b.out.below hb)
  replace Zw := Lib.hid (Zw.out.below hb)
  replace Nw := Lib.hid (Nw.out.below hb)
  replace Vgw := Lib.hid (Vgw.out.below hb Vgw.out.lt)
  replace Zn4 := Lib.hid (Zn4.out.below hb)
  replace Zn2 := Lib.hid (Zn2.out.below hb)
  replace Zn6 := Lib.hid (Zn6.out.below hb)
  replace Zn7 := Lib.hid (Zn7.out.below hb)
  replace LF := Lib.hid (LF.out.below hb)
  replace Ze := Lib.hid (Ze.out.below hb)
  replace Ne := Lib.hid (Ne.out.below hb)
  replace B1 := Lib.hid (B1.out.trans (hb.mono B1.out.size))
  clear hb
  refine hK.out _ _ ⟨Vgx.out, Vgy.out, Vgw.out⟩ (fun hHeld => ?_)
  clear hK K
  try simp only [Act.put, List.setIfInBounds_toArray, List.set_cons_zero, List.set_cons_succ]
  refine wpAnyH_takeL (i := 14) (oi := _) (v := ?_) rfl (by kernel_rfl) (by kernel_rfl) (by kernel_rfl) (fun _ _ _ h => h) (Or.inl ⟨by rfl, ?_⟩) hHeld ?_
  rotate_left
  · (intro w' hSw; (try dsimp only at hSw); go_simp; try (with_reducible rfl))
  try simp only [Act.put, List.setIfInBounds_toArray, List.set_cons_zero, List.set_cons_succ]
  refine wpAnyH_takeL (i := 15) (oi := _) (v := ?_) rfl (by kernel_rfl) (by kernel_rfl) (by kernel_rfl) (fun _ _ _ h => h) (Or.inl ⟨by rfl, ?_⟩) hHeld ?_
  rotate_left
  · (intro w' hSw; (try dsimp only at hSw); go_simp; try (with_reducible rfl))
  try simp only [Act.put, List.setIfInBounds_toArray, List.set_cons_zero, List.set_cons_succ]
  refine wpAnyH_takeL (i := 16) (oi := _) (v := ?_) rfl (by kernel_rfl) (by kernel_rfl) (by kernel_rfl) (fun _ _ _ h => h) (Or.inl ⟨by rfl, ?_⟩) hHeld ?_
  rotate_left
  · (intro w' hSw; (try dsimp only at hSw); go_simp; try (with_reducible rfl))
  try simp only [Act.put, List.setIfInBounds_toArray, List.set_cons_zero, List.set_cons_succ]
  refine wpAnyH_takeL (i := 17) (oi := _) (v := ?_) rfl (by kernel_rfl) (by kernel_rfl) (by kernel_rfl) (fun _ _ _ h => h) (Or.inl ⟨by rfl, ?_⟩) hHeld ?_
  rotate_left
  · (intro w' hSw; (try dsimp only at hSw); go_simp; try (with_reducible rfl))
  try simp only [Act.put, List.setIfInBounds_toArray, List.set_cons_zero, List.set_cons_succ]
  refine wpAnyH_takeL (i := 18) (oi := _) (v := ?_) rfl (by kernel_rfl) (by kernel_rfl) (by kernel_rfl) (fun _ _ _ h => h) (Or.inl ⟨by rfl, ?_⟩) hHeld ?_
  rotate_left
  · (intro w' hSw; (try dsimp only at hSw); go_simp; try (with_reducible rfl))
  try simp only [Act.put, List.setIfInBounds_toArray, List.set_cons_zero, List.set_cons_succ]
  refine wpAnyH_takeL (i := 19) (oi := _) rfl (by kernel_rfl) (by kernel_rfl) (by kernel_rfl) (fun _ _ _ h => h) (yields_ldR (by rfl) _ rfl (by rfl) (fun _ hS => hS.2.1)) hHeld ?_
  try simp only [Act.put, List.setIfInBounds_toArray, List.set_cons_zero, List.set_cons_succ]
  refine wpAnyH_ready (rs := [20]) (by kernel_rfl) (by simp) ?_
  refine AllReadyH.consL (o := _) rfl (fun K hK => ?_) AllReadyH.nil
  clear hHeld
  go_simp
  go_at_call 18
  refine Calls.mono (rof_any (a := 25) (b := 8) (z := zf) (d := df) INf.out IQf.out HZf.out HDf.out _) ?_
  rintro e w23 ⟨Pf, cf, Qf, kf, rfl, ho, ho2, hb⟩
  replace Za := Lib.hid (Za.out.below hb)
  replace Na := Lib.hid (Na.out.below hb)
  replace LR := Lib.hid (LR.out.below hb)
  replace Zs := Lib.hid (Zs.out.below hb)
  replace Ns := Lib.hid (Ns.out.below hb)
  replace Zt := Lib.hid (Zt.out.below hb)
  replace Nt := Lib.hid (Nt.out.below hb)
  replace Zx := Lib.hid (Zx.out.below hb)
  replace Nx := Lib.hid (Nx.out.below hb)
  replace Vgx := Lib.hid (Vgx.out.below hb Vgx.out.lt)
  replace Zb := Lib.hid (Zb.out.below hb)
  replace Nb := Lib.hid (Nb.out.below hb)
  replace Zn10 := Lib.hid (Zn10.out.below hb)
  replace Zy := Lib.hid (Zy.out.below hb)
  replace Ny := Lib.hid (Ny.out.below hb)
  replace Vgy := Lib.hid (Vgy.out.below hb Vgy.out.lt)
  replace Zb2 := Lib.hid (Zb2.out.below hb)
  replace Nb2 := Lib.hid (Nb2.out.below hb)
  replace Zn10b := Lib.hid (Zn10b.out.below hb)
  replace Zw := Lib.hid (Zw.out.below hb)
  replace Nw := Lib.hid (Nw.out.below hb)
  replace Vgw := Lib.hid (Vgw.out.below hb Vgw.out.lt)
  replace Zn4 := Lib.hid (Zn4.out.below hb)
  replace Zn2 := Lib.hid (Zn2.out.below hb)
  replace Zn6 := Lib.hid (Zn6.out.below hb)
  replace Zn7 := Lib.hid (Zn7.out.below hb)
  replace LF := Lib.hid (LF.out.below hb)
  replace Ze := Lib.hid (Ze.out.below hb)
  replace Ne := Lib.hid (Ne.out.below hb)
  replace B1 := Lib.hid (B1.out.trans (hb.mono B1.out.size))
  have Zf := Lib.hid (Zo.of_own ho)
  have Nf := Lib.hid ho2.rd
  clear ho ho2
  clear hb
  refine hK.out _ _ ⟨Vgx.out, Vgy.out, Vgw.out⟩ (fun hHeld => ?_)
  clear hK K
  try simp only [Act.put, List.setIfInBounds_toArray, List.set_cons_zero, List.set_cons_succ]
  refine wpAnyH_ready (rs := [21]) (by kernel_rfl) (by simp) ?_
  refine AllReadyH.consL (o := _) rfl (fun K hK => ?_) AllReadyH.nil
  clear hHeld
  go_simp
  go_at_call 15
  refine Calls.mono (r3equal_any (b := true) Zy.out Zf.out Ny.out Nf.out (by simpa using EY.out)) ?_
  rintro e w24 ⟨rfl, hb⟩
  replace Za := Lib.hid (Za.out.below hb)
  replace Na := Lib.hid (Na.out.below hb)
  replace LR := Lib.hid (LR.out.below hb)
  replace Zs := Lib.hid (Zs.out.below hb)
  replace Ns := Lib.hid (Ns.out.below hb)
  replace Zt := Lib.hid (Zt.out.below hb)
  replace Nt := Lib.hid (Nt.out.below hb)
  replace Zx := Lib.hid (Zx.out.below hb)
  replace Nx := Lib.hid (Nx.out.below hb)
  replace Vgx := Lib.hid (Vgx.out.below hb Vgx.out.lt)
  replace Zb := Lib.hid (Zb.out.below hb)
  replace Nb := Lib.hid (Nb.out.below hb)
  replace Zn10 := Lib.hid (Zn10.out.below hb)
  replace Zy := Lib.hid (Zy.out.below hb)
  replace Ny := Lib.hid (Ny.out.below hb)
  replace Vgy := Lib.hid (Vgy.out.below hb Vgy.out.lt)
  replace Zb2 := Lib.hid (Zb2.out.below hb)
  replace Nb2 := Lib.hid (Nb2.out.below hb)
  replace Zn10b := Lib.hid (Zn10b.out.below hb)
  replace Zw := Lib.hid (Zw.out.below hb)
  replace Nw := Lib.hid (Nw.out.below hb)
  replace Vgw := Lib.hid (Vgw.out.below hb Vgw.out.lt)
  replace Zn4 := Lib.hid (Zn4.out.below hb)
  replace Zn2 := Lib.hid (Zn2.out.below hb)
  replace Zn6 := Lib.hid (Zn6.out.below hb)
  replace Zn7 := Lib.hid (Zn7.out.below hb)
  replace LF := Lib.hid (LF.out.below hb)
  replace Ze := Lib.hid (Ze.out.below hb)
  replace Ne := Lib.hid (Ne.out.below hb)
  replace Zf := Lib.hid (Zf.out.below hb)
  replace Nf := Lib.hid (Nf.out.below hb)
  replace B1 := Lib.hid (B1.out.trans (hb.mono B1.out.size))
  clear hb
  refine hK.out _ _ ⟨Vgx.out, Vgy.out, Vgw.out⟩ (fun hHeld => ?_)
  clear hK K
  try simp only [Act.put, List.setIfInBounds_toArray, List.set_cons_zero, List.set_cons_succ]
  refine wpAnyH_takeL (i := 22) (oi := _) (v := ?_) rfl (by kernel_rfl) (by kernel_rfl) (by kernel_rfl) (fun _ _ _ h => h) (Or.inl ⟨by rfl, ?_⟩) hHeld ?_
  rotate_left
  · (intro w' hSw; (try dsimp only at hSw); go_simp; try (with_reducible rfl))
  try simp only [Act.put, List.setIfInBounds_toArray, List.set_cons_zero, List.set_cons_succ]
  refine wpAnyH_takeL (i := 23) (oi := _) (v := ?_) rfl (by kernel_rfl) (by kernel_rfl) (by kernel_rfl) (fun _ _ _ h => h) (Or.inl ⟨by rfl, ?_⟩) hHeld ?_
  rotate_left
  · (intro w' hSw; (try dsimp only at hSw); go_simp; try (with_reducible rfl))
  try simp only [Act.put, List.setIfInBounds_toArray, List.set_cons_zero, List.set_cons_succ]
  refine wpAnyH_takeL (i := 24) (oi := _) (v := ?_) rfl (by kernel_rfl) (by kernel_rfl) (by kernel_rfl) (fun _ _ _ h => h) (Or.inl ⟨by rfl, ?_⟩) hHeld ?_
  rotate_left
  · (intro w' hSw; (try dsimp only at hSw); go_simp; try (with_reducible rfl))
  try simp only [Act.put, List.setIfInBounds_toArray, List.set_cons_zero, List.set_cons_succ]
  refine wpAnyH_takeL (i := 25) (oi := _) (v := ?_) rfl (by kernel_rfl) (by kernel_rfl) (by kernel_rfl) (fun _ _ _ h => h) (Or.inl ⟨by rfl, ?_⟩) hHeld ?_
  rotate_left
  · (intro w' hSw; (try dsimp only at hSw); go_simp; try (with_reducible rfl))
  try simp only [Act.put, List.setIfInBounds_toArray, List.set_cons_zero, List.set_cons_succ]
  refine wpAnyH_takeL (i := 26) (oi := _) (v := ?_) rfl (by kernel_rfl) (by kernel_rfl) (by kernel_rfl) (fun _ _ _ h => h) (Or.inl ⟨by rfl, ?_⟩) hHeld ?_
  rotate_left
  · (intro w' hSw; (try dsimp only at hSw); go_simp; try (with_reducible rfl))
  try simp only [Act.put, List.setIfInBounds_toArray, List.set_cons_zero, List.set_cons_succ]
  refine wpAnyH_takeL (i := 27) (oi := _) rfl (by kernel_rfl) (by kernel_rfl) (by kernel_rfl) (fun _ _ _ h => h) (yields_ldR (by rfl) _ rfl (by rfl) (fun _ hS => hS.2.2)) hHeld ?_
  try simp only [Act.put, List.setIfInBounds_toArray, List.set_cons_zero, List.set_cons_succ]
  refine wpAnyH_ready (rs := [28]) (by kernel_rfl) (by simp) ?_
  refine AllReadyH.consL (o := _) rfl (fun K hK => ?_) AllReadyH.nil
  clear hHeld
  go_simp
  go_at_call 18
  refine Calls.mono (rof_any (a := 22) (b := 7) (z := zg) (d := dg) INg.out IQg.out HZg.out HDg.out _) ?_
  rintro e w25 ⟨Pg, cg, Qg, kg, rfl, ho, ho2, hb⟩
  replace Za := Lib.hid (Za.out.below hb)
  replace Na := Lib.hid (Na.out.below hb)
  replace LR := Lib.hid (LR.out.below hb)
  replace Zs := Lib.hid (Zs.out.below hb)
  replace Ns := Lib.hid (Ns.out.below hb)
  replace Zt := Lib.hid (Zt.out.below hb)
  replace Nt := Lib.hid (Nt.out.below hb)
  replace Zx := Lib.hid (Zx.out.below hb)
  replace Nx := Lib.hid (Nx.out.below hb)
  replace Vgx := Lib.hid (Vgx.out.below hb Vgx.out.lt)
  replace Zb := Lib.hid (Zb.out.below hb)
  replace Nb := Lib.hid (Nb.out.below hb)
  replace Zn10 := Lib.hid (Zn10.out.below hb)
  replace Zy := Lib.hid (Zy.out.below hb)
  replace Ny := Lib.hid (Ny.out.below hb)
  replace Vgy := Lib.hid (Vgy.out.below hb Vgy.out.lt)
  replace Zb2 := Lib.hid (Zb2.out.below hb)
  replace Nb2 := Lib.hid (Nb2.out.below hb)
  replace Zn10b := Lib.hid (Zn10b.out.below hb)
  replace Zw := Lib.hid (Zw.out.below hb)
  replace Nw := Lib.hid (Nw.out.below hb)
  replace Vgw := Lib.hid (Vgw.out.below hb Vgw.out.lt)
  replace Zn4 := Lib.hid (Zn4.out.below hb)
  replace Zn2 := Lib.hid (Zn2.out.below hb)
  replace Zn6 := Lib.hid (Zn6.out.below hb)
  replace Zn7 := Lib.hid (Zn7.out.below hb)
  replace LF := Lib.hid (LF.out.below hb)
  replace Ze := Lib.hid (Ze.out.below hb)
  replace Ne := Lib.hid (Ne.out.below hb)
  replace Zf := Lib.hid (Zf.out.below hb)
  replace Nf := Lib.hid (Nf.out.below hb)
  replace B1 := Lib.hid (B1.out.trans (hb.mono B1.out.size))
  have Zg := Lib.hid (Zo.of_own ho)
  have Ng := Lib.hid ho2.rd
  clear ho ho2
  clear hb
  refine hK.out _ _ ⟨Vgx.out, Vgy.out, Vgw.out⟩ (fun hHeld => ?_)
  clear hK K
  try simp only [Act.put, List.setIfInBounds_toArray, List.set_cons_zero, List.set_cons_succ]
  refine wpAnyH_ready (rs := [29]) (by kernel_rfl) (by simp) ?_
  refine AllReadyH.consL (o := _) rfl (fun K hK => ?_) AllReadyH.nil
  clear hHeld
  go_simp
  go_at_call 15
  refine Calls.mono (r3equal_any (b := true) Zw.out Zg.out Nw.out Ng.out (by simpa using EW.out)) ?_
  rintro e w26 ⟨rfl, hb⟩
  replace Za := Lib.hid (Za.out.below hb)
  replace Na := Lib.hid (Na.out.below hb)
  replace LR := Lib.hid (LR.out.below hb)
  replace Zs := Lib.hid (Zs.out.below hb)
  replace Ns := Lib.hid (Ns.out.below hb)
  replace Zt := Lib.hid (Zt.out.below hb)
  replace Nt := Lib.hid (Nt.out.below hb)
  replace Zx := Lib.hid (Zx.out.below hb)
  replace Nx := Lib.hid (Nx.out.below hb)
  replace Vgx := Lib.hid (Vgx.out.below hb Vgx.out.lt)
  replace Zb := Lib.hid (Zb.out.below hb)
  replace Nb := Lib.hid (Nb.out.below hb)
  replace Zn10 := Lib.hid (Zn10.out.below hb)
  replace Zy := Lib.hid (Zy.out.below hb)
  replace Ny := Lib.hid (Ny.out.below hb)
  replace Vgy := Lib.hid (Vgy.out.below hb Vgy.out.lt)
  replace Zb2 := Lib.hid (Zb2.out.below hb)
  replace Nb2 := Lib.hid (Nb2.out.below hb)
  replace Zn10b := Lib.hid (Zn10b.out.below hb)
  replace Zw := Lib.hid (Zw.out.below hb)
  replace Nw := Lib.hid (Nw.out.below hb)
  replace Vgw := Lib.hid (Vgw.out.below hb Vgw.out.lt)
  replace Zn4 := Lib.hid (Zn4.out.below hb)
  replace Zn2 := Lib.hid (Zn2.out.below hb)
  replace Zn6 := Lib.hid (Zn6.out.below hb)
  replace Zn7 := Lib.hid (Zn7.out.below hb)
  replace LF := Lib.hid (LF.out.below hb)
  replace Ze := Lib.hid (Ze.out.below hb)
  replace Ne := Lib.hid (Ne.out.below hb)
  replace Zf := Lib.hid (Zf.out.below hb)
  replace Nf := Lib.hid (Nf.out.below hb)
  replace Zg := Lib.hid (Zg.out.below hb)
  replace Ng := Lib.hid (Ng.out.below hb)
  replace B1 := Lib.hid (B1.out.trans (hb.mono B1.out.size))
  clear hb
  refine hK.out _ _ ⟨Vgx.out, Vgy.out, Vgw.out⟩ (fun hHeld => ?_)
  clear hK K
  try simp only [Act.put, List.setIfInBounds_toArray, List.set_cons_zero, List.set_cons_succ]
  refine wpAnyH_takeL (i := 30) (oi := _) (v := ?_) rfl (by kernel_rfl) (by kernel_rfl) (by kernel_rfl) (fun _ _ _ h => h) (Or.inl ⟨by rfl, ?_⟩) hHeld ?_
  rotate_left
  · (intro w' hSw; (try dsimp only at hSw); go_simp; try (with_reducible rfl))
  try simp only [Act.put, List.setIfInBounds_toArray, List.set_cons_zero, List.set_cons_succ]
  refine wpAnyH_takeL (i := 31) (oi := _) (v := ?_) rfl (by kernel_rfl) (by kernel_rfl) (by kernel_rfl) (fun _ _ _ h => h) (Or.inl ⟨by rfl, ?_⟩) hHeld ?_
  rotate_left
  · (intro w' hSw; (try dsimp only at hSw); go_simp; try (with_reducible rfl))
  try simp only [Act.put, List.setIfInBounds_toArray, List.set_cons_zero]
  clear hHeld
  refine wpAnyH_done (by kernel_rfl) ?_ _
  go_wp2_with fail
  go_ret
  exact ⟨rfl, B1.out⟩
end Go.Proofs.YtfmgbfdnmconiaaGreat
