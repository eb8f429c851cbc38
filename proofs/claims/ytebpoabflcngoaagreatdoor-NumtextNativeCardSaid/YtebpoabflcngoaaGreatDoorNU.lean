/-
  Nfr, Npr, Rgu, Nrf, Nde, Nawake.
-/
import Derived.Test.YtebpoabflcngoaaGreatDoorNT
import Derived.Test.YtebpoabflcngoaaGreatDoorRround
import Derived.Test.YtebpoabflcngoaaGreatDoorRS
import Derived.Test.YtebpoabflcngoaaGreatDoorRnew
import Derived.Test.YtebpoabflcngoaaGreatDoorRg
import Derived.IntWalk
import Derived.Test.YtebpoabflcngoaaGreatDoorRawake
/-
  Contract: the text of a rational number.
-/
namespace Go.Proofs.YtebpoabflcngoaaGreatDoor
open Go.RowKit
set_option linter.unusedVariables false

theorem start_nR (w : World) (s0 : Bool) (A0 : Option Addr) (n0 c0 : Nat) (D0 : Option Addr) (m0 k0 : Nat) :
    Hid (Below w.heap.size w (w.alloc (.cells #[.bool s0, .slice A0 n0 c0, .slice D0 m0 k0] 26))) ∧ Hid (Rb (w.alloc (.cells #[.bool s0, .slice A0 n0 c0, .slice D0 m0 k0] 26)) (w.heap.size) s0 A0 n0 c0 D0 m0 k0) := by
  refine ⟨?_, ?_⟩
  · exact ((Below.refl _ _).alloc (by first | exact Nat.le_refl _ | (simp; done) | (simp; omega)) _)
  · have := Rb.new w s0 A0 n0 c0 D0 m0 k0
    exact this
theorem Env.grR {w w' : World} {g n c m k : Nat} {s : Bool} {A D : Option Addr} (h : Env w) (hz : Rb w g s A n c D m k) (hg : w.grownBy w' (some g)) : Env w' := by
  obtain ⟨h1, q, h2⟩ := h
  have key : ∀ (b : Nat) (v : Value), w.cell? ⟨b, 0, none⟩ = some v → (∀ t : Bool, v ≠ .bool t) → b ≠ g := by
    intro b v hv hne e
    subst e
    rw [cell_of_row w b _ _ _ (0, 0) hz] at hv
    simp only [List.getElem?_toArray, List.getElem?_cons_zero, Option.some.injEq] at hv
    exact hne s hv.symm
  have c1 := h1.cell env_table 0 (by decide)
  have n1 := key _ _ c1 (fun t e => by cases e)
  have n2 := key _ _ h2 (fun t e => by cases e)
  have l1 := lt_of_cell c1
  have l2 := lt_of_cell h2
  refine ⟨?_, q, (World.cell?_of_block (a := ⟨0, 0, none⟩) (hg.block _ l2 (by simpa using n2))).trans h2⟩
  have hb := hg.block _ l1 (by simpa using n1)
  unfold Lib.TabIs World.var? at h1 ⊢
  rw [env_table] at h1 ⊢
  simp only [Option.bind_some] at h1 ⊢
  rw [hb]
  exact h1
theorem zin_nat {w : World} {lo k d : Nat} {Q : Option Addr} (h : Own w lo Q k (ofv d)) : Zin w false Q (ofv d).length k (d : Int) := ⟨_, h.rd, rfl, by rw [val_ofv]; rfl⟩
/-- The text of a rational number. -/
def ratTxt (r : Rat) : List UInt8 := if r.den = 1 then Lib.itoa r.num else Lib.itoa r.num ++ 47 :: Lib.decDigits r.den
theorem dec_one {d : Nat} (h : Lib.decDigits d = [49]) : d = 1 := by
  have := dval_dec d
  rw [h] at this
  exact this.symm
theorem itoa_nat (d : Nat) : Lib.itoa (d : Int) = Lib.decDigits d := by rw [itoa_pos (by omega), Int.natAbs_natCast]
theorem itoa_len {x : Int} {N : Nat} (h : (ofv x.natAbs).length ≤ N) : (Lib.itoa x).length ≤ 10 * N + 2 := by
  have h1 := itoa_length x
  have h2 : nDigits_len x.natAbs := nDigits_bound x.natAbs
  unfold nDigits_len at h2
  omega
set_option maxRecDepth 100000 in
set_option maxHeartbeats 16000000 in
theorem formatRat_any {s : Bool} {A D : Option Addr} {n c m k : Nat} {x : Int} {p : Nat} {w : World} (h : Zin w s A n c x) (h' : Nin w D m k p) (hn : n ≤ 1000000000) (hm : m ≤ 1000000000) (hE : Env w) {l : List UInt8} (hl : ratTxt (mkRat x p) = l) :
    Calls Tryz.prog 11 #[.agg #[.bool s, .slice A n c, .slice D m k]] w fun e w' => e = .returned (.string (txt l)) ∧ Below w.heap.size w w' := by
  obtain ⟨B1, V0⟩ := start_nR w s A n c D m k
  have HX := Lib.hid (h.below B1.out)
  have HP := Lib.hid (h'.below B1.out)
  have HE := Lib.hid (hE.below B1.out)
  obtain ⟨z, hz⟩ : ∃ z, (mkRat x p).num = z := ⟨_, rfl⟩
  obtain ⟨d, hd⟩ : ∃ d, (mkRat x p).den = d := ⟨_, rfl⟩
  obtain ⟨la, hla⟩ : ∃ l, Lib.itoa z = l := ⟨_, rfl⟩
  obtain ⟨lb, hlb⟩ : ∃ l, Lib.itoa (d : Int) = l := ⟨_, rfl⟩
  have hrl : RL (mkRat x p) 1000000000 := rl_mk (Nat.le_trans h.len hn) (Nat.le_trans h'.len hm) (by decide)
  have l1 := hrl.1
  have l2 := hrl.2
  rw [hz] at l1
  rw [hd] at l2
  have k1 : la.length ≤ 100000000000 := by rw [← hla]; exact Nat.le_trans (itoa_len l1) (by decide)
  have k2 : lb.length ≤ 100000000000 := by rw [← hlb]; exact Nat.le_trans (itoa_len (x := (d : Int)) (by rw [Int.natAbs_natCast]; exact l2)) (by decide)
  have HZ := Lib.hid hz
  have HD := Lib.hid hd
  have HLA := Lib.hid hla
  have HLB := Lib.hid hlb
  have L1 : Hid ((ofv z.natAbs).length ≤ 10000000000) := Nat.le_trans l1 (by decide)
  have L2 : Hid ((ofv d).length ≤ 10000000000) := Nat.le_trans l2 (by decide)
  have KN := Lib.hid hn
  have KM := Lib.hid hm
  have LL : Hid (1 ≤ 1000000000 ∧ 1000000000 ≤ 70368744177660) := by show _ ∧ _; omega
  have SZ : Hid (w.heap.size ≤ (w.alloc (.cells #[.bool s, .slice A n c, .slice D m k] 26)).heap.size) := B1.out.size
  have eb : lb = Lib.decDigits d := by rw [← hlb, itoa_nat]
  by_cases h1 : d = 1
  · have e1 : (txt lb).toList = [49] := by rw [txt_list, eb, h1, Lib.decDigits_one (by decide)]; rfl
    have HT : Hid (la = l) := by show _ = _; rw [← hl]; unfold ratTxt; rw [hd, if_pos h1, hz, hla]
    clear h h' hn hm hE hl hz hd hla hlb hrl l1 l2 k1 k2 eb h1
    go_enter Tryz.func11, Tryz.ntmps11
    go_wp2_with fail
    refine (norm_any (L := 1000000000) HX.out HP.out KN.out KM.out LL.out HZ.out HD.out).mono ?_
    rintro e w3 ⟨P, c1, Q, c2, rfl, ho, ho2, hb⟩
    replace V0 := Lib.hid (V0.out.below hb V0.out.lt)
    replace HX := Lib.hid (HX.out.below hb)
    replace HP := Lib.hid (HP.out.below hb)
    replace HE := Lib.hid (HE.out.below hb)
    replace B1 := Lib.hid (B1.out.trans (hb.mono B1.out.size))
    have OZ := Lib.hid (ho.mono SZ.out)
    have OD := Lib.hid (ho2.mono SZ.out)
    clear ho ho2 SZ HX HP
    clear hb
    go_wp2_with (refine wpList_stR (by rfl) _ _ rfl (by rfl) (by rfl) V0.out ?_; intro w4 hz hg; replace OZ := Lib.hid (OZ.out.grR V0.out hg); replace OD := Lib.hid (OD.out.grR V0.out hg); replace B1 := Lib.hid (Below.gr B1.out (by omega) hg B1.out.size); replace HE := Lib.hid (HE.out.grR V0.out hg); replace V0 := Lib.hid hz; clear hz hg)
    have HB : Hid (Below w4.heap.size w4 w4.drew) := below_drewN _ w4 1
    have hHeld := HB.out
    refine wp_region_held_split (S := fun w' => Below w4.heap.size w4 w') 7 (by kernel_rfl) (by kernel_rfl) ?_
    simp only [List.take_succ_cons, List.take_zero, List.drop_succ_cons, List.drop_zero]
    refine wpAnyH_takeL (i := 0) (oi := _) (v := ?_) rfl (by kernel_rfl) (by kernel_rfl) (by kernel_rfl) (fun _ _ _ h => h) (Or.inl ⟨by rfl, ?_⟩) hHeld ?_
    rotate_left
    · (intro w' hSw; (try dsimp only at hSw); go_simp; try (with_reducible rfl))
    try simp only [Act.put, List.setIfInBounds_toArray, List.set_cons_zero, List.set_cons_succ]
    refine wpAnyH_takeL (i := 1) (oi := _) rfl (by kernel_rfl) (by kernel_rfl) (by kernel_rfl) (fun _ _ _ h => h) (yields_ldRz (by rfl) _ rfl (by rfl) (fun _ hb => V0.out.below hb V0.out.lt)) hHeld ?_
    try simp only [Act.put, List.setIfInBounds_toArray, List.set_cons_zero, List.set_cons_succ]
    refine wpAnyH_takeL (i := 3) (oi := _) (v := ?_) rfl (by kernel_rfl) (by kernel_rfl) (by kernel_rfl) (fun _ _ _ h => h) (Or.inl ⟨by rfl, ?_⟩) hHeld ?_
    rotate_left
    · (intro w' hSw; (try dsimp only at hSw); go_simp; try (with_reducible rfl))
    try simp only [Act.put, List.setIfInBounds_toArray, List.set_cons_zero, List.set_cons_succ]
    refine wpAnyH_takeL (i := 4) (oi := _) rfl (by kernel_rfl) (by kernel_rfl) (by kernel_rfl) (fun _ _ _ h => h) (yields_ldRd (by rfl) _ rfl (by rfl) (fun _ hb => V0.out.below hb V0.out.lt)) hHeld ?_
    try simp only [Act.put, List.setIfInBounds_toArray, List.set_cons_zero, List.set_cons_succ]
    refine wpAnyH_takeL (i := 5) (oi := _) (v := ?_) rfl (by kernel_rfl) (by kernel_rfl) (by kernel_rfl) (fun _ _ _ h => h) (Or.inl ⟨by rfl, ?_⟩) hHeld ?_
    rotate_left
    · (intro w' hSw; (try dsimp only at hSw); go_simp; try (with_reducible rfl))
    try simp only [Act.put, List.setIfInBounds_toArray, List.set_cons_zero, List.set_cons_succ]
    refine wpAnyH_rgb [(2, some 9), (6, some 13)] (isV (.string (txt la))) [(6, isV (.string (txt lb)))] w4 (by kernel_rfl) (by kernel_rfl) (by decide) HB.out (fun _ h => h) (isV_good _) ⟨isV_good _, trivial⟩ ?_ ?_
    · clear hHeld HB
      refine RgOps.consL (o := _) (ds := []) rfl rfl (by kernel_rfl) (fun vals wr hbr hC hdep K hK => ?_) ?_
      · have BB := Lib.hid hbr
        clear hdep
        clear hbr hC
        simp only [Upd2, Act.put, List.setIfInBounds_toArray, List.set_cons_zero, List.set_cons_succ] at hK ⊢
        go_simp
        go_at_call 9
        refine Calls.mono (formatInt_any (x := z) (Zo.of_own (OZ.out.below BB.out)).in_ L1.out (HE.out.below BB.out) HLA.out) ?_
        rintro e wq ⟨rfl, hb⟩
        exact hK.out _ _ (LeavesB.behind hb ⟨rfl, rfl⟩ rfl)
      refine RgOps.consL (o := _) (ds := [2]) rfl rfl (by kernel_rfl) (fun vals wr hbr hC hdep K hK => ?_) RgOps.nil
      · have BB := Lib.hid hbr
        obtain ⟨⟨e2, -⟩, -⟩ := hdep
        clear hbr hC
        simp only [e2, Upd2, Act.put, List.setIfInBounds_toArray, List.set_cons_zero, List.set_cons_succ] at hK ⊢
        clear e2
        go_simp
        go_at_call 9
        refine Calls.mono (formatInt_any (s := false) (x := (d : Int)) (zin_nat (OD.out.below BB.out)) L2.out (HE.out.below BB.out) HLB.out) ?_
        rintro e wq ⟨rfl, hb⟩
        exact hK.out _ _ (LeavesB.behind hb ⟨rfl, rfl⟩ rfl)
    clear hHeld HB
    intro vals wr hb hdep hD
    obtain ⟨⟨e2, -⟩, ⟨e6, -⟩, -⟩ := hdep
    simp only [Upd2, e2, e6, Act.put, List.setIfInBounds_toArray, List.set_cons_zero, List.set_cons_succ]
    clear e2 e6
    clear hD vals
    replace V0 := Lib.hid (V0.out.below hb V0.out.lt)
    replace OZ := Lib.hid (OZ.out.below hb)
    replace OD := Lib.hid (OD.out.below hb)
    replace HE := Lib.hid (HE.out.below hb)
    replace B1 := Lib.hid (B1.out.trans (hb.mono B1.out.size))
    clear hb
    show wpList _ _ _ _ _ _
    go_wp2
    go_ret
    show Ending.returned (.string (txt la)) = _ ∧ _
    rw [HT.out]
    exact ⟨rfl, B1.out⟩
  · have e2 : ¬ (txt lb).toList = [49] := by rw [txt_list, eb]; exact fun e => h1 (dec_one e)
    have e3 : ((txt lb).toList == [49]) = false := by simpa using e2
    clear e2
    have HT : Hid (la ++ 47 :: lb = l) := by show _ = _; rw [← hl]; unfold ratTxt; rw [hd, if_neg h1, hz, hla, eb]
    have c1 : ¬ 9223372036854775807 < (txt la).size + (⟨#[47]⟩ : ByteArray).size := by rw [txt_size]; show ¬ _ < _ + 1; omega
    have c2 : ¬ 9223372036854775807 < (txt la ++ ⟨#[47]⟩).size + (txt lb).size := by rw [ByteArray.size_append, txt_size, txt_size]; show ¬ _ < _ + 1 + _; omega
    clear h h' hn hm hE hl hz hd hla hlb hrl l1 l2 k1 k2 eb h1
    go_enter Tryz.func11, Tryz.ntmps11
    go_wp2_with fail
    refine (norm_any (L := 1000000000) HX.out HP.out KN.out KM.out LL.out HZ.out HD.out).mono ?_
    rintro e w3 ⟨P, c1, Q, c2, rfl, ho, ho2, hb⟩
    replace V0 := Lib.hid (V0.out.below hb V0.out.lt)
    replace HX := Lib.hid (HX.out.below hb)
    replace HP := Lib.hid (HP.out.below hb)
    replace HE := Lib.hid (HE.out.below hb)
    replace B1 := Lib.hid (B1.out.trans (hb.mono B1.out.size))
    have OZ := Lib.hid (ho.mono SZ.out)
    have OD := Lib.hid (ho2.mono SZ.out)
    clear ho ho2 SZ HX HP
    clear hb
    go_wp2_with (refine wpList_stR (by rfl) _ _ rfl (by rfl) (by rfl) V0.out ?_; intro w4 hz hg; replace OZ := Lib.hid (OZ.out.grR V0.out hg); replace OD := Lib.hid (OD.out.grR V0.out hg); replace B1 := Lib.hid (Below.gr B1.out (by omega) hg B1.out.size); replace HE := Lib.hid (HE.out.grR V0.out hg); replace V0 := Lib.hid hz; clear hz hg)
    have HB : Hid (Below w4.heap.size w4 w4.drew) := below_drewN _ w4 1
    have hHeld := HB.out
    refine wp_region_held_split (S := fun w' => Below w4.heap.size w4 w') 7 (by kernel_rfl) (by kernel_rfl) ?_
    simp only [List.take_succ_cons, List.take_zero, List.drop_succ_cons, List.drop_zero]
    refine wpAnyH_takeL (i := 0) (oi := _) (v := ?_) rfl (by kernel_rfl) (by kernel_rfl) (by kernel_rfl) (fun _ _ _ h => h) (Or.inl ⟨by rfl, ?_⟩) hHeld ?_
    rotate_left
    · (intro w' hSw; (try dsimp only at hSw); go_simp; try (with_reducible rfl))
    try simp only [Act.put, List.setIfInBounds_toArray, List.set_cons_zero, List.set_cons_succ]
    refine wpAnyH_takeL (i := 1) (oi := _) rfl (by kernel_rfl) (by kernel_rfl) (by kernel_rfl) (fun _ _ _ h => h) (yields_ldRz (by rfl) _ rfl (by rfl) (fun _ hb => V0.out.below hb V0.out.lt)) hHeld ?_
    try simp only [Act.put, List.setIfInBounds_toArray, List.set_cons_zero, List.set_cons_succ]
    refine wpAnyH_takeL (i := 3) (oi := _) (v := ?_) rfl (by kernel_rfl) (by kernel_rfl) (by kernel_rfl) (fun _ _ _ h => h) (Or.inl ⟨by rfl, ?_⟩) hHeld ?_
    rotate_left
    · (intro w' hSw; (try dsimp only at hSw); go_simp; try (with_reducible rfl))
    try simp only [Act.put, List.setIfInBounds_toArray, List.set_cons_zero, List.set_cons_succ]
    refine wpAnyH_takeL (i := 4) (oi := _) rfl (by kernel_rfl) (by kernel_rfl) (by kernel_rfl) (fun _ _ _ h => h) (yields_ldRd (by rfl) _ rfl (by rfl) (fun _ hb => V0.out.below hb V0.out.lt)) hHeld ?_
    try simp only [Act.put, List.setIfInBounds_toArray, List.set_cons_zero, List.set_cons_succ]
    refine wpAnyH_takeL (i := 5) (oi := _) (v := ?_) rfl (by kernel_rfl) (by kernel_rfl) (by kernel_rfl) (fun _ _ _ h => h) (Or.inl ⟨by rfl, ?_⟩) hHeld ?_
    rotate_left
    · (intro w' hSw; (try dsimp only at hSw); go_simp; try (with_reducible rfl))
    try simp only [Act.put, List.setIfInBounds_toArray, List.set_cons_zero, List.set_cons_succ]
    refine wpAnyH_rgb [(2, some 9), (6, some 13)] (isV (.string (txt la))) [(6, isV (.string (txt lb)))] w4 (by kernel_rfl) (by kernel_rfl) (by decide) HB.out (fun _ h => h) (isV_good _) ⟨isV_good _, trivial⟩ ?_ ?_
    · clear hHeld HB
      refine RgOps.consL (o := _) (ds := []) rfl rfl (by kernel_rfl) (fun vals wr hbr hC hdep K hK => ?_) ?_
      · have BB := Lib.hid hbr
        clear hdep
        clear hbr hC
        simp only [Upd2, Act.put, List.setIfInBounds_toArray, List.set_cons_zero, List.set_cons_succ] at hK ⊢
        go_simp
        go_at_call 9
        refine Calls.mono (formatInt_any (x := z) (Zo.of_own (OZ.out.below BB.out)).in_ L1.out (HE.out.below BB.out) HLA.out) ?_
        rintro e wq ⟨rfl, hb⟩
        exact hK.out _ _ (LeavesB.behind hb ⟨rfl, rfl⟩ rfl)
      refine RgOps.consL (o := _) (ds := [2]) rfl rfl (by kernel_rfl) (fun vals wr hbr hC hdep K hK => ?_) RgOps.nil
      · have BB := Lib.hid hbr
        obtain ⟨⟨e2, -⟩, -⟩ := hdep
        clear hbr hC
        simp only [e2, Upd2, Act.put, List.setIfInBounds_toArray, List.set_cons_zero, List.set_cons_succ] at hK ⊢
        clear e2
        go_simp
        go_at_call 9
        refine Calls.mono (formatInt_any (s := false) (x := (d : Int)) (zin_nat (OD.out.below BB.out)) L2.out (HE.out.below BB.out) HLB.out) ?_
        rintro e wq ⟨rfl, hb⟩
        exact hK.out _ _ (LeavesB.behind hb ⟨rfl, rfl⟩ rfl)
    clear hHeld HB
    intro vals wr hb hdep hD
    obtain ⟨⟨e2, -⟩, ⟨e6, -⟩, -⟩ := hdep
    simp only [Upd2, e2, e6, Act.put, List.setIfInBounds_toArray, List.set_cons_zero, List.set_cons_succ]
    clear e2 e6
    clear hD vals
    replace V0 := Lib.hid (V0.out.below hb V0.out.lt)
    replace OZ := Lib.hid (OZ.out.below hb)
    replace OD := Lib.hid (OD.out.below hb)
    replace HE := Lib.hid (HE.out.below hb)
    replace B1 := Lib.hid (B1.out.trans (hb.mono B1.out.size))
    clear hb
    show wpList _ _ _ _ _ _
    go_wp2
    go_ret
    show Ending.returned (.string (txt la ++ txt [47] ++ txt lb)) = _ ∧ _
    rw [txt_append, txt_append, ← HT.out, List.append_assoc]
    exact ⟨rfl, B1.out⟩
end Go.Proofs.YtebpoabflcngoaaGreatDoor

/-
  Contracts: integers and rational numbers out of their texts.
-/
namespace Go.Proofs.YtebpoabflcngoaaGreatDoor
open Go.RowKit
set_option linter.unusedVariables false

theorem start_nR0 (w : World) :
    Hid (Below w.heap.size w (w.alloc (.cells #[.bool false, .slice none 0 0, .slice none 0 0] 26))) ∧ Hid (Rb (w.alloc (.cells #[.bool false, .slice none 0 0, .slice none 0 0] 26)) (w.heap.size) false none 0 0 none 0 0) := by
  refine ⟨?_, ?_⟩
  · exact ((Below.refl _ _).alloc (by first | exact Nat.le_refl _ | (simp; done) | (simp; omega)) _)
  · have := Rb.new w false none 0 0 none 0 0
    exact this
/-- An integer, or a rational number, and no error; zero values and an error. -/
def GivesZE (w : World) (z : Int) (e : Ending) (w' : World) : Prop :=
  ∃ R c, e = .returned (.tuple #[.agg #[.bool (decide (z < 0)), .slice R (ofv z.natAbs).length c], .int .i64 0]) ∧ Own w' w.heap.size R c (ofv z.natAbs) ∧ Below w.heap.size w w'
def GivesRE (w : World) (z : Int) (d : Nat) (e : Ending) (w' : World) : Prop :=
  ∃ R c Q k, e = .returned (.tuple #[.agg #[.bool (decide (z < 0)), .slice R (ofv z.natAbs).length c, .slice Q (ofv d).length k], .int .i64 0]) ∧ Own w' w.heap.size R c (ofv z.natAbs) ∧ Own w' w.heap.size Q k (ofv d) ∧ Below w.heap.size w w'
theorem unsg_len2 (l : List UInt8) : l.length ≤ (unsg l).length + 1 := by
  unfold unsg Lib.trimPrefix
  split
  · rw [List.length_drop, List.length_singleton]; omega
  · omega
theorem unsg_append {l m : List UInt8} (h : plainB (unsg l) = true) : unsg (l ++ m) = unsg l ++ m := by
  cases l with
  | nil => exact absurd h (by decide)
  | cons c l =>
    by_cases e : c = 45
    · subst e; rw [List.cons_append, unsg_cons, unsg_cons]
    · have hp : ∀ t, Lib.hasPrefix (c :: t) [45] = false := fun t => by
        show [45].isPrefixOf (c :: t) = false
        rw [List.isPrefixOf_cons_cons]
        simp [Ne.symm e]
      have hu : ∀ t, unsg (c :: t) = c :: t := fun t => by unfold unsg Lib.trimPrefix; rw [hp]; rfl
      rw [List.cons_append, hu, hu]; rfl
theorem tval_limbs {l : List UInt8} (h : alld (unsg l) = true) : (ofv (tval l).natAbs).length ≤ l.length := by
  have h1 : (tval l).natAbs = dval (unsg l) := by unfold tval; split <;> omega
  rw [h1]
  exact Nat.le_trans (len_ofv_le_of_lt (Nat.lt_of_lt_of_le (dval_lt h) (ten_pw _))) (unsg_len l)
theorem ret_zbi {fn : Func} {R : Ending → World → Prop} {a : Act} {w : World} {k j g n c : Nat} {s : Bool} {x : Int} {A : Option Addr} (hf : fn.results = #[.cell k 24, .tmp j]) (hd : a.defers = [])
    (hk : (a.tmps[k]?).getD undef = .pointer (some ⟨g, 0, none⟩)) (hj : (a.tmps[j]?).getD undef = .int .i64 x) (h : Zb w g s A n c) (hR : R (.returned (.tuple #[.agg #[.bool s, .slice A n c], .int .i64 x])) w) : bodyPost Tryz.prog fn R .ret a w := by
  obtain ⟨z1, z2⟩ := h.cells
  exact bodyPost_ret_by (v := .tuple #[.agg #[.bool s, .slice A n c], .int .i64 x]) (by simp [results, hf, go_sem, hk, hj, z1, z2]) hd hR
theorem ret_rbi {fn : Func} {R : Ending → World → Prop} {a : Act} {w : World} {i j g n c m k : Nat} {s : Bool} {x : Int} {A D : Option Addr} (hf : fn.results = #[.cell i 26, .tmp j]) (hd : a.defers = [])
    (hk : (a.tmps[i]?).getD undef = .pointer (some ⟨g, 0, none⟩)) (hj : (a.tmps[j]?).getD undef = .int .i64 x) (h : Rb w g s A n c D m k) (hR : R (.returned (.tuple #[.agg #[.bool s, .slice A n c, .slice D m k], .int .i64 x])) w) : bodyPost Tryz.prog fn R .ret a w := by
  have z1 : w.cell? ⟨g, 0, none⟩ = some (.bool s) := by rw [cell_of_row w g _ _ _ (0, 0) h]; rfl
  have z2 : w.cell? ⟨g, 1, none⟩ = some (.slice A n c) := by rw [cell_of_row w g _ _ _ (0, 0) h]; rfl
  have z3 : w.cell? ⟨g, 2, none⟩ = some (.slice D m k) := by rw [cell_of_row w g _ _ _ (0, 0) h]; rfl
  exact bodyPost_ret_by (v := .tuple #[.agg #[.bool s, .slice A n c, .slice D m k], .int .i64 x]) (by simp [results, hf, go_sem, hk, hj, z1, z2, z3]) hd hR
theorem plain_all {l : List UInt8} (h : plainB l = true) : alld l = true := by
  unfold plainB at h
  rw [Bool.and_eq_true] at h
  exact h.1
theorem num_all {l : List UInt8} (h : numB l = true) : alld (unsg l) = true := by
  unfold numB at h
  rw [Bool.and_eq_true] at h
  exact plain_all h.1
set_option maxRecDepth 100000 in
set_option maxHeartbeats 16000000 in
theorem pint_ok {l : List UInt8} (ha : ascii l) (hn : numB l = true) (hl : (unsg l).length ≤ 4096) {z : Int} (hz : tval l = z) (w : World) :
    Calls Tryz.prog 17 #[.string (txt l)] w (GivesZE w z) := by
  obtain ⟨B1, V0⟩ := start_nZ0 w
  have HA := Lib.hid ha
  have HN := Lib.hid hn
  have HALL := Lib.hid (num_all hn)
  have HZ := Lib.hid hz
  have hu : l.length ≤ (unsg l).length + 1 := by
    unfold unsg Lib.trimPrefix
    split
    · rw [List.length_drop, List.length_singleton]; omega
    · omega
  have HL : Hid (l.length ≤ 70368744176000) := by show _ ≤ _; omega
  have c1 : ((txt (unsg l)).size : Int) ≤ 4096 := by rw [txt_size]; omega
  clear ha hn hl hz hu
  go_enter Tryz.func17, Tryz.ntmps17
  go_wp2_with fail
  refine (isNumber_any (b := true) HA.out HN.out _).mono ?_
  rintro e w2 ⟨rfl, hb⟩
  replace V0 := Lib.hid (V0.out.below hb V0.out.lt)
  replace B1 := Lib.hid (B1.out.trans (hb.mono B1.out.size))
  clear hb
  go_wp2_with fail
  refine (unsigned_any l _).mono ?_
  rintro e w3 ⟨rfl, rfl⟩
  have SZ : Hid (w.heap.size ≤ w2.heap.size) := B1.out.size
  go_wp2_with fail
  refine (read_any HALL.out HL.out HZ.out _).mono ?_
  rintro e w4 ⟨P, c, rfl, ho, hb⟩
  replace V0 := Lib.hid (V0.out.below hb V0.out.lt)
  replace B1 := Lib.hid (B1.out.trans (hb.mono B1.out.size))
  have OZ := Lib.hid (ho.mono SZ.out)
  clear ho SZ
  clear hb
  go_wp2_with (refine wpList_stZ (by rfl) _ _ rfl (by rfl) (by rfl) V0.out ?_; intro w5 hz hg; replace OZ := Lib.hid (OZ.out.gr V0.out hg); replace B1 := Lib.hid (Below.gr B1.out (by omega) hg B1.out.size); replace V0 := Lib.hid hz; clear hz hg)
  exact ret_zbi Tryz.results17 rfl rfl rfl V0.out ⟨_, _, rfl, OZ.out, B1.out⟩
set_option maxRecDepth 100000 in
set_option maxHeartbeats 16000000 in
theorem pdec_ok {la lb : List UInt8} (ha : ascii la) (hb : ascii lb) (hn : plainB (unsg la) = true) (hp : (alld lb && !lb.isEmpty) = true) (hl : (unsg la).length + lb.length ≤ 4096) {x y : Int} (hx : tval (la ++ lb) = x) (hy : ((10 ^ lb.length : Nat) : Int) = y) {z : Int} {d : Nat} (hz : (Rat.divInt x y).num = z) (hd : (Rat.divInt x y).den = d) (w : World) :
    Calls Tryz.prog 54 #[.string (txt la), .string (txt lb)] w (GivesRE w z d) := by
  obtain ⟨B1, V0⟩ := start_nR0 w
  have HA := Lib.hid (ascii_unsg ha)
  have HB := Lib.hid hb
  have HN := Lib.hid hn
  have HP := Lib.hid hp
  have hpb : alld lb = true := by rw [Bool.and_eq_true] at hp; exact hp.1
  have HALL : Hid (alld (unsg (la ++ lb)) = true) := by
    show _ = _
    rw [unsg_append hn, alld_append, plain_all hn, hpb]; rfl
  have HX := Lib.hid hx
  have HY := Lib.hid hy
  have H0 : Hid (y ≠ 0) := by have : 0 < 10 ^ lb.length := Nat.pow_pos (by decide); show _ ≠ _; omega
  have HZ := Lib.hid hz
  have HD := Lib.hid hd
  have hu := unsg_len2 la
  have HL : Hid ((la ++ lb).length ≤ 70368744176000) := by show _ ≤ _; rw [List.length_append]; omega
  have HL2 : Hid (lb.length ≤ 17592186000000) := by show _ ≤ _; omega
  have lx : (ofv x.natAbs).length ≤ 70368744177660 := by rw [← hx]; exact Nat.le_trans (tval_limbs HALL.out) (by rw [List.length_append]; omega)
  have ly : (ofv y.natAbs).length ≤ 70368744177660 := by rw [← hy, Int.natAbs_natCast]; exact Nat.le_trans (len_ten _) (by omega)
  have LX := Lib.hid lx
  have LY := Lib.hid ly
  have c1 : ((txt (unsg la)).size : Int) + ((txt lb).size : Int) ≤ 4096 := by rw [txt_size, txt_size]; omega
  have c2 : 0 ≤ ((txt (unsg la)).size : Int) := by omega
  have c3 : 0 ≤ ((txt lb).size : Int) := by omega
  have c4 : ¬ 9223372036854775807 < (txt la).size + (txt lb).size := by rw [txt_size, txt_size]; omega
  have eT := txt_append la lb
  have ES : Hid (((txt lb).size : Int) = ((lb.length : Nat) : Int)) := rfl
  clear ha hb hn hp hl hx hy hz hd hpb hu lx ly
  go_enter Tryz.func54, Tryz.ntmps54
  go_wp2_with fail
  refine (unsigned_any la _).mono ?_
  rintro e w2 ⟨rfl, rfl⟩
  go_wp2_with fail
  refine (isPlain_any (b := true) HA.out HN.out _).mono ?_
  rintro e w3 ⟨rfl, hb⟩
  replace V0 := Lib.hid (V0.out.below hb V0.out.lt)
  replace B1 := Lib.hid (B1.out.trans (hb.mono B1.out.size))
  clear hb
  go_wp2_with fail
  refine (isDigits_any (b := true) HB.out HP.out _).mono ?_
  rintro e w4 ⟨rfl, hb⟩
  replace V0 := Lib.hid (V0.out.below hb V0.out.lt)
  replace B1 := Lib.hid (B1.out.trans (hb.mono B1.out.size))
  clear hb
  go_wp2_with fail
  refine (unsigned_any la _).mono ?_
  rintro e w5 ⟨rfl, rfl⟩
  have SZ : Hid (w.heap.size ≤ _) := B1.out.size
  go_wp2_with fail
  refine (read_any HALL.out HL.out HX.out _).mono ?_
  rintro e w6 ⟨P1, k1, rfl, ho, hb⟩
  replace V0 := Lib.hid (V0.out.below hb V0.out.lt)
  replace B1 := Lib.hid (B1.out.trans (hb.mono B1.out.size))
  have ZX := Lib.hid (Zo.of_own ho).in_
  clear ho SZ
  clear hb
  go_wp2_with fail
  refine (pt_any lb.length HL2.out (v := ((txt lb).size : Int)) ES.out HY.out _).mono ?_
  rintro e w7 ⟨P2, k2, rfl, ho, hb⟩
  replace V0 := Lib.hid (V0.out.below hb V0.out.lt)
  replace ZX := Lib.hid (ZX.out.below hb)
  replace B1 := Lib.hid (B1.out.trans (hb.mono B1.out.size))
  have ZY := Lib.hid (Zo.of_own ho).in_
  clear ho
  clear hb
  have SZ : Hid (w.heap.size ≤ _) := B1.out.size
  go_wp2_with fail
  refine (new_any ZX.out ZY.out LX.out LY.out H0.out HZ.out HD.out).mono ?_
  rintro e w9 ⟨P, c1, Q, c2, rfl, ho, ho2, hb⟩
  replace V0 := Lib.hid (V0.out.below hb V0.out.lt)
  replace ZX := Lib.hid (ZX.out.below hb)
  replace ZY := Lib.hid (ZY.out.below hb)
  replace B1 := Lib.hid (B1.out.trans (hb.mono B1.out.size))
  have OZ := Lib.hid (ho.mono SZ.out)
  have OD := Lib.hid (ho2.mono SZ.out)
  clear ho ho2 SZ
  clear hb
  have hb : Below w9.heap.size w9 (w9.alloc (.cells #[.bool (decide (z < 0)), .slice P (ofv z.natAbs).length c1, .slice Q (ofv d).length c2] 26)) := (Below.refl _ _).alloc (Nat.le_refl _) _
  replace V0 := Lib.hid (V0.out.below hb V0.out.lt)
  replace OZ := Lib.hid (OZ.out.below hb)
  replace OD := Lib.hid (OD.out.below hb)
  replace B1 := Lib.hid (B1.out.trans (hb.mono B1.out.size))
  have V9 := Lib.hid (Rb.new w9 (decide (z < 0)) P (ofv z.natAbs).length c1 Q (ofv d).length c2)
  clear hb
  clear V9
  go_wp2_with (refine wpList_stR (by rfl) _ _ rfl (by rfl) (by rfl) V0.out ?_; intro w10 hz hg; replace OZ := Lib.hid (OZ.out.grR V0.out hg); replace OD := Lib.hid (OD.out.grR V0.out hg); replace B1 := Lib.hid (Below.gr B1.out (by omega) hg B1.out.size); replace V0 := Lib.hid hz; clear hz hg)
  exact ret_rbi Tryz.results54 rfl rfl rfl V0.out ⟨_, _, _, _, rfl, OZ.out, OD.out, B1.out⟩
theorem cut_any {l a b : List UInt8} {k : UInt8} {f : Bool} (hl : l.length ≤ 4000000000) (hc : Lib.cut l [k] = (a, b, f)) {w : World} (hE : Env w) :
    Calls Tryz.prog 52 #[.string (txt l), .string ⟨#[k]⟩] w fun e w' => e = .returned (.tuple #[.string (txt a), .string (txt b), .bool f]) ∧ Below w.heap.size w w' := by
  obtain ⟨h1, m, h2⟩ := hE
  refine (Tryz.strings_Cut (txt l) ⟨#[k]⟩ m w (by rw [txt_size]; omega) h2).mono ?_
  rintro e w' ⟨rfl, n, rfl⟩
  have e1 : Lib.cut (txt l).data.toList (⟨#[k]⟩ : ByteArray).data.toList = (a, b, f) := hc
  rw [e1]
  exact ⟨rfl, below_drewN _ _ _⟩
set_option maxRecDepth 100000 in
set_option maxHeartbeats 16000000 in
theorem prat_dec_ok {l la lb : List UInt8} (ha : ascii la) (hb : ascii lb) (hn : plainB (unsg la) = true) (hp : (alld lb && !lb.isEmpty) = true) (hlen : (unsg la).length + lb.length ≤ 4096) {x y : Int} (hx : tval (la ++ lb) = x) (hy : ((10 ^ lb.length : Nat) : Int) = y) {z : Int} {d : Nat} (hz : (Rat.divInt x y).num = z) (hd : (Rat.divInt x y).den = d) (hl : l.length ≤ 4000000000) (hc : Lib.cut l [47] = (l, [], false)) (hc2 : Lib.cut l [46] = (la, lb, true)) {w : World} (hE : Env w) :
    Calls Tryz.prog 18 #[.string (txt l)] w (GivesRE w z d) := by
  obtain ⟨B1, V0⟩ := start_nR0 w
  have HE := Lib.hid (hE.below B1.out)
  have HC := Lib.hid hc
  have HL := Lib.hid hl
  have HC2 := Lib.hid hc2
  have HPF := Lib.hid (pdec_ok ha hb hn hp hlen hx hy hz hd)
  clear ha hb hn hp hlen hx hy hz hd hl hc hc2 hE
  go_enter Tryz.func18, Tryz.ntmps18
  go_wp2_with fail
  refine (cut_any HL.out HC.out HE.out).mono ?_
  rintro e w2 ⟨rfl, hb⟩
  replace V0 := Lib.hid (V0.out.below hb V0.out.lt)
  replace HE := Lib.hid (HE.out.below hb)
  replace B1 := Lib.hid (B1.out.trans (hb.mono B1.out.size))
  clear hb
  go_wp2_with fail
  refine (cut_any HL.out HC2.out HE.out).mono ?_
  rintro e w3 ⟨rfl, hb⟩
  replace V0 := Lib.hid (V0.out.below hb V0.out.lt)
  replace HE := Lib.hid (HE.out.below hb)
  replace B1 := Lib.hid (B1.out.trans (hb.mono B1.out.size))
  clear hb
  clear HE
  have SZ : Hid (w.heap.size ≤ _) := B1.out.size
  go_wp2_with fail
  refine (HPF.out _).mono ?_
  rintro e w4 ⟨P, c1, Q, c2, rfl, ho, ho2, hb⟩
  replace V0 := Lib.hid (V0.out.below hb V0.out.lt)
  replace B1 := Lib.hid (B1.out.trans (hb.mono B1.out.size))
  have OZ := Lib.hid (ho.mono SZ.out)
  have OD := Lib.hid (ho2.mono SZ.out)
  clear ho ho2 SZ
  clear hb
  go_wp2_with (refine wpList_stR (by rfl) _ _ rfl (by rfl) (by rfl) V0.out ?_; intro w10 hz hg; replace OZ := Lib.hid (OZ.out.grR V0.out hg); replace OD := Lib.hid (OD.out.grR V0.out hg); replace B1 := Lib.hid (Below.gr B1.out (by omega) hg B1.out.size); replace V0 := Lib.hid hz; clear hz hg)
  exact ret_rbi Tryz.results18 rfl rfl rfl V0.out ⟨_, _, _, _, rfl, OZ.out, OD.out, B1.out⟩
end Go.Proofs.YtebpoabflcngoaaGreatDoor

/-
  A region as in Rg's last law; what comes behind the operations shown keeps its own condition alone.
-/
namespace Go.Proofs.YtebpoabflcngoaaGreatDoor
open Go.RowKit
set_option linter.unusedVariables false

section
variable {P : Program} {md : Region.Mode} {Q : Exit → Act → World → Prop} {S : World → Prop}
theorem wpAnyH_rgu_aux {ls : List Oper} {Pf : Nat → Value → World → Prop} {Step : World → World → Prop} {J : World → Prop} {todo T : List Nat} {a0 : Act} {listed0 : Array Bool} {f0 : Nat}
    (hd : downA ls = true) (hnd : dstsB ls.toArray todo = true) (hsel : Region.noSelect ls.toArray = true) (hfr : T.all (fun i => freeB ls i) = true)
    (hTt : ∀ i ∈ T, i ∈ todo) (hbe : behindB ls (restOf listed0 todo) (todo.filter fun j => !T.contains j) = true) (hcl : T.all (fun i => match ls[i]? with | none => true | some o => o.after.all fun e => !Region.binds .any e || !(restOf listed0 todo).contains e.on) = true) (hs0 : listed0.size = ls.length)
    (hQ0 : ∀ c a (d : Nat) v w, Q (.panic c) (a.put (some d) v) w → Q (.panic c) a w)
    (hst : ∀ j u w w', Step w w' → Pf j u w → Pf j u w') (hlt : ∀ j u w g, Pf j u w → blk u = some g → g < w.heap.size) (hrefl : ∀ w, Step w w)
    (hJS : ∀ w, J w → S w) (hop : RgAll P .any ls.toArray Q J Pf Step todo a0 (todo.filter fun j => !T.contains j))
    (hta : ∀ i ∈ T, ∃ o, ls[i]? = some o ∧ ∀ (vals : Nat → Value) (w : World), J w → depP Pf vals w (waits .any todo o) → ∃ v, YieldsIf P ls.toArray S o v (Upd ls.toArray vals todo a0) ∧ Pf i v w ∧ blk v = none)
    (hend : ∀ vals w, J w → depP Pf vals w todo → (∀ i ∈ todo, ∀ j ∈ todo, i ≠ j → ∀ g, blk (vals i) = some g → blk (vals j) ≠ some g) → wpAnyH P .any ls.toArray Q S f0 (setAll listed0 todo) (Upd ls.toArray vals todo a0) w) :
    ∀ (k : Nat) (listed : Array Bool) (vals : Nat → Value) (w : World), listed.size = ls.length → (todo.filter fun j => !listed.getD j true).length = k →
      (∀ j, listed0.getD j true = true → listed.getD j true = true) → (∀ j, listed.getD j true = true → listed0.getD j true = true ∨ j ∈ todo) → J w → (∀ j ∈ todo, listed.getD j true = true → Pf j (vals j) w) →
      (∀ i ∈ todo, ∀ j ∈ todo, listed.getD i true = true → listed.getD j true = true → i ≠ j → ∀ g, blk (vals i) = some g → blk (vals j) ≠ some g) →
      wpAnyH P .any ls.toArray Q S (k + f0) listed (Upd ls.toArray vals todo a0) w := by
  have hQ : ∀ c a d v w, Q (.panic c) (a.put d v) w → Q (.panic c) a w := fun c a d v w h => by
    cases d with
    | none => exact h
    | some d => exact hQ0 c a d v w h
  intro k
  induction k with
  | zero =>
    intro listed vals w hs hk hsub hsup hS hP hD
    have hall : ∀ j ∈ todo, listed.getD j true = true := by
      intro j hj
      cases hl : listed.getD j true with
      | true => rfl
      | false =>
        exfalso
        have : j ∈ todo.filter fun j => !listed.getD j true := List.mem_filter.2 ⟨hj, by simp only [hl, Bool.not_false]⟩
        have := List.length_pos_of_mem this
        omega
    have e : listed = setAll listed0 todo := arr_ext (by rw [setAll_size, hs, hs0]) (fun j => by
      rw [setAll_getD]
      exact ⟨hsup j, fun h => h.elim (hsub j) (hall j)⟩)
    rw [Nat.zero_add, e]
    exact hend vals w hS (depP_of _ fun j hj => hP j hj (hall j hj)) (fun i hi j hj hne => hD i hi j hj (hall i hi) (hall j hj) hne)
  | succ k ih =>
    intro listed vals w hs hk hsub hsup hS hP hD
    -- one step, by an operation of 'todo'
    have next : ∀ i, i ∈ todo → listed.getD i true = false → ∀ (o : Oper), ls[i]? = some o → ∀ v w', Leaves J Pf Step i w v w' →
        wpAnyH P .any ls.toArray Q S (k + f0) (listed.setIfInBounds i true) ((Upd ls.toArray vals todo a0).put o.dst v) w' := by
      intro i hit h1 o ho v w' hL
      obtain ⟨l1, l2, l3, l4⟩ := hL
      have hdst : dstOf ls.toArray i = o.dst := by unfold dstOf; rw [getL ho]; rfl
      rw [← hdst, Upd_put todo a0 hnd hit]
      have old : ∀ j, j ≠ i → upd vals i v j = vals j := fun j hj => if_neg hj
      have new : upd vals i v i = v := if_pos rfl
      have lis : ∀ j, j ≠ i → (listed.setIfInBounds i true).getD j true = listed.getD j true := fun j hj => getD_set_ne true (fun e => hj e.symm)
      have self : (listed.setIfInBounds i true).getD i true = true := by
        cases hl : (listed.setIfInBounds i true).getD i true with
        | true => rfl
        | false => exact absurd rfl (getD_true_set hl).2
      refine ih _ _ w' (by simpa using hs) ?_ ?_ ?_ l2 ?_ ?_
      · have e : (todo.filter fun j => !(listed.setIfInBounds i true).getD j true) = (todo.filter fun j => !listed.getD j true).filter fun j => j != i := by
          rw [List.filter_filter]
          apply List.filter_congr
          intro j _
          by_cases hji : j = i
          · subst hji
            rw [self]
            simp
          · rw [lis j hji]
            simp [hji]
        have nod : todo.Nodup := by
          have : ∀ l : List Nat, dstsB ls.toArray l = true → l.Nodup := by
            intro l
            induction l with
            | nil => intro _; exact List.nodup_nil
            | cons a tl iha =>
              intro h
              unfold dstsB at h
              simp only [Bool.and_eq_true, List.all_eq_true] at h
              exact List.nodup_cons.2 ⟨fun hm => (apartB_spec (h.1 a hm)).1 rfl, iha h.2⟩
          exact this todo hnd
        have hmem : i ∈ todo.filter fun j => !listed.getD j true := List.mem_filter.2 ⟨hit, by simp only [h1, Bool.not_false]⟩
        rw [e]
        have := len_filter_ne (nod.filter fun j => !listed.getD j true) hmem
        omega
      · intro j hj
        by_cases hji : j = i
        · subst hji; exact self
        · rw [lis j hji]; exact hsub j hj
      · intro j hj
        by_cases hji : j = i
        · subst hji; exact .inr hit
        · exact hsup j (by rw [← lis j hji]; exact hj)
      · intro j hj hl
        by_cases hji : j = i
        · subst hji; rw [new]; exact l3
        · rw [old j hji]
          exact hst j _ w w' l1 (hP j hj (by rw [← lis j hji]; exact hl))
      · intro a ha b hb hla hlb hne g hg hg'
        by_cases hai : a = i
        · subst hai
          rw [new] at hg
          rw [old b (fun e => hne e.symm)] at hg'
          rw [lis b (fun e => hne e.symm)] at hlb
          have h5 := hlt b _ w g (hP b hb hlb) hg'
          have h6 := l4 g hg
          omega
        · rw [old a hai] at hg
          rw [lis a hai] at hla
          by_cases hbi : b = i
          · subst hbi
            rw [new] at hg'
            have h5 := hlt a _ w g (hP a ha hla) hg
            have h6 := l4 g hg'
            omega
          · rw [old b hbi] at hg'
            rw [lis b hbi] at hlb
            exact hD a ha b hb hla hlb hne g hg hg'
    have depsOf : ∀ (i : Nat) (o : Oper), ls.toArray[i]? = some o → (∀ e ∈ o.after, Region.binds .any e = true → listed.getD e.on false = true) → depP Pf vals w (waits .any todo o) := by
      intro i o ho hdep
      refine depP_of _ fun j hj => ?_
      obtain ⟨hj1, hj2⟩ := List.mem_filter.1 hj
      obtain ⟨e, he, he2⟩ := Array.any_eq_true'.1 hj2
      simp only [Bool.and_eq_true, beq_iff_eq] at he2
      have h3 := hdep e he he2.1
      rw [he2.2] at h3
      exact hP j hj1 (getD_false_true h3)
    rw [show k + 1 + f0 = (k + f0) + 1 by omega]
    by_cases hex : ∃ i, i ∈ T ∧ i ∈ Region.ready .any ls.toArray listed
    · obtain ⟨i, hiT, hir⟩ := hex
      obtain ⟨h1, o, ho, hdep⟩ := mem_ready.1 hir
      obtain ⟨o', ho', hv⟩ := hta i hiT
      have eo : o' = o := by
        have := getL ho'
        rw [ho] at this
        exact (Option.some.inj this).symm
      subst eo
      obtain ⟨v, hy, hpf, hbk⟩ := hv vals w hS (depsOf i o' ho hdep)
      refine wpAnyH_first ho (Region.noSelect_spec hsel) (fun c a w h => hQ c a _ _ w h) (k + f0) listed _ w (fun j oj hj hne hun hno => ?_) hir hy (hJS _ hS) ?_
      · have hj' : ls[j]? = some oj := by simpa using hj
        refine freeB_spec (List.all_eq_true.1 hfr i hiT) ho' hj' hne hno (fun e he hb hej => ?_)
        have h3 := hdep e he hb
        rw [hej] at h3
        have := getD_false_true h3
        rw [hun] at this
        cases this
      · exact next i (hTt i hiT) h1 o' ho' v w ⟨hrefl w, hS, hpf, fun g hg => by rw [hbk] at hg; cases hg⟩
    · -- no operation that only computes is ready: who is ready is one of 'todo' (k + 1 > 0 of them have not come up)
      have left : ∃ j, j ∈ todo ∧ listed.getD j true = false := by
        cases hf : todo.filter fun j => !listed.getD j true with
        | nil => rw [hf] at hk; cases hk
        | cons j js =>
          have hm : j ∈ todo.filter fun j => !listed.getD j true := by rw [hf]; simp
          obtain ⟨h1, h2⟩ := List.mem_filter.1 hm
          exact ⟨j, h1, by simpa using h2⟩
      -- some operation outside T of 'todo' has not come up
      have bound : ∀ j, listed.getD j true = false → j < ls.length := by
        intro j hl
        rcases Nat.lt_or_ge j listed.size with h | h
        · omega
        · rw [Array.getD_eq_getD_getElem?, Array.getElem?_eq_none h] at hl; cases hl
      have notrest : ∀ r, r ∈ Region.ready .any ls.toArray listed → r ∉ todo → ∀ m, m ∈ todo → m ∉ T → listed.getD m true = false → False := by
        intro r
        induction r using Nat.strongRecOn with
        | _ r ihr =>
          intro hr hnt m hm hmT hmu
          obtain ⟨h1, o, ho, hdep⟩ := mem_ready.1 hr
          have ho' : ls[r]? = some o := by simpa using ho
          have hrr : r ∈ restOf listed0 todo := by
            refine List.mem_filter.2 ⟨List.mem_range.2 (by rw [hs0]; exact bound r h1), ?_⟩
            have : listed0.getD r true = false := by
              cases hl : listed0.getD r true with
              | false => rfl
              | true => rw [hsub r hl] at h1; cases h1
            simp only [this, Bool.not_false, Bool.true_and, Bool.not_eq_true']
            simpa using hnt
          have hb := List.all_eq_true.1 hbe r hrr
          simp only [ho', Bool.or_eq_true] at hb
          rcases hb with hb | hb
          · have h2 := List.all_eq_true.1 hb m (List.mem_filter.2 ⟨hm, by simpa using hmT⟩)
            obtain ⟨e, he, hh⟩ := Array.any_eq_true'.1 h2
            simp only [Bool.and_eq_true, beq_iff_eq] at hh
            have h3 := hdep e he hh.1
            rw [hh.2] at h3
            have := getD_false_true h3
            rw [hmu] at this
            cases this
          · obtain ⟨r', hr', hh⟩ := List.any_eq_true.1 hb
            simp only [Bool.and_eq_true, decide_eq_true_eq] at hh
            obtain ⟨e, he, hh2⟩ := Array.any_eq_true'.1 hh.2
            simp only [Bool.and_eq_true, beq_iff_eq] at hh2
            have h3 := hdep e he hh2.1
            rw [hh2.2] at h3
            have h4 := getD_false_true h3
            have h5 := (List.mem_filter.1 hr').2
            simp only [Bool.and_eq_true, Bool.not_eq_true', List.contains_eq_mem, decide_eq_false_iff_not] at h5
            rcases hsup r' h4 with h6 | h6
            · rw [h5.1] at h6; cases h6
            · exact h5.2 h6
      have someM : ∃ m, m ∈ todo ∧ m ∉ T ∧ listed.getD m true = false := by
        obtain ⟨j, hj, hju⟩ := left
        have least : ∀ d j, j = d → j ∈ todo → listed.getD j true = false → ∃ m, m ∈ todo ∧ m ∉ T ∧ listed.getD m true = false := by
          intro d
          induction d using Nat.strongRecOn with
          | _ d ihd =>
            intro j hjd hj hju
            by_cases hjT : j ∈ T
            · have hnr : j ∉ Region.ready .any ls.toArray listed := fun h => hex ⟨j, hjT, h⟩
              obtain ⟨o, ho⟩ : ∃ o, ls[j]? = some o := ⟨_, List.getElem?_eq_getElem (bound j hju)⟩
              have : ¬ ∀ e ∈ o.after, Region.binds .any e = true → listed.getD e.on false = true := fun hall => hnr (mem_ready.2 ⟨hju, o, getL ho, hall⟩)
              simp only [Classical.not_forall] at this
              obtain ⟨e, he, hb, hl⟩ := this
              have hlt' := downA_spec hd ho e he hb
              have hl' : listed.getD e.on true = false := by
                have hlf : listed.getD e.on false = false := by simpa using hl
                exact getD_in (by have := bound j hju; omega) hlf
              have het : e.on ∈ todo := by
                rcases Classical.em (e.on ∈ todo) with h | h
                · exact h
                · exfalso
                  have hrr : e.on ∈ restOf listed0 todo := by
                    refine List.mem_filter.2 ⟨List.mem_range.2 (by rw [hs0]; exact bound _ hl'), ?_⟩
                    have : listed0.getD e.on true = false := by
                      cases hl2 : listed0.getD e.on true with
                      | false => rfl
                      | true => rw [hsub _ hl2] at hl'; cases hl'
                    simp only [this, Bool.not_false, Bool.true_and, Bool.not_eq_true']
                    simpa using h
                  have h1 := List.all_eq_true.1 hcl j hjT
                  simp only [ho] at h1
                  have h2 := Array.all_eq_true'.1 h1 e he
                  simp only [hb, Bool.not_true, Bool.false_or, Bool.not_eq_true', List.contains_eq_mem, decide_eq_false_iff_not] at h2
                  exact h2 hrr
              exact ihd e.on (by omega) e.on rfl het hl'
            · exact ⟨j, hj, hjT, hju⟩
        exact least j j rfl hj hju
      obtain ⟨m, hm, hmT, hmu⟩ := someM
      refine ⟨fun h0 => ?_, fun i hi => ?_⟩
      · exfalso
        obtain ⟨j, hj⟩ := ready_exA (lh := listed) hd hs m m rfl (bound m hmu) hmu
        rw [h0] at hj
        cases hj
      · obtain ⟨h1, o, ho, hdep⟩ := mem_ready.1 hi
        by_cases hit : i ∈ todo
        · have hiT : i ∉ T := fun h => hex ⟨i, h, hi⟩
          obtain ⟨o', ho', hstep⟩ := hop i (List.mem_filter.2 ⟨hit, by simpa using hiT⟩)
          obtain rfl : o' = o := by rw [ho] at ho'; exact (Option.some.inj ho').symm
          refine wpOp_step ho (fun K' hK => ?_)
          refine hstep vals w hS (depsOf i o' ho hdep) K' (fun v w' hL => hK _ _ ⟨hJS _ hL.2.1, ?_⟩)
          exact next i hit h1 o' (by simpa using ho) v w' hL
        · exact (notrest i hi hit m hm hmT hmu).elim

theorem wpAnyH_rgu {ls : List Oper} (td : List (Nat × Option Tmp)) (T : List Nat) (d : Value → World → Prop) (fs : List (Nat × (Value → World → Prop))) (w2 : World) {C : World → Prop} {fuel f0 : Nat} {listed : Array Bool} {a0 : Act} {w : World}
    (hB : rgtB ls listed (td.map (·.1)) T = true) (hT : td.all (fun p => dstOf ls.toArray p.1 == p.2) = true) (hf : fuel = (td.map (·.1)).length + f0) (hb : Below w2.heap.size w2 w)
    (hC : ∀ w', Below w2.heap.size w2 w' → C w') (hQ0 : ∀ c a (d : Nat) v w, Q (.panic c) (a.put (some d) v) w → Q (.panic c) a w) (gd : Good d) (gs : goods fs)
    (hop : RgOps P .any ls.toArray Q C (pfOf d fs) w2 td a0 ((td.map (·.1)).filter fun j => !T.contains j))
    (hta : ∀ i ∈ T, ∃ o, ls[i]? = some o ∧ ∀ (vals : Nat → Value) (w : World), depP (pfOf d fs) vals w (waits .any (td.map (·.1)) o) → ∃ v, (∀ S : World → Prop, YieldsIf P ls.toArray S o v (Upd2 vals td a0)) ∧ pfOf d fs i v w ∧ blk v = none)
    (hend : ∀ vals w, Below w2.heap.size w2 w → depP (pfOf d fs) vals w (td.map (·.1)) → (∀ i ∈ td.map (·.1), ∀ j ∈ td.map (·.1), i ≠ j → ∀ g, blk (vals i) = some g → blk (vals j) ≠ some g) → wpAnyH P .any ls.toArray Q C f0 (setAll listed (td.map (·.1))) (Upd2 vals td a0) w) :
    wpAnyH P .any ls.toArray Q C fuel listed a0 w := by
  simp only [rgtB, Bool.and_eq_true, decide_eq_true_eq] at hB
  obtain ⟨⟨⟨⟨⟨⟨⟨⟨b1, b2⟩, b3⟩, b4⟩, b5⟩, b6⟩, b7⟩, b8⟩, b9⟩ := hB
  have good := pfOf_good gd fs (goods_all fs gs)
  generalize hpf : pfOf d fs = pf at *
  have e0 : Upd ls.toArray (slots ls.toArray a0) (td.map (·.1)) a0 = a0 := Upd_slots _ _ _
  have eU : ∀ vals, Upd ls.toArray vals (td.map (·.1)) a0 = Upd2 vals td a0 := fun vals => Upd2_eq td a0 hT
  generalize htd : td.map (·.1) = todo at *
  have key : wpAnyH P .any ls.toArray Q C fuel listed a0 w := by
    have hTt : ∀ i ∈ T, i ∈ todo := fun i hi => by
      have h1 := List.all_eq_true.1 b5 i hi
      rw [List.contains_eq_mem] at h1
      exact of_decide_eq_true h1
    rw [hf]
    have aux : wpAnyH P .any ls.toArray Q C (todo.length + f0) listed (Upd ls.toArray (slots ls.toArray a0) todo a0) w := ?_
    · rwa [e0] at aux
    refine wpAnyH_rgu_aux (P := P) (Q := Q) (S := C) (J := fun w' => Below w2.heap.size w2 w' ∧ C w') (Pf := pf) (Step := fun w w' => Below w.heap.size w w') (todo := todo) (T := T) (a0 := a0) (listed0 := listed) (f0 := f0)
      b1 b2 b3 b4 hTt b6 b7 b8 hQ0 (fun j u w w' hs h => (good j).st u w w' hs h) (fun j u w g h hg => (good j).lt u w g h hg) (fun w => Below.refl _ _) (fun _ h => h.2) ?_ ?_ ?_
      todo.length listed (slots ls.toArray a0) w b8 ?_ (fun _ h => h) (fun _ h => .inl h) ⟨hb, hC w hb⟩ ?_ ?_
    · intro i hi
      obtain ⟨o, ho, h⟩ := hop i hi
      refine ⟨o, ho, fun vals w1 hS hdep K' hK => ?_⟩
      rw [eU] at hK ⊢
      refine h vals w1 hS.1 hS.2 (by rw [htd]; exact hdep) K' (fun v w' hL => hK v w' ?_)
      have hb2 : Below w2.heap.size w2 w' := hS.1.trans (hL.1.mono hS.1.size)
      exact ⟨hL.1, ⟨hb2, hC w' hb2⟩, hL.2.1, hL.2.2⟩
    · intro i hi
      obtain ⟨o, ho, h⟩ := hta i hi
      refine ⟨o, ho, fun vals w1 hS hdep => ?_⟩
      rw [eU]
      obtain ⟨v, h1, h2, h3⟩ := h vals w1 hdep
      exact ⟨v, h1 _, h2, h3⟩
    · intro vals w1 hS hdep hD
      rw [eU]
      exact hend vals w1 hS.1 hdep hD
    · congr 1
      rw [List.filter_eq_self]
      intro j hj
      exact List.all_eq_true.1 b9 j hj
    · intro j hj h
      have := List.all_eq_true.1 b9 j hj
      rw [h] at this
      cases this
    · intro i hi j hj h
      have := List.all_eq_true.1 b9 i hi
      rw [h] at this
      cases this
  exact key
end
end Go.Proofs.YtebpoabflcngoaaGreatDoor

/-
  Contract: how many times a number divides another.
-/
namespace Go.Proofs.YtebpoabflcngoaaGreatDoor
open Go.RowKit
set_option linter.unusedVariables false

theorem start_nZZ0 (w : World) (s0 : Bool) (A0 : Option Addr) (n0 c0 : Nat) (s1 : Bool) (A1 : Option Addr) (n1 c1 : Nat) :
    Hid (Below w.heap.size w (((w.alloc (.cells #[.bool s0, .slice A0 n0 c0] 24)).alloc (.cells #[.bool s1, .slice A1 n1 c1] 24)).alloc (.cells #[.bool false, .slice none 0 0] 24))) ∧ Hid (Zb (((w.alloc (.cells #[.bool s0, .slice A0 n0 c0] 24)).alloc (.cells #[.bool s1, .slice A1 n1 c1] 24)).alloc (.cells #[.bool false, .slice none 0 0] 24)) (w.heap.size) s0 A0 n0 c0) ∧ Hid (Zb (((w.alloc (.cells #[.bool s0, .slice A0 n0 c0] 24)).alloc (.cells #[.bool s1, .slice A1 n1 c1] 24)).alloc (.cells #[.bool false, .slice none 0 0] 24)) (w.heap.size + 1) s1 A1 n1 c1) ∧ Hid (Zb (((w.alloc (.cells #[.bool s0, .slice A0 n0 c0] 24)).alloc (.cells #[.bool s1, .slice A1 n1 c1] 24)).alloc (.cells #[.bool false, .slice none 0 0] 24)) (w.heap.size + 2) false none 0 0) := by
  refine ⟨?_, ?_, ?_, ?_⟩
  · exact ((((Below.refl _ _).alloc (by first | exact Nat.le_refl _ | (simp; done) | (simp; omega)) _).alloc (by first | exact Nat.le_refl _ | (simp; done) | (simp; omega)) _).alloc (by first | exact Nat.le_refl _ | (simp; done) | (simp; omega)) _)
  · have := Zb.new w s0 A0 n0 c0
    exact ((this.alloc _).alloc _)
  · have := Zb.new (w.alloc (.cells #[.bool s0, .slice A0 n0 c0] 24)) s1 A1 n1 c1
    simp only [World.size_alloc] at this
    exact (this.alloc _)
  · have := Zb.new ((w.alloc (.cells #[.bool s0, .slice A0 n0 c0] 24)).alloc (.cells #[.bool s1, .slice A1 n1 c1] 24)) false none 0 0
    simp only [World.size_alloc] at this
    exact this
theorem rd_zin {w : World} {A : Option Addr} {c n : Nat} (h : Rd w A c (ofv n)) : Zin w false A (ofv n).length c (n : Int) := ⟨_, h, rfl, by rw [val_ofv]; rfl⟩
/-- Natural numbers by the functions on integers. -/
theorem dmNat {A B : Option Addr} {c d n p : Nat} {w : World} (h : Rd w A c (ofv n)) (h' : Rd w B d (ofv p)) (hl : (ofv n).length ≤ 70368744177660) (hl' : (ofv p).length ≤ 70368744177660) (hp : 0 < p) {q r : Nat} (hq : n / p = q) (hr : n % p = r) :
    Calls Tryz.prog 75 #[.agg #[.bool false, .slice A (ofv n).length c], .agg #[.bool false, .slice B (ofv p).length d]] w fun e w' => ∃ R k R' k', e = .returned (.tuple #[.agg #[.bool false, .slice R (ofv q).length k], .agg #[.bool false, .slice R' (ofv r).length k'], .bool true]) ∧ Own w' w.heap.size R k (ofv q) ∧ Own w' w.heap.size R' k' (ofv r) ∧ Below w.heap.size w w' := by
  refine (dm_z (rd_zin h) (rd_zin h') hl hl' (by omega) (q := (q : Int)) (r := (r : Int)) (by rw [← hq]; simp) (by rw [← hr]; simp)).mono ?_
  rintro e w' ⟨R, k, R', k', rfl, ho, ho2, hb⟩
  rw [Int.natAbs_natCast] at ho ho2 ⊢
  rw [Int.natAbs_natCast]
  exact ⟨R, k, R', k', by rw [show decide ((q : Int) < 0) = false from by simp, show decide ((r : Int) < 0) = false from by simp], ho, ho2, hb⟩
theorem mulNat {A B : Option Addr} {c d n p : Nat} {w : World} (h : Rd w A c (ofv n)) (h' : Rd w B d (ofv p)) (hl : (ofv n).length + (ofv p).length ≤ 70368744177660) {q : Nat} (hq : n * p = q) :
    Calls Tryz.prog 66 #[.agg #[.bool false, .slice A (ofv n).length c], .agg #[.bool false, .slice B (ofv p).length d]] w fun e w' => ∃ R k, e = .returned (.agg #[.bool false, .slice R (ofv q).length k]) ∧ Own w' w.heap.size R k (ofv q) ∧ Below w.heap.size w w' := by
  refine (mul_z (rd_zin h) (rd_zin h') (by omega) (z := (q : Int)) (by rw [← hq]; simp)).mono ?_
  rintro e w' ⟨R, k, rfl, ho, hb⟩
  rw [Int.natAbs_natCast] at ho ⊢
  exact ⟨R, k, by rw [show decide ((q : Int) < 0) = false from by simp], ho, hb⟩
theorem fromNat {v : Int} {n : Nat} (hv : v = (n : Int)) (hn : n < 9223372036854775807) (w : World) :
    Calls Tryz.prog 39 #[.int .i64 v] w fun e w' => ∃ R k, e = .returned (.agg #[.bool false, .slice R (ofv n).length k]) ∧ Own w' w.heap.size R k (ofv n) ∧ Below w.heap.size w w' := by
  refine (fromInt_z (v := v) (z := (n : Int)) (by omega) hv w).mono ?_
  rintro e w' ⟨R, k, rfl, ho, hb⟩
  rw [Int.natAbs_natCast] at ho ⊢
  exact ⟨R, k, by rw [show decide ((n : Int) < 0) = false from by simp], ho, hb⟩
theorem ret_izb {fn : Func} {R : Ending → World → Prop} {a : Act} {w : World} {k j g n c : Nat} {s : Bool} {x : Int} {A : Option Addr} (hf : fn.results = #[.tmp j, .cell k 24]) (hd : a.defers = [])
    (hj : (a.tmps[j]?).getD undef = .int .i64 x) (hk : (a.tmps[k]?).getD undef = .pointer (some ⟨g, 0, none⟩)) (h : Zb w g s A n c) (hR : R (.returned (.tuple #[.int .i64 x, .agg #[.bool s, .slice A n c]])) w) : bodyPost Tryz.prog fn R .ret a w := by
  obtain ⟨z1, z2⟩ := h.cells
  exact bodyPost_ret_by (v := .tuple #[.int .i64 x, .agg #[.bool s, .slice A n c]]) (by simp [results, hf, go_sem, hk, hj, z1, z2]) hd hR
/-- The number of factors p, and what is left. -/
def Facs (n p k r : Nat) : Prop := n = p ^ k * r ∧ ¬ p ∣ r
def GivesFac (w : World) (n p : Nat) (e : Ending) (w' : World) : Prop :=
  ∃ (k r : Nat) (R : Option Addr) (q : Nat), e = .returned (.tuple #[.int .i64 (k : Int), .agg #[.bool false, .slice R (ofv r).length q]]) ∧ Facs n p k r ∧ Rd w' R q (ofv r) ∧ Below w.heap.size w w'
theorem Facs.pos {n p k r : Nat} (h : Facs n p k r) (hn : 0 < n) : 0 < r := by
  rcases Nat.eq_zero_or_pos r with e | e
  · obtain ⟨h1, _⟩ := h; subst e; omega
  · exact e
theorem Facs.le {n p k r : Nat} (h : Facs n p k r) (hn : 0 < n) (hp : 2 ≤ p) : k ≤ 32 * (ofv n).length ∧ r ≤ n := by
  have hr := h.pos hn
  obtain ⟨h1, _⟩ := h
  have h2 : 2 ^ k ≤ p ^ k := Nat.pow_le_pow_left hp k
  have h3 : 1 ≤ p ^ k := Nat.one_le_pow _ _ (by omega)
  have h4 : p ^ k * 1 ≤ p ^ k * r := Nat.mul_le_mul_left _ hr
  have h5 : 1 * r ≤ p ^ k * r := Nat.mul_le_mul_right _ h3
  have h6 := lt_pw_len n
  have h7 : 2 ^ k < 2 ^ (32 * (ofv n).length) := by
    have : pw (ofv n).length = 2 ^ (32 * (ofv n).length) := by unfold pw; rw [Nat.pow_mul]
    omega
  exact ⟨Nat.le_of_lt ((Nat.pow_lt_pow_iff_right (by decide)).1 h7), by omega⟩
theorem wrap_two {k a : Int} (hk : 0 ≤ k ∧ k ≤ 100000000000000) (ha : 0 ≤ a ∧ a ≤ 2) : IntKind.i64.wrap (a + IntKind.i64.wrap (2 * k)) = a + 2 * k := by
  rw [IntWalk.i64_in (2 * k) (by omega), IntWalk.i64_in _ (by omega)]
theorem Facs.none {n p : Nat} (h : n % p ≠ 0) : Facs n p 0 n := ⟨by simp, fun hd => h (Nat.mod_eq_zero_of_dvd hd)⟩
theorem Facs.odd {n p k r : Nat} (h : n % p = 0) (hf : Facs (n / p) (p * p) k r) (hr : r % p ≠ 0) : Facs n p (1 + 2 * k) r := by
  obtain ⟨h1, h2⟩ := hf
  refine ⟨?_, fun hd => hr (Nat.mod_eq_zero_of_dvd hd)⟩
  have e : n = p * (n / p) := by have := Nat.div_add_mod n p; omega
  rw [e, h1, Nat.pow_add, Nat.pow_one, Nat.pow_mul, Nat.pow_two, Nat.mul_assoc]
theorem Facs.even {n p k r : Nat} (hp : 0 < p) (h : n % p = 0) (hf : Facs (n / p) (p * p) k r) (hr : r % p = 0) : Facs n p (2 + 2 * k) (r / p) := by
  obtain ⟨h1, h2⟩ := hf
  have e2 : r = p * (r / p) := by have := Nat.div_add_mod r p; omega
  refine ⟨?_, fun ⟨t, ht⟩ => h2 ⟨t, ?_⟩⟩
  · have e : n = p * (n / p) := by have := Nat.div_add_mod n p; omega
    rw [e, h1, show 2 + 2 * k = 1 + 2 * k + 1 by omega, Nat.pow_succ, Nat.pow_add, Nat.pow_one, Nat.pow_mul, Nat.pow_two, Nat.mul_assoc, Nat.mul_assoc]
    conv => lhs; rw [e2]
  · rw [e2, ht, Nat.mul_assoc]
set_option maxRecDepth 100000 in
set_option maxHeartbeats 16000000 in
theorem rf_any (n : Nat) : ∀ {p : Nat} {A B : Option Addr} {c d : Nat} {w : World}, 0 < n → 2 ≤ p → (ofv n).length ≤ 100000000000 → (ofv p).length ≤ 1000000000000 → Rd w A c (ofv n) → Rd w B d (ofv p) →
    Calls Tryz.prog 38 #[.agg #[.bool false, .slice A (ofv n).length c], .agg #[.bool false, .slice B (ofv p).length d]] w (GivesFac w n p) := by
  induction n using Nat.strongRecOn with
  | _ n ih =>
  intro p A B c d w hn hp hl hl2 h h'
  obtain ⟨B1, V0, V1, V2⟩ := start_nZZ0 w false A (ofv n).length c false B (ofv p).length d
  have RN := Lib.hid (h.below B1.out)
  have RP := Lib.hid (h'.below B1.out)
  obtain ⟨q, hq⟩ : ∃ q, n / p = q := ⟨_, rfl⟩
  obtain ⟨r, hr⟩ : ∃ r, n % p = r := ⟨_, rfl⟩
  have HQ := Lib.hid hq
  have HR := Lib.hid hr
  have LN : Hid ((ofv n).length ≤ 70368744177660) := Nat.le_trans hl (by decide)
  have LP : Hid ((ofv p).length ≤ 70368744177660) := Nat.le_trans hl2 (by decide)
  have P0 : Hid (0 < p) := by show _ < _; omega
  by_cases hz : r = 0
  · have hqn : q < n := by rw [← hq]; exact Nat.div_lt_self hn hp
    have hpn : p ≤ n := Nat.le_of_dvd hn (Nat.dvd_of_mod_eq_zero (by rw [hr]; exact hz))
    have hq0 : 0 < q := by rw [← hq]; exact Nat.div_pos hpn (by omega)
    obtain ⟨p2, hp2⟩ : ∃ p2, p * p = p2 := ⟨_, rfl⟩
    have lq : (ofv q).length ≤ 100000000000 := Nat.le_trans (len_mono (Nat.le_of_lt hqn)) hl
    have lpn : (ofv p).length ≤ 100000000000 := Nat.le_trans (len_mono hpn) hl
    have lp2 : (ofv p2).length ≤ 1000000000000 := by rw [← hp2]; exact Nat.le_trans (len_mul p p) (by omega)
    have hp22 : 2 ≤ p2 := by rw [← hp2]; exact Nat.le_trans hp (Nat.le_mul_of_pos_left _ (by omega))
    have IH := Lib.hid (fun (A B : Option Addr) (c d : Nat) (w : World) => ih q hqn (p := p2) (A := A) (B := B) (c := c) (d := d) (w := w) hq0 hp22 lq lp2)
    have HP2 := Lib.hid hp2
    have LPP : Hid ((ofv p).length + (ofv p).length ≤ 70368744177660) := by show _ ≤ _; omega
    have S0 : Hid (sg (r : Int) = 0) := by show _ = _; rw [hz]; rfl
    have HM : Hid (n % p = 0) := by show _ = _; rw [hr]; exact hz
    have Q0 := Lib.hid hq0
    have P22 := Lib.hid hp22
    have LQ := Lib.hid lq
    clear h h' hn hp hl hl2 hq hr hz ih hqn hpn hq0 hp2 lq lpn lp2 hp22
    go_enter Tryz.func38, Tryz.ntmps38
    go_wp2_with fail
    refine (dmNat RN.out RP.out LN.out LP.out P0.out HQ.out HR.out).mono ?_
    rintro e w3 ⟨P3, k3, P4, k4, rfl, ho, ho2, hb⟩
    replace V0 := Lib.hid (V0.out.below hb V0.out.lt)
    replace V1 := Lib.hid (V1.out.below hb V1.out.lt)
    replace V2 := Lib.hid (V2.out.below hb V2.out.lt)
    replace RN := Lib.hid (RN.out.below hb)
    replace RP := Lib.hid (RP.out.below hb)
    replace B1 := Lib.hid (B1.out.trans (hb.mono B1.out.size))
    have RQ := Lib.hid ho.rd
    have RR := Lib.hid ho2.rd
    clear ho ho2
    clear hb
    have L3 : Hid (w.heap.size + 2 < w3.heap.size) := V2.out.lt
    have hb : Below w3.heap.size w3 (w3.alloc (.cells #[.bool false, .slice P3 (ofv q).length k3] 24)) := (Below.refl _ _).alloc (Nat.le_refl _) _
    replace V0 := Lib.hid (V0.out.below hb V0.out.lt)
    replace V1 := Lib.hid (V1.out.below hb V1.out.lt)
    replace V2 := Lib.hid (V2.out.below hb V2.out.lt)
    replace RN := Lib.hid (RN.out.below hb)
    replace RP := Lib.hid (RP.out.below hb)
    replace RQ := Lib.hid (RQ.out.below hb)
    replace RR := Lib.hid (RR.out.below hb)
    replace B1 := Lib.hid (B1.out.trans (hb.mono B1.out.size))
    have V3 := Lib.hid (Zb.new w3 false P3 (ofv q).length k3)
    clear hb
    have hb : Below (w3.alloc (.cells #[.bool false, .slice P3 (ofv q).length k3] 24)).heap.size (w3.alloc (.cells #[.bool false, .slice P3 (ofv q).length k3] 24)) ((w3.alloc (.cells #[.bool false, .slice P3 (ofv q).length k3] 24)).alloc (.cells #[.bool false, .slice P4 (ofv r).length k4] 24)) := (Below.refl _ _).alloc (Nat.le_refl _) _
    replace V0 := Lib.hid (V0.out.below hb V0.out.lt)
    replace V1 := Lib.hid (V1.out.below hb V1.out.lt)
    replace V2 := Lib.hid (V2.out.below hb V2.out.lt)
    replace RN := Lib.hid (RN.out.below hb)
    replace RP := Lib.hid (RP.out.below hb)
    replace RQ := Lib.hid (RQ.out.below hb)
    replace RR := Lib.hid (RR.out.below hb)
    replace V3 := Lib.hid (V3.out.below hb V3.out.lt)
    replace B1 := Lib.hid (B1.out.trans (hb.mono B1.out.size))
    have V4 := Lib.hid (Zb.new (w3.alloc (.cells #[.bool false, .slice P3 (ofv q).length k3] 24)) false P4 (ofv r).length k4)
    have hsz : (w3.alloc (.cells #[.bool false, .slice P3 (ofv q).length k3] 24)).heap.size = w3.heap.size + 1 := by simp
    rw [hsz] at V4
    clear hb hsz
    go_wp2_with fail
    generalize ((w3.alloc (.cells #[.bool false, .slice P3 (ofv q).length k3] 24)).alloc (.cells #[.bool false, .slice P4 (ofv r).length k4] 24)) = w4 at *
    generalize w3.heap.size = g3 at *
    refine (sign_k (r := 0) (rd_zin RR.out) S0.out).mono ?_
    rintro e w5 ⟨rfl, hb⟩
    replace V0 := Lib.hid (V0.out.below hb V0.out.lt)
    replace V1 := Lib.hid (V1.out.below hb V1.out.lt)
    replace V2 := Lib.hid (V2.out.below hb V2.out.lt)
    replace RN := Lib.hid (RN.out.below hb)
    replace RP := Lib.hid (RP.out.below hb)
    replace RQ := Lib.hid (RQ.out.below hb)
    replace RR := Lib.hid (RR.out.below hb)
    replace V3 := Lib.hid (V3.out.below hb V3.out.lt)
    replace V4 := Lib.hid (V4.out.below hb V4.out.lt)
    replace B1 := Lib.hid (B1.out.trans (hb.mono B1.out.size))
    clear hb
    go_wp2_with fail
    have HB : Hid (Below w5.heap.size w5 w5.drew) := below_drewN _ w5 1
    refine wp_region_held_drew (S := fun w' => w5.grownBy w' (some (w.heap.size + 2))) (by kernel_rfl) ((grown_below HB.out : World.grownBy _ _ (some (w.heap.size + 2)))) (fun hHeld => ?_)
    refine wpAnyH_takeL (i := 0) (oi := _) rfl (by kernel_rfl) (by kernel_rfl) (by kernel_rfl) (fun _ _ _ h => h) (yields_ldZ (by rfl) _ rfl (by rfl) (fun _ hb => V3.out.gr hb (by have := L3.out; omega))) hHeld ?_
    try simp only [Act.put, List.setIfInBounds_toArray, List.set_cons_zero, List.set_cons_succ]
    refine wpAnyH_takeL (i := 1) (oi := _) rfl (by kernel_rfl) (by kernel_rfl) (by kernel_rfl) (fun _ _ _ h => h) (yields_ldZ (by rfl) _ rfl (by rfl) (fun _ hb => V1.out.gr hb (by have := L3.out; omega))) hHeld ?_
    try simp only [Act.put, List.setIfInBounds_toArray, List.set_cons_zero, List.set_cons_succ]
    refine wpAnyH_takeL (i := 2) (oi := _) rfl (by kernel_rfl) (by kernel_rfl) (by kernel_rfl) (fun _ _ _ h => h) (yields_ldZ (by rfl) _ rfl (by rfl) (fun _ hb => V1.out.gr hb (by have := L3.out; omega))) hHeld ?_
    try simp only [Act.put, List.setIfInBounds_toArray, List.set_cons_zero, List.set_cons_succ]
    refine wpAnyH_ready (rs := [3]) (by kernel_rfl) (by simp) ?_
    refine AllReadyH.consL (o := _) rfl (fun K hK => ?_) AllReadyH.nil
    clear hHeld
    go_simp
    go_at_call 66
    refine Calls.mono (mulNat (RP.out.below HB.out) (RP.out.below HB.out) LPP.out HP2.out) ?_
    rintro e w6 ⟨P5, k5, rfl, ho, hb⟩
    replace HB := Lib.hid (HB.out.trans (hb.mono HB.out.size))
    have RM := Lib.hid ho.rd
    clear ho
    clear hb
    refine hK.out _ _ (grown_below HB.out : World.grownBy _ _ (some (w.heap.size + 2))) (fun hHeld => ?_)
    clear hK K
    try simp only [Act.put, List.setIfInBounds_toArray, List.set_cons_zero, List.set_cons_succ]
    refine wpAnyH_ready (rs := [4]) (by kernel_rfl) (by simp) ?_
    refine AllReadyH.consL (o := _) rfl (fun K hK => ?_) AllReadyH.nil
    clear hHeld
    go_simp
    go_at_call 38
    refine Calls.mono (IH.out _ _ _ _ _ (RQ.out.below HB.out) RM.out) ?_
    rintro e w7 ⟨kk, rr, P6, k6, rfl, hf, hr, hb⟩
    replace HB := Lib.hid (HB.out.trans (hb.mono HB.out.size))
    have RS := Lib.hid hr
    have FC := Lib.hid hf
    clear hr hf RM
    clear hb
    refine hK.out _ _ (grown_below HB.out : World.grownBy _ _ (some (w.heap.size + 2))) (fun hHeld => ?_)
    clear hK K
    try simp only [Act.put, List.setIfInBounds_toArray, List.set_cons_zero, List.set_cons_succ]
    refine wpAnyH_takeL (i := 5) (oi := _) (v := ?_) rfl (by kernel_rfl) (by kernel_rfl) (by kernel_rfl) (fun _ _ _ h => h) (Or.inl ⟨by rfl, ?_⟩) hHeld ?_
    rotate_left
    · (intro w' hSw; (try dsimp only at hSw); go_simp; try (with_reducible rfl))
    try simp only [Act.put, List.setIfInBounds_toArray, List.set_cons_zero, List.set_cons_succ]
    refine wpAnyH_takeL (i := 6) (oi := _) (v := ?_) rfl (by kernel_rfl) (by kernel_rfl) (by kernel_rfl) (fun _ _ _ h => h) (Or.inl ⟨by rfl, ?_⟩) hHeld ?_
    rotate_left
    · (intro w' hSw; (try dsimp only at hSw); go_simp; try (with_reducible rfl))
    try simp only [Act.put, List.setIfInBounds_toArray, List.set_cons_zero, List.set_cons_succ]
    refine wpAnyH_takeL (i := 7) (oi := _) (v := ?_) rfl (by kernel_rfl) (by kernel_rfl) (by kernel_rfl) (fun _ _ _ h => h) (Or.inl ⟨by rfl, ?_⟩) hHeld ?_
    rotate_left
    · (intro w' hSw; (try dsimp only at hSw); go_simp; try (with_reducible rfl))
    try simp only [Act.put, List.setIfInBounds_toArray, List.set_cons_zero, List.set_cons_succ]
    refine wpAnyH_takeL (i := 8) (oi := _) (v := ?_) rfl (by kernel_rfl) (by kernel_rfl) (by kernel_rfl) (fun _ _ _ h => h) (Or.inl ⟨by rfl, ?_⟩) hHeld ?_
    rotate_left
    · (intro w' hSw; (try dsimp only at hSw); go_simp; try (with_reducible rfl))
    try simp only [Act.put, List.setIfInBounds_toArray, List.set_cons_zero, List.set_cons_succ]
    refine wpAnyH_ready (rs := [9]) (by kernel_rfl) (by simp) ?_
    refine AllReadyH.consL (o := _) rfl (fun K hK => ?_) AllReadyH.nil
    clear hHeld
    have hb := HB.out
    replace V0 := Lib.hid (V0.out.below hb V0.out.lt)
    replace V1 := Lib.hid (V1.out.below hb V1.out.lt)
    replace V2 := Lib.hid (V2.out.below hb V2.out.lt)
    replace RN := Lib.hid (RN.out.below hb)
    replace RP := Lib.hid (RP.out.below hb)
    replace RQ := Lib.hid (RQ.out.below hb)
    replace RR := Lib.hid (RR.out.below hb)
    replace V3 := Lib.hid (V3.out.below hb V3.out.lt)
    replace V4 := Lib.hid (V4.out.below hb V4.out.lt)
    replace B1 := Lib.hid (B1.out.trans (hb.mono B1.out.size))
    rw [if_pos (by rfl)]
    refine wp_stZ _ _ rfl (by rfl) (by rfl) V2.out ?_
    intro w8 hz hg
    replace V0 := Lib.hid (V0.out.gr hg (by have := L3.out; omega))
    replace V1 := Lib.hid (V1.out.gr hg (by have := L3.out; omega))
    replace RN := Lib.hid (RN.out.gr V2.out hg)
    replace RP := Lib.hid (RP.out.gr V2.out hg)
    replace RQ := Lib.hid (RQ.out.gr V2.out hg)
    replace RR := Lib.hid (RR.out.gr V2.out hg)
    replace V3 := Lib.hid (V3.out.gr hg (by have := L3.out; omega))
    replace V4 := Lib.hid (V4.out.gr hg (by have := L3.out; omega))
    replace RS := Lib.hid (RS.out.gr V2.out hg)
    replace B1 := Lib.hid (Below.gr B1.out (by have := L3.out; omega) hg B1.out.size)
    replace V2 := Lib.hid hz
    refine hK.out _ _ (World.grownBy.trans (grown_below hb) hg) (fun hHeld => ?_)
    clear hK K hg hb HB hz
    try simp only [Act.put]
    skip
    refine wpAnyH_done (by kernel_rfl) ?_ _
    clear hHeld
    obtain ⟨hk, hrr⟩ := FC.out.le Q0.out P22.out
    have KB : ((kk : Nat) : Int) ≤ 100000000000000 := by have := LQ.out; omega
    have LS : Hid ((ofv rr).length ≤ 70368744177660) := Nat.le_trans (len_mono hrr) (Nat.le_trans LQ.out (by decide))
    obtain ⟨q2, hq2⟩ : ∃ q2, rr / p = q2 := ⟨_, rfl⟩
    obtain ⟨r2, hr2⟩ : ∃ r2, rr % p = r2 := ⟨_, rfl⟩
    have HQ2 := Lib.hid hq2
    have HR2 := Lib.hid hr2
    clear hk hrr hq2
    have FK : Hid (Facs (n / p) (p * p) kk rr) := by show Facs _ _ _ _; rw [HQ.out, HP2.out]; exact FC.out
    by_cases hx : r2 = 0
    · have S2 : Hid (sg (r2 : Int) = 0) := by show _ = _; rw [hx]; rfl
      have HX : Hid (rr % p = 0) := by show _ = _; rw [hr2]; exact hx
      clear hx hr2
      have pc0 := Lib.hid trivial
      go_wp2_with (first
        | (clear pc0; refine wpList_ldZ (by rfl) _ rfl (by rfl) V2.out ?_; have pc1 := Lib.hid trivial)
        | (clear pc1; refine wpList_ldZ (by rfl) _ rfl (by rfl) V1.out ?_; have pc2 := Lib.hid trivial)
        | (clear pc2; go_at_call 75; refine Calls.mono (dmNat RS.out RP.out LS.out LP.out P0.out HQ2.out HR2.out) ?_; rintro e w9 ⟨P7, k7, P8, k8, rfl, ho, ho2, hb⟩; replace V0 := Lib.hid (V0.out.below hb V0.out.lt); replace V1 := Lib.hid (V1.out.below hb V1.out.lt); replace V2 := Lib.hid (V2.out.below hb V2.out.lt); replace RN := Lib.hid (RN.out.below hb); replace RP := Lib.hid (RP.out.below hb); replace RQ := Lib.hid (RQ.out.below hb); replace RR := Lib.hid (RR.out.below hb); replace V3 := Lib.hid (V3.out.below hb V3.out.lt); replace V4 := Lib.hid (V4.out.below hb V4.out.lt); replace RS := Lib.hid (RS.out.below hb); replace B1 := Lib.hid (B1.out.trans (hb.mono B1.out.size)); have RQ2 := Lib.hid ho.rd; have RR2 := Lib.hid ho2.rd; clear ho ho2; clear hb; have pc3 := Lib.hid trivial)
        | (clear pc3; refine wpList_stZ (by rfl) _ _ rfl (by rfl) (by rfl) V3.out ?_; intro w10 hz hg; replace V0 := Lib.hid (V0.out.gr hg (by have := L3.out; omega)); replace V1 := Lib.hid (V1.out.gr hg (by have := L3.out; omega)); replace V2 := Lib.hid (V2.out.gr hg (by have := L3.out; omega)); replace RN := Lib.hid (RN.out.gr V3.out hg); replace RP := Lib.hid (RP.out.gr V3.out hg); replace RQ := Lib.hid (RQ.out.gr V3.out hg); replace RR := Lib.hid (RR.out.gr V3.out hg); replace V4 := Lib.hid (V4.out.gr hg (by have := L3.out; omega)); replace RS := Lib.hid (RS.out.gr V3.out hg); replace RQ2 := Lib.hid (RQ2.out.gr V3.out hg); replace RR2 := Lib.hid (RR2.out.gr V3.out hg); replace B1 := Lib.hid (Below.gr B1.out (by have := L3.out; omega) hg B1.out.size); replace V3 := Lib.hid hz; clear hz hg; have pc4 := Lib.hid trivial)
        | (clear pc4; refine wpList_stZ (by rfl) _ _ rfl (by rfl) (by rfl) V4.out ?_; intro w11 hz hg; replace V0 := Lib.hid (V0.out.gr hg (by have := L3.out; omega)); replace V1 := Lib.hid (V1.out.gr hg (by have := L3.out; omega)); replace V2 := Lib.hid (V2.out.gr hg (by have := L3.out; omega)); replace RN := Lib.hid (RN.out.gr V4.out hg); replace RP := Lib.hid (RP.out.gr V4.out hg); replace RQ := Lib.hid (RQ.out.gr V4.out hg); replace RR := Lib.hid (RR.out.gr V4.out hg); replace V3 := Lib.hid (V3.out.gr hg (by have := L3.out; omega)); replace RS := Lib.hid (RS.out.gr V4.out hg); replace RQ2 := Lib.hid (RQ2.out.gr V4.out hg); replace RR2 := Lib.hid (RR2.out.gr V4.out hg); replace B1 := Lib.hid (Below.gr B1.out (by have := L3.out; omega) hg B1.out.size); replace V4 := Lib.hid hz; clear hz hg; have pc5 := Lib.hid trivial)
        | (clear pc5; refine wpList_ldZ (by rfl) _ rfl (by rfl) V4.out ?_; have pc6 := Lib.hid trivial)
        | (clear pc6; go_at_call 32; refine Calls.mono (sign_k (r := 0) (rd_zin RR2.out) S2.out) ?_; rintro e w12 ⟨rfl, hb⟩; replace V0 := Lib.hid (V0.out.below hb V0.out.lt); replace V1 := Lib.hid (V1.out.below hb V1.out.lt); replace V2 := Lib.hid (V2.out.below hb V2.out.lt); replace RN := Lib.hid (RN.out.below hb); replace RP := Lib.hid (RP.out.below hb); replace RQ := Lib.hid (RQ.out.below hb); replace RR := Lib.hid (RR.out.below hb); replace V3 := Lib.hid (V3.out.below hb V3.out.lt); replace V4 := Lib.hid (V4.out.below hb V4.out.lt); replace RS := Lib.hid (RS.out.below hb); replace RQ2 := Lib.hid (RQ2.out.below hb); replace RR2 := Lib.hid (RR2.out.below hb); replace B1 := Lib.hid (B1.out.trans (hb.mono B1.out.size)); clear hb; have pc7 := Lib.hid trivial))
      clear pc7
      have HB : Hid (Below w12.heap.size w12 w12.drew) := below_drewN _ w12 1
      refine wp_region_held_drew (S := fun w' => w12.grownBy w' (some (w.heap.size + 2))) (by kernel_rfl) ((grown_below HB.out : World.grownBy _ _ (some (w.heap.size + 2)))) (fun hHeld => ?_)
      refine wpAnyH_takeL (i := 0) (oi := _) (v := ?_) rfl (by kernel_rfl) (by kernel_rfl) (by kernel_rfl) (fun _ _ _ h => h) (Or.inl ⟨by rfl, ?_⟩) hHeld ?_
      rotate_left
      · (intro w' hSw; (try dsimp only at hSw); go_simp; try (with_reducible rfl))
      try simp only [Act.put, List.setIfInBounds_toArray, List.set_cons_zero, List.set_cons_succ]
      refine wpAnyH_takeL (i := 1) (oi := _) (v := ?_) rfl (by kernel_rfl) (by kernel_rfl) (by kernel_rfl) (fun _ _ _ h => h) (Or.inl ⟨by rfl, ?_⟩) hHeld ?_
      rotate_left
      · (intro w' hSw; (try dsimp only at hSw); go_simp; try (with_reducible rfl))
      try simp only [Act.put, List.setIfInBounds_toArray, List.set_cons_zero, List.set_cons_succ]
      refine wpAnyH_takeL (i := 2) (oi := _) (v := ?_) rfl (by kernel_rfl) (by kernel_rfl) (by kernel_rfl) (fun _ _ _ h => h) (Or.inl ⟨by rfl, ?_⟩) hHeld ?_
      rotate_left
      · (intro w' hSw; (try dsimp only at hSw); go_simp; try (with_reducible rfl))
      try simp only [Act.put, List.setIfInBounds_toArray, List.set_cons_zero, List.set_cons_succ]
      refine wpAnyH_takeL (i := 3) (oi := _) rfl (by kernel_rfl) (by kernel_rfl) (by kernel_rfl) (fun _ _ _ h => h) (yields_ldZ (by rfl) _ rfl (by rfl) (fun _ hb => V3.out.gr hb (by have := L3.out; omega))) hHeld ?_
      try simp only [Act.put, List.setIfInBounds_toArray, List.set_cons_zero, List.set_cons_succ]
      refine wpAnyH_takeL (i := 4) (oi := _) (v := ?_) rfl (by kernel_rfl) (by kernel_rfl) (by kernel_rfl) (fun _ _ _ h => h) (Or.inl ⟨by rfl, ?_⟩) hHeld ?_
      rotate_left
      · (intro w' hSw; (try dsimp only at hSw); go_simp; try (with_reducible rfl))
      try simp only [Act.put, List.setIfInBounds_toArray, List.set_cons_zero, List.set_cons_succ]
      refine wpAnyH_ready (rs := [5]) (by kernel_rfl) (by simp) ?_
      refine AllReadyH.consL (o := _) rfl (fun K hK => ?_) AllReadyH.nil
      clear hHeld
      have hb := HB.out
      replace V0 := Lib.hid (V0.out.below hb V0.out.lt)
      replace V1 := Lib.hid (V1.out.below hb V1.out.lt)
      replace V2 := Lib.hid (V2.out.below hb V2.out.lt)
      replace RN := Lib.hid (RN.out.below hb)
      replace RP := Lib.hid (RP.out.below hb)
      replace RQ := Lib.hid (RQ.out.below hb)
      replace RR := Lib.hid (RR.out.below hb)
      replace V3 := Lib.hid (V3.out.below hb V3.out.lt)
      replace V4 := Lib.hid (V4.out.below hb V4.out.lt)
      replace RS := Lib.hid (RS.out.below hb)
      replace RQ2 := Lib.hid (RQ2.out.below hb)
      replace RR2 := Lib.hid (RR2.out.below hb)
      replace B1 := Lib.hid (B1.out.trans (hb.mono B1.out.size))
      rw [if_pos (by rfl)]
      refine wp_stZ _ _ rfl (by rfl) (by rfl) V2.out ?_
      intro w13 hz hg
      replace V0 := Lib.hid (V0.out.gr hg (by have := L3.out; omega))
      replace V1 := Lib.hid (V1.out.gr hg (by have := L3.out; omega))
      replace RN := Lib.hid (RN.out.gr V2.out hg)
      replace RP := Lib.hid (RP.out.gr V2.out hg)
      replace RQ := Lib.hid (RQ.out.gr V2.out hg)
      replace RR := Lib.hid (RR.out.gr V2.out hg)
      replace V3 := Lib.hid (V3.out.gr hg (by have := L3.out; omega))
      replace V4 := Lib.hid (V4.out.gr hg (by have := L3.out; omega))
      replace RS := Lib.hid (RS.out.gr V2.out hg)
      replace RQ2 := Lib.hid (RQ2.out.gr V2.out hg)
      replace RR2 := Lib.hid (RR2.out.gr V2.out hg)
      replace B1 := Lib.hid (Below.gr B1.out (by have := L3.out; omega) hg B1.out.size)
      replace V2 := Lib.hid hz
      refine hK.out _ _ (World.grownBy.trans (grown_below hb) hg) (fun hHeld => ?_)
      clear hK K hg hb HB hz
      try simp only [Act.put]
      skip
      refine wpAnyH_done (by kernel_rfl) ?_ _
      clear hHeld
      go_wp2
      exact ret_izb Tryz.results38 rfl rfl rfl V2.out ⟨2 + 2 * kk, q2, _, _, by simp [wrap_two (a := 2) (k := ((kk : Nat) : Int)) ⟨Int.natCast_nonneg _, KB⟩ ⟨by decide, by decide⟩], by rw [← HQ2.out]; exact Facs.even P0.out HM.out FK.out HX.out, RQ2.out, B1.out⟩
    · have S2 : Hid (sg (r2 : Int) = 1) := by show _ = _; rcases sg_cases (r2 : Int) with ⟨e, h1⟩ | ⟨e, h1⟩ | ⟨e, h1⟩ <;> first | exact e | omega
      have HX : Hid (rr % p ≠ 0) := by show _ ≠ _; rw [hr2]; exact hx
      clear hx hr2
      have pc0 := Lib.hid trivial
      go_wp2_with (first
        | (clear pc0; refine wpList_ldZ (by rfl) _ rfl (by rfl) V2.out ?_; have pc1 := Lib.hid trivial)
        | (clear pc1; refine wpList_ldZ (by rfl) _ rfl (by rfl) V1.out ?_; have pc2 := Lib.hid trivial)
        | (clear pc2; go_at_call 75; refine Calls.mono (dmNat RS.out RP.out LS.out LP.out P0.out HQ2.out HR2.out) ?_; rintro e w9 ⟨P7, k7, P8, k8, rfl, ho, ho2, hb⟩; replace V0 := Lib.hid (V0.out.below hb V0.out.lt); replace V1 := Lib.hid (V1.out.below hb V1.out.lt); replace V2 := Lib.hid (V2.out.below hb V2.out.lt); replace RN := Lib.hid (RN.out.below hb); replace RP := Lib.hid (RP.out.below hb); replace RQ := Lib.hid (RQ.out.below hb); replace RR := Lib.hid (RR.out.below hb); replace V3 := Lib.hid (V3.out.below hb V3.out.lt); replace V4 := Lib.hid (V4.out.below hb V4.out.lt); replace RS := Lib.hid (RS.out.below hb); replace B1 := Lib.hid (B1.out.trans (hb.mono B1.out.size)); have RQ2 := Lib.hid ho.rd; have RR2 := Lib.hid ho2.rd; clear ho ho2; clear hb; have pc3 := Lib.hid trivial)
        | (clear pc3; refine wpList_stZ (by rfl) _ _ rfl (by rfl) (by rfl) V3.out ?_; intro w10 hz hg; replace V0 := Lib.hid (V0.out.gr hg (by have := L3.out; omega)); replace V1 := Lib.hid (V1.out.gr hg (by have := L3.out; omega)); replace V2 := Lib.hid (V2.out.gr hg (by have := L3.out; omega)); replace RN := Lib.hid (RN.out.gr V3.out hg); replace RP := Lib.hid (RP.out.gr V3.out hg); replace RQ := Lib.hid (RQ.out.gr V3.out hg); replace RR := Lib.hid (RR.out.gr V3.out hg); replace V4 := Lib.hid (V4.out.gr hg (by have := L3.out; omega)); replace RS := Lib.hid (RS.out.gr V3.out hg); replace RQ2 := Lib.hid (RQ2.out.gr V3.out hg); replace RR2 := Lib.hid (RR2.out.gr V3.out hg); replace B1 := Lib.hid (Below.gr B1.out (by have := L3.out; omega) hg B1.out.size); replace V3 := Lib.hid hz; clear hz hg; have pc4 := Lib.hid trivial)
        | (clear pc4; refine wpList_stZ (by rfl) _ _ rfl (by rfl) (by rfl) V4.out ?_; intro w11 hz hg; replace V0 := Lib.hid (V0.out.gr hg (by have := L3.out; omega)); replace V1 := Lib.hid (V1.out.gr hg (by have := L3.out; omega)); replace V2 := Lib.hid (V2.out.gr hg (by have := L3.out; omega)); replace RN := Lib.hid (RN.out.gr V4.out hg); replace RP := Lib.hid (RP.out.gr V4.out hg); replace RQ := Lib.hid (RQ.out.gr V4.out hg); replace RR := Lib.hid (RR.out.gr V4.out hg); replace V3 := Lib.hid (V3.out.gr hg (by have := L3.out; omega)); replace RS := Lib.hid (RS.out.gr V4.out hg); replace RQ2 := Lib.hid (RQ2.out.gr V4.out hg); replace RR2 := Lib.hid (RR2.out.gr V4.out hg); replace B1 := Lib.hid (Below.gr B1.out (by have := L3.out; omega) hg B1.out.size); replace V4 := Lib.hid hz; clear hz hg; have pc5 := Lib.hid trivial)
        | (clear pc5; refine wpList_ldZ (by rfl) _ rfl (by rfl) V4.out ?_; have pc6 := Lib.hid trivial)
        | (clear pc6; go_at_call 32; refine Calls.mono (sign_k (r := 1) (rd_zin RR2.out) S2.out) ?_; rintro e w12 ⟨rfl, hb⟩; replace V0 := Lib.hid (V0.out.below hb V0.out.lt); replace V1 := Lib.hid (V1.out.below hb V1.out.lt); replace V2 := Lib.hid (V2.out.below hb V2.out.lt); replace RN := Lib.hid (RN.out.below hb); replace RP := Lib.hid (RP.out.below hb); replace RQ := Lib.hid (RQ.out.below hb); replace RR := Lib.hid (RR.out.below hb); replace V3 := Lib.hid (V3.out.below hb V3.out.lt); replace V4 := Lib.hid (V4.out.below hb V4.out.lt); replace RS := Lib.hid (RS.out.below hb); replace RQ2 := Lib.hid (RQ2.out.below hb); replace RR2 := Lib.hid (RR2.out.below hb); replace B1 := Lib.hid (B1.out.trans (hb.mono B1.out.size)); clear hb; have pc7 := Lib.hid trivial))
      clear pc7
      have hb := below_drewN w12.heap.size w12 1
      replace V0 := Lib.hid (V0.out.below hb V0.out.lt)
      replace V1 := Lib.hid (V1.out.below hb V1.out.lt)
      replace V2 := Lib.hid (V2.out.below hb V2.out.lt)
      replace RN := Lib.hid (RN.out.below hb)
      replace RP := Lib.hid (RP.out.below hb)
      replace RQ := Lib.hid (RQ.out.below hb)
      replace RR := Lib.hid (RR.out.below hb)
      replace V3 := Lib.hid (V3.out.below hb V3.out.lt)
      replace V4 := Lib.hid (V4.out.below hb V4.out.lt)
      replace RS := Lib.hid (RS.out.below hb)
      replace RQ2 := Lib.hid (RQ2.out.below hb)
      replace RR2 := Lib.hid (RR2.out.below hb)
      replace B1 := Lib.hid (B1.out.trans (hb.mono B1.out.size))
      clear hb
      refine wp_region_held_drew (S := fun w' => Zb w' (w.heap.size + 2) false P6 (ofv rr).length k6) (by kernel_rfl) V2.out (fun hHeld => ?_)
      refine wpAnyH_takeL (i := 0) (oi := _) (v := ?_) rfl (by kernel_rfl) (by kernel_rfl) (by kernel_rfl) (fun _ _ _ h => h) (Or.inl ⟨by rfl, ?_⟩) hHeld ?_
      rotate_left
      · (intro w' hSw; (try dsimp only at hSw); go_simp; try (with_reducible rfl))
      try simp only [Act.put, List.setIfInBounds_toArray, List.set_cons_zero, List.set_cons_succ]
      refine wpAnyH_takeL (i := 1) (oi := _) (v := ?_) rfl (by kernel_rfl) (by kernel_rfl) (by kernel_rfl) (fun _ _ _ h => h) (Or.inl ⟨by rfl, ?_⟩) hHeld ?_
      rotate_left
      · (intro w' hSw; (try dsimp only at hSw); go_simp; try (with_reducible rfl))
      try simp only [Act.put, List.setIfInBounds_toArray, List.set_cons_zero, List.set_cons_succ]
      refine wpAnyH_takeL (i := 2) (oi := _) (v := ?_) rfl (by kernel_rfl) (by kernel_rfl) (by kernel_rfl) (fun _ _ _ h => h) (Or.inl ⟨by rfl, ?_⟩) hHeld ?_
      rotate_left
      · (intro w' hSw; (try dsimp only at hSw); go_simp; try (with_reducible rfl))
      try simp only [Act.put, List.setIfInBounds_toArray, List.set_cons_zero, List.set_cons_succ]
      refine wpAnyH_takeL (i := 3) (oi := _) rfl (by kernel_rfl) (by kernel_rfl) (by kernel_rfl) (fun _ _ _ h => h) (yields_ldZ (by rfl) _ rfl (by rfl) (fun _ hS => hS)) hHeld ?_
      try simp only [Act.put, List.setIfInBounds_toArray, List.set_cons_zero, List.set_cons_succ]
      refine wpAnyH_takeL (i := 4) (oi := _) (v := ?_) rfl (by kernel_rfl) (by kernel_rfl) (by kernel_rfl) (fun _ _ _ h => h) (Or.inl ⟨by rfl, ?_⟩) hHeld ?_
      rotate_left
      · (intro w' hSw; (try dsimp only at hSw); go_simp; try (with_reducible rfl))
      try simp only [Act.put, List.setIfInBounds_toArray, List.set_cons_zero, List.set_cons_succ]
      refine wpAnyH_ready (rs := [5]) (by kernel_rfl) (by simp) ?_
      refine AllReadyH.consL (o := _) rfl (fun K hK => ?_) AllReadyH.nil
      clear hHeld
      rw [if_pos (by rfl)]
      refine wp_stZ _ _ rfl (by rfl) (by rfl) V2.out ?_
      intro ws0 hz hg
      replace V0 := Lib.hid (V0.out.gr hg (by have := L3.out; omega))
      replace V1 := Lib.hid (V1.out.gr hg (by have := L3.out; omega))
      replace RN := Lib.hid (RN.out.gr V2.out hg)
      replace RP := Lib.hid (RP.out.gr V2.out hg)
      replace RQ := Lib.hid (RQ.out.gr V2.out hg)
      replace RR := Lib.hid (RR.out.gr V2.out hg)
      replace V3 := Lib.hid (V3.out.gr hg (by have := L3.out; omega))
      replace V4 := Lib.hid (V4.out.gr hg (by have := L3.out; omega))
      replace RS := Lib.hid (RS.out.gr V2.out hg)
      replace RQ2 := Lib.hid (RQ2.out.gr V2.out hg)
      replace RR2 := Lib.hid (RR2.out.gr V2.out hg)
      replace B1 := Lib.hid (Below.gr B1.out (by have := L3.out; omega) hg B1.out.size)
      replace V2 := Lib.hid hz
      refine hK.out _ _ V2.out (fun hHeld => ?_)
      clear hK K hg hz
      try simp only [Act.put]
      clear hHeld
      refine wpAnyH_done (by kernel_rfl) ?_ _
      go_wp2
      exact ret_izb Tryz.results38 rfl rfl rfl V2.out ⟨1 + 2 * kk, rr, _, _, by simp [wrap_two (a := 1) (k := ((kk : Nat) : Int)) ⟨Int.natCast_nonneg _, KB⟩ ⟨by decide, by decide⟩], Facs.odd HM.out FK.out HX.out, RS.out, B1.out⟩
  · have S1 : Hid (sg (r : Int) = 1) := by show _ = _; rcases sg_cases (r : Int) with ⟨e, h1⟩ | ⟨e, h1⟩ | ⟨e, h1⟩ <;> first | exact e | omega
    have HN : Hid (n % p ≠ 0) := by show _ ≠ _; rw [hr]; exact hz
    clear h h' hn hp hl hl2 hq hr hz ih
    go_enter Tryz.func38, Tryz.ntmps38
    go_wp2_with fail
    refine (dmNat RN.out RP.out LN.out LP.out P0.out HQ.out HR.out).mono ?_
    rintro e w3 ⟨P3, k3, P4, k4, rfl, ho, ho2, hb⟩
    replace V0 := Lib.hid (V0.out.below hb V0.out.lt)
    replace V1 := Lib.hid (V1.out.below hb V1.out.lt)
    replace V2 := Lib.hid (V2.out.below hb V2.out.lt)
    replace RN := Lib.hid (RN.out.below hb)
    replace RP := Lib.hid (RP.out.below hb)
    replace B1 := Lib.hid (B1.out.trans (hb.mono B1.out.size))
    have RQ := Lib.hid ho.rd
    have RR := Lib.hid ho2.rd
    clear ho ho2
    clear hb
    have L3 : Hid (w.heap.size + 2 < w3.heap.size) := V2.out.lt
    have hb : Below w3.heap.size w3 (w3.alloc (.cells #[.bool false, .slice P3 (ofv q).length k3] 24)) := (Below.refl _ _).alloc (Nat.le_refl _) _
    replace V0 := Lib.hid (V0.out.below hb V0.out.lt)
    replace V1 := Lib.hid (V1.out.below hb V1.out.lt)
    replace V2 := Lib.hid (V2.out.below hb V2.out.lt)
    replace RN := Lib.hid (RN.out.below hb)
    replace RP := Lib.hid (RP.out.below hb)
    replace RQ := Lib.hid (RQ.out.below hb)
    replace RR := Lib.hid (RR.out.below hb)
    replace B1 := Lib.hid (B1.out.trans (hb.mono B1.out.size))
    have V3 := Lib.hid (Zb.new w3 false P3 (ofv q).length k3)
    clear hb
    have hb : Below (w3.alloc (.cells #[.bool false, .slice P3 (ofv q).length k3] 24)).heap.size (w3.alloc (.cells #[.bool false, .slice P3 (ofv q).length k3] 24)) ((w3.alloc (.cells #[.bool false, .slice P3 (ofv q).length k3] 24)).alloc (.cells #[.bool false, .slice P4 (ofv r).length k4] 24)) := (Below.refl _ _).alloc (Nat.le_refl _) _
    replace V0 := Lib.hid (V0.out.below hb V0.out.lt)
    replace V1 := Lib.hid (V1.out.below hb V1.out.lt)
    replace V2 := Lib.hid (V2.out.below hb V2.out.lt)
    replace RN := Lib.hid (RN.out.below hb)
    replace RP := Lib.hid (RP.out.below hb)
    replace RQ := Lib.hid (RQ.out.below hb)
    replace RR := Lib.hid (RR.out.below hb)
    replace V3 := Lib.hid (V3.out.below hb V3.out.lt)
    replace B1 := Lib.hid (B1.out.trans (hb.mono B1.out.size))
    have V4 := Lib.hid (Zb.new (w3.alloc (.cells #[.bool false, .slice P3 (ofv q).length k3] 24)) false P4 (ofv r).length k4)
    have hsz : (w3.alloc (.cells #[.bool false, .slice P3 (ofv q).length k3] 24)).heap.size = w3.heap.size + 1 := by simp
    rw [hsz] at V4
    clear hb hsz
    go_wp2_with fail
    generalize ((w3.alloc (.cells #[.bool false, .slice P3 (ofv q).length k3] 24)).alloc (.cells #[.bool false, .slice P4 (ofv r).length k4] 24)) = w4 at *
    generalize w3.heap.size = g3 at *
    refine (sign_k (r := 1) (rd_zin RR.out) S1.out).mono ?_
    rintro e w5 ⟨rfl, hb⟩
    replace V0 := Lib.hid (V0.out.below hb V0.out.lt)
    replace V1 := Lib.hid (V1.out.below hb V1.out.lt)
    replace V2 := Lib.hid (V2.out.below hb V2.out.lt)
    replace RN := Lib.hid (RN.out.below hb)
    replace RP := Lib.hid (RP.out.below hb)
    replace RQ := Lib.hid (RQ.out.below hb)
    replace RR := Lib.hid (RR.out.below hb)
    replace V3 := Lib.hid (V3.out.below hb V3.out.lt)
    replace V4 := Lib.hid (V4.out.below hb V4.out.lt)
    replace B1 := Lib.hid (B1.out.trans (hb.mono B1.out.size))
    clear hb
    go_wp2_with fail
    have HB : Hid (Below w5.heap.size w5 w5.drew) := below_drewN _ w5 1
    refine wp_region_held_drew (S := fun w' => w5.grownBy w' (some (w.heap.size + 2))) (by kernel_rfl) ((grown_below HB.out : World.grownBy _ _ (some (w.heap.size + 2)))) (fun hHeld => ?_)
    refine wpAnyH_takeL (i := 0) (oi := _) rfl (by kernel_rfl) (by kernel_rfl) (by kernel_rfl) (fun _ _ _ h => h) (yields_ldZ (by rfl) _ rfl (by rfl) (fun _ hb => V0.out.gr hb (by have := L3.out; omega))) hHeld ?_
    try simp only [Act.put, List.setIfInBounds_toArray, List.set_cons_zero, List.set_cons_succ]
    refine wpAnyH_takeL (i := 1) (oi := _) (v := ?_) rfl (by kernel_rfl) (by kernel_rfl) (by kernel_rfl) (fun _ _ _ h => h) (Or.inl ⟨by rfl, ?_⟩) hHeld ?_
    rotate_left
    · (intro w' hSw; (try dsimp only at hSw); go_simp; try (with_reducible rfl))
    try simp only [Act.put, List.setIfInBounds_toArray, List.set_cons_zero, List.set_cons_succ]
    refine wpAnyH_ready (rs := [2]) (by kernel_rfl) (by simp) ?_
    refine AllReadyH.consL (o := _) rfl (fun K hK => ?_) AllReadyH.nil
    clear hHeld
    have hb := HB.out
    replace V0 := Lib.hid (V0.out.below hb V0.out.lt)
    replace V1 := Lib.hid (V1.out.below hb V1.out.lt)
    replace V2 := Lib.hid (V2.out.below hb V2.out.lt)
    replace RN := Lib.hid (RN.out.below hb)
    replace RP := Lib.hid (RP.out.below hb)
    replace RQ := Lib.hid (RQ.out.below hb)
    replace RR := Lib.hid (RR.out.below hb)
    replace V3 := Lib.hid (V3.out.below hb V3.out.lt)
    replace V4 := Lib.hid (V4.out.below hb V4.out.lt)
    replace B1 := Lib.hid (B1.out.trans (hb.mono B1.out.size))
    rw [if_pos (by rfl)]
    refine wp_stZ _ _ rfl (by rfl) (by rfl) V2.out ?_
    intro w6 hz hg
    replace V0 := Lib.hid (V0.out.gr hg (by have := L3.out; omega))
    replace V1 := Lib.hid (V1.out.gr hg (by have := L3.out; omega))
    replace RN := Lib.hid (RN.out.gr V2.out hg)
    replace RP := Lib.hid (RP.out.gr V2.out hg)
    replace RQ := Lib.hid (RQ.out.gr V2.out hg)
    replace RR := Lib.hid (RR.out.gr V2.out hg)
    replace V3 := Lib.hid (V3.out.gr hg (by have := L3.out; omega))
    replace V4 := Lib.hid (V4.out.gr hg (by have := L3.out; omega))
    replace B1 := Lib.hid (Below.gr B1.out (by have := L3.out; omega) hg B1.out.size)
    replace V2 := Lib.hid hz
    refine hK.out _ _ (World.grownBy.trans (grown_below hb) hg) (fun hHeld => ?_)
    clear hK K hg hb HB hz
    try simp only [Act.put]
    skip
    refine wpAnyH_done (by kernel_rfl) ?_ _
    clear hHeld
    go_wp2
    exact ret_izb Tryz.results38 rfl rfl rfl V2.out ⟨0, n, _, _, rfl, Facs.none HN.out, RN.out, B1.out⟩
end Go.Proofs.YtebpoabflcngoaaGreatDoor

/-
  Contracts: texts of rounded numbers, of decimal fractions.
-/
namespace Go.Proofs.YtebpoabflcngoaaGreatDoor
open Go.RowKit
set_option linter.unusedVariables false

theorem one_limb : ofv 1 = [1] := by
  have := ofv_val_of (xs := [1]) (okl1 (by omega)) (.inr (by simp [lim]))
  simpa [val] using this
theorem LeavesB.one {lo : Nat} {w : World} (h : lo ≤ w.heap.size) : LeavesB (isS 1 lo) w (.slice (some ⟨w.heap.size, 0, none⟩) 1 1) (w.alloc (.cells #[.int .u32 1] 60)) := by
  refine ⟨(Below.refl _ _).alloc (Nat.le_refl _) _, ⟨_, 1, by rw [one_limb]; rfl, ?_⟩, fun g hg => by cases hg⟩
  rw [one_limb]
  exact Own.of_row (row_new (w := w) (xs := [1]) rfl rfl) (okl1 (by omega)) h (by simp)
theorem floor_abs {r : Rat} : r.floor.natAbs ≤ r.num.natAbs := by
  have h := floor_mk (z := r.num) (den_pos r)
  rw [mk_self] at h
  rw [h]
  have hd := den_pos r
  have h1 := Int.mul_ediv_add_emod r.num (r.den : Int)
  have h2 := Int.emod_nonneg r.num (show (r.den : Int) ≠ 0 by omega)
  have h3 := Int.emod_lt_of_pos r.num (show 0 < (r.den : Int) by omega)
  generalize r.num / (r.den : Int) = q at *
  generalize r.num % (r.den : Int) = e at *
  have h4 : (1 : Int) ≤ (r.den : Int) := by omega
  rcases Int.lt_or_le q 0 with hq | hq
  · have k := Int.mul_nonneg (show 0 ≤ (r.den : Int) - 1 by omega) (show 0 ≤ -q - 1 by omega)
    have k2 : ((r.den : Int) - 1) * (-q - 1) = -((r.den : Int) * q) - (r.den : Int) + q + 1 := by grind
    rw [k2] at k
    omega
  · have := Int.mul_le_mul_of_nonneg_right h4 hq
    omega
theorem rnd_abs (r : Rat) : (rndR r).natAbs ≤ r.num.natAbs + 1 := by
  have := floor_abs (r := r)
  unfold rndR
  split <;> omega
theorem rnd_len {r : Rat} {N : Nat} (h : RL r N) (h1 : 1 ≤ N) : (ofv (rndR r).natAbs).length ≤ N + 1 := by
  have h2 : (ofv 1).length ≤ N := by rw [one_limb]; exact h1
  exact Nat.le_trans (len_mono (rnd_abs r)) (len_add_max h.1 h2)
set_option maxRecDepth 100000 in
set_option maxHeartbeats 16000000 in
theorem rounded_any {s : Bool} {A D : Option Addr} {n c m k : Nat} {x : Int} {p : Nat} {w : World} (h : Zin w s A n c x) (h' : Nin w D m k p) (hn : n ≤ 2000000) (hm : m ≤ 2000000) (hE : Env w) {pl : Nat} (hpl : pl ≤ 80000000) {v : Int} (hv : rndR (mkRat x p * mkRat ((10 ^ pl : Nat) : Int) 1) = v) {l : List UInt8} (hl : ptxt v pl = l) :
    Calls Tryz.prog 41 #[.agg #[.bool s, .slice A n c, .slice D m k], .int .i64 pl] w fun e w' => e = .returned (.string (txt l)) ∧ Below w.heap.size w w' := by
  obtain ⟨B1, V0⟩ := start_nR w s A n c D m k
  have HX := Lib.hid (h.below B1.out)
  have HP := Lib.hid (h'.below B1.out)
  have HE := Lib.hid (hE.below B1.out)
  obtain ⟨t, ht⟩ : ∃ t : Int, ((10 ^ pl : Nat) : Int) = t := ⟨_, rfl⟩
  rw [ht] at hv
  obtain ⟨mz, hmz⟩ : ∃ z, (mkRat x p * mkRat t 1).num = z := ⟨_, rfl⟩
  obtain ⟨md, hmd⟩ : ∃ z, (mkRat x p * mkRat t 1).den = z := ⟨_, rfl⟩
  have hm1 : mkRat mz md = mkRat x p * mkRat t 1 := by rw [← hmz, ← hmd, mk_self]
  obtain ⟨sgn, hs⟩ : ∃ z, sg v = z := ⟨_, rfl⟩
  obtain ⟨av, hav⟩ : ∃ z : Int, ((v.natAbs : Nat) : Int) = z := ⟨_, rfl⟩
  obtain ⟨l1, hl1⟩ : ∃ q, Lib.itoa av = q := ⟨_, rfl⟩
  obtain ⟨l2, hl2⟩ : ∃ q, ptd l1 pl = q := ⟨_, rfl⟩
  have lt : (ofv t.natAbs).length ≤ 100000000 := by rw [← ht, Int.natAbs_natCast]; exact Nat.le_trans (len_ten _) (by omega)
  have l1one : (ofv 1).length ≤ 100000000 := by rw [one_limb]; decide
  have rA : RL (mkRat x p) 2000000 := rl_mk (Nat.le_trans h.len hn) (Nat.le_trans h'.len hm) (by decide)
  have rT : RL (mkRat t 1) 100000000 := rl_mk lt l1one (by decide)
  have rM := rl_mul rA rT
  have rv : (ofv v.natAbs).length ≤ 200000000 := by rw [← hv]; exact Nat.le_trans (rnd_len rM (by decide)) (by decide)
  have lmz : (ofv mz.natAbs).length ≤ 200000000 := by rw [← hmz]; exact Nat.le_trans rM.1 (by decide)
  have lmd : (ofv md).length ≤ 200000000 := by rw [← hmd]; exact Nat.le_trans rM.2 (by decide)
  have lav : (ofv av.natAbs).length ≤ 200000000 := by rw [← hav, Int.natAbs_natCast]; exact rv
  have ll1 : l1.length ≤ 3000000000 := by rw [← hl1]; exact Nat.le_trans (itoa_len lav) (by decide)
  have ll2 : l2.length ≤ 4611686018427387904 := by
    rw [← hl2]
    unfold ptd
    split
    · omega
    · have : (padz (pl + 1) l1).length ≤ 4000000000 := by unfold padz; rw [List.length_append, List.length_replicate]; omega
      rw [List.length_append, List.length_take, List.length_cons, List.length_drop]; omega
  have HT := Lib.hid ht
  have HMZ := Lib.hid hmz
  have HMD := Lib.hid hmd
  have HV : Hid (rndR (mkRat mz md) = v) := by show _ = _; rw [hm1]; exact hv
  have HS := Lib.hid hs
  have HAV := Lib.hid hav
  have HL1 := Lib.hid hl1
  have HL2 := Lib.hid hl2
  have HTX : Hid ((if sgn < 0 then 45 :: l2 else l2) = l) := by
    show _ = _
    have e1 : l1 = Lib.decDigits v.natAbs := by rw [← hl1, ← hav, itoa_nat]
    rw [← hl, ← hl2, e1, ← hs]
    unfold ptxt
    rcases sg_cases v with ⟨e, h1⟩ | ⟨e, h1⟩ | ⟨e, h1⟩ <;> rw [e]
    · rw [if_pos (by decide), if_pos h1]
    · rw [if_neg (by decide), if_neg (by omega)]
    · rw [if_neg (by decide), if_neg (by omega)]
  have KP : Hid (pl ≤ 17592186000000) := by show _ ≤ _; omega
  have KP2 : Hid (pl ≤ 140737488355300) := by show _ ≤ _; omega
  have LT := Lib.hid lt
  have L1 := Lib.hid l1one
  have KN : Hid (n ≤ 100000000) := Nat.le_trans hn (by decide)
  have KM : Hid (m ≤ 100000000) := Nat.le_trans hm (by decide)
  have LL : Hid (1 ≤ 100000000 ∧ 100000000 ≤ 35184372088829) := by show _ ∧ _; omega
  have LMZ := Lib.hid lmz
  have LMD := Lib.hid lmd
  have LL2 : Hid (1 ≤ 200000000 ∧ 200000000 ≤ 70368744177660) := by show _ ∧ _; omega
  have LV : Hid ((ofv v.natAbs).length ≤ 70368744177664) := Nat.le_trans rv (by decide)
  have LAV : Hid ((ofv av.natAbs).length ≤ 10000000000) := Nat.le_trans lav (by decide)
  have LT1 : Hid (l1.length ≤ 4611686018427387904) := Nat.le_trans ll1 (by decide)
  have LT2 := Lib.hid ll2
  clear h h' hn hm hE hpl hv hl ht hmz hmd hm1 hs hav hl1 hl2 lt l1one rA rT rM rv lmz lmd lav ll1 ll2
  go_enter Tryz.func41, Tryz.ntmps41
  go_wp2_with fail
  generalize (w.alloc (.cells #[.bool s, .slice A n c, .slice D m k] 26)) = w2 at *
  have LO : Hid (w.heap.size ≤ w2.heap.size) := B1.out.size
  have LT0 : Hid (w.heap.size < w2.heap.size) := V0.out.lt
  have HB : Hid (Below w2.heap.size w2 w2.drew) := below_drewN _ w2 1
  have hHeld := HB.out
  refine wp_region_held_split (S := fun w' => Below w2.heap.size w2 w') 8 (by kernel_rfl) (by kernel_rfl) ?_
  simp only [List.take_succ_cons, List.take_zero, List.drop_succ_cons, List.drop_zero]
  refine wpAnyH_takeL (i := 0) (oi := _) rfl (by kernel_rfl) (by kernel_rfl) (by kernel_rfl) (fun _ _ _ h => h) (yields_ldR (by rfl) _ rfl (by rfl) (fun _ hb => V0.out.below hb V0.out.lt)) hHeld ?_
  try simp only [Act.put, List.setIfInBounds_toArray, List.set_cons_zero, List.set_cons_succ]
  refine wpAnyH_takeL (i := 1) (oi := _) (v := ?_) rfl (by kernel_rfl) (by kernel_rfl) (by kernel_rfl) (fun _ _ _ h => h) (Or.inl ⟨by rfl, ?_⟩) hHeld ?_
  rotate_left
  · (intro w' hSw; (try dsimp only at hSw); go_simp; try (with_reducible rfl))
  try simp only [Act.put, List.setIfInBounds_toArray, List.set_cons_zero, List.set_cons_succ]
  refine wpAnyH_rgb [(2, some 8), (3, some 9), (4, some 10), (5, some 11), (6, some 12), (7, some 5)] (isNewZ w2.heap.size) [(2, isZ t w2.heap.size), (3, isS 1 w2.heap.size), (4, isR t 1 w2.heap.size), (5, isR mz md w2.heap.size), (6, isZ v w2.heap.size)] w2 (by kernel_rfl) (by kernel_rfl) (by decide) HB.out (fun _ h => h) (isNewZ_good _) ⟨isZ_good _ _, isS_good _ _, isR_good _ _ _, isR_good _ _ _, isZ_good _ _, trivial⟩ ?_ ?_
  · clear hHeld HB
    refine RgOps.consL (o := _) (ds := []) rfl rfl (by kernel_rfl) (fun vals wr hbr hC hdep K hK => ?_) ?_
    · have BB := Lib.hid hbr
      clear hdep
      clear hbr hC
      simp only [Upd2, Act.put, List.setIfInBounds_toArray, List.set_cons_zero, List.set_cons_succ] at hK ⊢
      go_simp
      go_at_call 80
      refine Calls.mono (pt_any pl KP.out rfl HT.out _) ?_
      rintro e wq ⟨R, cR, rfl, ho, hb⟩
      exact hK.out _ _ (LeavesB.giveZ BB.out.size ho hb)
    refine RgOps.consL (o := _) (ds := []) rfl rfl (by kernel_rfl) (fun vals wr hbr hC hdep K hK => ?_) ?_
    · have BB := Lib.hid hbr
      clear hdep
      clear hbr hC
      simp only [Upd2, Act.put, List.setIfInBounds_toArray, List.set_cons_zero, List.set_cons_succ] at hK ⊢
      go_simp
      exact hK.out _ _ (LeavesB.one BB.out.size)
    refine RgOps.consL (o := _) (ds := [2, 3]) rfl rfl (by kernel_rfl) (fun vals wr hbr hC hdep K hK => ?_) ?_
    · have BB := Lib.hid hbr
      obtain ⟨⟨P2, c2, e2, o2⟩, ⟨P3, c3, e3, o3⟩, -⟩ := hdep
      clear hbr hC
      simp only [e2, e3, Upd2, Act.put, List.setIfInBounds_toArray, List.set_cons_zero, List.set_cons_succ] at hK ⊢
      clear e2 e3
      go_simp
      exact hK.out _ _ (LeavesB.same ⟨_, _, _, _, rfl, o2, o3⟩ rfl)
    refine RgOps.consL (o := _) (ds := [2, 4]) rfl rfl (by kernel_rfl) (fun vals wr hbr hC hdep K hK => ?_) ?_
    · have BB := Lib.hid hbr
      obtain ⟨⟨P2, c2, e2, o2⟩, ⟨P4, c4, Q4, k4, e4, o4, u4⟩, -⟩ := hdep
      clear hbr hC
      simp only [e2, e4, Upd2, Act.put, List.setIfInBounds_toArray, List.set_cons_zero, List.set_cons_succ] at hK ⊢
      clear e2 e4
      go_simp
      go_at_call 79
      refine Calls.mono (qmul_any (L := 100000000) (HX.out.below BB.out) (HP.out.below BB.out) (Zo.of_own o4).in_ (Nin.of_rd u4.rd) KN.out KM.out LT.out L1.out LL.out HMZ.out HMD.out) ?_
      rintro e wq ⟨R, cR, R2, cR2, rfl, ho, ho2, hb⟩
      exact hK.out _ _ (LeavesB.giveR BB.out.size ho ho2 hb)
    refine RgOps.consL (o := _) (ds := [5]) rfl rfl (by kernel_rfl) (fun vals wr hbr hC hdep K hK => ?_) ?_
    · have BB := Lib.hid hbr
      obtain ⟨⟨P5, c5, Q5, k5, e5, o5, u5⟩, -⟩ := hdep
      clear hbr hC
      simp only [e5, Upd2, Act.put, List.setIfInBounds_toArray, List.set_cons_zero, List.set_cons_succ] at hK ⊢
      clear e5
      go_simp
      go_at_call 78
      refine Calls.mono (qround_any (L := 200000000) (Zo.of_own o5).in_ (Nin.of_rd u5.rd) LMZ.out LMD.out LL2.out HV.out) ?_
      rintro e wq ⟨R, cR, rfl, ho, hb⟩
      exact hK.out _ _ (LeavesB.giveZ BB.out.size ho hb)
    refine RgOps.consL (o := _) (ds := []) rfl rfl (by kernel_rfl) (fun vals wr hbr hC hdep K hK => ?_) RgOps.nil
    · have BB := Lib.hid hbr
      clear hdep
      clear hbr hC
      simp only [Upd2, Act.put, List.setIfInBounds_toArray, List.set_cons_zero, List.set_cons_succ] at hK ⊢
      go_simp
      exact hK.out _ _ (LeavesB.newZ BB.out.size)
  clear hHeld HB
  intro vals wr hb hdep hD
  obtain ⟨⟨P2, c2, e2, o2⟩, ⟨P3, c3, e3, o3⟩, ⟨P4, c4, Q4, k4, e4, o4, u4⟩, ⟨P5, c5, Q5, k5, e5, o5, u5⟩, ⟨P6, c6, e6, o6⟩, ⟨g7, e7, l7, z7⟩, -⟩ := hdep
  simp only [Upd2, e2, e3, e4, e5, e6, e7, Act.put, List.setIfInBounds_toArray, List.set_cons_zero, List.set_cons_succ]
  clear e2 e3 e4 e5 e6 e7
  clear hD vals
  replace V0 := Lib.hid (V0.out.below hb V0.out.lt)
  replace HX := Lib.hid (HX.out.below hb)
  replace HP := Lib.hid (HP.out.below hb)
  replace HE := Lib.hid (HE.out.below hb)
  replace B1 := Lib.hid (B1.out.trans (hb.mono B1.out.size))
  clear hb
  show wpList _ _ _ _ _ _
  have OV := Lib.hid o6; have G1 := Lib.hid z7; have LG1 : Hid (w2.heap.size ≤ g7) := l7
  clear o2 o3 o4 u4 o5 u5 o6 z7 l7 V0 HX HP
  refine wpList_stZ (by rfl) _ _ rfl (by rfl) (by rfl) G1.out ?_
  intro w5 hz hg
  replace HE := Lib.hid (HE.out.gr G1.out hg)
  replace OV := Lib.hid (OV.out.gr G1.out hg)
  replace B1 := Lib.hid (Below.gr B1.out (by have := LG1.out; have := LO.out; omega) hg B1.out.size)
  replace G1 := Lib.hid hz
  clear hz hg
  go_wp2_with fail
  have HB : Hid (Below w5.heap.size w5 w5.drew) := below_drewN _ w5 1
  have hHeld := HB.out
  refine wp_region_held_split (S := fun w' => Below w5.heap.size w5 w') 8 (by kernel_rfl) (by kernel_rfl) ?_
  simp only [List.take_succ_cons, List.take_zero, List.drop_succ_cons, List.drop_zero]
  refine wpAnyH_takeL (i := 0) (oi := _) rfl (by kernel_rfl) (by kernel_rfl) (by kernel_rfl) (fun _ _ _ h => h) (yields_ldZ (by rfl) _ rfl (by rfl) (fun _ hb => G1.out.below hb G1.out.lt)) hHeld ?_
  try simp only [Act.put, List.setIfInBounds_toArray, List.set_cons_zero, List.set_cons_succ]
  refine wpAnyH_takeL (i := 2) (oi := _) rfl (by kernel_rfl) (by kernel_rfl) (by kernel_rfl) (fun _ _ _ h => h) (yields_ldZ (by rfl) _ rfl (by rfl) (fun _ hb => G1.out.below hb G1.out.lt)) hHeld ?_
  try simp only [Act.put, List.setIfInBounds_toArray, List.set_cons_zero, List.set_cons_succ]
  refine wpAnyH_takeL (i := 5) (oi := _) (v := ?_) rfl (by kernel_rfl) (by kernel_rfl) (by kernel_rfl) (fun _ _ _ h => h) (Or.inl ⟨by rfl, ?_⟩) hHeld ?_
  rotate_left
  · (intro w' hSw; (try dsimp only at hSw); go_simp; try (with_reducible rfl))
  try simp only [Act.put, List.setIfInBounds_toArray, List.set_cons_zero, List.set_cons_succ]
  refine wpAnyH_rgb [(1, some 14), (3, some 16), (4, some 17), (6, some 19), (7, some 20)] (isV (.string (txt l))) [(1, isV (.int .i64 sgn)), (3, isZ av w5.heap.size), (4, isV (.string (txt l1))), (6, isV (.string (txt l2)))] w5 (by kernel_rfl) (by kernel_rfl) (by decide) HB.out (fun _ h => h) (isV_good _) ⟨isV_good _, isZ_good _ _, isV_good _, isV_good _, trivial⟩ ?_ ?_
  · clear hHeld HB
    refine RgOps.consL (o := _) (ds := []) rfl rfl (by kernel_rfl) (fun vals wr hbr hC hdep K hK => ?_) ?_
    · have BB := Lib.hid hbr
      clear hdep
      clear hbr hC
      simp only [Upd2, Act.put, List.setIfInBounds_toArray, List.set_cons_zero, List.set_cons_succ] at hK ⊢
      go_simp
      go_at_call 32
      refine Calls.mono (sign_k (z := v) (r := sgn) (Zo.of_own (OV.out.below BB.out)).in_ HS.out) ?_
      rintro e wq ⟨rfl, hb⟩
      exact hK.out _ _ (LeavesB.behind hb ⟨rfl, rfl⟩ rfl)
    refine RgOps.consL (o := _) (ds := [1]) rfl rfl (by kernel_rfl) (fun vals wr hbr hC hdep K hK => ?_) ?_
    · have BB := Lib.hid hbr
      obtain ⟨⟨e1, -⟩, -⟩ := hdep
      clear hbr hC
      simp only [e1, Upd2, Act.put, List.setIfInBounds_toArray, List.set_cons_zero, List.set_cons_succ] at hK ⊢
      clear e1
      go_simp
      go_at_call 34
      refine Calls.mono (abs_z (x := v) (z := av) (Zo.of_own (OV.out.below BB.out)).in_ LV.out HAV.out) ?_
      rintro e wq ⟨R, cR, rfl, ho, hb⟩
      exact hK.out _ _ (LeavesB.giveZ BB.out.size ho hb)
    refine RgOps.consL (o := _) (ds := [3]) rfl rfl (by kernel_rfl) (fun vals wr hbr hC hdep K hK => ?_) ?_
    · have BB := Lib.hid hbr
      obtain ⟨⟨P3, c3, e3, o3⟩, -⟩ := hdep
      clear hbr hC
      simp only [e3, Upd2, Act.put, List.setIfInBounds_toArray, List.set_cons_zero, List.set_cons_succ] at hK ⊢
      clear e3
      go_simp
      go_at_call 9
      refine Calls.mono (formatInt_any (x := av) (Zo.of_own o3).in_ LAV.out (HE.out.below BB.out) HL1.out) ?_
      rintro e wq ⟨rfl, hb⟩
      exact hK.out _ _ (LeavesB.behind hb ⟨rfl, rfl⟩ rfl)
    refine RgOps.consL (o := _) (ds := [4]) rfl rfl (by kernel_rfl) (fun vals wr hbr hC hdep K hK => ?_) ?_
    · have BB := Lib.hid hbr
      obtain ⟨⟨e4, -⟩, -⟩ := hdep
      clear hbr hC
      simp only [e4, Upd2, Act.put, List.setIfInBounds_toArray, List.set_cons_zero, List.set_cons_succ] at hK ⊢
      clear e4
      go_simp
      go_at_call 81
      refine Calls.mono (withPoint_any (p := pl) LT1.out KP2.out HL2.out _) ?_
      rintro e wq ⟨rfl, hb⟩
      exact hK.out _ _ (LeavesB.behind hb ⟨rfl, rfl⟩ rfl)
    refine RgOps.consL (o := _) (ds := [1, 6]) rfl rfl (by kernel_rfl) (fun vals wr hbr hC hdep K hK => ?_) RgOps.nil
    · have BB := Lib.hid hbr
      obtain ⟨⟨e1, -⟩, ⟨e6, -⟩, -⟩ := hdep
      clear hbr hC
      simp only [e1, e6, Upd2, Act.put, List.setIfInBounds_toArray, List.set_cons_zero, List.set_cons_succ] at hK ⊢
      clear e1 e6
      go_simp
      go_at_call 31
      refine Calls.mono (withSign_any LT2.out HTX.out _) ?_
      rintro e wq ⟨rfl, rfl⟩
      exact hK.out _ _ (LeavesB.same ⟨rfl, rfl⟩ rfl)
  clear hHeld HB
  intro vals wr hb hdep hD
  obtain ⟨⟨e1, -⟩, ⟨P3, c3, e3, o3⟩, ⟨e4, -⟩, ⟨e6, -⟩, ⟨e7, -⟩, -⟩ := hdep
  simp only [Upd2, e1, e3, e4, e6, e7, Act.put, List.setIfInBounds_toArray, List.set_cons_zero, List.set_cons_succ]
  clear e1 e3 e4 e6 e7
  clear hD vals
  replace HE := Lib.hid (HE.out.below hb)
  replace OV := Lib.hid (OV.out.below hb)
  replace G1 := Lib.hid (G1.out.below hb G1.out.lt)
  replace B1 := Lib.hid (B1.out.trans (hb.mono B1.out.size))
  clear hb
  show wpList _ _ _ _ _ _
  go_wp2
  go_ret
  exact ⟨rfl, B1.out⟩
theorem rounded_at {s : Bool} {A D : Option Addr} {n c m k : Nat} {x : Int} {p : Nat} {w : World} (h : Zin w s A n c x) (h' : Nin w D m k p) (hn : n ≤ 2000000) (hm : m ≤ 2000000) (hE : Env w) {pl : Nat} {pv : Int} (hp : pv = (pl : Int)) (hpl : pl ≤ 80000000) {v : Int} (hv : rndR (mkRat x p * mkRat ((10 ^ pl : Nat) : Int) 1) = v) {l : List UInt8} (hl : ptxt v pl = l) :
    Calls Tryz.prog 41 #[.agg #[.bool s, .slice A n c, .slice D m k], .int .i64 pv] w fun e w' => e = .returned (.string (txt l)) ∧ Below w.heap.size w w' := by subst hp; exact rounded_any h h' hn hm hE hpl hv hl
theorem facs_less {n p k r j s : Nat} (hp : 0 < p) (h : Facs n p k r) (h' : Facs n p j s) (hkj : k < j) : False := by
  obtain ⟨h1, h2⟩ := h
  obtain ⟨h3, h4⟩ := h'
  have e : p ^ k * r = p ^ k * (p ^ (j - k) * s) := by rw [← Nat.mul_assoc, ← Nat.pow_add, show k + (j - k) = j by omega, ← h1, ← h3]
  have e2 := Nat.eq_of_mul_eq_mul_left (Nat.pow_pos hp) e
  refine h2 ⟨p ^ (j - k - 1) * s, ?_⟩
  rw [e2, ← Nat.mul_assoc, Nat.mul_comm p, ← Nat.pow_succ, show (j - k - 1).succ = j - k by omega]
theorem facs_unique {n p k r j s : Nat} (hp : 0 < p) (h : Facs n p k r) (h' : Facs n p j s) : k = j ∧ r = s := by
  have e : k = j := by
    rcases Nat.lt_trichotomy k j with h0 | h0 | h0
    · exact (facs_less hp h h' h0).elim
    · exact h0
    · exact (facs_less hp h' h h0).elim
  subst e
  refine ⟨rfl, Nat.eq_of_mul_eq_mul_left (Nat.pow_pos (n := k) hp) ?_⟩
  rw [← h.1, ← h'.1]
def GivesK (w : World) (k r : Nat) (e : Ending) (w' : World) : Prop :=
  ∃ R q, e = .returned (.tuple #[.int .i64 (k : Int), .agg #[.bool false, .slice R (ofv r).length q]]) ∧ Rd w' R q (ofv r) ∧ Below w.heap.size w w'
theorem rf_at {n p k r : Nat} {A B : Option Addr} {c d : Nat} {w : World} (hn : 0 < n) (hp : 2 ≤ p) (hl : (ofv n).length ≤ 100000000000) (hl2 : (ofv p).length ≤ 1000000000000) (h : Rd w A c (ofv n)) (h' : Rd w B d (ofv p)) (hf : Facs n p k r) :
    Calls Tryz.prog 38 #[.agg #[.bool false, .slice A (ofv n).length c], .agg #[.bool false, .slice B (ofv p).length d]] w (GivesK w k r) := by
  refine (rf_any n hn hp hl hl2 h h').mono ?_
  rintro e w' ⟨k', r', R, q, rfl, hf', hr, hb⟩
  obtain ⟨rfl, rfl⟩ := facs_unique (by omega) hf hf'
  exact ⟨R, q, rfl, hr, hb⟩
/-- Results of operations: a natural number, a number of factors with what is left. -/
def isN (n : Nat) (v : Value) (w : World) : Prop := ∃ R c, v = .agg #[.bool false, .slice R (ofv n).length c] ∧ Rd w R c (ofv n)
theorem isN_good (n : Nat) : Good (isN n) := ⟨fun v w w' hb ⟨R, c, e, o⟩ => ⟨R, c, e, o.below hb⟩, fun v w g ⟨R, c, e, o⟩ h => by subst e; cases h⟩
def isK (k r : Nat) (v : Value) (w : World) : Prop := ∃ R q, v = .tuple #[.int .i64 (k : Int), .agg #[.bool false, .slice R (ofv r).length q]] ∧ Rd w R q (ofv r)
theorem isK_good (k r : Nat) : Good (isK k r) := ⟨fun v w w' hb ⟨R, c, e, o⟩ => ⟨R, c, e, o.below hb⟩, fun v w g ⟨R, c, e, o⟩ h => by subst e; cases h⟩
set_option maxRecDepth 100000 in
set_option maxHeartbeats 16000000 in
theorem fixed_ok {s : Bool} {A D : Option Addr} {n c m k : Nat} {x : Int} {p : Nat} {w : World} (h : Zin w s A n c x) (h' : Nin w D m k p) (hn : n ≤ 2000000) (hm : m ≤ 2000000) (hE : Env w) {pl : Nat} (hpl : pl ≤ 100) {v : Int} (hv : rndR (mkRat x p * mkRat ((10 ^ pl : Nat) : Int) 1) = v) {l : List UInt8} (hl : ptxt v pl = l) :
    Calls Tryz.prog 15 #[.agg #[.bool s, .slice A n c, .slice D m k], .int .i64 pl] w fun e w' => e = .returned (.tuple #[.string (txt l), .int .i64 0]) ∧ Below w.heap.size w w' := by
  obtain ⟨B1, V0⟩ := start_nR w s A n c D m k
  have HX := Lib.hid (h.below B1.out)
  have HP := Lib.hid (h'.below B1.out)
  have HE := Lib.hid (hE.below B1.out)
  have HN := Lib.hid hn
  have HM := Lib.hid hm
  have HPL : Hid (pl ≤ 80000000) := Nat.le_trans hpl (by decide)
  have HV := Lib.hid hv
  have HL := Lib.hid hl
  have c1 : ¬ (pl : Int) < 0 := by omega
  have c2 : (pl : Int) ≤ 100 := by omega
  clear h h' hn hm hE hpl hv hl
  go_enter Tryz.func15, Tryz.ntmps15
  go_wp2_with fail
  refine (rounded_any HX.out HP.out HN.out HM.out HE.out HPL.out HV.out HL.out).mono ?_
  rintro e w3 ⟨rfl, hb⟩
  replace B1 := Lib.hid (B1.out.trans (hb.mono B1.out.size))
  clear hb
  go_wp2
  go_ret2
  exact ⟨rfl, B1.out⟩
set_option maxRecDepth 100000 in
set_option maxHeartbeats 16000000 in
theorem decimal_yes {s : Bool} {A D : Option Addr} {n c m k : Nat} {x : Int} {p : Nat} {w : World} (h : Zin w s A n c x) (h' : Nin w D m k p) (hn : n ≤ 1500000) (hm : m ≤ 1500000) (hE : Env w) {k1 r1 k2 : Nat} (h1 : Facs (mkRat x p).den 2 k1 r1) (h2 : Facs r1 5 k2 1) {v : Int} (hv : rndR (mkRat x p * mkRat ((10 ^ max k1 k2 : Nat) : Int) 1) = v) {l : List UInt8} (hl : ptxt v (max k1 k2) = l) :
    Calls Tryz.prog 13 #[.agg #[.bool s, .slice A n c, .slice D m k]] w fun e w' => e = .returned (.tuple #[.string (txt l), .bool true]) ∧ Below w.heap.size w w' := by
  obtain ⟨B1, V0⟩ := start_nR w s A n c D m k
  have HX := Lib.hid (h.below B1.out)
  have HP := Lib.hid (h'.below B1.out)
  have HE := Lib.hid (hE.below B1.out)
  obtain ⟨z, hz⟩ : ∃ z, (mkRat x p).num = z := ⟨_, rfl⟩
  obtain ⟨d, hd⟩ : ∃ d, (mkRat x p).den = d := ⟨_, rfl⟩
  have hzd : mkRat z d = mkRat x p := by rw [← hz, ← hd, mk_self]
  have hrl : RL (mkRat x p) 1500000 := rl_mk (Nat.le_trans h.len hn) (Nat.le_trans h'.len hm) (by decide)
  have l1 := hrl.1
  have l2 := hrl.2
  rw [hz] at l1
  rw [hd] at l2 h1
  have d0 : 0 < d := by rw [← hd]; exact den_pos _
  have r0 : 0 < r1 := h1.pos d0
  have r20 : 0 < 1 := h2.pos r0
  have hb1 := h1.le d0 (by decide)
  have hb2 := h2.le r0 (by decide)
  have lr1 : (ofv r1).length ≤ 1500000 := Nat.le_trans (len_mono hb1.2) l2
  have HZ := Lib.hid hz
  have HD := Lib.hid hd
  have KN := Lib.hid hn
  have KM := Lib.hid hm
  have LL : Hid (1 ≤ 1500000 ∧ 1500000 ≤ 70368744177660) := by show _ ∧ _; omega
  have SZ : Hid (w.heap.size ≤ (w.alloc (.cells #[.bool s, .slice A n c, .slice D m k] 26)).heap.size) := B1.out.size
  have D0 := Lib.hid d0
  have R0 := Lib.hid r0
  have H1 := Lib.hid h1
  have H2 := Lib.hid h2
  have LD : Hid ((ofv d).length ≤ 100000000000) := Nat.le_trans l2 (by decide)
  have LR : Hid ((ofv r1).length ≤ 100000000000) := Nat.le_trans lr1 (by decide)
  have L2 : Hid ((ofv 2).length ≤ 1000000000000) := Nat.le_trans (len_small (by decide)) (by decide)
  have L5 : Hid ((ofv 5).length ≤ 1000000000000) := Nat.le_trans (len_small (by decide)) (by decide)
  have LT2 : Hid (2 ≤ 2) := Nat.le_refl 2
  have LT5 : Hid (2 ≤ 5) := by show 2 ≤ 5; decide
  have hmx : max k1 k2 ≤ 80000000 := by omega
  have HMX := Lib.hid hmx
  have HV : Hid (rndR (mkRat z d * mkRat ((10 ^ max k1 k2 : Nat) : Int) 1) = v) := by show _ = _; rw [hzd]; exact hv
  have HL := Lib.hid hl
  have SS : Hid (sg (((1 : Nat) : Int) - ((1 : Nat) : Int)) = 0) := rfl
  have EMX : Hid (max (k1 : Int) (k2 : Int) = ((max k1 k2 : Nat) : Int)) := by show _ = _; omega
  have LZ : Hid ((ofv z.natAbs).length ≤ 2000000) := Nat.le_trans l1 (by decide)
  have LD2 : Hid ((ofv d).length ≤ 2000000) := Nat.le_trans l2 (by decide)
  clear h h' hn hm hE h1 h2 hv hl hz hd hzd hrl l1 l2 d0 r0 r20 hb1 hb2 lr1 hmx
  go_enter Tryz.func13, Tryz.ntmps13
  go_wp2_with fail
  refine (norm_any (L := 1500000) HX.out HP.out KN.out KM.out LL.out HZ.out HD.out).mono ?_
  rintro e w3 ⟨P, c1, Q, c2, rfl, ho, ho2, hb⟩
  replace V0 := Lib.hid (V0.out.below hb V0.out.lt)
  replace HX := Lib.hid (HX.out.below hb)
  replace HP := Lib.hid (HP.out.below hb)
  replace HE := Lib.hid (HE.out.below hb)
  replace B1 := Lib.hid (B1.out.trans (hb.mono B1.out.size))
  have OZ := Lib.hid (ho.mono SZ.out)
  have OD := Lib.hid (ho2.mono SZ.out)
  clear ho ho2 SZ HX HP
  clear hb
  go_wp2_with (refine wpList_stR (by rfl) _ _ rfl (by rfl) (by rfl) V0.out ?_; intro w4 hz hg; replace OZ := Lib.hid (OZ.out.grR V0.out hg); replace OD := Lib.hid (OD.out.grR V0.out hg); replace B1 := Lib.hid (Below.gr B1.out (by omega) hg B1.out.size); replace HE := Lib.hid (HE.out.grR V0.out hg); replace V0 := Lib.hid hz; clear hz hg)
  have LT : Hid (w.heap.size < w4.heap.size) := V0.out.lt
  have LO : Hid (w.heap.size ≤ w4.heap.size) := B1.out.size
  have HB : Hid (Below w4.heap.size w4 w4.drew) := below_drewN _ w4 1
  refine wp_region_held_drew (S := fun w' => Below w4.heap.size w4 w') (by kernel_rfl) (HB.out) (fun hHeld => ?_)
  refine wpAnyH_takeL (i := 0) (oi := _) (v := ?_) rfl (by kernel_rfl) (by kernel_rfl) (by kernel_rfl) (fun _ _ _ h => h) (Or.inl ⟨by rfl, ?_⟩) hHeld ?_
  rotate_left
  · (intro w' hSw; (try dsimp only at hSw); go_simp; try (with_reducible rfl))
  try simp only [Act.put, List.setIfInBounds_toArray, List.set_cons_zero, List.set_cons_succ]
  refine wpAnyH_takeL (i := 1) (oi := _) rfl (by kernel_rfl) (by kernel_rfl) (by kernel_rfl) (fun _ _ _ h => h) (yields_ldRd (by rfl) _ rfl (by rfl) (fun _ hb => V0.out.below hb V0.out.lt)) hHeld ?_
  try simp only [Act.put, List.setIfInBounds_toArray, List.set_cons_zero, List.set_cons_succ]
  refine wpAnyH_takeL (i := 2) (oi := _) (v := ?_) rfl (by kernel_rfl) (by kernel_rfl) (by kernel_rfl) (fun _ _ _ h => h) (Or.inl ⟨by rfl, ?_⟩) hHeld ?_
  rotate_left
  · (intro w' hSw; (try dsimp only at hSw); go_simp; try (with_reducible rfl))
  try simp only [Act.put, List.setIfInBounds_toArray, List.set_cons_zero, List.set_cons_succ]
  refine wpAnyH_rgt [(3, some 13), (4, some 14), (5, some 9), (6, some 15), (7, some 16), (8, some 5)] [5, 6, 7] (isNewZ w4.heap.size) [(3, isN 2), (4, isK k1 r1), (5, isK k1 r1), (6, isV (.int .i64 (k1 : Int))), (7, isN r1)] w4 (f0 := 2) (by kernel_rfl) (by kernel_rfl) (by rfl) HB.out (fun _ h => h) (fun _ _ _ _ _ h => h) (isNewZ_good _) ⟨isN_good _, isK_good _ _, isK_good _ _, isV_good _, isN_good _, trivial⟩ ?_ ?_ ?_
  · clear hHeld HB
    show RgOps _ _ _ _ _ _ _ _ _ [3, 4, 8]
    refine RgOps.consL (o := _) (ds := []) rfl rfl (by kernel_rfl) (fun vals wr hbr hC hdep K hK => ?_) ?_
    · have BB := Lib.hid hbr
      clear hdep
      clear hbr hC
      simp only [Upd2, Act.put, List.setIfInBounds_toArray, List.set_cons_zero, List.set_cons_succ] at hK ⊢
      go_simp
      go_at_call 39
      refine Calls.mono (fromNat (n := 2) rfl (by decide) _) ?_
      rintro e wq ⟨R, cR, rfl, ho, hb⟩
      exact hK.out _ _ (LeavesB.behind hb ⟨_, _, rfl, ho.rd⟩ rfl)
    refine RgOps.consL (o := _) (ds := [3]) rfl rfl (by kernel_rfl) (fun vals wr hbr hC hdep K hK => ?_) ?_
    · have BB := Lib.hid hbr
      obtain ⟨⟨P3, c3, e3, o3⟩, -⟩ := hdep
      clear hbr hC
      simp only [e3, Upd2, Act.put, List.setIfInBounds_toArray, List.set_cons_zero, List.set_cons_succ] at hK ⊢
      clear e3
      go_simp
      go_at_call 38
      refine Calls.mono (rf_at D0.out LT2.out LD.out L2.out (OD.out.below BB.out).rd o3 H1.out) ?_
      rintro e wq ⟨R, q, rfl, hr, hb⟩
      exact hK.out _ _ (LeavesB.behind hb ⟨_, _, rfl, hr⟩ rfl)
    refine RgOps.consL (o := _) (ds := []) rfl rfl (by kernel_rfl) (fun vals wr hbr hC hdep K hK => ?_) RgOps.nil
    · have BB := Lib.hid hbr
      clear hdep
      clear hbr hC
      simp only [Upd2, Act.put, List.setIfInBounds_toArray, List.set_cons_zero, List.set_cons_succ] at hK ⊢
      go_simp
      exact hK.out _ _ (LeavesB.newZ BB.out.size)
  · clear hHeld HB
    show TaAll _ _ _ _ _ [5, 6, 7]
    refine TaAll.cons (o := _) (ds := [4]) rfl rfl (by kernel_rfl) (fun vals wr hdep => ?_) ?_
    · obtain ⟨⟨P4, c4, e4, o4⟩, -⟩ := hdep
      refine ⟨_, fun S => Or.inl ⟨by rfl, ?_⟩, ⟨_, _, rfl, o4⟩, rfl⟩
      intro w' _
      simp only [e4, Upd2, Act.put, List.setIfInBounds_toArray, List.set_cons_zero, List.set_cons_succ]
      go_simp
    refine TaAll.cons (o := _) (ds := [5]) rfl rfl (by kernel_rfl) (fun vals wr hdep => ?_) ?_
    · obtain ⟨⟨P5, c5, e5, o5⟩, -⟩ := hdep
      refine ⟨_, fun S => Or.inl ⟨by rfl, ?_⟩, ⟨rfl, rfl⟩, rfl⟩
      intro w' _
      simp only [e5, Upd2, Act.put, List.setIfInBounds_toArray, List.set_cons_zero, List.set_cons_succ]
      go_simp
    refine TaAll.cons (o := _) (ds := [5]) rfl rfl (by kernel_rfl) (fun vals wr hdep => ?_) TaAll.nil
    · obtain ⟨⟨P5, c5, e5, o5⟩, -⟩ := hdep
      refine ⟨_, fun S => Or.inl ⟨by rfl, ?_⟩, ⟨_, _, rfl, o5⟩, rfl⟩
      intro w' _
      simp only [e5, Upd2, Act.put, List.setIfInBounds_toArray, List.set_cons_zero, List.set_cons_succ]
      go_simp
  clear hHeld HB
  intro vals wr hb hdep hD
  obtain ⟨⟨P3, c3, e3, o3⟩, ⟨P4, c4, e4, o4⟩, ⟨P5, c5, e5, o5⟩, ⟨e6, -⟩, ⟨P7, c7, e7, o7⟩, ⟨g8, e8, l8, z8⟩, -⟩ := hdep
  simp only [Upd2, e3, e4, e5, e6, e7, e8, Act.put, List.setIfInBounds_toArray, List.set_cons_zero, List.set_cons_succ]
  clear e3 e4 e5 e6 e7 e8
  clear hD vals
  replace V0 := Lib.hid (V0.out.below hb V0.out.lt)
  replace OZ := Lib.hid (OZ.out.below hb)
  replace OD := Lib.hid (OD.out.below hb)
  replace HE := Lib.hid (HE.out.below hb)
  replace B1 := Lib.hid (B1.out.trans (hb.mono B1.out.size))
  have HB := Lib.hid hb
  clear hb
  have R1 := Lib.hid o7; have G1 := Lib.hid z8; have LG1 : Hid (w4.heap.size ≤ g8) := l8; have LL1 := Lib.hid l8
  clear o3 o4 o5 o7 z8 l8
  have hHeld : Below w4.heap.size w4 _ ∧ Below w4.heap.size w4 _ := ⟨HB.out, HB.out⟩
  refine wpAnyH_takeL (i := 9) (oi := _) (v := ?_) rfl (by kernel_rfl) (by kernel_rfl) (by kernel_rfl) (fun _ _ _ h => h) (Or.inl ⟨by rfl, ?_⟩) hHeld ?_
  rotate_left
  · (intro w' hSw; (try dsimp only at hSw); go_simp; try (with_reducible rfl))
  try simp only [Act.put, List.setIfInBounds_toArray, List.set_cons_zero, List.set_cons_succ]
  clear hHeld
  refine wpAnyH_ready (rs := [10]) (by kernel_rfl) (by simp) ?_
  refine AllReadyH.consL (o := _) rfl (fun K hK => ?_) AllReadyH.nil
  rw [if_pos (by rfl)]
  refine wp_stZ _ _ rfl (by rfl) (by rfl) G1.out ?_
  intro ws0 hz hg
  replace HB := Lib.hid (Below.gr HB.out (by have := LL1.out; omega) hg HB.out.size)
  replace V0 := Lib.hid (V0.out.gro hg (by have := LG1.out; have := LT.out; omega))
  replace OZ := Lib.hid (OZ.out.gr G1.out hg)
  replace OD := Lib.hid (OD.out.gr G1.out hg)
  replace HE := Lib.hid (HE.out.gr G1.out hg)
  replace R1 := Lib.hid (R1.out.gr G1.out hg)
  replace B1 := Lib.hid (Below.gr B1.out (by have := LG1.out; have := LT.out; omega) hg B1.out.size)
  replace G1 := Lib.hid hz
  refine hK.out _ _ ⟨HB.out, HB.out⟩ (fun _ => ?_)
  clear hK K hg hz
  try simp only [Act.put]
  refine wpAnyH_done (by kernel_rfl) ?_ _
  clear HB
  go_wp2_with fail
  have HB : Hid (Below ws0.heap.size ws0 ws0.drew) := below_drewN _ ws0 1
  refine wp_region_held_drew (S := fun _ => True) (by kernel_rfl) trivial (fun hHeld => ?_)
  refine wpAnyH_rgu [(0, some 18), (1, some 19), (2, some 20), (3, some 17), (4, some 21), (5, some 22)] [3, 4, 5] (isK k2 1) [(0, isN r1), (1, isN 5), (4, isV (.int .i64 (k2 : Int))), (5, isN 1)] ws0 (f0 := 2) (by kernel_rfl) (by kernel_rfl) (by rfl) HB.out (fun _ _ => trivial) (fun _ _ _ _ _ h => h) (isK_good _ _) ⟨isN_good _, isN_good _, isV_good _, isN_good _, trivial⟩ ?_ ?_ ?_
  · clear hHeld HB
    show RgOps _ _ _ _ _ _ _ _ _ [0, 1, 2]
    refine RgOps.consL (o := _) (ds := []) rfl rfl (by kernel_rfl) (fun vals wr hbr hC hdep K hK => ?_) ?_
    · have BB := Lib.hid hbr
      clear hdep
      clear hbr hC
      simp only [Upd2, Act.put, List.setIfInBounds_toArray, List.set_cons_zero, List.set_cons_succ] at hK ⊢
      rw [if_pos (by rfl)]
      refine wp_ldZ _ rfl (by rfl) (G1.out.below BB.out G1.out.lt) ?_
      exact hK.out _ _ (LeavesB.same ⟨_, _, rfl, R1.out.below BB.out⟩ rfl)
    refine RgOps.consL (o := _) (ds := []) rfl rfl (by kernel_rfl) (fun vals wr hbr hC hdep K hK => ?_) ?_
    · have BB := Lib.hid hbr
      clear hdep
      clear hbr hC
      simp only [Upd2, Act.put, List.setIfInBounds_toArray, List.set_cons_zero, List.set_cons_succ] at hK ⊢
      go_simp
      go_at_call 39
      refine Calls.mono (fromNat (n := 5) rfl (by decide) _) ?_
      rintro e wq ⟨R, cR, rfl, ho, hb⟩
      exact hK.out _ _ (LeavesB.behind hb ⟨_, _, rfl, ho.rd⟩ rfl)
    refine RgOps.consL (o := _) (ds := [0, 1]) rfl rfl (by kernel_rfl) (fun vals wr hbr hC hdep K hK => ?_) RgOps.nil
    · have BB := Lib.hid hbr
      obtain ⟨⟨P0, c0, e0, o0⟩, ⟨P1, c1, e1, o1⟩, -⟩ := hdep
      clear hbr hC
      simp only [e0, e1, Upd2, Act.put, List.setIfInBounds_toArray, List.set_cons_zero, List.set_cons_succ] at hK ⊢
      clear e0 e1
      go_simp
      go_at_call 38
      refine Calls.mono (rf_at R0.out LT5.out LR.out L5.out o0 o1 H2.out) ?_
      rintro e wq ⟨R, q, rfl, hr, hb⟩
      exact hK.out _ _ (LeavesB.behind hb ⟨_, _, rfl, hr⟩ rfl)
  · clear hHeld HB
    show TaAll _ _ _ _ _ [3, 4, 5]
    refine TaAll.cons (o := _) (ds := [2]) rfl rfl (by kernel_rfl) (fun vals wr hdep => ?_) ?_
    · obtain ⟨⟨P2, c2, e2, o2⟩, -⟩ := hdep
      refine ⟨_, fun S => Or.inl ⟨by rfl, ?_⟩, ⟨_, _, rfl, o2⟩, rfl⟩
      intro w' _
      simp only [e2, Upd2, Act.put, List.setIfInBounds_toArray, List.set_cons_zero, List.set_cons_succ]
      go_simp
    refine TaAll.cons (o := _) (ds := [3]) rfl rfl (by kernel_rfl) (fun vals wr hdep => ?_) ?_
    · obtain ⟨⟨P3, c3, e3, o3⟩, -⟩ := hdep
      refine ⟨_, fun S => Or.inl ⟨by rfl, ?_⟩, ⟨rfl, rfl⟩, rfl⟩
      intro w' _
      simp only [e3, Upd2, Act.put, List.setIfInBounds_toArray, List.set_cons_zero, List.set_cons_succ]
      go_simp
    refine TaAll.cons (o := _) (ds := [3]) rfl rfl (by kernel_rfl) (fun vals wr hdep => ?_) TaAll.nil
    · obtain ⟨⟨P3, c3, e3, o3⟩, -⟩ := hdep
      refine ⟨_, fun S => Or.inl ⟨by rfl, ?_⟩, ⟨_, _, rfl, o3⟩, rfl⟩
      intro w' _
      simp only [e3, Upd2, Act.put, List.setIfInBounds_toArray, List.set_cons_zero, List.set_cons_succ]
      go_simp
  clear hHeld HB
  intro vals wr hb hdep hD
  obtain ⟨⟨P0, c0, e0, o0⟩, ⟨P1, c1, e1, o1⟩, ⟨P2, c2, e2, o2⟩, ⟨P3, c3, e3, o3⟩, ⟨e4, -⟩, ⟨P5, c5, e5, o5⟩, -⟩ := hdep
  simp only [Upd2, e0, e1, e2, e3, e4, e5, Act.put, List.setIfInBounds_toArray, List.set_cons_zero, List.set_cons_succ]
  clear e0 e1 e2 e3 e4 e5
  clear hD vals
  replace V0 := Lib.hid (V0.out.below hb V0.out.lt)
  replace OZ := Lib.hid (OZ.out.below hb)
  replace OD := Lib.hid (OD.out.below hb)
  replace HE := Lib.hid (HE.out.below hb)
  replace R1 := Lib.hid (R1.out.below hb)
  replace G1 := Lib.hid (G1.out.below hb G1.out.lt)
  replace B1 := Lib.hid (B1.out.trans (hb.mono B1.out.size))
  have HB := Lib.hid hb
  clear hb
  have R2 := Lib.hid o5
  clear o0 o1 o2 o3 o5
  have hHeld : True := trivial
  refine wpAnyH_takeL (i := 6) (oi := _) (v := ?_) rfl (by kernel_rfl) (by kernel_rfl) (by kernel_rfl) (fun _ _ _ h => h) (Or.inl ⟨by rfl, ?_⟩) hHeld ?_
  rotate_left
  · (intro w' hSw; (try dsimp only at hSw); go_simp; try (with_reducible rfl))
  try simp only [Act.put, List.setIfInBounds_toArray, List.set_cons_zero, List.set_cons_succ]
  clear hHeld
  refine wpAnyH_ready (rs := [7]) (by kernel_rfl) (by simp) ?_
  refine AllReadyH.consL (o := _) rfl (fun K hK => ?_) AllReadyH.nil
  rw [if_pos (by rfl)]
  refine wp_stZ _ _ rfl (by rfl) (by rfl) G1.out ?_
  intro w6_0 hz hg
  replace V0 := Lib.hid (V0.out.gro hg (by have := LG1.out; have := LT.out; omega))
  replace OZ := Lib.hid (OZ.out.gr G1.out hg)
  replace OD := Lib.hid (OD.out.gr G1.out hg)
  replace HE := Lib.hid (HE.out.gr G1.out hg)
  replace R1 := Lib.hid (R1.out.gr G1.out hg)
  replace R2 := Lib.hid (R2.out.gr G1.out hg)
  replace B1 := Lib.hid (Below.gr B1.out (by have := LG1.out; have := LT.out; omega) hg B1.out.size)
  replace G1 := Lib.hid hz
  refine hK.out _ _ trivial (fun _ => ?_)
  clear hK K hg hz
  try simp only [Act.put]
  refine wpAnyH_done (by kernel_rfl) ?_ _
  clear HB
  go_wp2_with fail
  have HB : Hid (Below w6_0.heap.size w6_0 w6_0.drew) := below_drewN _ w6_0 1
  refine wp_region_held_drew (S := fun w' => Below w6_0.heap.size w6_0 w') (by kernel_rfl) (HB.out) (fun hHeld => ?_)
  refine wpAnyH_takeL (i := 0) (oi := _) rfl (by kernel_rfl) (by kernel_rfl) (by kernel_rfl) (fun _ _ _ h => h) (yields_ldZ (by rfl) _ rfl (by rfl) (fun _ hb => G1.out.below hb G1.out.lt)) hHeld ?_
  try simp only [Act.put, List.setIfInBounds_toArray, List.set_cons_zero, List.set_cons_succ]
  refine wpAnyH_ready (rs := [1]) (by kernel_rfl) (by simp) ?_
  refine AllReadyH.consL (o := _) rfl (fun K hK => ?_) AllReadyH.nil
  clear hHeld
  go_simp
  go_at_call 39
  refine Calls.mono (fromNat (n := 1) rfl (by decide) _) ?_
  rintro e w7 ⟨P9, c9, rfl, ho, hb⟩
  replace HB := Lib.hid (HB.out.trans (hb.mono HB.out.size))
  have RO := Lib.hid ho.rd
  clear ho
  clear hb
  refine hK.out _ _ HB.out (fun hHeld => ?_)
  clear hK K
  try simp only [Act.put, List.setIfInBounds_toArray, List.set_cons_zero, List.set_cons_succ]
  refine wpAnyH_ready (rs := [2]) (by kernel_rfl) (by simp) ?_
  refine AllReadyH.consL (o := _) rfl (fun K hK => ?_) AllReadyH.nil
  clear hHeld
  go_simp
  go_at_call 40
  refine Calls.mono (compare_k (x := ((1 : Nat) : Int)) (y := ((1 : Nat) : Int)) (rd_zin (R2.out.below HB.out)) (rd_zin RO.out) SS.out) ?_
  rintro e w8 ⟨rfl, hb⟩
  replace HB := Lib.hid (HB.out.trans (hb.mono HB.out.size))
  clear RO
  clear hb
  refine hK.out _ _ HB.out (fun hHeld => ?_)
  clear hK K
  try simp only [Act.put, List.setIfInBounds_toArray, List.set_cons_zero, List.set_cons_succ]
  refine wpAnyH_takeL (i := 3) (oi := _) (v := ?_) rfl (by kernel_rfl) (by kernel_rfl) (by kernel_rfl) (fun _ _ _ h => h) (Or.inl ⟨by rfl, ?_⟩) hHeld ?_
  rotate_left
  · (intro w' hSw; (try dsimp only at hSw); go_simp; try (with_reducible rfl))
  try simp only [Act.put, List.setIfInBounds_toArray, List.set_cons_zero, List.set_cons_succ]
  skip
  refine wpAnyH_done (by kernel_rfl) ?_ _
  have hb := HB.out
  replace V0 := Lib.hid (V0.out.below hb V0.out.lt)
  replace OZ := Lib.hid (OZ.out.below hb)
  replace OD := Lib.hid (OD.out.below hb)
  replace HE := Lib.hid (HE.out.below hb)
  replace R1 := Lib.hid (R1.out.below hb)
  replace G1 := Lib.hid (G1.out.below hb G1.out.lt)
  replace R2 := Lib.hid (R2.out.below hb)
  replace B1 := Lib.hid (B1.out.trans (hb.mono B1.out.size))
  clear hHeld hb HB
  go_wp2_with (first | (refine wpList_ldR (by rfl) _ rfl (by rfl) V0.out ?_) | (go_at_call 41; refine Calls.mono (rounded_at (Zo.of_own OZ.out).in_ (Nin.of_rd OD.out.rd) LZ.out LD2.out HE.out EMX.out HMX.out HV.out HL.out) ?_; rintro e w9 ⟨rfl, hb⟩; replace B1 := Lib.hid (B1.out.trans (hb.mono B1.out.size)); clear hb))
  go_ret2
  exact ⟨rfl, B1.out⟩
end Go.Proofs.YtebpoabflcngoaaGreatDoor

/-
  The statements' own sanity check of package numtext.
-/
namespace Go.Proofs.YtebpoabflcngoaaGreatDoor
open Go.RowKit
set_option linter.unusedVariables false
set_option linter.unusedSimpArgs false

theorem fixed_at {s : Bool} {A D : Option Addr} {n c m k : Nat} {x : Int} {p : Nat} {w : World} (h : Zin w s A n c x) (h' : Nin w D m k p) (hn : n ≤ 2000000) (hm : m ≤ 2000000) (hE : Env w) {pl : Nat} (hpl : pl ≤ 100) {pv : Int} (hp : pv = (pl : Int)) {v : Int} (hv : rndR (mkRat x p * mkRat ((10 ^ pl : Nat) : Int) 1) = v) {l : List UInt8} (hl : ptxt v pl = l) :
    Calls Tryz.prog 15 #[.agg #[.bool s, .slice A n c, .slice D m k], .int .i64 pv] w fun e w' => e = .returned (.tuple #[.string (txt l), .int .i64 0]) ∧ Below w.heap.size w w' := by subst hp; exact fixed_ok h h' hn hm hE hpl hv hl
set_option maxRecDepth 100000 in
set_option maxHeartbeats 16000000 in
theorem nawake_any {w : World} (hE : Env w) : Calls Tryz.prog 8 #[] w fun e w' => e = .returned (.bool true) ∧ Below w.heap.size w w' := by
  obtain ⟨za, e_za⟩ : ∃ z0 : Int, (Rat.divInt (6) 4).num = z0 := ⟨_, rfl⟩
  obtain ⟨da, e_da⟩ : ∃ z0 : Nat, (Rat.divInt (6) 4).den = z0 := ⟨_, rfl⟩
  have v_a : za = 3 ∧ da = 2 := by rw [← e_za, ← e_da]; exact ⟨by decide +kernel, by decide +kernel⟩
  have HZa := Lib.hid e_za
  have HDa := Lib.hid e_da
  obtain ⟨zb, e_zb⟩ : ∃ z0 : Int, (Rat.divInt (-1) 4).num = z0 := ⟨_, rfl⟩
  obtain ⟨db, e_db⟩ : ∃ z0 : Nat, (Rat.divInt (-1) 4).den = z0 := ⟨_, rfl⟩
  have v_b : zb = -1 ∧ db = 4 := by rw [← e_zb, ← e_db]; exact ⟨by decide +kernel, by decide +kernel⟩
  have HZb := Lib.hid e_zb
  have HDb := Lib.hid e_db
  obtain ⟨zc, e_zc⟩ : ∃ z0 : Int, (Rat.divInt (7) 40).num = z0 := ⟨_, rfl⟩
  obtain ⟨dc, e_dc⟩ : ∃ z0 : Nat, (Rat.divInt (7) 40).den = z0 := ⟨_, rfl⟩
  have v_c : zc = 7 ∧ dc = 40 := by rw [← e_zc, ← e_dc]; exact ⟨by decide +kernel, by decide +kernel⟩
  have HZc := Lib.hid e_zc
  have HDc := Lib.hid e_dc
  obtain ⟨zd, e_zd⟩ : ∃ z0 : Int, (Rat.divInt (5) 2).num = z0 := ⟨_, rfl⟩
  obtain ⟨dd, e_dd⟩ : ∃ z0 : Nat, (Rat.divInt (5) 2).den = z0 := ⟨_, rfl⟩
  have v_d : zd = 5 ∧ dd = 2 := by rw [← e_zd, ← e_dd]; exact ⟨by decide +kernel, by decide +kernel⟩
  have HZd := Lib.hid e_zd
  have HDd := Lib.hid e_dd
  obtain ⟨zp, e_zp⟩ : ∃ z0 : Int, (Rat.divInt (-25) 100).num = z0 := ⟨_, rfl⟩
  obtain ⟨dp, e_dp⟩ : ∃ z0 : Nat, (Rat.divInt (-25) 100).den = z0 := ⟨_, rfl⟩
  have v_p : zp = -1 ∧ dp = 4 := by rw [← e_zp, ← e_dp]; exact ⟨by decide +kernel, by decide +kernel⟩
  have HZp := Lib.hid e_zp
  have HDp := Lib.hid e_dp
  obtain ⟨la, e_la⟩ : ∃ z0 : List UInt8, ([51, 47, 50] : List UInt8) = z0 := ⟨_, rfl⟩
  obtain ⟨lc, e_lc⟩ : ∃ z0 : List UInt8, ([48, 46, 49, 55, 53] : List UInt8) = z0 := ⟨_, rfl⟩
  obtain ⟨ld, e_ld⟩ : ∃ z0 : List UInt8, ([50] : List UInt8) = z0 := ⟨_, rfl⟩
  obtain ⟨lp, e_lp⟩ : ∃ z0 : List UInt8, ([45, 48, 46, 50, 53] : List UInt8) = z0 := ⟨_, rfl⟩
  have I1 : ∀ v : Int, -100 ≤ v → v ≤ 100 → Hid (-9223372036854775808 ≤ v ∧ v ≤ 9223372036854775807) := fun v h1 h2 => by show _ ∧ _; omega
  have INa := I1 (6) (by decide) (by decide)
  have IQa := I1 4 (by decide) (by decide)
  have LZa : (ofv za.natAbs).length ≤ 1 := by rw [v_a.1]; exact len_small (by decide)
  have LDa : (ofv da).length ≤ 1 := by rw [v_a.2]; exact len_small (by decide)
  have INb := I1 (-1) (by decide) (by decide)
  have IQb := I1 4 (by decide) (by decide)
  have LZb : (ofv zb.natAbs).length ≤ 1 := by rw [v_b.1]; exact len_small (by decide)
  have LDb : (ofv db).length ≤ 1 := by rw [v_b.2]; exact len_small (by decide)
  have INc := I1 (7) (by decide) (by decide)
  have IQc := I1 40 (by decide) (by decide)
  have LZc : (ofv zc.natAbs).length ≤ 1 := by rw [v_c.1]; exact len_small (by decide)
  have LDc : (ofv dc).length ≤ 1 := by rw [v_c.2]; exact len_small (by decide)
  have INd := I1 (5) (by decide) (by decide)
  have IQd := I1 2 (by decide) (by decide)
  have LZd : (ofv zd.natAbs).length ≤ 1 := by rw [v_d.1]; exact len_small (by decide)
  have LDd : (ofv dd).length ≤ 1 := by rw [v_d.2]; exact len_small (by decide)
  have LA1 : Hid ((ofv za.natAbs).length ≤ 1000000000) := Nat.le_trans LZa (by decide)
  have LA2 : Hid ((ofv da).length ≤ 1000000000) := Nat.le_trans LDa (by decide)
  have LC1 : Hid ((ofv zc.natAbs).length ≤ 1500000) := Nat.le_trans LZc (by decide)
  have LC2 : Hid ((ofv dc).length ≤ 1500000) := Nat.le_trans LDc (by decide)
  have LD1 : Hid ((ofv zd.natAbs).length ≤ 2000000) := Nat.le_trans LZd (by decide)
  have LD2 : Hid ((ofv dd).length ≤ 2000000) := Nat.le_trans LDd (by decide)
  have EQ : Hid (decide (zp = zb ∧ dp = db) = true) := by show _ = _; rw [v_p.1, v_p.2, v_b.1, v_b.2]; rfl
  have TA : Hid (ratTxt (mkRat za da) = la) := by show _ = _; rw [v_a.1, v_a.2, ← e_la]; decide +kernel
  have FC1 : Hid (Facs (mkRat zc dc).den 2 3 5) := by show Facs _ _ _ _; rw [v_c.1, v_c.2]; exact ⟨by decide +kernel, by decide⟩
  have FC2 : Hid (Facs 5 5 1 1) := by show Facs _ _ _ _; exact ⟨by decide, by decide⟩
  have RC : Hid (rndR (mkRat zc dc * mkRat ((10 ^ max 3 1 : Nat) : Int) 1) = 175) := by show _ = _; rw [v_c.1, v_c.2]; decide +kernel
  have TC : Hid (ptxt 175 (max 3 1) = lc) := by show _ = _; rw [← e_lc]; decide +kernel
  have RD : Hid (rndR (mkRat zd dd * mkRat ((10 ^ 0 : Nat) : Int) 1) = 2) := by show _ = _; rw [v_d.1, v_d.2]; decide +kernel
  have TD : Hid (ptxt 2 0 = ld) := by show _ = _; rw [← e_ld]; decide +kernel
  have P1 : Hid (ascii [45, 48]) := by show ascii _; unfold ascii; decide
  have P2 : Hid (ascii [50, 53]) := by show ascii _; unfold ascii; decide
  have P3 : Hid (plainB (unsg [45, 48]) = true) := by show _ = _; decide +kernel
  have P4 : Hid ((alld [50, 53] && !([50, 53] : List UInt8).isEmpty) = true) := by show _ = _; decide +kernel
  have P5 : Hid ((unsg [45, 48]).length + ([50, 53] : List UInt8).length ≤ 4096) := by show _ ≤ _; decide +kernel
  have P6 : Hid (tval ([45, 48] ++ [50, 53]) = -25) := by show _ = _; decide +kernel
  have P7 : Hid (Lib.cut lp [47] = (lp, [], false)) := by show _ = _; rw [← e_lp]; decide +kernel
  have P8 : Hid (Lib.cut lp [46] = ([45, 48], [50, 53], true)) := by show _ = _; rw [← e_lp]; decide +kernel
  have P9 : Hid (lp.length ≤ 4000000000) := by show _ ≤ _; rw [← e_lp]; decide
  have SP : Hid ((⟨#[45, 48, 46, 50, 53]⟩ : ByteArray) = txt lp) := by show _ = _; rw [← e_lp]; rfl
  have SA : Hid (((txt la).toList == [51, 47, 50]) = true) := by show _ = _; rw [txt_list, ← e_la]; rfl
  have SC : Hid (((txt lc).toList == [48, 46, 49, 55, 53]) = true) := by show _ = _; rw [txt_list, ← e_lc]; rfl
  have SD : Hid (((txt ld).toList == [50]) = true) := by show _ = _; rw [txt_list, ← e_ld]; rfl
  have HE := Lib.hid hE
  have B1 := Lib.hid (Below.refl w.heap.size w)
  clear hE I1 e_za e_da v_a e_zb e_db v_b e_zc e_dc v_c e_zd e_dd v_d e_zp e_dp v_p LZa LDa LZb LDb LZc LDc LZd LDd e_la e_lc e_ld e_lp
  go_enter Tryz.func8, Tryz.ntmps8
  go_wp2_with fail
  rw [SP.out]
  go_wp2_with fail
  refine (prat_dec_ok (l := lp) (la := [45, 48]) (lb := [50, 53]) P1.out P2.out P3.out P4.out P5.out P6.out (y := 100) rfl HZp.out HDp.out P9.out P7.out P8.out HE.out).mono ?_
  rintro e w1 ⟨Pp, cp, Qp, kp, rfl, ho, ho2, hb⟩
  replace HE := Lib.hid (HE.out.below hb)
  replace B1 := Lib.hid (B1.out.trans (hb.mono B1.out.size))
  have Zp := Lib.hid (Zo.of_own ho)
  have Np := Lib.hid ho2.rd
  clear ho ho2
  clear hb
  go_wp2_with fail
  have hb : Below w1.heap.size w1 (w1.alloc (.cells #[.bool (decide (zp < 0)), .slice Pp (ofv zp.natAbs).length cp, .slice Qp (ofv dp).length kp] 26)) := (Below.refl _ _).alloc (Nat.le_refl _) _
  replace HE := Lib.hid (HE.out.below hb)
  replace Zp := Lib.hid (Zp.out.below hb)
  replace Np := Lib.hid (Np.out.below hb)
  replace B1 := Lib.hid (B1.out.trans (hb.mono B1.out.size))
  have G1 := Lib.hid (Rb.new w1 (decide (zp < 0)) Pp (ofv zp.natAbs).length cp Qp (ofv dp).length kp)
  clear hb
  generalize (w1.alloc (.cells #[.bool (decide (zp < 0)), .slice Pp (ofv zp.natAbs).length cp, .slice Qp (ofv dp).length kp] 26)) = w2 at *
  go_wp2_with fail
  refine (rof_any (a := 7) (b := 40) INc.out IQc.out HZc.out HDc.out _).mono ?_
  rintro e w3 ⟨Pc, cc, Qc, kc, rfl, ho, ho2, hb⟩
  replace HE := Lib.hid (HE.out.below hb)
  replace Zp := Lib.hid (Zp.out.below hb)
  replace Np := Lib.hid (Np.out.below hb)
  replace G1 := Lib.hid (G1.out.below hb G1.out.lt)
  replace B1 := Lib.hid (B1.out.trans (hb.mono B1.out.size))
  have Zc := Lib.hid (Zo.of_own ho)
  have Nc := Lib.hid ho2.rd
  clear ho ho2
  clear hb
  go_wp2_with fail
  refine (decimal_yes Zc.out.in_ (Nin.of_rd Nc.out) LC1.out LC2.out HE.out FC1.out FC2.out RC.out TC.out).mono ?_
  rintro e w4 ⟨rfl, hb⟩
  replace HE := Lib.hid (HE.out.below hb)
  replace Zp := Lib.hid (Zp.out.below hb)
  replace Np := Lib.hid (Np.out.below hb)
  replace G1 := Lib.hid (G1.out.below hb G1.out.lt)
  replace Zc := Lib.hid (Zc.out.below hb)
  replace Nc := Lib.hid (Nc.out.below hb)
  replace B1 := Lib.hid (B1.out.trans (hb.mono B1.out.size))
  clear hb
  go_wp2_with fail
  refine (rof_any (a := 5) (b := 2) INd.out IQd.out HZd.out HDd.out _).mono ?_
  rintro e w5 ⟨Pd, cd, Qd, kd, rfl, ho, ho2, hb⟩
  replace HE := Lib.hid (HE.out.below hb)
  replace Zp := Lib.hid (Zp.out.below hb)
  replace Np := Lib.hid (Np.out.below hb)
  replace G1 := Lib.hid (G1.out.below hb G1.out.lt)
  replace Zc := Lib.hid (Zc.out.below hb)
  replace Nc := Lib.hid (Nc.out.below hb)
  replace B1 := Lib.hid (B1.out.trans (hb.mono B1.out.size))
  have Zd := Lib.hid (Zo.of_own ho)
  have Nd := Lib.hid ho2.rd
  clear ho ho2
  clear hb
  go_wp2_with fail
  refine (fixed_at Zd.out.in_ (Nin.of_rd Nd.out) LD1.out LD2.out HE.out (pl := 0) (by decide) rfl RD.out TD.out).mono ?_
  rintro e w6 ⟨rfl, hb⟩
  replace HE := Lib.hid (HE.out.below hb)
  replace Zp := Lib.hid (Zp.out.below hb)
  replace Np := Lib.hid (Np.out.below hb)
  replace G1 := Lib.hid (G1.out.below hb G1.out.lt)
  replace Zc := Lib.hid (Zc.out.below hb)
  replace Nc := Lib.hid (Nc.out.below hb)
  replace Zd := Lib.hid (Zd.out.below hb)
  replace Nd := Lib.hid (Nd.out.below hb)
  replace B1 := Lib.hid (B1.out.trans (hb.mono B1.out.size))
  clear hb
  go_wp2_with fail
  have HB : Hid (Below w6.heap.size w6 w6.drew) := below_drewN _ w6 1
  refine wp_region_held_drew (S := fun w' => Below w6.heap.size w6 w') (by kernel_rfl) (HB.out) (fun hHeld => ?_)
  refine wpAnyH_ready (rs := [0]) (by kernel_rfl) (by simp) ?_
  refine AllReadyH.consL (o := _) rfl (fun K hK => ?_) AllReadyH.nil
  clear hHeld
  go_simp
  go_at_call 28
  refine Calls.mono (rof_any (a := 6) (b := 4) INa.out IQa.out HZa.out HDa.out _) ?_
  rintro e w7 ⟨Pa, ca, Qa, ka, rfl, ho, ho2, hb⟩
  replace HB := Lib.hid (HB.out.trans (hb.mono HB.out.size))
  have Za := Lib.hid (Zo.of_own ho)
  have Na := Lib.hid ho2.rd
  clear ho ho2
  clear hb
  refine hK.out _ _ HB.out (fun hHeld => ?_)
  clear hK K
  try simp only [Act.put, List.setIfInBounds_toArray, List.set_cons_zero, List.set_cons_succ]
  refine wpAnyH_ready (rs := [1]) (by kernel_rfl) (by simp) ?_
  refine AllReadyH.consL (o := _) rfl (fun K hK => ?_) AllReadyH.nil
  clear hHeld
  go_simp
  go_at_call 11
  refine Calls.mono (formatRat_any (l := la) Za.out.in_ (Nin.of_rd Na.out) LA1.out LA2.out (HE.out.below HB.out) TA.out) ?_
  rintro e w8 ⟨rfl, hb⟩
  replace HB := Lib.hid (HB.out.trans (hb.mono HB.out.size))
  clear hb
  refine hK.out _ _ HB.out (fun hHeld => ?_)
  clear hK K
  try simp only [Act.put, List.setIfInBounds_toArray, List.set_cons_zero, List.set_cons_succ]
  refine wpAnyH_takeL (i := 2) (oi := _) (v := ?_) rfl (by kernel_rfl) (by kernel_rfl) (by kernel_rfl) (fun _ _ _ h => h) (Or.inl ⟨by rfl, ?_⟩) hHeld ?_
  rotate_left
  · (intro w' hSw; (try dsimp only at hSw); go_simp; try (with_reducible rfl))
  try simp only [Act.put, List.setIfInBounds_toArray, List.set_cons_zero, List.set_cons_succ]
  rw [SA.out]
  refine wpAnyH_takeL (i := 3) (oi := _) (v := ?_) rfl (by kernel_rfl) (by kernel_rfl) (by kernel_rfl) (fun _ _ _ h => h) (Or.inl ⟨by rfl, ?_⟩) hHeld ?_
  rotate_left
  · (intro w' hSw; (try dsimp only at hSw); go_simp; try (with_reducible rfl))
  try simp only [Act.put, List.setIfInBounds_toArray, List.set_cons_zero, List.set_cons_succ]
  refine wpAnyH_takeL (i := 4) (oi := _) (v := ?_) rfl (by kernel_rfl) (by kernel_rfl) (by kernel_rfl) (fun _ _ _ h => h) (Or.inl ⟨by rfl, ?_⟩) hHeld ?_
  rotate_left
  · (intro w' hSw; (try dsimp only at hSw); go_simp; try (with_reducible rfl))
  try simp only [Act.put, List.setIfInBounds_toArray, List.set_cons_zero, List.set_cons_succ]
  refine wpAnyH_takeL (i := 5) (oi := _) (v := ?_) rfl (by kernel_rfl) (by kernel_rfl) (by kernel_rfl) (fun _ _ _ h => h) (Or.inl ⟨by rfl, ?_⟩) hHeld ?_
  rotate_left
  · (intro w' hSw; (try dsimp only at hSw); go_simp; try (with_reducible rfl))
  try simp only [Act.put, List.setIfInBounds_toArray, List.set_cons_zero, List.set_cons_succ]
  refine wpAnyH_takeL (i := 6) (oi := _) (v := ?_) rfl (by kernel_rfl) (by kernel_rfl) (by kernel_rfl) (fun _ _ _ h => h) (Or.inl ⟨by rfl, ?_⟩) hHeld ?_
  rotate_left
  · (intro w' hSw; (try dsimp only at hSw); go_simp; try (with_reducible rfl))
  try simp only [Act.put, List.setIfInBounds_toArray, List.set_cons_zero, List.set_cons_succ]
  refine wpAnyH_takeL (i := 7) (oi := _) (v := ?_) rfl (by kernel_rfl) (by kernel_rfl) (by kernel_rfl) (fun _ _ _ h => h) (Or.inl ⟨by rfl, ?_⟩) hHeld ?_
  rotate_left
  · (intro w' hSw; (try dsimp only at hSw); go_simp; try (with_reducible rfl))
  try simp only [Act.put, List.setIfInBounds_toArray, List.set_cons_zero, List.set_cons_succ]
  refine wpAnyH_takeL (i := 8) (oi := _) rfl (by kernel_rfl) (by kernel_rfl) (by kernel_rfl) (fun _ _ _ h => h) (yields_ldR (by rfl) _ rfl (by rfl) (fun _ hb => G1.out.below hb G1.out.lt)) hHeld ?_
  try simp only [Act.put, List.setIfInBounds_toArray, List.set_cons_zero, List.set_cons_succ]
  refine wpAnyH_ready (rs := [9]) (by kernel_rfl) (by simp) ?_
  refine AllReadyH.consL (o := _) rfl (fun K hK => ?_) AllReadyH.nil
  clear hHeld
  go_simp
  go_at_call 28
  refine Calls.mono (rof_any (a := -1) (b := 4) INb.out IQb.out HZb.out HDb.out _) ?_
  rintro e w9 ⟨Pb, cb, Qb, kb, rfl, ho, ho2, hb⟩
  replace HB := Lib.hid (HB.out.trans (hb.mono HB.out.size))
  have Zb := Lib.hid (Zo.of_own ho)
  have Nb := Lib.hid ho2.rd
  clear ho ho2
  clear hb
  refine hK.out _ _ HB.out (fun hHeld => ?_)
  clear hK K
  try simp only [Act.put, List.setIfInBounds_toArray, List.set_cons_zero, List.set_cons_succ]
  refine wpAnyH_ready (rs := [10]) (by kernel_rfl) (by simp) ?_
  refine AllReadyH.consL (o := _) rfl (fun K hK => ?_) AllReadyH.nil
  clear hHeld
  go_simp
  go_at_call 21
  refine Calls.mono (r3equal_any (Zp.out.below HB.out) Zb.out (Np.out.below HB.out) Nb.out EQ.out) ?_
  rintro e w10 ⟨rfl, hb⟩
  replace HB := Lib.hid (HB.out.trans (hb.mono HB.out.size))
  clear hb
  refine hK.out _ _ HB.out (fun hHeld => ?_)
  clear hK K
  try simp only [Act.put, List.setIfInBounds_toArray, List.set_cons_zero, List.set_cons_succ]
  refine wpAnyH_takeL (i := 11) (oi := _) (v := ?_) rfl (by kernel_rfl) (by kernel_rfl) (by kernel_rfl) (fun _ _ _ h => h) (Or.inl ⟨by rfl, ?_⟩) hHeld ?_
  rotate_left
  · (intro w' hSw; (try dsimp only at hSw); go_simp; try (with_reducible rfl))
  try simp only [Act.put, List.setIfInBounds_toArray, List.set_cons_zero, List.set_cons_succ]
  refine wpAnyH_takeL (i := 12) (oi := _) (v := ?_) rfl (by kernel_rfl) (by kernel_rfl) (by kernel_rfl) (fun _ _ _ h => h) (Or.inl ⟨by rfl, ?_⟩) hHeld ?_
  rotate_left
  · (intro w' hSw; (try dsimp only at hSw); go_simp; try (with_reducible rfl))
  try simp only [Act.put, List.setIfInBounds_toArray, List.set_cons_zero, List.set_cons_succ]
  refine wpAnyH_takeL (i := 13) (oi := _) (v := ?_) rfl (by kernel_rfl) (by kernel_rfl) (by kernel_rfl) (fun _ _ _ h => h) (Or.inl ⟨by rfl, ?_⟩) hHeld ?_
  rotate_left
  · (intro w' hSw; (try dsimp only at hSw); go_simp; try (with_reducible rfl))
  try simp only [Act.put, List.setIfInBounds_toArray, List.set_cons_zero, List.set_cons_succ]
  refine wpAnyH_takeL (i := 14) (oi := _) (v := ?_) rfl (by kernel_rfl) (by kernel_rfl) (by kernel_rfl) (fun _ _ _ h => h) (Or.inl ⟨by rfl, ?_⟩) hHeld ?_
  rotate_left
  · (intro w' hSw; (try dsimp only at hSw); go_simp; try (with_reducible rfl))
  try simp only [Act.put, List.setIfInBounds_toArray, List.set_cons_zero, List.set_cons_succ]
  refine wpAnyH_takeL (i := 15) (oi := _) (v := ?_) rfl (by kernel_rfl) (by kernel_rfl) (by kernel_rfl) (fun _ _ _ h => h) (Or.inl ⟨by rfl, ?_⟩) hHeld ?_
  rotate_left
  · (intro w' hSw; (try dsimp only at hSw); go_simp; try (with_reducible rfl))
  try simp only [Act.put, List.setIfInBounds_toArray, List.set_cons_zero, List.set_cons_succ]
  refine wpAnyH_takeL (i := 16) (oi := _) (v := ?_) rfl (by kernel_rfl) (by kernel_rfl) (by kernel_rfl) (fun _ _ _ h => h) (Or.inl ⟨by rfl, ?_⟩) hHeld ?_
  rotate_left
  · (intro w' hSw; (try dsimp only at hSw); go_simp; try (with_reducible rfl))
  try simp only [Act.put, List.setIfInBounds_toArray, List.set_cons_zero, List.set_cons_succ]
  refine wpAnyH_takeL (i := 17) (oi := _) (v := ?_) rfl (by kernel_rfl) (by kernel_rfl) (by kernel_rfl) (fun _ _ _ h => h) (Or.inl ⟨by rfl, ?_⟩) hHeld ?_
  rotate_left
  · (intro w' hSw; (try dsimp only at hSw); go_simp; try (with_reducible rfl))
  try simp only [Act.put, List.setIfInBounds_toArray, List.set_cons_zero, List.set_cons_succ]
  rw [SC.out]
  refine wpAnyH_takeL (i := 18) (oi := _) (v := ?_) rfl (by kernel_rfl) (by kernel_rfl) (by kernel_rfl) (fun _ _ _ h => h) (Or.inl ⟨by rfl, ?_⟩) hHeld ?_
  rotate_left
  · (intro w' hSw; (try dsimp only at hSw); go_simp; try (with_reducible rfl))
  try simp only [Act.put, List.setIfInBounds_toArray, List.set_cons_zero, List.set_cons_succ]
  refine wpAnyH_takeL (i := 19) (oi := _) (v := ?_) rfl (by kernel_rfl) (by kernel_rfl) (by kernel_rfl) (fun _ _ _ h => h) (Or.inl ⟨by rfl, ?_⟩) hHeld ?_
  rotate_left
  · (intro w' hSw; (try dsimp only at hSw); go_simp; try (with_reducible rfl))
  try simp only [Act.put, List.setIfInBounds_toArray, List.set_cons_zero, List.set_cons_succ]
  refine wpAnyH_takeL (i := 20) (oi := _) (v := ?_) rfl (by kernel_rfl) (by kernel_rfl) (by kernel_rfl) (fun _ _ _ h => h) (Or.inl ⟨by rfl, ?_⟩) hHeld ?_
  rotate_left
  · (intro w' hSw; (try dsimp only at hSw); go_simp; try (with_reducible rfl))
  try simp only [Act.put, List.setIfInBounds_toArray, List.set_cons_zero, List.set_cons_succ]
  refine wpAnyH_takeL (i := 21) (oi := _) (v := ?_) rfl (by kernel_rfl) (by kernel_rfl) (by kernel_rfl) (fun _ _ _ h => h) (Or.inl ⟨by rfl, ?_⟩) hHeld ?_
  rotate_left
  · (intro w' hSw; (try dsimp only at hSw); go_simp; try (with_reducible rfl))
  try simp only [Act.put, List.setIfInBounds_toArray, List.set_cons_zero, List.set_cons_succ]
  refine wpAnyH_takeL (i := 22) (oi := _) (v := ?_) rfl (by kernel_rfl) (by kernel_rfl) (by kernel_rfl) (fun _ _ _ h => h) (Or.inl ⟨by rfl, ?_⟩) hHeld ?_
  rotate_left
  · (intro w' hSw; (try dsimp only at hSw); go_simp; try (with_reducible rfl))
  try simp only [Act.put, List.setIfInBounds_toArray, List.set_cons_zero, List.set_cons_succ]
  refine wpAnyH_takeL (i := 23) (oi := _) (v := ?_) rfl (by kernel_rfl) (by kernel_rfl) (by kernel_rfl) (fun _ _ _ h => h) (Or.inl ⟨by rfl, ?_⟩) hHeld ?_
  rotate_left
  · (intro w' hSw; (try dsimp only at hSw); go_simp; try (with_reducible rfl))
  try simp only [Act.put, List.setIfInBounds_toArray, List.set_cons_zero, List.set_cons_succ]
  refine wpAnyH_takeL (i := 24) (oi := _) (v := ?_) rfl (by kernel_rfl) (by kernel_rfl) (by kernel_rfl) (fun _ _ _ h => h) (Or.inl ⟨by rfl, ?_⟩) hHeld ?_
  rotate_left
  · (intro w' hSw; (try dsimp only at hSw); go_simp; try (with_reducible rfl))
  try simp only [Act.put, List.setIfInBounds_toArray, List.set_cons_zero, List.set_cons_succ]
  refine wpAnyH_takeL (i := 25) (oi := _) (v := ?_) rfl (by kernel_rfl) (by kernel_rfl) (by kernel_rfl) (fun _ _ _ h => h) (Or.inl ⟨by rfl, ?_⟩) hHeld ?_
  rotate_left
  · (intro w' hSw; (try dsimp only at hSw); go_simp; try (with_reducible rfl))
  try simp only [Act.put, List.setIfInBounds_toArray, List.set_cons_zero, List.set_cons_succ]
  rw [SD.out]
  refine wpAnyH_takeL (i := 26) (oi := _) (v := ?_) rfl (by kernel_rfl) (by kernel_rfl) (by kernel_rfl) (fun _ _ _ h => h) (Or.inl ⟨by rfl, ?_⟩) hHeld ?_
  rotate_left
  · (intro w' hSw; (try dsimp only at hSw); go_simp; try (with_reducible rfl))
  try simp only [Act.put, List.setIfInBounds_toArray, List.set_cons_zero, List.set_cons_succ]
  refine wpAnyH_takeL (i := 27) (oi := _) (v := ?_) rfl (by kernel_rfl) (by kernel_rfl) (by kernel_rfl) (fun _ _ _ h => h) (Or.inl ⟨by rfl, ?_⟩) hHeld ?_
  rotate_left
  · (intro w' hSw; (try dsimp only at hSw); go_simp; try (with_reducible rfl))
  try simp only [Act.put, List.setIfInBounds_toArray, List.set_cons_zero, List.set_cons_succ]
  skip
  refine wpAnyH_done (by kernel_rfl) ?_ _
  have hb := HB.out
  replace HE := Lib.hid (HE.out.below hb)
  replace Zp := Lib.hid (Zp.out.below hb)
  replace Np := Lib.hid (Np.out.below hb)
  replace G1 := Lib.hid (G1.out.below hb G1.out.lt)
  replace Zc := Lib.hid (Zc.out.below hb)
  replace Nc := Lib.hid (Nc.out.below hb)
  replace Zd := Lib.hid (Zd.out.below hb)
  replace Nd := Lib.hid (Nd.out.below hb)
  replace B1 := Lib.hid (B1.out.trans (hb.mono B1.out.size))
  clear hb
  go_wp2
  go_ret
  exact ⟨rfl, B1.out⟩
end Go.Proofs.YtebpoabflcngoaaGreatDoor
