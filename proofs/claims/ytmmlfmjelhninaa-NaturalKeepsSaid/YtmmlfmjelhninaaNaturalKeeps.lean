/-
  The walk of the law NaturalKeeps: no function modifies its arguments or their spare capacity, and results share no memory with them.
-/
import Derived.Test.YtmmlfmjelhninaaGcd
import Derived.Test.YtmmlfmjelhninaaKeep
import Derived.Test.YtmmlfmjelhninaaShifts
namespace Go.Proofs.Ytmmlfmjelhninaa
open Go.RowKit
set_option linter.unusedVariables false

theorem WpS.mono {w : World} {lo lo' n c : Nat} {A : Option Addr} (h : WpS w lo A n c) (hl : lo' ≤ lo) : WpS w lo' A n c := by
  obtain ⟨h0, h1, h3⟩ := h
  refine ⟨h0, h1, ?_⟩
  rcases h3 with h3 | ⟨b, o, cur, hA, hb, hg, hc⟩
  · exact .inl h3
  · exact .inr ⟨b, o, cur, hA, by omega, hg, hc⟩
theorem WKeep.trans {lo : Nat} {a b c : World} (h : WKeep lo a b) (k : WKeep lo b c) : WKeep lo a c :=
  ⟨h.1.trans k.1, fun A n c hw => k.2.1 A n c (h.2.1 A n c hw), fun i cs hc => k.2.2 i cs (h.2.2 i cs hc)⟩
/-- Quotient and remainder, whatever they are, in new memory. -/
def Loose2 (w : World) (e : Ending) (w' : World) : Prop :=
  ∃ Q nq cq R nr cr ok, e = .returned (.tuple #[.slice Q nq cq, .slice R nr cr, .bool ok]) ∧ WpS w' w.heap.size Q nq cq ∧ WpS w' w.heap.size R nr cr ∧ Below w.heap.size w w'
def Loose1 (w : World) (e : Ending) (w' : World) : Prop :=
  ∃ Q nq cq ok, e = .returned (.tuple #[.slice Q nq cq, .bool ok]) ∧ WpS w' w.heap.size Q nq cq ∧ Below w.heap.size w w'
theorem dm_loose {A B : Option Addr} {ca cb n m : Nat} {xs ys : List Nat} {w : World} (h : Rd w A ca xs) (h' : Rd w B cb ys) (hn : xs.length = n) (hm : ys.length = m) (hl : n ≤ 70368744177663) :
    Calls Try.prog 28 #[.slice A n ca, .slice B m cb] w (Loose2 w) := by
  subst hn hm
  rcases Nat.eq_zero_or_pos (val ys) with h0 | h0
  · refine (dm_zero A B ca cb xs ys w h h' h0).mono ?_
    rintro e w' ⟨rfl, hb⟩
    exact ⟨none, 0, 0, none, 0, 0, false, rfl, WpS.nil _ _ _, WpS.nil _ _ _, hb⟩
  · refine (dm_any A B ca cb xs ys w h h' hl h0).mono ?_
    rintro e w' ⟨Q, cq, R, cr, rfl, ho, ho2, hb⟩
    exact ⟨Q, _, cq, R, _, cr, true, rfl, WpS.of_own ho rfl (Nat.le_refl _), WpS.of_own ho2 rfl (Nat.le_refl _), hb⟩
theorem sub_loose {A B : Option Addr} {ca cb n m : Nat} {xs ys : List Nat} {w : World} (h : Rd w A ca xs) (h' : Rd w B cb ys) (hn : xs.length = n) (hm : ys.length = m) (hl : n ≤ 70368744177663) :
    Calls Try.prog 24 #[.slice A n ca, .slice B m cb] w (Loose1 w) := by
  subst hn hm
  rcases Nat.lt_or_ge (val xs) (val ys) with h0 | h0
  · refine (sub_no A B ca cb xs ys w h h' h0).mono ?_
    rintro e w' ⟨rfl, hb⟩
    exact ⟨none, 0, 0, false, rfl, WpS.nil _ _ _, hb⟩
  · refine (sub_yes_n h h' rfl rfl hl h0).mono ?_
    rintro e w' ⟨Q, cq, rfl, ho, hb⟩
    exact ⟨Q, _, cq, true, rfl, WpS.of_own ho rfl (Nat.le_refl _), hb⟩

set_option maxHeartbeats 8000000 in
theorem naturalKeeps_walk (A : Option Addr) (ca : Nat) (xs : List Nat) (B : Option Addr) (cb : Nat) (ys : List Nat) (w : World) (h : Rd w A ca xs) (hc : ca * 4 ≤ 140737488351232) (h' : Rd w B cb ys) (hc' : cb * 4 ≤ 140737488351232) :
    Calls Try.prog 13 #[.slice A xs.length ca, .slice B ys.length cb] w fun e w' => e = .returned (.bool true) ∧ Below w.heap.size w w' := by
  have hn1 : xs.length ≤ 35184372087808 := by have := h.len; omega
  have hn2 : ys.length ≤ 35184372087808 := by have := h'.len; omega
  have H1 := Lib.hid h
  have H2 := Lib.hid h'
  clear h h' hc hc'
  go_enter Try.func13, Try.ntmps13
  go_wp2_with fail
  refine (spare_any A ca xs _ H1.out (by omega)).mono ?_
  rintro e w1 ⟨gx, rfl, hx, hb⟩
  have B1 := Lib.hid hb
  have X1 := Lib.hid hx
  clear hx hb
  go_wp2_with fail
  refine (spare_any B cb ys _ (H2.out.below B1.out) (by omega)).mono ?_
  rintro e w2 ⟨gy, rfl, hy, hb⟩
  have B2 : Hid (Below w.heap.size w w2) := B1.out.trans (hb.mono B1.out.size)
  have X7 := Lib.hid (X1.out.below hb)
  have Y7 := Lib.hid hy
  have XS : Hid (Rd w2 (some ⟨gx, 0, none⟩) (xs.length + 3) xs) := by
    have := X7.out.take xs.length
    rwa [List.take_left'] at this
    rfl
  have YS : Hid (Rd w2 (some ⟨gy, 0, none⟩) (ys.length + 3) ys) := by
    have := Y7.out.take ys.length
    rwa [List.take_left'] at this
    rfl
  have L2 := Lib.hid (Below.refl w2.heap.size w2)
  clear hy hb B1 X1
  go_wp2_with fail
  refine (dm_loose (XS.out.below L2.out) (YS.out.below L2.out) rfl rfl (by omega)).mono ?_
  rintro e w3 ⟨R7, n7, c7, R8, n8, c8, ok2, rfl, ho, ho2, hb⟩
  have L3 : Hid (Below w2.heap.size w2 w3) := L2.out.trans (hb.mono L2.out.size)
  have O7_3 := Lib.hid (ho.mono L2.out.size)
  have O8_3 := Lib.hid (ho2.mono L2.out.size)
  clear ho hb ho2  L2
  go_wp2_with fail
  refine (sub_loose (XS.out.below L3.out) (YS.out.below L3.out) rfl rfl (by omega)).mono ?_
  rintro e w4 ⟨R9, n9, c9, ok1, rfl, ho, hb⟩
  have L4 : Hid (Below w2.heap.size w2 w4) := L3.out.trans (hb.mono L3.out.size)
  have O7_4 := Lib.hid (O7_3.out.below hb)
  have O8_4 := Lib.hid (O8_3.out.below hb)
  have O9_4 := Lib.hid (ho.mono L3.out.size)
  clear ho hb O7_3 O8_3 L3
  go_wp2_with fail
  refine (shl_n (XS.out.below L4.out) rfl 0 rfl (by omega) (by omega)).mono ?_
  rw [Nat.pow_zero, Nat.mul_one]
  rintro e w5 ⟨R10, c10, rfl, ho, hb⟩
  have L5 : Hid (Below w2.heap.size w2 w5) := L4.out.trans (hb.mono L4.out.size)
  have O7_5 := Lib.hid (O7_4.out.below hb)
  have O8_5 := Lib.hid (O8_4.out.below hb)
  have O9_5 := Lib.hid (O9_4.out.below hb)
  have O10_5 := Lib.hid (WpS.of_own ho rfl L4.out.size)
  clear ho hb O7_4 O8_4 O9_4 L4
  go_wp2_with fail
  refine (shr_n (XS.out.below L5.out) rfl 0 rfl (by omega) (by omega)).mono ?_
  rw [Nat.pow_zero, Nat.div_one]
  rintro e w6 ⟨R11, c11, rfl, ho, hb⟩
  have L6 : Hid (Below w2.heap.size w2 w6) := L5.out.trans (hb.mono L5.out.size)
  have O7_6 := Lib.hid (O7_5.out.below hb)
  have O8_6 := Lib.hid (O8_5.out.below hb)
  have O9_6 := Lib.hid (O9_5.out.below hb)
  have O10_6 := Lib.hid (O10_5.out.below hb)
  have O11_6 := Lib.hid (WpS.of_own ho rfl L5.out.size)
  clear ho hb O7_5 O8_5 O9_5 O10_5 L5
  go_wp2_with fail
  refine (trim_n (XS.out.below L6.out) rfl (by omega)).mono ?_
  rintro e w7 ⟨R1, c1, rfl, ho, hb⟩
  have L7 : Hid (Below w2.heap.size w2 w7) := L6.out.trans (hb.mono L6.out.size)
  have O7_7 := Lib.hid (O7_6.out.below hb)
  have O8_7 := Lib.hid (O8_6.out.below hb)
  have O9_7 := Lib.hid (O9_6.out.below hb)
  have O10_7 := Lib.hid (O10_6.out.below hb)
  have O11_7 := Lib.hid (O11_6.out.below hb)
  have O1_7 := Lib.hid (WpS.of_own ho rfl L6.out.size)
  clear ho hb O7_6 O8_6 O9_6 O10_6 O11_6 L6
  go_wp2_with fail
  refine (add_n (XS.out.below L7.out) (YS.out.below L7.out) rfl rfl (by omega) (by omega)).mono ?_
  rintro e w8 ⟨R2, c2, rfl, ho, hb⟩
  have L8 : Hid (Below w2.heap.size w2 w8) := L7.out.trans (hb.mono L7.out.size)
  have O7_8 := Lib.hid (O7_7.out.below hb)
  have O8_8 := Lib.hid (O8_7.out.below hb)
  have O9_8 := Lib.hid (O9_7.out.below hb)
  have O10_8 := Lib.hid (O10_7.out.below hb)
  have O11_8 := Lib.hid (O11_7.out.below hb)
  have O1_8 := Lib.hid (O1_7.out.below hb)
  have O2_8 := Lib.hid (WpS.of_own ho rfl L7.out.size)
  clear ho hb O7_7 O8_7 O9_7 O10_7 O11_7 O1_7 L7
  go_wp2_with fail
  refine (mul_n (XS.out.below L8.out) (YS.out.below L8.out) rfl rfl (by omega)).mono ?_
  rintro e w9 ⟨R3, c3, rfl, ho, hb⟩
  have L9 : Hid (Below w2.heap.size w2 w9) := L8.out.trans (hb.mono L8.out.size)
  have O7_9 := Lib.hid (O7_8.out.below hb)
  have O8_9 := Lib.hid (O8_8.out.below hb)
  have O9_9 := Lib.hid (O9_8.out.below hb)
  have O10_9 := Lib.hid (O10_8.out.below hb)
  have O11_9 := Lib.hid (O11_8.out.below hb)
  have O1_9 := Lib.hid (O1_8.out.below hb)
  have O2_9 := Lib.hid (O2_8.out.below hb)
  have O3_9 := Lib.hid (WpS.of_own ho rfl L8.out.size)
  clear ho hb O7_8 O8_8 O9_8 O10_8 O11_8 O1_8 O2_8 L8
  go_wp2_with fail
  refine (gcd_n (XS.out.below L9.out) (YS.out.below L9.out) rfl rfl (by omega) (by omega)).mono ?_
  rintro e w10 ⟨R4, c4, rfl, ho, hb⟩
  have L10 : Hid (Below w2.heap.size w2 w10) := L9.out.trans (hb.mono L9.out.size)
  have O7_10 := Lib.hid (O7_9.out.below hb)
  have O8_10 := Lib.hid (O8_9.out.below hb)
  have O9_10 := Lib.hid (O9_9.out.below hb)
  have O10_10 := Lib.hid (O10_9.out.below hb)
  have O11_10 := Lib.hid (O11_9.out.below hb)
  have O1_10 := Lib.hid (O1_9.out.below hb)
  have O2_10 := Lib.hid (O2_9.out.below hb)
  have O3_10 := Lib.hid (O3_9.out.below hb)
  have O4_10 := Lib.hid (WpS.of_own ho rfl L9.out.size)
  clear ho hb O7_9 O8_9 O9_9 O10_9 O11_9 O1_9 O2_9 O3_9 L9
  go_wp2_with fail
  refine (gcd_n (XS.out.below L10.out) (Rd.nil _ none) rfl rfl (by omega) (by simp)).mono ?_
  rintro e w11 ⟨R5, c5, rfl, ho, hb⟩
  have L11 : Hid (Below w2.heap.size w2 w11) := L10.out.trans (hb.mono L10.out.size)
  have O7_11 := Lib.hid (O7_10.out.below hb)
  have O8_11 := Lib.hid (O8_10.out.below hb)
  have O9_11 := Lib.hid (O9_10.out.below hb)
  have O10_11 := Lib.hid (O10_10.out.below hb)
  have O11_11 := Lib.hid (O11_10.out.below hb)
  have O1_11 := Lib.hid (O1_10.out.below hb)
  have O2_11 := Lib.hid (O2_10.out.below hb)
  have O3_11 := Lib.hid (O3_10.out.below hb)
  have O4_11 := Lib.hid (O4_10.out.below hb)
  have O5_11 := Lib.hid (WpS.of_own ho rfl L10.out.size)
  clear ho hb O7_10 O8_10 O9_10 O10_10 O11_10 O1_10 O2_10 O3_10 O4_10 L10
  go_wp2_with fail
  refine (add_n (XS.out.below L11.out) (Rd.nil _ none) rfl rfl (by omega) (by simp)).mono ?_
  rintro e w12 ⟨R6, c6, rfl, ho, hb⟩
  have L12 : Hid (Below w2.heap.size w2 w12) := L11.out.trans (hb.mono L11.out.size)
  have O7_12 := Lib.hid (O7_11.out.below hb)
  have O8_12 := Lib.hid (O8_11.out.below hb)
  have O9_12 := Lib.hid (O9_11.out.below hb)
  have O10_12 := Lib.hid (O10_11.out.below hb)
  have O11_12 := Lib.hid (O11_11.out.below hb)
  have O1_12 := Lib.hid (O1_11.out.below hb)
  have O2_12 := Lib.hid (O2_11.out.below hb)
  have O3_12 := Lib.hid (O3_11.out.below hb)
  have O4_12 := Lib.hid (O4_11.out.below hb)
  have O5_12 := Lib.hid (O5_11.out.below hb)
  have O6_12 := Lib.hid (WpS.of_own ho rfl L11.out.size)
  clear ho hb O7_11 O8_11 O9_11 O10_11 O11_11 O1_11 O2_11 O3_11 O4_11 O5_11 L11
  go_wp2
  generalize hwh : w12.alloc _ = wh
  have BH : Hid (Below w2.heap.size w2 wh) := by rw [← hwh]; exact L12.out.alloc L12.out.size _
  have CH : Hid (wh.heap[w12.heap.size]? = some (.cells #[.slice R1 (ofv (val xs)).length c1, .slice R2 (ofv (val xs + val ys)).length c2, .slice R3 (ofv (val xs * val ys)).length c3, .slice R4 (ofv ((val xs).gcd (val ys))).length c4, .slice R5 (ofv ((val xs).gcd (val []))).length c5, .slice R6 (ofv (val xs + val [])).length c6, .slice R7 n7 c7, .slice R8 n8 c8, .slice R9 n9 c9, .slice R10 (ofv (val xs)).length c10, .slice R11 (ofv (val xs)).length c11] 22 (0, 0))) := by rw [← hwh]; exact heap_alloc_new w12 _
  have BX : Below w12.heap.size w12 wh := by rw [← hwh]; exact (Below.refl _ _).alloc (Nat.le_refl _) _
  have CELL : Hid (∀ k, k < 11 → ∃ R n c, (#[.slice R1 (ofv (val xs)).length c1, .slice R2 (ofv (val xs + val ys)).length c2, .slice R3 (ofv (val xs * val ys)).length c3, .slice R4 (ofv ((val xs).gcd (val ys))).length c4, .slice R5 (ofv ((val xs).gcd (val []))).length c5, .slice R6 (ofv (val xs + val [])).length c6, .slice R7 n7 c7, .slice R8 n8 c8, .slice R9 n9 c9, .slice R10 (ofv (val xs)).length c10, .slice R11 (ofv (val xs)).length c11] : Array Value)[k]? = some (.slice R n c) ∧ WpS wh w2.heap.size R n c) := by
    intro k hk
    match k, hk with
    | 0, _ => exact ⟨_, _, _, rfl, O1_12.out.below BX⟩
    | 1, _ => exact ⟨_, _, _, rfl, O2_12.out.below BX⟩
    | 2, _ => exact ⟨_, _, _, rfl, O3_12.out.below BX⟩
    | 3, _ => exact ⟨_, _, _, rfl, O4_12.out.below BX⟩
    | 4, _ => exact ⟨_, _, _, rfl, O5_12.out.below BX⟩
    | 5, _ => exact ⟨_, _, _, rfl, O6_12.out.below BX⟩
    | 6, _ => exact ⟨_, _, _, rfl, O7_12.out.below BX⟩
    | 7, _ => exact ⟨_, _, _, rfl, O8_12.out.below BX⟩
    | 8, _ => exact ⟨_, _, _, rfl, O9_12.out.below BX⟩
    | 9, _ => exact ⟨_, _, _, rfl, O10_12.out.below BX⟩
    | 10, _ => exact ⟨_, _, _, rfl, O11_12.out.below BX⟩
  have S12 := Lib.hid L12.out.size
  generalize (#[.slice R1 (ofv (val xs)).length c1, .slice R2 (ofv (val xs + val ys)).length c2, .slice R3 (ofv (val xs * val ys)).length c3, .slice R4 (ofv ((val xs).gcd (val ys))).length c4, .slice R5 (ofv ((val xs).gcd (val []))).length c5, .slice R6 (ofv (val xs + val [])).length c6, .slice R7 n7 c7, .slice R8 n8 c8, .slice R9 n9 c9, .slice R10 (ofv (val xs)).length c10, .slice R11 (ofv (val xs)).length c11] : Array Value) = cs at *
  clear hwh BX O1_12 O2_12 O3_12 O4_12 O5_12 O6_12 O7_12 O8_12 O9_12 O10_12 O11_12 L12
  generalize w12.heap.size = gh at *
  go_loopw [67] (fun i wr => ∃ k : Nat, k ≤ 11 ∧ i = .int .i64 k ∧ Hid (WKeep w2.heap.size wh wr)) (fun i _ => 11 - (intOf i).toNat)
  case atStart => exact ⟨0, by omega, rfl, WKeep.refl _ _⟩
  case round =>
    obtain ⟨k, hk, rfl, hw⟩ := hrel
    by_cases hlt : k < 11
    · obtain ⟨R, n, c, hcell, hwp⟩ := CELL.out k hlt
      have m : wr.cell? ⟨gh, k, none⟩ = some (.slice R n c) := by
        rw [cell_of_row wr gh k _ _ (0, 0) (hw.out.2.2 _ _ CH.out), hcell]
      have WP := Lib.hid hwp
      clear hcell hwp
      go_wp2_with fail
      refine (wipe_any R n c w2.heap.size wr (hw.out.2.1 _ _ _ WP.out)).mono ?_
      rintro e wn ⟨rfl, hk2⟩
      have NX := Lib.hid (hw.out.trans hk2)
      clear hk2
      go_wp2
      go_roundw
      case rel => exact ⟨k + 1, by omega, by go_num, NX.out⟩
      case measure => simp [intOf]; omega
    · have BR : Hid (Below w2.heap.size w2 wr) := BH.out.trans hw.out.1
      clear hw CELL CH
      go_wp2_with fail
      refine (awake_any _).mono ?_
      rintro e wa ⟨rfl, hb⟩
      have BA : Hid (Below w2.heap.size w2 wa) := BR.out.trans (hb.mono BR.out.size)
      have BWA : Hid (Below w.heap.size w wa) := B2.out.trans (BA.out.mono B2.out.size)
      clear hb BR
      go_wp2_with fail
      refine (kept_any gx A ca xs _ (X7.out.below BA.out) (H1.out.below BWA.out) (by omega)).mono ?_
      rintro e wb ⟨rfl, hq⟩
      have hb := below_q hq
      have BB : Hid (Below w2.heap.size w2 wb) := BA.out.trans (hb.mono BA.out.size)
      have BWB : Hid (Below w.heap.size w wb) := BWA.out.trans (hb.mono BWA.out.size)
      clear hb hq BA BWA
      go_wp2_with fail
      refine (kept_any gy B cb ys _ (Y7.out.below BB.out) (H2.out.below BWB.out) (by omega)).mono ?_
      rintro e wc ⟨rfl, hq⟩
      have hb := below_q hq
      have BWC : Hid (Below w.heap.size w wc) := BWB.out.trans (hb.mono BWB.out.size)
      clear hb hq BB BWB
      go_wp2
      go_ret
      exact ⟨rfl, BWC.out⟩
end Go.Proofs.Ytmmlfmjelhninaa
