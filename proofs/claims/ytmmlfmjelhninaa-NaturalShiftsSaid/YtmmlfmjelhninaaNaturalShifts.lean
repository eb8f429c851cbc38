/-
  The walk of the law NaturalShifts: Bits, ShiftLeft and ShiftRight answer as the reference for all shifts.
-/
import Derived.Test.YtmmlfmjelhninaaRshr
import Derived.Test.YtmmlfmjelhninaaAwake
namespace Go.Proofs.Ytmmlfmjelhninaa
open Go.RowKit
set_option linter.unusedVariables false

theorem ints_cell (w : World) (n s : Int) : (w.alloc (.cells #[.int .i64 n, .int .i64 s] 3)).cell? ⟨w.heap.size, 0, none⟩ = some (.int .i64 n) ∧ (w.alloc (.cells #[.int .i64 n, .int .i64 s] 3)).cell? ⟨w.heap.size, 1, none⟩ = some (.int .i64 s) := by
  have h := heap_alloc_new w (.cells #[.int .i64 n, .int .i64 s] 3)
  exact ⟨by rw [cell_of_row _ _ _ _ _ _ h]; rfl, by rw [cell_of_row _ _ _ _ _ _ h]; rfl⟩

set_option maxHeartbeats 8000000 in
theorem naturalShifts_walk (A : Option Addr) (ca : Nat) (xs : List Nat) (n s : Int) (w : World) (h : Rd w A ca xs) (hc : ca * 4 ≤ 140737488351232) (hn : -9223372036854775808 ≤ n ∧ n ≤ 9223372036854775807) (hs : 0 ≤ s ∧ s ≤ 255) :
    Calls Try.prog 6 #[.slice A xs.length ca, .int .i64 n, .int .u8 s] w fun e w' => e = .returned (.bool true) ∧ Below w.heap.size w w' := by
  have hn1 : xs.length ≤ 35184372087808 := by have := h.len; omega
  obtain ⟨hn0, hn2⟩ := hn
  obtain ⟨hs0, hs2⟩ := hs
  have H1 := Lib.hid h
  have IC := Lib.hid (ints_cell w n s)
  clear h hc
  go_enter Try.func6, Try.ntmps6
  go_wp2
  go_loopw [22] (fun i wr => ∃ j : Nat, j ≤ 2 ∧ i = .int .i64 j ∧ Hid (Below (w.heap.size + 1) (w.alloc (.cells #[.int .i64 n, .int .i64 s] 3)) wr)) (fun i _ => 2 - (intOf i).toNat)
  case atStart => exact ⟨0, by omega, rfl, Below.refl _ _⟩
  case round =>
    obtain ⟨j, hj, rfl, hbel⟩ := hrel
    have BR : Hid (Below w.heap.size w wr) := ((Below.refl _ _).alloc (Nat.le_refl _) _).trans (hbel.out.mono (by omega))
    have PR : Hid (Rd wr A ca xs) := H1.out.below BR.out
    have cell0 : wr.cell? ⟨w.heap.size, 0, none⟩ = some (.int .i64 n) := (hbel.out.cell (p := ⟨w.heap.size, 0, none⟩) (by show w.heap.size < w.heap.size + 1; omega)).trans IC.out.1
    have cell1 : wr.cell? ⟨w.heap.size, 1, none⟩ = some (.int .i64 s) := (hbel.out.cell (p := ⟨w.heap.size, 1, none⟩) (by show w.heap.size < w.heap.size + 1; omega)).trans IC.out.2
    have SR : Hid (w.heap.size + 1 ≤ wr.heap.size) := by
      show _ ≤ _
      have := hbel.out.size
      simp at this
      omega
    have cases4 : (j = 0 ∧ n < 0) ∨ (j = 0 ∧ 0 ≤ n ∧ n ≤ 65536) ∨ (j = 0 ∧ 65536 < n) ∨ j = 1 ∨ j = 2 := by omega
    rcases cases4 with ⟨rfl, h⟩ | ⟨rfl, h, h2⟩ | ⟨rfl, h⟩ | rfl | rfl
    · go_wp2_with fail
      refine (shl_no A ca xs _ _ (.inl h) ⟨by omega, by omega⟩).mono ?_
      rintro e w1 ⟨rfl, hb⟩
      have B1 : Hid (Below w.heap.size w w1) := BR.out.trans (hb.mono BR.out.size)
      have Nw1 : Hid (Below (w.heap.size + 1) (w.alloc (.cells #[.int .i64 n, .int .i64 s] 3)) w1) := hbel.out.trans (hb.mono (Nat.le_trans SR.out (Nat.le_refl _)))
      have Zw1 : Hid (wr.heap.size ≤ w1.heap.size) := hb.size
      have P_1 := Lib.hid (PR.out.below hb)
      clear hb
      go_wp2_with fail
      refine (rshl_no A ca xs _ _ (.inl h) ⟨by omega, by omega⟩).mono ?_
      rintro e w2 ⟨rfl, hb⟩
      have B2 : Hid (Below w.heap.size w w2) := B1.out.trans (hb.mono B1.out.size)
      have Nw2 : Hid (Below (w.heap.size + 1) (w.alloc (.cells #[.int .i64 n, .int .i64 s] 3)) w2) := Nw1.out.trans (hb.mono (Nat.le_trans SR.out (show wr.heap.size ≤ _ from Zw1.out)))
      have Zw2 : Hid (wr.heap.size ≤ w2.heap.size) := Nat.le_trans Zw1.out hb.size
      have P_2 := Lib.hid (P_1.out.below hb)
      clear hb P_1 B1
      go_wp2_with fail
      refine (shr_no A ca xs _ _ h (by omega)).mono ?_
      rintro e w3 ⟨rfl, hb⟩
      have B3 : Hid (Below w.heap.size w w3) := B2.out.trans (hb.mono B2.out.size)
      have Nw3 : Hid (Below (w.heap.size + 1) (w.alloc (.cells #[.int .i64 n, .int .i64 s] 3)) w3) := Nw2.out.trans (hb.mono (Nat.le_trans SR.out (show wr.heap.size ≤ _ from Zw2.out)))
      have Zw3 : Hid (wr.heap.size ≤ w3.heap.size) := Nat.le_trans Zw2.out hb.size
      have P_3 := Lib.hid (P_2.out.below hb)
      clear hb P_2 B2
      go_wp2_with fail
      refine (rshr_no A ca xs _ _ h (by omega)).mono ?_
      rintro e w4 ⟨rfl, hb⟩
      have B4 : Hid (Below w.heap.size w w4) := B3.out.trans (hb.mono B3.out.size)
      have Nw4 : Hid (Below (w.heap.size + 1) (w.alloc (.cells #[.int .i64 n, .int .i64 s] 3)) w4) := Nw3.out.trans (hb.mono (Nat.le_trans SR.out (show wr.heap.size ≤ _ from Zw3.out)))
      have Zw4 : Hid (wr.heap.size ≤ w4.heap.size) := Nat.le_trans Zw3.out hb.size
      have P_4 := Lib.hid (P_3.out.below hb)
      clear hb P_3 B3
      go_wp2_with fail
      refine (equal_n (Rd.nil w4 none) (Rd.nil w4 none) rfl rfl rfl).mono ?_
      rintro e w5 ⟨rfl, hq⟩
      have hb := below_q hq
      have B5 : Hid (Below w.heap.size w w5) := B4.out.trans (hb.mono B4.out.size)
      have Nw5 : Hid (Below (w.heap.size + 1) (w.alloc (.cells #[.int .i64 n, .int .i64 s] 3)) w5) := Nw4.out.trans (hb.mono (Nat.le_trans SR.out (show wr.heap.size ≤ _ from Zw4.out)))
      have Zw5 : Hid (wr.heap.size ≤ w5.heap.size) := Nat.le_trans Zw4.out hb.size
      have P_5 := Lib.hid (P_4.out.below hb)
      clear hb hq P_4 B4
      go_wp2_with fail
      refine (equal_n (Rd.nil w5 none) (Rd.nil w5 none) rfl rfl rfl).mono ?_
      rintro e w6 ⟨rfl, hq⟩
      have hb := below_q hq
      have B6 : Hid (Below w.heap.size w w6) := B5.out.trans (hb.mono B5.out.size)
      have Nw6 : Hid (Below (w.heap.size + 1) (w.alloc (.cells #[.int .i64 n, .int .i64 s] 3)) w6) := Nw5.out.trans (hb.mono (Nat.le_trans SR.out (show wr.heap.size ≤ _ from Zw5.out)))
      have Zw6 : Hid (wr.heap.size ≤ w6.heap.size) := Nat.le_trans Zw5.out hb.size
      have P_6 := Lib.hid (P_5.out.below hb)
      clear hb hq P_5 B5

      go_wp2
      go_roundw
      case rel => exact ⟨1, by omega, by go_num, Nw6⟩
      case measure => simp [intOf]
    · go_wp2_with fail
      refine (shl_n PR.out rfl n.toNat (by omega) (by omega) (by omega)).mono ?_
      rintro e w1 ⟨S, cS, rfl, ho, hb⟩
      have B1 : Hid (Below w.heap.size w w1) := BR.out.trans (hb.mono BR.out.size)
      have Nw1 : Hid (Below (w.heap.size + 1) (w.alloc (.cells #[.int .i64 n, .int .i64 s] 3)) w1) := hbel.out.trans (hb.mono (Nat.le_trans SR.out (Nat.le_refl _)))
      have Zw1 : Hid (wr.heap.size ≤ w1.heap.size) := hb.size
      have P_1 := Lib.hid (PR.out.below hb)
      have S_1 := Lib.hid ho.rd
      clear hb ho
      go_wp2_with fail
      refine (rshl_n P_1.out rfl n.toNat (by omega) (by omega) (by omega)).mono ?_
      rintro e w2 ⟨T, cT, rfl, ho, hb⟩
      have B2 : Hid (Below w.heap.size w w2) := B1.out.trans (hb.mono B1.out.size)
      have Nw2 : Hid (Below (w.heap.size + 1) (w.alloc (.cells #[.int .i64 n, .int .i64 s] 3)) w2) := Nw1.out.trans (hb.mono (Nat.le_trans SR.out (show wr.heap.size ≤ _ from Zw1.out)))
      have Zw2 : Hid (wr.heap.size ≤ w2.heap.size) := Nat.le_trans Zw1.out hb.size
      have P_2 := Lib.hid (P_1.out.below hb)
      have S_2 := Lib.hid (S_1.out.below hb)
      have T_2 := Lib.hid ho.rd
      clear hb ho P_1 S_1 B1
      go_wp2_with fail
      refine (shr_n P_2.out rfl n.toNat (by omega) (by omega) (by omega)).mono ?_
      rintro e w3 ⟨U, cU, rfl, ho, hb⟩
      have B3 : Hid (Below w.heap.size w w3) := B2.out.trans (hb.mono B2.out.size)
      have Nw3 : Hid (Below (w.heap.size + 1) (w.alloc (.cells #[.int .i64 n, .int .i64 s] 3)) w3) := Nw2.out.trans (hb.mono (Nat.le_trans SR.out (show wr.heap.size ≤ _ from Zw2.out)))
      have Zw3 : Hid (wr.heap.size ≤ w3.heap.size) := Nat.le_trans Zw2.out hb.size
      have P_3 := Lib.hid (P_2.out.below hb)
      have S_3 := Lib.hid (S_2.out.below hb)
      have T_3 := Lib.hid (T_2.out.below hb)
      have U_3 := Lib.hid ho.rd
      clear hb ho P_2 S_2 T_2 B2
      go_wp2_with fail
      refine (rshr_n P_3.out rfl n.toNat (by omega) (by omega) (by omega)).mono ?_
      rintro e w4 ⟨V, cV, rfl, ho, hb⟩
      have B4 : Hid (Below w.heap.size w w4) := B3.out.trans (hb.mono B3.out.size)
      have Nw4 : Hid (Below (w.heap.size + 1) (w.alloc (.cells #[.int .i64 n, .int .i64 s] 3)) w4) := Nw3.out.trans (hb.mono (Nat.le_trans SR.out (show wr.heap.size ≤ _ from Zw3.out)))
      have Zw4 : Hid (wr.heap.size ≤ w4.heap.size) := Nat.le_trans Zw3.out hb.size
      have P_4 := Lib.hid (P_3.out.below hb)
      have S_4 := Lib.hid (S_3.out.below hb)
      have T_4 := Lib.hid (T_3.out.below hb)
      have U_4 := Lib.hid (U_3.out.below hb)
      have V_4 := Lib.hid ho.rd
      clear hb ho P_3 S_3 T_3 U_3 B3
      go_wp2_with fail
      refine (equal_n S_4.out T_4.out rfl rfl rfl).mono ?_
      rintro e w5 ⟨rfl, hq⟩
      have hb := below_q hq
      have B5 : Hid (Below w.heap.size w w5) := B4.out.trans (hb.mono B4.out.size)
      have Nw5 : Hid (Below (w.heap.size + 1) (w.alloc (.cells #[.int .i64 n, .int .i64 s] 3)) w5) := Nw4.out.trans (hb.mono (Nat.le_trans SR.out (show wr.heap.size ≤ _ from Zw4.out)))
      have Zw5 : Hid (wr.heap.size ≤ w5.heap.size) := Nat.le_trans Zw4.out hb.size
      have P_5 := Lib.hid (P_4.out.below hb)
      have U_5 := Lib.hid (U_4.out.below hb)
      have V_5 := Lib.hid (V_4.out.below hb)
      clear hb hq P_4 S_4 T_4 U_4 V_4 B4
      go_wp2_with fail
      refine (equal_n U_5.out V_5.out rfl rfl rfl).mono ?_
      rintro e w6 ⟨rfl, hq⟩
      have hb := below_q hq
      have B6 : Hid (Below w.heap.size w w6) := B5.out.trans (hb.mono B5.out.size)
      have Nw6 : Hid (Below (w.heap.size + 1) (w.alloc (.cells #[.int .i64 n, .int .i64 s] 3)) w6) := Nw5.out.trans (hb.mono (Nat.le_trans SR.out (show wr.heap.size ≤ _ from Zw5.out)))
      have Zw6 : Hid (wr.heap.size ≤ w6.heap.size) := Nat.le_trans Zw5.out hb.size
      have P_6 := Lib.hid (P_5.out.below hb)
      clear hb hq P_5 U_5 V_5 B5

      go_wp2
      go_roundw
      case rel => exact ⟨1, by omega, by go_num, Nw6⟩
      case measure => simp [intOf]
    · go_wp2_with fail
      refine (shl_no A ca xs _ _ (.inr h) ⟨by omega, by omega⟩).mono ?_
      rintro e w1 ⟨rfl, hb⟩
      have B1 : Hid (Below w.heap.size w w1) := BR.out.trans (hb.mono BR.out.size)
      have Nw1 : Hid (Below (w.heap.size + 1) (w.alloc (.cells #[.int .i64 n, .int .i64 s] 3)) w1) := hbel.out.trans (hb.mono (Nat.le_trans SR.out (Nat.le_refl _)))
      have Zw1 : Hid (wr.heap.size ≤ w1.heap.size) := hb.size
      have P_1 := Lib.hid (PR.out.below hb)
      clear hb
      go_wp2_with fail
      refine (rshl_no A ca xs _ _ (.inr h) ⟨by omega, by omega⟩).mono ?_
      rintro e w2 ⟨rfl, hb⟩
      have B2 : Hid (Below w.heap.size w w2) := B1.out.trans (hb.mono B1.out.size)
      have Nw2 : Hid (Below (w.heap.size + 1) (w.alloc (.cells #[.int .i64 n, .int .i64 s] 3)) w2) := Nw1.out.trans (hb.mono (Nat.le_trans SR.out (show wr.heap.size ≤ _ from Zw1.out)))
      have Zw2 : Hid (wr.heap.size ≤ w2.heap.size) := Nat.le_trans Zw1.out hb.size
      have P_2 := Lib.hid (P_1.out.below hb)
      clear hb P_1 B1
      go_wp2_with fail
      refine (shr_n P_2.out rfl n.toNat (by omega) (by omega) (by omega)).mono ?_
      rintro e w3 ⟨U, cU, rfl, ho, hb⟩
      have B3 : Hid (Below w.heap.size w w3) := B2.out.trans (hb.mono B2.out.size)
      have Nw3 : Hid (Below (w.heap.size + 1) (w.alloc (.cells #[.int .i64 n, .int .i64 s] 3)) w3) := Nw2.out.trans (hb.mono (Nat.le_trans SR.out (show wr.heap.size ≤ _ from Zw2.out)))
      have Zw3 : Hid (wr.heap.size ≤ w3.heap.size) := Nat.le_trans Zw2.out hb.size
      have P_3 := Lib.hid (P_2.out.below hb)
      have U_3 := Lib.hid ho.rd
      clear hb ho P_2 B2
      go_wp2_with fail
      refine (rshr_n P_3.out rfl n.toNat (by omega) (by omega) (by omega)).mono ?_
      rintro e w4 ⟨V, cV, rfl, ho, hb⟩
      have B4 : Hid (Below w.heap.size w w4) := B3.out.trans (hb.mono B3.out.size)
      have Nw4 : Hid (Below (w.heap.size + 1) (w.alloc (.cells #[.int .i64 n, .int .i64 s] 3)) w4) := Nw3.out.trans (hb.mono (Nat.le_trans SR.out (show wr.heap.size ≤ _ from Zw3.out)))
      have Zw4 : Hid (wr.heap.size ≤ w4.heap.size) := Nat.le_trans Zw3.out hb.size
      have P_4 := Lib.hid (P_3.out.below hb)
      have U_4 := Lib.hid (U_3.out.below hb)
      have V_4 := Lib.hid ho.rd
      clear hb ho P_3 U_3 B3
      go_wp2_with fail
      refine (equal_n (Rd.nil w4 none) (Rd.nil w4 none) rfl rfl rfl).mono ?_
      rintro e w5 ⟨rfl, hq⟩
      have hb := below_q hq
      have B5 : Hid (Below w.heap.size w w5) := B4.out.trans (hb.mono B4.out.size)
      have Nw5 : Hid (Below (w.heap.size + 1) (w.alloc (.cells #[.int .i64 n, .int .i64 s] 3)) w5) := Nw4.out.trans (hb.mono (Nat.le_trans SR.out (show wr.heap.size ≤ _ from Zw4.out)))
      have Zw5 : Hid (wr.heap.size ≤ w5.heap.size) := Nat.le_trans Zw4.out hb.size
      have P_5 := Lib.hid (P_4.out.below hb)
      have U_5 := Lib.hid (U_4.out.below hb)
      have V_5 := Lib.hid (V_4.out.below hb)
      clear hb hq P_4 U_4 V_4 B4
      go_wp2_with fail
      refine (equal_n U_5.out V_5.out rfl rfl rfl).mono ?_
      rintro e w6 ⟨rfl, hq⟩
      have hb := below_q hq
      have B6 : Hid (Below w.heap.size w w6) := B5.out.trans (hb.mono B5.out.size)
      have Nw6 : Hid (Below (w.heap.size + 1) (w.alloc (.cells #[.int .i64 n, .int .i64 s] 3)) w6) := Nw5.out.trans (hb.mono (Nat.le_trans SR.out (show wr.heap.size ≤ _ from Zw5.out)))
      have Zw6 : Hid (wr.heap.size ≤ w6.heap.size) := Nat.le_trans Zw5.out hb.size
      have P_6 := Lib.hid (P_5.out.below hb)
      clear hb hq P_5 U_5 V_5 B5

      go_wp2
      go_roundw
      case rel => exact ⟨1, by omega, by go_num, Nw6⟩
      case measure => simp [intOf]
    · go_wp2_with fail
      refine (shl_n PR.out rfl s.toNat (by omega) (by omega) (by omega)).mono ?_
      rintro e w1 ⟨S, cS, rfl, ho, hb⟩
      have B1 : Hid (Below w.heap.size w w1) := BR.out.trans (hb.mono BR.out.size)
      have Nw1 : Hid (Below (w.heap.size + 1) (w.alloc (.cells #[.int .i64 n, .int .i64 s] 3)) w1) := hbel.out.trans (hb.mono (Nat.le_trans SR.out (Nat.le_refl _)))
      have Zw1 : Hid (wr.heap.size ≤ w1.heap.size) := hb.size
      have P_1 := Lib.hid (PR.out.below hb)
      have S_1 := Lib.hid ho.rd
      clear hb ho
      go_wp2_with fail
      refine (rshl_n P_1.out rfl s.toNat (by omega) (by omega) (by omega)).mono ?_
      rintro e w2 ⟨T, cT, rfl, ho, hb⟩
      have B2 : Hid (Below w.heap.size w w2) := B1.out.trans (hb.mono B1.out.size)
      have Nw2 : Hid (Below (w.heap.size + 1) (w.alloc (.cells #[.int .i64 n, .int .i64 s] 3)) w2) := Nw1.out.trans (hb.mono (Nat.le_trans SR.out (show wr.heap.size ≤ _ from Zw1.out)))
      have Zw2 : Hid (wr.heap.size ≤ w2.heap.size) := Nat.le_trans Zw1.out hb.size
      have P_2 := Lib.hid (P_1.out.below hb)
      have S_2 := Lib.hid (S_1.out.below hb)
      have T_2 := Lib.hid ho.rd
      clear hb ho P_1 S_1 B1
      go_wp2_with fail
      refine (shr_n P_2.out rfl s.toNat (by omega) (by omega) (by omega)).mono ?_
      rintro e w3 ⟨U, cU, rfl, ho, hb⟩
      have B3 : Hid (Below w.heap.size w w3) := B2.out.trans (hb.mono B2.out.size)
      have Nw3 : Hid (Below (w.heap.size + 1) (w.alloc (.cells #[.int .i64 n, .int .i64 s] 3)) w3) := Nw2.out.trans (hb.mono (Nat.le_trans SR.out (show wr.heap.size ≤ _ from Zw2.out)))
      have Zw3 : Hid (wr.heap.size ≤ w3.heap.size) := Nat.le_trans Zw2.out hb.size
      have P_3 := Lib.hid (P_2.out.below hb)
      have S_3 := Lib.hid (S_2.out.below hb)
      have T_3 := Lib.hid (T_2.out.below hb)
      have U_3 := Lib.hid ho.rd
      clear hb ho P_2 S_2 T_2 B2
      go_wp2_with fail
      refine (rshr_n P_3.out rfl s.toNat (by omega) (by omega) (by omega)).mono ?_
      rintro e w4 ⟨V, cV, rfl, ho, hb⟩
      have B4 : Hid (Below w.heap.size w w4) := B3.out.trans (hb.mono B3.out.size)
      have Nw4 : Hid (Below (w.heap.size + 1) (w.alloc (.cells #[.int .i64 n, .int .i64 s] 3)) w4) := Nw3.out.trans (hb.mono (Nat.le_trans SR.out (show wr.heap.size ≤ _ from Zw3.out)))
      have Zw4 : Hid (wr.heap.size ≤ w4.heap.size) := Nat.le_trans Zw3.out hb.size
      have P_4 := Lib.hid (P_3.out.below hb)
      have S_4 := Lib.hid (S_3.out.below hb)
      have T_4 := Lib.hid (T_3.out.below hb)
      have U_4 := Lib.hid (U_3.out.below hb)
      have V_4 := Lib.hid ho.rd
      clear hb ho P_3 S_3 T_3 U_3 B3
      go_wp2_with fail
      refine (equal_n S_4.out T_4.out rfl rfl rfl).mono ?_
      rintro e w5 ⟨rfl, hq⟩
      have hb := below_q hq
      have B5 : Hid (Below w.heap.size w w5) := B4.out.trans (hb.mono B4.out.size)
      have Nw5 : Hid (Below (w.heap.size + 1) (w.alloc (.cells #[.int .i64 n, .int .i64 s] 3)) w5) := Nw4.out.trans (hb.mono (Nat.le_trans SR.out (show wr.heap.size ≤ _ from Zw4.out)))
      have Zw5 : Hid (wr.heap.size ≤ w5.heap.size) := Nat.le_trans Zw4.out hb.size
      have P_5 := Lib.hid (P_4.out.below hb)
      have U_5 := Lib.hid (U_4.out.below hb)
      have V_5 := Lib.hid (V_4.out.below hb)
      clear hb hq P_4 S_4 T_4 U_4 V_4 B4
      go_wp2_with fail
      refine (equal_n U_5.out V_5.out rfl rfl rfl).mono ?_
      rintro e w6 ⟨rfl, hq⟩
      have hb := below_q hq
      have B6 : Hid (Below w.heap.size w w6) := B5.out.trans (hb.mono B5.out.size)
      have Nw6 : Hid (Below (w.heap.size + 1) (w.alloc (.cells #[.int .i64 n, .int .i64 s] 3)) w6) := Nw5.out.trans (hb.mono (Nat.le_trans SR.out (show wr.heap.size ≤ _ from Zw5.out)))
      have Zw6 : Hid (wr.heap.size ≤ w6.heap.size) := Nat.le_trans Zw5.out hb.size
      have P_6 := Lib.hid (P_5.out.below hb)
      clear hb hq P_5 U_5 V_5 B5

      go_wp2
      go_roundw
      case rel => exact ⟨2, by omega, by go_num, Nw6⟩
      case measure => simp [intOf]
    · have hb2 : (2 : Int) ≤ 2 := by omega
      go_wp2_with fail
      refine (awake_any _).mono ?_
      rintro e w1 ⟨rfl, hb⟩
      have B1 : Hid (Below w.heap.size w w1) := BR.out.trans (hb.mono BR.out.size)
      have P_1 := Lib.hid (PR.out.below hb)
      clear hb
      go_wp2_with fail
      refine (bits_n P_1.out rfl (by omega)).mono ?_
      rintro e w' ⟨rfl, rfl⟩
      go_wp2_with fail
      refine (rbits_n P_1.out rfl (by omega)).mono ?_
      rintro e w2 ⟨rfl, hb⟩
      have B2 : Hid (Below w.heap.size w w2) := B1.out.trans (hb.mono B1.out.size)
      clear hb P_1 B1
      go_wp2
      go_ret
      exact ⟨rfl, B2.out⟩
end Go.Proofs.Ytmmlfmjelhninaa
