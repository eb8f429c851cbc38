/-
  Nrv, Ndn.
-/
import Derived.Test.YtebpoabflcngoaaGreatDoorRref
import Derived.Test.YtebpoabflcngoaaGreatDoorRround
import Derived.Test.YtebpoabflcngoaaGreatDoorNT
import Derived.Test.YtebpoabflcngoaaGreatDoorNU
/-
  Contract of the reference's Value.
-/
namespace Go.Proofs.YtebpoabflcngoaaGreatDoor
open Go.RowKit
set_option linter.unusedVariables false

theorem ruint64_yes_n {A : Option Addr} {cap n : Nat} {xs : List Nat} {w : World} (h : Rd w A cap xs) (hn : xs.length = n) (hl : n ≤ 70368744177664) (hv : val xs < 18446744073709551616) {z : Int} (hz : ((val xs : Nat) : Int) = z) :
    Calls Tryz.prog 62 #[.slice A n cap] w fun e w' => e = .returned (.tuple #[.int .u64 z, .bool true]) ∧ Below w.heap.size w w' := by
  subst hn hz; exact ruint64_yes A cap xs w h hl hv
theorem ruint64_no_n {A : Option Addr} {cap n : Nat} {xs : List Nat} {w : World} (h : Rd w A cap xs) (hn : xs.length = n) (hl : n ≤ 70368744177664) (hv : 18446744073709551616 ≤ val xs) :
    Calls Tryz.prog 62 #[.slice A n cap] w fun e w' => e = .returned (.tuple #[.int .u64 0, .bool false]) ∧ Below w.heap.size w w' := by
  subst hn; exact ruint64_no A cap xs w h hl hv
set_option maxRecDepth 4000 in
set_option maxHeartbeats 4000000 in
theorem rvalue_any {A : Option Addr} {n c : Nat} {s : Bool} {w : World} {x : Int} (h : Zin w s A n c x) (hl : n ≤ 70368744177664) {v : Int} {ok : Bool}
    (hv : (ok = true ∧ v = x ∧ -9223372036854775808 ≤ x ∧ x ≤ 9223372036854775807) ∨ (ok = false ∧ v = 0 ∧ (x < -9223372036854775808 ∨ 9223372036854775807 < x))) :
    Calls Tryz.prog 27 #[.agg #[.bool s, .slice A n c]] w fun e w' => e = .returned (.tuple #[.int .i64 v, .bool ok]) ∧ Below w.heap.size w w' := by
  have hb0 := (Below.refl w.heap.size w).alloc (Nat.le_refl _) (.cells #[.bool s, .slice A n c] 24)
  have P2 := Lib.hid (h.below hb0)
  have Z := Lib.hid (Zb.new w s A n c)
  have B2 := Lib.hid hb0
  have LX : Hid ((ofv x.natAbs).length ≤ 70368744177664) := by show _ ≤ _; exact Nat.le_trans h.len hl
  have HV := Lib.hid hv
  clear h hb0 hv
  go_enter Tryz.func27, Tryz.ntmps27
  go_wp2_with fail
  generalize (w.alloc (.cells #[.bool s, .slice A n c] 24)) = w2 at *
  refine (rnrm_z P2.out hl rfl).mono ?_
  rintro e w3 ⟨R, c3, rfl, ho, hb⟩
  have K := Lib.hid (Z.out.below hb Z.out.lt)
  obtain ⟨f0, f1⟩ := K.out.frozen
  obtain ⟨k0, k1⟩ := K.out.cells
  have KK := Lib.hid (K.out.lit (decide (x < 0)) R (ofv x.natAbs).length c3)
  have BB := Lib.hid (((B2.out.trans (hb.mono B2.out.size)).setCell (p := ⟨w.heap.size, 0, none⟩) (Nat.le_refl _) (.bool (decide (x < 0)))).setCell (p := ⟨w.heap.size, 1, none⟩) (Nat.le_refl _) (.slice R (ofv x.natAbs).length c3))
  have RR := Lib.hid ((ho.set_low (i := 0) Z.out.lt (.bool (decide (x < 0)))).set_low (i := 1) Z.out.lt (.slice R (ofv x.natAbs).length c3)).rd
  clear ho hb K
  go_wp2_with fail
  clear f0 f1 k0 k1
  generalize (w3.setCell ⟨w.heap.size, 0, none⟩ (.bool (decide (x < 0)))).setCell ⟨w.heap.size, 1, none⟩ (.slice R (ofv x.natAbs).length c3) = w4 at *
  rcases HV.out with ⟨rfl, hvx, v1, v2⟩ | ⟨rfl, rfl, hv⟩
  · obtain ⟨y, hy⟩ : ∃ y : Int, ((x.natAbs : Nat) : Int) = y := ⟨_, rfl⟩
    refine (ruint64_yes_n (z := y) RR.out rfl LX.out (by rw [val_ofv]; omega) (by rw [val_ofv]; exact hy)).mono ?_
    rintro e w5 ⟨rfl, hb⟩
    have B5 := Lib.hid (BB.out.trans (hb.mono BB.out.size))
    obtain ⟨a0, a1⟩ := (KK.out.below hb KK.out.lt).cells
    clear hb
    rcases Int.lt_or_le x 0 with h0 | h0
    · have d1 : decide (x < 0) = true := by simpa using h0
      rw [d1] at a0 KK ⊢
      have y1 : y ≤ 9223372036854775808 := by omega
      have y2 : 1 ≤ y := by omega
      have FX : Hid (-(y - 1) - 1 = v) := by show _ = _; omega
      clear d1 hy v1 v2 h0 hvx
      go_wp2
      go_ret2
      exact ⟨ret_pair FX.out, B5.out⟩
    · have d1 : decide (x < 0) = false := by simp; omega
      rw [d1] at a0 KK ⊢
      have y1 : y < 9223372036854775808 := by omega
      have y2 : 0 ≤ y := by omega
      have FX : Hid (y = v) := by show _ = _; omega
      clear d1 hy v1 v2 h0 hvx
      go_wp2
      go_ret2
      exact ⟨ret_pair FX.out, B5.out⟩
  · rcases Nat.lt_or_ge x.natAbs 18446744073709551616 with h1 | h1
    · obtain ⟨y, hy⟩ : ∃ y : Int, ((x.natAbs : Nat) : Int) = y := ⟨_, rfl⟩
      refine (ruint64_yes_n (z := y) RR.out rfl LX.out (by rw [val_ofv]; omega) (by rw [val_ofv]; exact hy)).mono ?_
      rintro e w5 ⟨rfl, hb⟩
      have B5 := Lib.hid (BB.out.trans (hb.mono BB.out.size))
      obtain ⟨a0, a1⟩ := (KK.out.below hb KK.out.lt).cells
      clear hb
      rcases Int.lt_or_le x 0 with h0 | h0
      · have d1 : decide (x < 0) = true := by simpa using h0
        rw [d1] at a0 KK ⊢
        have y1 : decide (y ≤ 9223372036854775808) = false := by simp; omega
        clear d1 hy hv h0 h1
        go_wp2
        go_ret2
        exact ⟨rfl, B5.out⟩
      · have d1 : decide (x < 0) = false := by simp; omega
        rw [d1] at a0 KK ⊢
        have y1 : decide (y < 9223372036854775808) = false := by simp; omega
        clear d1 hy hv h0 h1
        go_wp2
        go_ret2
        exact ⟨rfl, B5.out⟩
    · refine (ruint64_no_n RR.out rfl LX.out (by rw [val_ofv]; exact h1)).mono ?_
      rintro e w5 ⟨rfl, hb⟩
      have B5 := Lib.hid (BB.out.trans (hb.mono BB.out.size))
      clear hb hv
      go_wp2
      go_ret2
      exact ⟨rfl, B5.out⟩
end Go.Proofs.YtebpoabflcngoaaGreatDoor

/-
  Contracts: Decimal of other numbers, Fixed of other places.
-/
namespace Go.Proofs.YtebpoabflcngoaaGreatDoor
open Go.RowKit
set_option linter.unusedVariables false

end Go.Proofs.YtebpoabflcngoaaGreatDoor
