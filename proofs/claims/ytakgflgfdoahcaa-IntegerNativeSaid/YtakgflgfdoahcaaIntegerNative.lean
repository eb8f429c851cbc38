/-
  The walk of the law IntegerNative: arithmetic on small numbers agrees with that of the language.
-/
import Derived.Test.YtakgflgfdoahcaaZC
import Derived.Test.YtakgflgfdoahcaaZB
namespace Go.Proofs.Ytakgflgfdoahcaa
open Go.RowKit
set_option linter.unusedVariables false

theorem small_mul {a b : Int} (ha : -2147483648 ≤ a ∧ a ≤ 2147483647) (hb : -2147483648 ≤ b ∧ b ≤ 2147483647) : -4611686018427387904 ≤ a * b ∧ a * b ≤ 4611686018427387904 := by
  have h : (a * b).natAbs ≤ 2147483648 * 2147483648 := by
    rw [Int.natAbs_mul]
    exact Nat.mul_le_mul (by omega) (by omega)
  omega
theorem len_small1 {z : Int} (hz : z.natAbs < 4294967296) : (ofv z.natAbs).length ≤ 1 := len_ofv_le_of_lt (by rw [pw_succ, pw_zero]; omega)
set_option maxHeartbeats 16000000 in
theorem integerNative_walk (a b : Int) (w : World) (ha : -2147483648 ≤ a ∧ a ≤ 2147483647) (hb : -2147483648 ≤ b ∧ b ≤ 2147483647) :
    Calls Try.prog 10 #[.int .i32 a, .int .i32 b] w fun e w' => e = .returned (.bool true) ∧ Below w.heap.size w w' := by
  obtain ⟨r1, r2⟩ := small_mul ha hb
  obtain ⟨a1, a2⟩ := ha
  obtain ⟨b1, b2⟩ := hb
  obtain ⟨x, ex⟩ : ∃ z, a = z := ⟨_, rfl⟩
  obtain ⟨y, ey⟩ : ∃ z, b = z := ⟨_, rfl⟩
  obtain ⟨zs, es⟩ : ∃ z, x + y = z := ⟨_, rfl⟩
  obtain ⟨zm, em⟩ : ∃ z, x * y = z := ⟨_, rfl⟩
  obtain ⟨zd, ed⟩ : ∃ z, x - y = z := ⟨_, rfl⟩
  have EX := Lib.hid ex
  have EY := Lib.hid ey
  have ES := Lib.hid es
  have EM := Lib.hid em
  have ED := Lib.hid ed
  have SX : Hid (x.natAbs < 4294967296) := by show _ < _; omega
  have SY : Hid (y.natAbs < 4294967296) := by show _ < _; omega
  have SS : Hid (-9223372036854775808 ≤ zs ∧ zs ≤ 9223372036854775807) := by show _ ∧ _; omega
  have SM : Hid (-9223372036854775808 ≤ zm ∧ zm ≤ 9223372036854775807) := by show _ ∧ _; rw [← em, ← ex, ← ey]; omega
  have SD : Hid (-9223372036854775808 ≤ zd ∧ zd ≤ 9223372036854775807) := by show _ ∧ _; omega
  have FS : Hid (zs = a + b) := by show _ = _; omega
  have FM : Hid (zm = a * b) := by show _ = _; rw [← em, ← ex, ← ey]
  have FD : Hid (zd = a - b) := by show _ = _; omega
  clear ex ey es em ed
  have B0 := Lib.hid (Below.refl w.heap.size w)
  go_enter Try.func10, Try.ntmps10
  go_wp2_with fail
  refine (fromInt_z (z := x) (by omega) EX.out _).mono ?_
  rintro e w1 ⟨P, cP, rfl, ho, hb⟩
  have B1 := Lib.hid (B0.out.trans (hb.mono B0.out.size))
  have ZP := Lib.hid (Zo.of_own ho)
  clear ho
  clear hb B0
  go_wp2_with fail
  refine (fromInt_z (z := y) (by omega) EY.out _).mono ?_
  rintro e w2 ⟨Q, cQ, rfl, ho, hb⟩
  have B2 := Lib.hid (B1.out.trans (hb.mono B1.out.size))
  have ZP' := Lib.hid (ZP.out.below hb)
  have ZQ := Lib.hid (Zo.of_own ho)
  clear ho
  clear hb B1
  clear ZP
  have ZP := ZP'
  clear ZP'
  go_wp2_with fail
  obtain ⟨hb, V1, V2⟩ := begin2 w2 (decide (x < 0)) P (ofv (x).natAbs).length cP (decide (y < 0)) Q (ofv (y).natAbs).length cQ
  generalize hg : w2.heap.size = gV at V1 V2 ⊢
  generalize ((w2.alloc (.cells #[.bool (decide (x < 0)), .slice P (ofv (x).natAbs).length cP] 24)).alloc (.cells #[.bool (decide (y < 0)), .slice Q (ofv (y).natAbs).length cQ] 24)) = w3 at *
  have B3 := Lib.hid (B2.out.trans (hb.out.mono B2.out.size))
  have ZP' := Lib.hid (ZP.out.below hb.out)
  have ZQ' := Lib.hid (ZQ.out.below hb.out)
  clear hb hg B2
  clear ZP ZQ
  have ZP := ZP'
  clear ZP'
  have ZQ := ZQ'
  clear ZQ'
  obtain ⟨V1a, V1b⟩ := V1.out.cells
  obtain ⟨V2a, V2b⟩ := V2.out.cells
  go_wp2_with fail
  refine (add_z ZP.out.in_ ZQ.out.in_ (Nat.le_trans (ZP.out.len_small SX.out) (by decide)) (Nat.le_trans (ZQ.out.len_small SY.out) (by decide)) ES.out).mono ?_
  rintro e w4 ⟨R, cR, rfl, ho, hb⟩
  clear V1a V1b V2a V2b
  have B4 := Lib.hid (B3.out.trans (hb.mono B3.out.size))
  have ZP' := Lib.hid (ZP.out.below hb)
  have ZQ' := Lib.hid (ZQ.out.below hb)
  have V1' := Lib.hid (V1.out.below hb V1.out.lt)
  have V2' := Lib.hid (V2.out.below hb V2.out.lt)
  have ZR := Lib.hid (Zo.of_own ho)
  clear ho
  clear hb B3
  clear ZP ZQ V1 V2
  have ZP := ZP'
  clear ZP'
  have ZQ := ZQ'
  clear ZQ'
  have V1 := V1'
  clear V1'
  have V2 := V2'
  clear V2'
  obtain ⟨V1a, V1b⟩ := V1.out.cells
  obtain ⟨V2a, V2b⟩ := V2.out.cells
  go_wp2_with fail
  refine (value_yes ZR.out.in_ SS.out).mono ?_
  rintro e w5 ⟨rfl, hb⟩
  clear V1a V1b V2a V2b
  have B5 := Lib.hid (B4.out.trans (hb.mono B4.out.size))
  have ZP' := Lib.hid (ZP.out.below hb)
  have ZQ' := Lib.hid (ZQ.out.below hb)
  have V1' := Lib.hid (V1.out.below hb V1.out.lt)
  have V2' := Lib.hid (V2.out.below hb V2.out.lt)
  have ZR' := Lib.hid (ZR.out.below hb)
  clear hb B4
  clear ZP ZQ V1 V2 ZR
  have ZP := ZP'
  clear ZP'
  have ZQ := ZQ'
  clear ZQ'
  have V1 := V1'
  clear V1'
  have V2 := V2'
  clear V2'
  have ZR := ZR'
  clear ZR'
  obtain ⟨V1a, V1b⟩ := V1.out.cells
  obtain ⟨V2a, V2b⟩ := V2.out.cells
  clear ZR
  go_wp2_with fail
  refine (mul_z ZP.out.in_ ZQ.out.in_ (by have := len_small1 SX.out; have := len_small1 SY.out; omega) EM.out).mono ?_
  rintro e w6 ⟨R, cR, rfl, ho, hb⟩
  clear V1a V1b V2a V2b
  have B6 := Lib.hid (B5.out.trans (hb.mono B5.out.size))
  have ZP' := Lib.hid (ZP.out.below hb)
  have ZQ' := Lib.hid (ZQ.out.below hb)
  have V1' := Lib.hid (V1.out.below hb V1.out.lt)
  have V2' := Lib.hid (V2.out.below hb V2.out.lt)
  have ZR := Lib.hid (Zo.of_own ho)
  clear ho
  clear hb B5
  clear ZP ZQ V1 V2
  have ZP := ZP'
  clear ZP'
  have ZQ := ZQ'
  clear ZQ'
  have V1 := V1'
  clear V1'
  have V2 := V2'
  clear V2'
  obtain ⟨V1a, V1b⟩ := V1.out.cells
  obtain ⟨V2a, V2b⟩ := V2.out.cells
  go_wp2_with fail
  refine (value_yes ZR.out.in_ SM.out).mono ?_
  rintro e w7 ⟨rfl, hb⟩
  clear V1a V1b V2a V2b
  have B7 := Lib.hid (B6.out.trans (hb.mono B6.out.size))
  have ZP' := Lib.hid (ZP.out.below hb)
  have ZQ' := Lib.hid (ZQ.out.below hb)
  have V1' := Lib.hid (V1.out.below hb V1.out.lt)
  have V2' := Lib.hid (V2.out.below hb V2.out.lt)
  have ZR' := Lib.hid (ZR.out.below hb)
  clear hb B6
  clear ZP ZQ V1 V2 ZR
  have ZP := ZP'
  clear ZP'
  have ZQ := ZQ'
  clear ZQ'
  have V1 := V1'
  clear V1'
  have V2 := V2'
  clear V2'
  have ZR := ZR'
  clear ZR'
  obtain ⟨V1a, V1b⟩ := V1.out.cells
  obtain ⟨V2a, V2b⟩ := V2.out.cells
  clear ZR
  go_wp2_with fail
  refine (sub_z ZP.out.in_ ZQ.out.in_ (Nat.le_trans (ZP.out.len_small SX.out) (by decide)) (Nat.le_trans (ZQ.out.len_small SY.out) (by decide)) ED.out).mono ?_
  rintro e w8 ⟨R, cR, rfl, ho, hb⟩
  clear V1a V1b V2a V2b
  have B8 := Lib.hid (B7.out.trans (hb.mono B7.out.size))
  have ZP' := Lib.hid (ZP.out.below hb)
  have ZQ' := Lib.hid (ZQ.out.below hb)
  have V1' := Lib.hid (V1.out.below hb V1.out.lt)
  have V2' := Lib.hid (V2.out.below hb V2.out.lt)
  have ZR := Lib.hid (Zo.of_own ho)
  clear ho
  clear hb B7
  clear ZP ZQ V1 V2
  have ZP := ZP'
  clear ZP'
  have ZQ := ZQ'
  clear ZQ'
  have V1 := V1'
  clear V1'
  have V2 := V2'
  clear V2'
  obtain ⟨V1a, V1b⟩ := V1.out.cells
  obtain ⟨V2a, V2b⟩ := V2.out.cells
  go_wp2_with fail
  refine (value_yes ZR.out.in_ SD.out).mono ?_
  rintro e w9 ⟨rfl, hb⟩
  clear V1a V1b V2a V2b
  have B9 := Lib.hid (B8.out.trans (hb.mono B8.out.size))
  have ZP' := Lib.hid (ZP.out.below hb)
  have ZQ' := Lib.hid (ZQ.out.below hb)
  have V1' := Lib.hid (V1.out.below hb V1.out.lt)
  have V2' := Lib.hid (V2.out.below hb V2.out.lt)
  have ZR' := Lib.hid (ZR.out.below hb)
  clear hb B8
  clear ZP ZQ V1 V2 ZR
  have ZP := ZP'
  clear ZP'
  have ZQ := ZQ'
  clear ZQ'
  have V1 := V1'
  clear V1'
  have V2 := V2'
  clear V2'
  have ZR := ZR'
  clear ZR'
  obtain ⟨V1a, V1b⟩ := V1.out.cells
  obtain ⟨V2a, V2b⟩ := V2.out.cells
  clear ZR
  go_wp2_with fail
  refine (zawake_any _).mono ?_
  rintro e w10 ⟨rfl, hb⟩
  clear V1a V1b V2a V2b
  have B10 := Lib.hid (B9.out.trans (hb.mono B9.out.size))
  have ZP' := Lib.hid (ZP.out.below hb)
  have ZQ' := Lib.hid (ZQ.out.below hb)
  have V1' := Lib.hid (V1.out.below hb V1.out.lt)
  have V2' := Lib.hid (V2.out.below hb V2.out.lt)
  clear hb B9
  clear ZP ZQ V1 V2
  have ZP := ZP'
  clear ZP'
  have ZQ := ZQ'
  clear ZQ'
  have V1 := V1'
  clear V1'
  have V2 := V2'
  clear V2'
  have f1 := FS.out
  have f2 := FM.out
  have f3 := FD.out
  clear V1 V2 ZP ZQ
  subst f1 f2 f3
  go_wp2
  go_ret
  exact ⟨rfl, B10.out⟩
end Go.Proofs.Ytakgflgfdoahcaa
