/-
  The walk of the law NumtextNative.
-/
import Derived.Test.YtebpoabflcngoaaGreatDoorNU
import Derived.Test.YtebpoabflcngoaaGreatDoorNV
namespace Go.Proofs.YtebpoabflcngoaaGreatDoor
open Go.RowKit
set_option linter.unusedVariables false
set_option linter.unusedSimpArgs false

set_option maxRecDepth 100000 in
set_option maxHeartbeats 16000000 in
theorem numtextNative_walk {a0 : Int} (W : World) (hv : -9223372036854775808 ≤ a0 ∧ a0 ≤ 9223372036854775807) (hE : Env W) : Calls Tryz.prog 7 #[.int .i64 a0] W fun e w' => e = .returned (.bool true) ∧ Below W.heap.size W w' := by
  obtain ⟨z, hz⟩ : ∃ z, a0 = z := ⟨_, rfl⟩
  obtain ⟨l, hl⟩ : ∃ l, Lib.itoa z = l := ⟨_, rfl⟩
  have hn : z.natAbs < 18446744073709551616 := by omega
  have h2 : (ofv z.natAbs).length ≤ 2 := len_ofv_le_of_lt (by rw [show pw 2 = 18446744073709551616 by decide +kernel]; exact hn)
  have HV := Lib.hid hv
  have HZ := Lib.hid hz
  have HL := Lib.hid hl
  have LZ : Hid ((ofv z.natAbs).length ≤ 10000000000) := Nat.le_trans h2 (by decide)
  have LV : Hid ((ofv z.natAbs).length ≤ 70368744177664) := Nat.le_trans h2 (by decide)
  have AS : Hid (ascii l) := by show ascii l; rw [← hl]; exact ascii_itoa z
  have NB : Hid (numB l = true) := by show _ = _; rw [← hl]; exact numB_itoa z
  have LL : Hid ((unsg l).length ≤ 4096) := by
    show _ ≤ _
    have h3 : (Lib.itoa z).length ≤ 22 := itoa_len h2
    rw [hl] at h3
    have h4 : (unsg l).length ≤ l.length := unsg_len l
    omega
  have TV : Hid (tval l = z) := by show _ = _; rw [← hl]; exact tval_itoa z
  have RV : Hid (a0 = z ∧ -9223372036854775808 ≤ z ∧ z ≤ 9223372036854775807) := ⟨hz, by omega, by omega⟩
  have HE := Lib.hid hE
  have B1 := Lib.hid (Below.refl W.heap.size W)
  clear hE hv hn h2 hl hz
  go_enter Tryz.func7, Tryz.ntmps7
  go_wp2_with fail
  refine (rfromInt_z (v := a0) (z := z) HV.out HZ.out _).mono ?_
  rintro e w1 ⟨P, c, rfl, ho, hb⟩
  replace HE := Lib.hid (HE.out.below hb)
  replace B1 := Lib.hid (B1.out.trans (hb.mono B1.out.size))
  have Z := Lib.hid (Zo.of_own ho)
  clear ho
  clear hb
  go_wp2_with fail
  refine (formatInt_any Z.out.in_ LZ.out HE.out HL.out).mono ?_
  rintro e w2 ⟨rfl, hb⟩
  replace HE := Lib.hid (HE.out.below hb)
  replace Z := Lib.hid (Z.out.below hb)
  replace B1 := Lib.hid (B1.out.trans (hb.mono B1.out.size))
  clear hb
  go_wp2_with fail
  refine (pint_ok (l := l) AS.out NB.out LL.out TV.out _).mono ?_
  rintro e w3 ⟨Pp, cp, rfl, ho, hb⟩
  replace HE := Lib.hid (HE.out.below hb)
  replace Z := Lib.hid (Z.out.below hb)
  replace B1 := Lib.hid (B1.out.trans (hb.mono B1.out.size))
  have Zp := Lib.hid (Zo.of_own ho)
  clear ho
  clear hb
  go_wp2_with fail
  have hb : Below w3.heap.size w3 (w3.alloc (.cells #[.bool (decide (z < 0)), .slice Pp (ofv z.natAbs).length cp] 24)) := (Below.refl _ _).alloc (Nat.le_refl _) _
  replace HE := Lib.hid (HE.out.below hb)
  replace Z := Lib.hid (Z.out.below hb)
  replace Zp := Lib.hid (Zp.out.below hb)
  replace B1 := Lib.hid (B1.out.trans (hb.mono B1.out.size))
  have G1 := Lib.hid (Zb.new w3 (decide (z < 0)) Pp (ofv z.natAbs).length cp)
  clear hb
  generalize (w3.alloc (.cells #[.bool (decide (z < 0)), .slice Pp (ofv z.natAbs).length cp] 24)) = w4 at *
  go_wp2_with fail
  refine (rvalue_any (v := a0) (ok := true) Zp.out.in_ LV.out (.inl ⟨rfl, RV.out⟩)).mono ?_
  rintro e w5 ⟨rfl, hb⟩
  replace HE := Lib.hid (HE.out.below hb)
  replace Z := Lib.hid (Z.out.below hb)
  replace Zp := Lib.hid (Zp.out.below hb)
  replace G1 := Lib.hid (G1.out.below hb G1.out.lt)
  replace B1 := Lib.hid (B1.out.trans (hb.mono B1.out.size))
  clear hb
  go_wp2_with fail
  refine (nawake_any HE.out).mono ?_
  rintro e w6 ⟨rfl, hb⟩
  replace HE := Lib.hid (HE.out.below hb)
  replace Z := Lib.hid (Z.out.below hb)
  replace Zp := Lib.hid (Zp.out.below hb)
  replace G1 := Lib.hid (G1.out.below hb G1.out.lt)
  replace B1 := Lib.hid (B1.out.trans (hb.mono B1.out.size))
  clear hb
  go_wp2
  go_ret
  exact ⟨rfl, B1.out⟩
end Go.Proofs.YtebpoabflcngoaaGreatDoor
