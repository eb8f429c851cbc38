/-
  Contract of the statement's function ints.
-/
import Derived.Test.YtfmgbfdnmconiaaGreatApc
import Derived.Test.YtfmgbfdnmconiaaGreatZA
namespace Go.Proofs.YtfmgbfdnmconiaaGreat
open Go.RowKit
set_option linter.unusedVariables false

/-- An integer somewhere in a row of integers. -/
def Ei (w : World) (b o : Nat) (z : Int) (P : Option Addr) (k : Nat) : Prop := w.rangeAt b o [.bool (decide (z < 0)), .slice P (ofv z.natAbs).length k]
theorem Ei.lt {w : World} {b o k : Nat} {z : Int} {P : Option Addr} (h : Ei w b o z P k) : b < w.heap.size := block_lt_of_cell (h 0 _ rfl)
theorem Ei.below {w w' : World} {b o k B : Nat} {z : Int} {P : Option Addr} (h : Ei w b o z P k) (hb : Below B w w') (hl : b < B) : Ei w' b o z P k := fun j v hj => (hb.cell (p := ⟨b, o + j, none⟩) hl).trans (h j v hj)
theorem yields_ei {ops : Array Oper} {S : World → Prop} {o : Oper} {a : Act} (hw : Region.wanted o (yielded ops a.tmps) = true) (x : Operand) (ho : o.op = .load 24 x) {b i k : Nat} {z : Int} {A : Option Addr} (hx : a.eval x = .pointer (some ⟨b, i, none⟩))
    (hS : ∀ w, S w → Ei w b i z A k) : YieldsIf Tryz.prog ops S o (.agg #[.bool (decide (z < 0)), .slice A (ofv z.natAbs).length k]) a :=
  yieldsIf_load_mid hw _ x ho b i hx [.bool (decide (z < 0)), .slice A (ofv z.natAbs).length k] _ hS Tryz.underlying24 rfl Tryz.sizeZ
set_option maxRecDepth 100000 in
set_option maxHeartbeats 16000000 in
theorem ints_same {v1 v2 : Value} {zs : List Int} {w : World} (h : Lr w v1 zs) (h' : Lr w v2 zs) :
    Calls Tryz.prog 57 #[v1, v2] w fun e w' => e = .returned (.bool true) ∧ Below w.heap.size w w' := by
  obtain ⟨b1, c1, rfl, k1, m1, l1, e1⟩ := h
  obtain ⟨b2, c2, rfl, k2, m2, l2, e2⟩ := h'
  have R1 : Hid (∀ w', Below w.heap.size w w' → ∀ i z, zs[i]? = some z → ∃ P k, Ei w' b1 (i * 2) z P k ∧ Zo w' P k z) := fun w' hb i z hi => by
    obtain ⟨P, k, q1, q2⟩ := e1 i z hi
    exact ⟨P, k, Ei.below q1 hb l1, q2.below hb⟩
  have R2 : Hid (∀ w', Below w.heap.size w w' → ∀ i z, zs[i]? = some z → ∃ P k, Ei w' b2 (i * 2) z P k ∧ Zo w' P k z) := fun w' hb i z hi => by
    obtain ⟨P, k, q1, q2⟩ := e2 i z hi
    exact ⟨P, k, Ei.below q1 hb l2, q2.below hb⟩
  have n0 : ((zs.length : Nat) : Int) ≤ 9223372036854775807 := by omega
  have B0 := Lib.hid (Below.refl w.heap.size w)
  clear e1 e2 l1 l2
  go_enter Tryz.func57, Tryz.ntmps57
  go_wp2_with fail
  go_loopw [5] (fun v5 wr => ∃ i : Nat, v5 = .int .i64 (i : Int) ∧ i ≤ zs.length ∧ Hid (Below w.heap.size w wr)) (fun v5 _ => zs.length - (intOf v5).toNat)
  case atStart => exact ⟨0, rfl, by omega, B0⟩
  case round =>
    obtain ⟨i, rfl, hi, B1⟩ := hrel
    clear B0
    rcases Nat.lt_or_ge i zs.length with hil | hil
    · have hi2 : (i : Int) < ((zs.length : Nat) : Int) := by omega
      obtain ⟨z, hz⟩ : ∃ z, zs[i]? = some z := ⟨_, List.getElem?_eq_getElem hil⟩
      obtain ⟨P1, q1, ei1, zo1⟩ := R1.out wr B1.out i z hz
      obtain ⟨P2, q2, ei2, zo2⟩ := R2.out wr B1.out i z hz
      have L1 := Lib.hid ei1
      have L2 := Lib.hid ei2
      have Z1 := Lib.hid zo1
      have Z2 := Lib.hid zo2
      have w1 : IntKind.i64.wrap ((i : Int) + 1) = (i : Int) + 1 := IntWalk.i64_in _ (by omega)
      clear ei1 ei2 zo1 zo2 hz
      go_wp2_with fail
      have hb := below_drewN wr.heap.size wr 1
      replace L1 := Lib.hid (L1.out.below hb L1.out.lt)
      replace L2 := Lib.hid (L2.out.below hb L2.out.lt)
      replace Z1 := Lib.hid (Z1.out.below hb)
      replace Z2 := Lib.hid (Z2.out.below hb)
      replace B1 := Lib.hid (B1.out.trans (hb.mono B1.out.size))
      clear hb
      refine wp_region_held_drew (S := fun w' => Ei w' b1 (i * 2) z P1 q1 ∧ Ei w' b2 (i * 2) z P2 q2) (by kernel_rfl) ⟨L1.out, L2.out⟩ (fun hHeld => ?_)
      refine wpAnyH_takeL (i := 0) (oi := _) (v := ?_) rfl (by kernel_rfl) (by kernel_rfl) (by kernel_rfl) (fun _ _ _ h => h) (Or.inl ⟨by rfl, ?_⟩) hHeld ?_
      rotate_left
      · (intro w' hSw; (try dsimp only at hSw); go_simp; try (with_reducible rfl))
      try simp only [Act.put, List.setIfInBounds_toArray, List.set_cons_zero, List.set_cons_succ]
      refine wpAnyH_takeL (i := 1) (oi := _) (v := ?_) rfl (by kernel_rfl) (by kernel_rfl) (by kernel_rfl) (fun _ _ _ h => h) (Or.inl ⟨by rfl, ?_⟩) hHeld ?_
      rotate_left
      · (intro w' hSw; (try dsimp only at hSw); go_simp; try (with_reducible rfl))
      try simp only [Act.put, List.setIfInBounds_toArray, List.set_cons_zero, List.set_cons_succ]
      refine wpAnyH_takeL (i := 2) (oi := _) (v := ?_) rfl (by kernel_rfl) (by kernel_rfl) (by kernel_rfl) (fun _ _ _ h => h) (Or.inl ⟨by rfl, ?_⟩) hHeld ?_
      rotate_left
      · (intro w' hSw; (try dsimp only at hSw); go_simp; try (with_reducible rfl))
      try simp only [Act.put, List.setIfInBounds_toArray, List.set_cons_zero, List.set_cons_succ]
      refine wpAnyH_takeL (i := 3) (oi := _) rfl (by kernel_rfl) (by kernel_rfl) (by kernel_rfl) (fun _ _ _ h => h) (yields_ei (by rfl) _ rfl (by rfl) (fun _ hS => hS.1)) hHeld ?_
      try simp only [Act.put, List.setIfInBounds_toArray, List.set_cons_zero, List.set_cons_succ]
      refine wpAnyH_takeL (i := 4) (oi := _) (v := ?_) rfl (by kernel_rfl) (by kernel_rfl) (by kernel_rfl) (fun _ _ _ h => h) (Or.inl ⟨by rfl, ?_⟩) hHeld ?_
      rotate_left
      · (intro w' hSw; (try dsimp only at hSw); go_simp; try (with_reducible rfl))
      try simp only [Act.put, List.setIfInBounds_toArray, List.set_cons_zero, List.set_cons_succ]
      refine wpAnyH_takeL (i := 5) (oi := _) (v := ?_) rfl (by kernel_rfl) (by kernel_rfl) (by kernel_rfl) (fun _ _ _ h => h) (Or.inl ⟨by rfl, ?_⟩) hHeld ?_
      rotate_left
      · (intro w' hSw; (try dsimp only at hSw); go_simp; try (with_reducible rfl))
      try simp only [Act.put, List.setIfInBounds_toArray, List.set_cons_zero, List.set_cons_succ]
      refine wpAnyH_takeL (i := 6) (oi := _) (v := ?_) rfl (by kernel_rfl) (by kernel_rfl) (by kernel_rfl) (fun _ _ _ h => h) (Or.inl ⟨by rfl, ?_⟩) hHeld ?_
      rotate_left
      · (intro w' hSw; (try dsimp only at hSw); go_simp; try (with_reducible rfl))
      try simp only [Act.put, List.setIfInBounds_toArray, List.set_cons_zero, List.set_cons_succ]
      refine wpAnyH_takeL (i := 7) (oi := _) rfl (by kernel_rfl) (by kernel_rfl) (by kernel_rfl) (fun _ _ _ h => h) (yields_ei (by rfl) _ rfl (by rfl) (fun _ hS => hS.2)) hHeld ?_
      try simp only [Act.put, List.setIfInBounds_toArray, List.set_cons_zero, List.set_cons_succ]
      refine wpAnyH_ready (rs := [8]) (by kernel_rfl) (by simp) ?_
      refine AllReadyH.consL (o := _) rfl (fun K hK => ?_) AllReadyH.nil
      clear hHeld
      go_simp
      go_at_call 58
      refine Calls.mono (requal_z Z1.out Z2.out) ?_
      rintro e wa ⟨rfl, hb⟩
      replace L1 := Lib.hid (L1.out.below hb L1.out.lt)
      replace L2 := Lib.hid (L2.out.below hb L2.out.lt)
      replace Z1 := Lib.hid (Z1.out.below hb)
      replace Z2 := Lib.hid (Z2.out.below hb)
      replace B1 := Lib.hid (B1.out.trans (hb.mono B1.out.size))
      clear hb
      refine hK.out _ _ ⟨L1.out, L2.out⟩ (fun hHeld => ?_)
      clear hK K
      try simp only [Act.put, List.setIfInBounds_toArray, List.set_cons_zero, List.set_cons_succ]
      refine wpAnyH_takeL (i := 9) (oi := _) (v := ?_) rfl (by kernel_rfl) (by kernel_rfl) (by kernel_rfl) (fun _ _ _ h => h) (Or.inl ⟨by rfl, ?_⟩) hHeld ?_
      rotate_left
      · (intro w' hSw; (try dsimp only at hSw); go_simp; try (with_reducible rfl))
      try simp only [Act.put, List.setIfInBounds_toArray, List.set_cons_zero, List.set_cons_succ]
      clear hHeld
      refine wpAnyH_done (by kernel_rfl) ?_ _
      go_wp2_with fail
      try simp only [Act.put]
      go_roundw
      case rel => exact ⟨i + 1, by simp, by omega, B1⟩
      case measure => simp [intOf]; omega
    · have hi2 : ¬ (i : Int) < ((zs.length : Nat) : Int) := by omega
      clear R1 R2
      go_wp2_with fail
      go_ret
      exact ⟨rfl, B1.out⟩
end Go.Proofs.YtfmgbfdnmconiaaGreat
