/-
  The statement IntegerKeeps: for every input the law returns true, and the input reads afterwards as before.
-/
import Derived.Test.YtfmgbfdnmconiaaIntegerKeeps
import Derived.Test.YtfmgbfdnmconiaaFR
namespace Go.Proofs.Ytfmgbfdnmconiaa
open Go.ChangeShapes Go.WideShapes Go.ChangeAt Go.RowKit
set_option linter.unusedVariables false

set_option maxRecDepth 100000 in
theorem integerKeeps_lifted (os : Os) (started : os.Started) (H : Type) (enc : TypeId × Value → H) :
    ReturnsInHanded {} Try.checked os 3 .any (Rows.integerKeepsSpec.pre6 enc Try.prog Try.f3 Rows.integerKeepsRow.domain false) (Rows.integerKeepsSpec.post enc Try.prog Try.f3 false true false false) := by
  refine returnsInHanded_of_change_sized (C := Try.checked) own_knob started (by kernel_rfl) Try.func3
    (ChangeSpec.witness6 (enc := enc) (C := Try.checked) false ⟨#[], #[.agg #[.bool false, .slice none 0 0], .agg #[.bool false, .slice none 0 0]], []⟩ 8 (by kernel_rfl) (by kernel_rfl) (by kernel_rfl) (by kernel_rfl)) ?_
  intro W base args ds gs before hval0 hW hcnd hsz0 _
  have hval : ∀ (j : Nat) t v, Try.f3.params[j]? = some t → args[j]? = some v → Value.okWide Try.prog W .any base t v := hval0
  have hW' := hW
  obtain ⟨p, q, hA0, hV, rfl, hfz, hnd⟩ := hW
  have hA : DataW.TrodAll enc Try.prog W 0 (fun _ => true) true Try.f3.params.toList args.toList ds p := hA0
  rw [Try.params3] at hA hval
  obtain ⟨v0, vs0, d0, ds0, p0, q0, hargs, rfl, rfl, h0, r0⟩ := trodAll_cons hA
  obtain ⟨v1, vs1, d1, ds1, p1, q1, rfl, rfl, rfl, h1, r1⟩ := trodAll_cons r0
  obtain ⟨rfl, rfl, rfl⟩ := trodAll_nil r1
  obtain rfl : args = #[v0, v1] := by cases args; simp_all
  obtain ⟨rfl, rfl⟩ := trodVars_none hV
  have hsz : (DataW.weightsEach Try.prog [24, 24] [d0, d1]).all (· ≤ reachBytes) = true := hsz0
  have k0 := h0
  have lt0 : ∀ x ∈ p0, x.block < W.heap.size := by obtain ⟨m, hm⟩ := k0; exact DataW.trod_lt m _ _ _ hm
  obtain ⟨b0, a0, len0, cap0, x0, dl0, rfl, l0, rd0, rfl, s0⟩ := open_zint (hval 0 24 v0 rfl rfl) h0
  have k1 := h1
  have lt1 : ∀ x ∈ p1, x.block < W.heap.size := by obtain ⟨m, hm⟩ := k1; exact DataW.trod_lt m _ _ _ hm
  obtain ⟨b1, a1, len1, cap1, x1, dl1, rfl, l1, rd1, rfl, s1⟩ := open_zint (hval 1 24 v1 rfl rfl) h1
  have m0 : len0 ≤ 35184372087808 := by
    have := rd0.len
    rcases s0 with h | ⟨e, s, hd, hl⟩
    · omega
    · subst hd
      have := sized_zint hsz (j := 0) (s := b0) (e := e) (sp := s) rfl (by simp)
      omega
  have m1 : len1 ≤ 35184372087808 := by
    have := rd1.len
    rcases s1 with h | ⟨e, s, hd, hl⟩
    · omega
    · subst hd
      have := sized_zint hsz (j := 1) (s := b1) (e := e) (sp := s) rfl (by simp)
      omega
  clear hA0 hval0 hsz0 hsz
  obtain ⟨z0, zq0⟩ := zin_of l0 rd0
  obtain ⟨z1, zq1⟩ := zin_of l1 rd1
  refine (integerKeeps_walk b0 a0 len0 cap0 z0 b1 a1 len1 cap1 z1 W zq0 m0 zq1 m1).mono fun e W' ⟨he, bel⟩ => ?_
  subst he
  exact ⟨_, rfl, _, _, _, [], _, [], hW', trodAll_mk1 (shut_bool Try.underlying4 _), (trodAll_cons_mk (Below.trod laid_out (by kernel_rfl) (of_decide_eq_true (by kernel_rfl)) k0 bel lt0) (trodAll_cons_mk (Below.trod laid_out (by kernel_rfl) (of_decide_eq_true (by kernel_rfl)) k1 bel lt1) trodAll_mk0)), rfl, bel.frame _, fun h => by cases h⟩

/-- The statement. -/
theorem integerKeeps_holds : Rows.IntegerKeepsSaid :=
  OpenClaim.holds_of_wide 3 Try.f3 rfl rfl rfl rfl rfl rfl rfl ⟨rfl, rfl, rfl, rfl, rfl⟩ rfl rfl rfl rfl rfl (by kernel_rfl) Try.func3 (by kernel_rfl)
    (of_decide_eq_true (by kernel_rfl)) (by unfold Func.isWrapper; first | (rw [if_pos (by decide +kernel)]; kernel_rfl) | (rw [if_neg (by decide +kernel)]; exact ⟨rfl, rfl⟩))
    (fun os started H enc _ => integerKeeps_lifted os started H enc)
end Go.Proofs.Ytfmgbfdnmconiaa
