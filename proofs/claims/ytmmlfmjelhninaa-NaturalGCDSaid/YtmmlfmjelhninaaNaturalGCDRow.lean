/-
  The statement NaturalGCD: for every input the law returns true, and the input reads afterwards as before.
-/
import Derived.Test.YtmmlfmjelhninaaNaturalGCD
import Derived.Test.YtmmlfmjelhninaaFrame
namespace Go.Proofs.Ytmmlfmjelhninaa
open Go.ChangeShapes Go.WideShapes Go.ChangeAt Go.RowKit
set_option linter.unusedVariables false

set_option maxRecDepth 100000 in
theorem naturalGCD_lifted (os : Os) (started : os.Started) (H : Type) (enc : TypeId × Value → H) :
    ReturnsInHanded {} Try.checked os 9 .any (Rows.naturalGCDSpec.pre6 enc Try.prog Try.f9 Rows.naturalGCDRow.domain false) (Rows.naturalGCDSpec.post enc Try.prog Try.f9 false true false false) := by
  refine returnsInHanded_of_change_sized (C := Try.checked) own_knob started (by kernel_rfl) Try.func9
    (ChangeSpec.witness6 (enc := enc) (C := Try.checked) false ⟨#[], #[.slice none 0 0, .slice none 0 0, .slice none 0 0], []⟩ 8 (by kernel_rfl) (by kernel_rfl) (by kernel_rfl) (by kernel_rfl)) ?_
  intro W base args ds gs before hval0 hW hcnd hsz0 _
  have hval : ∀ (j : Nat) t v, Try.f9.params[j]? = some t → args[j]? = some v → Value.okWide Try.prog W .any base t v := hval0
  have hW' := hW
  obtain ⟨p, q, hA0, hV, rfl, hfz, hnd⟩ := hW
  have hA : DataW.TrodAll enc Try.prog W 0 (fun _ => true) true Try.f9.params.toList args.toList ds p := hA0
  rw [Try.params9] at hA hval
  obtain ⟨v0, vs0, d0, ds0, p0, q0, hargs, rfl, rfl, h0, r0⟩ := trodAll_cons hA
  obtain ⟨v1, vs1, d1, ds1, p1, q1, rfl, rfl, rfl, h1, r1⟩ := trodAll_cons r0
  obtain ⟨v2, vs2, d2, ds2, p2, q2, rfl, rfl, rfl, h2, r2⟩ := trodAll_cons r1
  obtain ⟨rfl, rfl, rfl⟩ := trodAll_nil r2
  obtain rfl : args = #[v0, v1, v2] := by cases args; simp_all
  obtain ⟨rfl, rfl⟩ := trodVars_none hV
  have hsz : (DataW.weightsEach Try.prog [22, 22, 22] [d0, d1, d2]).all (· ≤ reachBytes) = true := hsz0
  obtain ⟨a0, len0, cap0, rfl⟩ := okWide_slice Try.underlying22 (hval 0 22 v0 rfl rfl)
  have k0 := h0
  have lt0 : ∀ x ∈ p0, x.block < W.heap.size := by obtain ⟨m, hm⟩ := k0; exact DataW.trod_lt m _ _ _ hm
  obtain ⟨x0, rfl, rd0, s0⟩ := open_limbs h0
  obtain ⟨a1, len1, cap1, rfl⟩ := okWide_slice Try.underlying22 (hval 1 22 v1 rfl rfl)
  have k1 := h1
  have lt1 : ∀ x ∈ p1, x.block < W.heap.size := by obtain ⟨m, hm⟩ := k1; exact DataW.trod_lt m _ _ _ hm
  obtain ⟨x1, rfl, rd1, s1⟩ := open_limbs h1
  obtain ⟨a2, len2, cap2, rfl⟩ := okWide_slice Try.underlying22 (hval 2 22 v2 rfl rfl)
  have k2 := h2
  have lt2 : ∀ x ∈ p2, x.block < W.heap.size := by obtain ⟨m, hm⟩ := k2; exact DataW.trod_lt m _ _ _ hm
  obtain ⟨x2, rfl, rd2, s2⟩ := open_limbs h2
  have b0 : cap0 * 4 ≤ 140737488351232 := by
    rcases s0 with h | ⟨e, s, hd, hl⟩
    · omega
    · have := sized_slice hsz (j := 0) (t := 22) (e := 42) (elems := e) (spare := s) rfl (by simp [hd]) Try.underlying22
      rw [bytes_limb, hl] at this
      simpa [reachBytes] using this
  have b1 : cap1 * 4 ≤ 140737488351232 := by
    rcases s1 with h | ⟨e, s, hd, hl⟩
    · omega
    · have := sized_slice hsz (j := 1) (t := 22) (e := 42) (elems := e) (spare := s) rfl (by simp [hd]) Try.underlying22
      rw [bytes_limb, hl] at this
      simpa [reachBytes] using this
  have b2 : cap2 * 4 ≤ 140737488351232 := by
    rcases s2 with h | ⟨e, s, hd, hl⟩
    · omega
    · have := sized_slice hsz (j := 2) (t := 22) (e := 42) (elems := e) (spare := s) rfl (by simp [hd]) Try.underlying22
      rw [bytes_limb, hl] at this
      simpa [reachBytes] using this
  clear hA0 hval0 hsz0 hsz
  refine (naturalGCD_walk a0 cap0 x0 a1 cap1 x1 a2 cap2 x2 W rd0 b0 rd1 b1 rd2 b2).mono fun e W' ⟨he, bel⟩ => ?_
  subst he
  exact ⟨_, rfl, _, _, _, [], _, [], hW', trodAll_mk1 (shut_bool Try.underlying4 _), (trodAll_cons_mk (Below.trod laid_out (by kernel_rfl) (of_decide_eq_true (by kernel_rfl)) k0 bel lt0) (trodAll_cons_mk (Below.trod laid_out (by kernel_rfl) (of_decide_eq_true (by kernel_rfl)) k1 bel lt1) (trodAll_cons_mk (Below.trod laid_out (by kernel_rfl) (of_decide_eq_true (by kernel_rfl)) k2 bel lt2) trodAll_mk0))), rfl, bel.frame _, fun h => by cases h⟩

/-- The statement. -/
theorem naturalGCD_holds : Rows.NaturalGCDSaid :=
  OpenClaim.holds_of_wide 9 Try.f9 rfl rfl rfl rfl rfl rfl rfl ⟨rfl, rfl, rfl, rfl, rfl⟩ rfl rfl rfl rfl rfl (by kernel_rfl) Try.func9 (by kernel_rfl)
    (of_decide_eq_true (by kernel_rfl)) (by unfold Func.isWrapper; first | (rw [if_pos (by decide +kernel)]; kernel_rfl) | (rw [if_neg (by decide +kernel)]; exact ⟨rfl, rfl⟩))
    (fun os started H enc _ => naturalGCD_lifted os started H enc)
end Go.Proofs.Ytmmlfmjelhninaa
