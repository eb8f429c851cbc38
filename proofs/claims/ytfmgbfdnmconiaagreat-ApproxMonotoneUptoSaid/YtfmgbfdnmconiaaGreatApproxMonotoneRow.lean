/-
  The statement ApproxMonotone: for every input the law returns true, and the input reads afterwards as before.
-/
import Derived.Test.YtfmgbfdnmconiaaGreatApproxMonotone
import Derived.Test.YtfmgbfdnmconiaaGreatFramer
namespace Go.Proofs.YtfmgbfdnmconiaaGreat
open Go.ChangeShapes Go.WideShapes Go.ChangeAt Go.RowKit
set_option linter.unusedVariables false

set_option maxRecDepth 100000 in
theorem approxMonotone_lifted (os : Os) (started : os.Started) (H : Type) (enc : TypeId × Value → H) (F : Stop.Interp) :
    ReturnsInHanded {} Tryz.checked os 7 .any ((Rows.OpenSpec.upto Rows.approxMonotoneSpec).pre6 enc Tryz.prog Tryz.f7 Rows.approxMonotoneUptoRow.domain false) (((Rows.OpenSpec.upto Rows.approxMonotoneSpec).at F).post enc Tryz.prog Tryz.f7 false true false false) := by
  refine returnsInHanded_of_cond (C := Tryz.checked) (s := Rows.OpenSpec.upto Rows.approxMonotoneSpec) (k := Rows.uptoSmall) rfl own_knob started (by kernel_rfl) Tryz.func7
    (OpenSpec.witness (enc := enc) (C := Tryz.checked) (s := Rows.OpenSpec.upto Rows.approxMonotoneSpec) (k := Rows.uptoSmall) rfl false ⟨#[], #[.agg #[.bool false, .slice none 0 0, .slice none 0 0], .agg #[.bool false, .slice none 0 0], .agg #[.bool false, .slice none 0 0]], []⟩ 8 (by kernel_rfl) (by kernel_rfl) (by kernel_rfl) (x := ([.agg [.agg [.lit (.bool false), .nil], .nil], .agg [.lit (.bool false), .nil], .agg [.lit (.bool false), .nil]], [], [])) (by kernel_rfl) rfl (by kernel_rfl)) ?_
  intro W base args ds gs before hval0 hW hcnd hk0 _
  have hval : ∀ (j : Nat) t v, Tryz.f7.params[j]? = some t → args[j]? = some v → Value.okWide Tryz.prog W .any base t v := hval0
  have hW' := hW
  obtain ⟨p, q, hA0, hV, rfl, hfz, hnd⟩ := hW
  have hA : DataW.TrodAll enc Tryz.prog W 0 (fun _ => true) true Tryz.f7.params.toList args.toList ds p := hA0
  rw [Tryz.params7] at hA hval
  obtain ⟨v0, vs0, d0, ds0, p0, q0, hargs, rfl, rfl, h0, r0⟩ := trodAll_cons hA
  obtain ⟨v1, vs1, d1, ds1, p1, q1, rfl, rfl, rfl, h1, r1⟩ := trodAll_cons r0
  obtain ⟨v2, vs2, d2, ds2, p2, q2, rfl, rfl, rfl, h2, r2⟩ := trodAll_cons r1
  obtain ⟨rfl, rfl, rfl⟩ := trodAll_nil r2
  obtain rfl : args = #[v0, v1, v2] := by cases args; simp_all
  obtain ⟨rfl, rfl⟩ := trodVars_none hV
  have hsz : Rows.uptoSmall H [d0, d1, d2] = true := by simpa using hk0
  have k0 := h0
  have lt0 : ∀ x ∈ p0, x.block < W.heap.size := by obtain ⟨m, hm⟩ := k0; exact DataW.trod_lt m _ _ _ hm
  obtain ⟨b0, a0, len0, cap0, x0, dl0, e0, n0, c0, y0, el0, rfl, l0, rd0, l20, rd20, rfl, s0, s20⟩ := open_zrat (hval 0 26 v0 rfl rfl) h0
  have k1 := h1
  have lt1 : ∀ x ∈ p1, x.block < W.heap.size := by obtain ⟨m, hm⟩ := k1; exact DataW.trod_lt m _ _ _ hm
  obtain ⟨b1, a1, len1, cap1, x1, dl1, rfl, l1, rd1, rfl, s1⟩ := open_zint (hval 1 24 v1 rfl rfl) h1
  have k2 := h2
  have lt2 : ∀ x ∈ p2, x.block < W.heap.size := by obtain ⟨m, hm⟩ := k2; exact DataW.trod_lt m _ _ _ hm
  obtain ⟨b2, a2, len2, cap2, x2, dl2, rfl, l2, rd2, rfl, s2⟩ := open_zint (hval 2 24 v2 rfl rfl) h2
  have sm0 := small_zrat hsz (b := b0) (dl := dl0) (el := el0) (by simp)
  have m0 : len0 ≤ 1048576 := part_small sm0.1 l0 rd0 s0
  have m20 : n0 ≤ 1048576 := part_small sm0.2 l20 rd20 s20
  clear sm0
  have m1 : len1 ≤ 1048576 := by
    have := rd1.len
    rcases s1 with h | ⟨e, s, hd, hl⟩
    · omega
    · subst hd
      have := small_zint hsz (e := e) (s := s) (b := b1) (by simp)
      omega
  have m2 : len2 ≤ 1048576 := by
    have := rd2.len
    rcases s2 with h | ⟨e, s, hd, hl⟩
    · omega
    · subst hd
      have := small_zint hsz (e := e) (s := s) (b := b2) (by simp)
      omega
  clear hA0 hval0 hk0 hsz
  obtain ⟨z0, zq0⟩ := zin_of l0 rd0
  obtain ⟨q0, nq0⟩ := nin_of l20 rd20
  obtain ⟨z1, zq1⟩ := zin_of l1 rd1
  obtain ⟨z2, zq2⟩ := zin_of l2 rd2
  refine (approxMonotone_walk b0 a0 len0 cap0 z0 e0 n0 c0 q0 b1 a1 len1 cap1 z1 b2 a2 len2 cap2 z2 W zq0 m0 nq0 m20 zq1 m1 zq2 m2).mono fun e W' ⟨he, bel⟩ => ?_
  subst he
  exact ⟨_, rfl, _, _, _, [], _, [], hW', trodAll_mk1 (shut_bool Tryz.underlying4 _), (trodAll_cons_mk (Below.trod laid_out (by kernel_rfl) (of_decide_eq_true (by kernel_rfl)) k0 bel lt0) (trodAll_cons_mk (Below.trod laid_out (by kernel_rfl) (of_decide_eq_true (by kernel_rfl)) k1 bel lt1) (trodAll_cons_mk (Below.trod laid_out (by kernel_rfl) (of_decide_eq_true (by kernel_rfl)) k2 bel lt2) trodAll_mk0))), rfl, bel.frame _, fun h => by cases h⟩

/-- The statement. -/
theorem approxMonotone_holds : Rows.ApproxMonotoneUptoSaid :=
  OpenClaim.holds_of_cond 7 Tryz.f7 rfl rfl rfl rfl rfl rfl rfl ⟨rfl, rfl, rfl, rfl, rfl⟩ rfl rfl rfl rfl rfl (by kernel_rfl) Tryz.func7 (by kernel_rfl)
    (of_decide_eq_true (by kernel_rfl)) (by unfold Func.isWrapper; first | (rw [if_pos (by decide +kernel)]; kernel_rfl) | (rw [if_neg (by decide +kernel)]; exact ⟨rfl, rfl⟩))
    (fun os started H enc _ F => approxMonotone_lifted os started H enc F)
end Go.Proofs.YtfmgbfdnmconiaaGreat
