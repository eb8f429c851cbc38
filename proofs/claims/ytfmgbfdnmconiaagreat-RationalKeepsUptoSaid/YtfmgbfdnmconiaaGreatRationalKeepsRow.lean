/-
  The statement RationalKeeps: for every input the law returns true, and the input reads afterwards as before.
-/
import Derived.Test.YtfmgbfdnmconiaaGreatRationalKeeps
import Derived.Test.YtfmgbfdnmconiaaGreatFramer
namespace Go.Proofs.YtfmgbfdnmconiaaGreat
open Go.ChangeShapes Go.WideShapes Go.ChangeAt Go.RowKit
set_option linter.unusedVariables false

set_option maxRecDepth 100000 in
theorem rationalKeeps_lifted (os : Os) (started : os.Started) (H : Type) (enc : TypeId × Value → H) (F : Stop.Interp) :
    ReturnsInHanded {} Tryz.checked os 8 .any ((Rows.OpenSpec.upto Rows.rationalKeepsSpec).pre6 enc Tryz.prog Tryz.f8 Rows.rationalKeepsUptoRow.domain false) (((Rows.OpenSpec.upto Rows.rationalKeepsSpec).at F).post enc Tryz.prog Tryz.f8 false true false false) := by
  refine returnsInHanded_of_cond (C := Tryz.checked) (s := Rows.OpenSpec.upto Rows.rationalKeepsSpec) (k := Rows.uptoSmall) rfl own_knob started (by kernel_rfl) Tryz.func8
    (OpenSpec.witness (enc := enc) (C := Tryz.checked) (s := Rows.OpenSpec.upto Rows.rationalKeepsSpec) (k := Rows.uptoSmall) rfl false ⟨#[], #[.agg #[.bool false, .slice none 0 0, .slice none 0 0], .agg #[.bool false, .slice none 0 0, .slice none 0 0]], []⟩ 8 (by kernel_rfl) (by kernel_rfl) (by kernel_rfl) (x := ([.agg [.agg [.lit (.bool false), .nil], .nil], .agg [.agg [.lit (.bool false), .nil], .nil]], [], [])) (by kernel_rfl) rfl (by kernel_rfl)) ?_
  intro W base args ds gs before hval0 hW hcnd hk0 _
  have hval : ∀ (j : Nat) t v, Tryz.f8.params[j]? = some t → args[j]? = some v → Value.okWide Tryz.prog W .any base t v := hval0
  have hW' := hW
  obtain ⟨p, q, hA0, hV, rfl, hfz, hnd⟩ := hW
  have hA : DataW.TrodAll enc Tryz.prog W 0 (fun _ => true) true Tryz.f8.params.toList args.toList ds p := hA0
  rw [Tryz.params8] at hA hval
  obtain ⟨v0, vs0, d0, ds0, p0, q0, hargs, rfl, rfl, h0, r0⟩ := trodAll_cons hA
  obtain ⟨v1, vs1, d1, ds1, p1, q1, rfl, rfl, rfl, h1, r1⟩ := trodAll_cons r0
  obtain ⟨rfl, rfl, rfl⟩ := trodAll_nil r1
  obtain rfl : args = #[v0, v1] := by cases args; simp_all
  obtain ⟨rfl, rfl⟩ := trodVars_none hV
  have hsz : Rows.uptoSmall H [d0, d1] = true := by simpa using hk0
  have k0 := h0
  have lt0 : ∀ x ∈ p0, x.block < W.heap.size := by obtain ⟨m, hm⟩ := k0; exact DataW.trod_lt m _ _ _ hm
  obtain ⟨b0, a0, len0, cap0, x0, dl0, e0, n0, c0, y0, el0, rfl, l0, rd0, l20, rd20, rfl, s0, s20⟩ := open_zrat (hval 0 26 v0 rfl rfl) h0
  have k1 := h1
  have lt1 : ∀ x ∈ p1, x.block < W.heap.size := by obtain ⟨m, hm⟩ := k1; exact DataW.trod_lt m _ _ _ hm
  obtain ⟨b1, a1, len1, cap1, x1, dl1, e1, n1, c1, y1, el1, rfl, l1, rd1, l21, rd21, rfl, s1, s21⟩ := open_zrat (hval 1 26 v1 rfl rfl) h1
  have sm0 := small_zrat hsz (b := b0) (dl := dl0) (el := el0) (by simp)
  have m0 : len0 ≤ 1048576 := part_small sm0.1 l0 rd0 s0
  have m20 : n0 ≤ 1048576 := part_small sm0.2 l20 rd20 s20
  clear sm0
  have sm1 := small_zrat hsz (b := b1) (dl := dl1) (el := el1) (by simp)
  have m1 : len1 ≤ 1048576 := part_small sm1.1 l1 rd1 s1
  have m21 : n1 ≤ 1048576 := part_small sm1.2 l21 rd21 s21
  clear sm1
  clear hA0 hval0 hk0 hsz
  obtain ⟨z0, zq0⟩ := zin_of l0 rd0
  obtain ⟨q0, nq0⟩ := nin_of l20 rd20
  obtain ⟨z1, zq1⟩ := zin_of l1 rd1
  obtain ⟨q1, nq1⟩ := nin_of l21 rd21
  refine (rationalKeeps_walk b0 a0 len0 cap0 z0 e0 n0 c0 q0 b1 a1 len1 cap1 z1 e1 n1 c1 q1 W zq0 (Nat.le_trans m0 (by decide)) nq0 (Nat.le_trans m20 (by decide)) zq1 (Nat.le_trans m1 (by decide)) nq1 (Nat.le_trans m21 (by decide))).mono fun e W' ⟨he, bel⟩ => ?_
  subst he
  exact ⟨_, rfl, _, _, _, [], _, [], hW', trodAll_mk1 (shut_bool Tryz.underlying4 _), (trodAll_cons_mk (Below.trod laid_out (by kernel_rfl) (of_decide_eq_true (by kernel_rfl)) k0 bel lt0) (trodAll_cons_mk (Below.trod laid_out (by kernel_rfl) (of_decide_eq_true (by kernel_rfl)) k1 bel lt1) trodAll_mk0)), rfl, bel.frame _, fun h => by cases h⟩

/-- The statement. -/
theorem rationalKeeps_holds : Rows.RationalKeepsUptoSaid :=
  OpenClaim.holds_of_cond 8 Tryz.f8 rfl rfl rfl rfl rfl rfl rfl ⟨rfl, rfl, rfl, rfl, rfl⟩ rfl rfl rfl rfl rfl (by kernel_rfl) Tryz.func8 (by kernel_rfl)
    (of_decide_eq_true (by kernel_rfl)) (by unfold Func.isWrapper; first | (rw [if_pos (by decide +kernel)]; kernel_rfl) | (rw [if_neg (by decide +kernel)]; exact ⟨rfl, rfl⟩))
    (fun os started H enc _ F => rationalKeeps_lifted os started H enc F)
end Go.Proofs.YtfmgbfdnmconiaaGreat
