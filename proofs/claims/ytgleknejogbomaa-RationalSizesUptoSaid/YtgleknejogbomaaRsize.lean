/-
  The reference's Size, and how many bits a product has.
-/
import Derived.Test.YtgleknejogbomaaRlen
namespace Go.Proofs.Ytgleknejogbomaa
open Go.RowKit
set_option linter.unusedVariables false

theorem zfield1 (s : Bool) (A : Option Addr) (n c : Nat) (w : World) : (Instr.field 24 (.agg #[.bool s, .slice A n c]) 1).run Try.prog w = .ok (.slice A n c) w := by kernel_rfl
theorem nbits_mono {a b : Nat} (h : a ≤ b) : nbits a ≤ nbits b := nbits_le (Nat.lt_of_le_of_lt h (nbits_lt b))
theorem nbits_mul (a b : Nat) : nbits (a * b) ≤ nbits a + nbits b := by
  refine nbits_le ?_
  rw [Nat.pow_add]
  exact Nat.mul_lt_mul'' (nbits_lt a) (nbits_lt b)
/-- How many bits the numerator and the denominator have. -/
def szR (r : Rat) : Int := ((nbits r.num.natAbs : Nat) : Int) + ((nbits r.den : Nat) : Int)
theorem szR_mul (r s : Rat) : szR (r * s) ≤ szR r + szR s := by
  have e : r * s = mkRat (r.num * s.num) (r.den * s.den) := by rw [← Rat.mkRat_mul_mkRat, mk_self, mk_self]
  have h := num_len (z := r.num * s.num) (d := r.den * s.den) (Nat.mul_pos (den_pos r) (den_pos s))
  rw [← e, Int.natAbs_mul] at h
  have h1 := nbits_mono h.1
  have h2 := nbits_mono h.2
  have h3 := nbits_mul r.num.natAbs s.num.natAbs
  have h4 := nbits_mul r.den s.den
  unfold szR
  omega
theorem szR_len {r : Rat} {n : Nat} (h : RL r n) : 0 ≤ szR r ∧ szR r ≤ 64 * n := by
  have h1 := nbits_len r.num.natAbs
  have h2 := nbits_len r.den
  have h3 := h.1
  have h4 := h.2
  unfold szR
  omega
set_option maxRecDepth 100000 in
set_option maxHeartbeats 16000000 in
theorem r3size_any {s : Bool} {A D : Option Addr} {n c m k : Nat} {x : Int} {p : Nat} {w : World} (h : Zin w s A n c x) (h' : Nin w D m k p) (hn : n ≤ 35184372087808) (hm : m ≤ 35184372087808) {v : Int} (hv : szR (mkRat x p) = v) :
    Calls Try.prog 53 #[.agg #[.bool s, .slice A n c, .slice D m k]] w fun e w' => e = .returned (.int .i64 v) ∧ Below w.heap.size w w' := by
  obtain ⟨B1, V0⟩ := start_R w s A n c D m k
  have HX := Lib.hid (h.below B1.out)
  have HP := Lib.hid (h'.below B1.out)
  have LN := Lib.hid hn
  have LM := Lib.hid hm
  have rl := rl_mk (N := 35184372087808) (Nat.le_trans h.len hn) (Nat.le_trans h'.len hm) (by decide)
  obtain ⟨z, ez⟩ : ∃ z0 : Int, (mkRat x p).num = z0 := ⟨_, rfl⟩
  obtain ⟨d, ed⟩ : ∃ z0 : Nat, (mkRat x p).den = z0 := ⟨_, rfl⟩
  obtain ⟨b1, eb1⟩ : ∃ z0 : Int, ((nbits z.natAbs : Nat) : Int) = z0 := ⟨_, rfl⟩
  obtain ⟨b2, eb2⟩ : ∃ z0 : Int, ((nbits d : Nat) : Int) = z0 := ⟨_, rfl⟩
  have hs := szR_len rl
  have LZ : Hid ((ofv z.natAbs).length ≤ 70368744177664) := by show _ ≤ _; rw [← ez]; exact Nat.le_trans rl.1 (by decide)
  have LD : Hid ((ofv d).length ≤ 70368744177664) := by show _ ≤ _; rw [← ed]; exact Nat.le_trans rl.2 (by decide)
  unfold szR at hv hs
  rw [ez, ed, eb1, eb2] at hv hs
  have HZ := Lib.hid ez
  have HD := Lib.hid ed
  have EB1 := Lib.hid eb1
  have EB2 := Lib.hid eb2
  have HV := Lib.hid hv
  have hw : IntKind.i64.wrap (b1 + b2) = b1 + b2 := IntWalk.i64_in _ (by omega)
  have hf0 := field0
  have hf1 := field1
  have hz1 := zfield1
  clear rl ez ed eb1 eb2 hs hv h h' hn hm
  go_enter Try.func53, Try.ntmps53
  go_wp2_with fail
  generalize (w.alloc (.cells #[.bool s, .slice A n c, .slice D m k] 42)) = w2 at *
  have HB : Hid (Below w2.heap.size w2 w2.drew) := below_drewN _ w2 1
  refine wp_region_held_drew (S := fun w' => Below w2.heap.size w2 w') (by kernel_rfl) (HB.out) (fun hHeld => ?_)
  refine wpAnyH_takeL (i := 0) (oi := _) rfl (by kernel_rfl) (by kernel_rfl) (by kernel_rfl) (fun _ _ _ h => h) (yields_ldR (by rfl) _ rfl (by rfl) (fun _ hb => V0.out.below hb V0.out.lt)) hHeld ?_
  try simp only [Act.put, List.setIfInBounds_toArray, List.set_cons_zero, List.set_cons_succ]
  refine wpAnyH_takeL (i := 5) (oi := _) rfl (by kernel_rfl) (by kernel_rfl) (by kernel_rfl) (fun _ _ _ h => h) (yields_ldR (by rfl) _ rfl (by rfl) (fun _ hb => V0.out.below hb V0.out.lt)) hHeld ?_
  try simp only [Act.put, List.setIfInBounds_toArray, List.set_cons_zero, List.set_cons_succ]
  refine wpAnyH_ready (rs := [1]) (by kernel_rfl) (by simp) ?_
  refine AllReadyH.consL (o := _) rfl (fun K hK => ?_) AllReadyH.nil
  clear hHeld
  go_simp
  go_at_call 76
  refine Calls.mono (rnorm_any (HX.out.below HB.out) (HP.out.below HB.out) LN.out LM.out HZ.out HD.out) ?_
  rintro e wa ⟨Pa, ca, Qa, ka, rfl, ho, ho2, hb⟩
  replace HB := Lib.hid (HB.out.trans (hb.mono HB.out.size))
  have Za := Lib.hid (Nin.of_rd ho.rd)
  have Da := Lib.hid (Nin.of_rd ho2.rd)
  clear ho ho2
  clear hb
  refine hK.out _ _ HB.out (fun hHeld => ?_)
  clear hK K
  try simp only [Act.put, List.setIfInBounds_toArray, List.set_cons_zero, List.set_cons_succ]
  refine wpAnyH_takeL (i := 2) (oi := _) (v := ?_) rfl (by kernel_rfl) (by kernel_rfl) (by kernel_rfl) (fun _ _ _ h => h) (Or.inl ⟨by rfl, ?_⟩) hHeld ?_
  rotate_left
  · (intro w' hSw; (try dsimp only at hSw); go_simp; try (with_reducible rfl))
  try simp only [Act.put, List.setIfInBounds_toArray, List.set_cons_zero, List.set_cons_succ]
  refine wpAnyH_takeL (i := 3) (oi := _) (v := ?_) rfl (by kernel_rfl) (by kernel_rfl) (by kernel_rfl) (fun _ _ _ h => h) (Or.inl ⟨by rfl, ?_⟩) hHeld ?_
  rotate_left
  · (intro w' hSw; (try dsimp only at hSw); go_simp; try (with_reducible rfl))
  try simp only [Act.put, List.setIfInBounds_toArray, List.set_cons_zero, List.set_cons_succ]
  refine wpAnyH_ready (rs := [4]) (by kernel_rfl) (by simp) ?_
  refine AllReadyH.consL (o := _) rfl (fun K hK => ?_) AllReadyH.nil
  clear hHeld
  go_simp
  go_at_call 92
  refine Calls.mono (rbits_d (z := b1) Za.out LZ.out EB1.out) ?_
  rintro e wb ⟨rfl, hb⟩
  replace HB := Lib.hid (HB.out.trans (hb.mono HB.out.size))
  clear hb
  refine hK.out _ _ HB.out (fun hHeld => ?_)
  clear hK K
  try simp only [Act.put, List.setIfInBounds_toArray, List.set_cons_zero, List.set_cons_succ]
  refine wpAnyH_ready (rs := [6]) (by kernel_rfl) (by simp) ?_
  refine AllReadyH.consL (o := _) rfl (fun K hK => ?_) AllReadyH.nil
  clear hHeld
  go_simp
  go_at_call 76
  refine Calls.mono (rnorm_any (HX.out.below HB.out) (HP.out.below HB.out) LN.out LM.out HZ.out HD.out) ?_
  rintro e wc ⟨Pe, ce, Qe, ke, rfl, ho, ho2, hb⟩
  replace HB := Lib.hid (HB.out.trans (hb.mono HB.out.size))
  have Ze := Lib.hid (Nin.of_rd ho.rd)
  have De := Lib.hid (Nin.of_rd ho2.rd)
  clear ho ho2
  clear hb
  refine hK.out _ _ HB.out (fun hHeld => ?_)
  clear hK K
  try simp only [Act.put, List.setIfInBounds_toArray, List.set_cons_zero, List.set_cons_succ]
  refine wpAnyH_takeL (i := 7) (oi := _) (v := ?_) rfl (by kernel_rfl) (by kernel_rfl) (by kernel_rfl) (fun _ _ _ h => h) (Or.inl ⟨by rfl, ?_⟩) hHeld ?_
  rotate_left
  · (intro w' hSw; (try dsimp only at hSw); go_simp; try (with_reducible rfl))
  try simp only [Act.put, List.setIfInBounds_toArray, List.set_cons_zero, List.set_cons_succ]
  refine wpAnyH_ready (rs := [8]) (by kernel_rfl) (by simp) ?_
  refine AllReadyH.consL (o := _) rfl (fun K hK => ?_) AllReadyH.nil
  clear hHeld
  go_simp
  go_at_call 92
  refine Calls.mono (rbits_d (z := b2) De.out LD.out EB2.out) ?_
  rintro e wd ⟨rfl, hb⟩
  replace HB := Lib.hid (HB.out.trans (hb.mono HB.out.size))
  clear hb
  refine hK.out _ _ HB.out (fun hHeld => ?_)
  clear hK K
  try simp only [Act.put, List.setIfInBounds_toArray, List.set_cons_zero, List.set_cons_succ]
  refine wpAnyH_takeL (i := 9) (oi := _) (v := ?_) rfl (by kernel_rfl) (by kernel_rfl) (by kernel_rfl) (fun _ _ _ h => h) (Or.inl ⟨by rfl, ?_⟩) hHeld ?_
  rotate_left
  · (intro w' hSw; (try dsimp only at hSw); go_simp; try (with_reducible rfl))
  try simp only [Act.put, List.setIfInBounds_toArray, List.set_cons_zero, List.set_cons_succ]
  refine wpAnyH_takeL (i := 10) (oi := _) (v := ?_) rfl (by kernel_rfl) (by kernel_rfl) (by kernel_rfl) (fun _ _ _ h => h) (Or.inl ⟨by rfl, ?_⟩) hHeld ?_
  rotate_left
  · (intro w' hSw; (try dsimp only at hSw); go_simp; try (with_reducible rfl))
  try simp only [Act.put, List.setIfInBounds_toArray, List.set_cons_zero, List.set_cons_succ]
  skip
  refine wpAnyH_done (by kernel_rfl) ?_ _
  have hb := HB.out
  replace B1 := Lib.hid (B1.out.trans (hb.mono B1.out.size))
  clear hHeld hb HB Za Da Ze De
  go_wp2
  go_ret
  exact ⟨ret_int HV.out, B1.out⟩
end Go.Proofs.Ytgleknejogbomaa
