/-
  Contract of the reference's DivMod.
-/
import Derived.Test.YtmmlfmjelhninaaRshr
import Derived.Test.YtmmlfmjelhninaaDm
import Derived.Test.YtmmlfmjelhninaaAwake
import Derived.RegionTactic
import Derived.Deep.RegionWith
namespace Go.Proofs.Ytmmlfmjelhninaa
open Go.RowKit
set_option linter.unusedVariables false

theorem dstep0 {U b D : Nat} (hD : 0 < D) (h : U % D + U % D + b < D) : (2 * U + b) / D = 2 * (U / D) ∧ (2 * U + b) % D = U % D + U % D + b := by
  have e := Nat.div_add_mod U D
  have e2 : 2 * U + b = (U % D + U % D + b) + D * (2 * (U / D)) := by rw [Nat.mul_left_comm]; omega
  constructor
  · rw [e2, Nat.add_mul_div_left _ _ hD, Nat.div_eq_of_lt h, Nat.zero_add]
  · rw [e2, Nat.add_mul_mod_self_left, Nat.mod_eq_of_lt h]
theorem dstep1 {U b D : Nat} (hD : 0 < D) (hb : b < 2) (h : D ≤ U % D + U % D + b) : (2 * U + b) / D = 2 * (U / D) + 1 ∧ (2 * U + b) % D = U % D + U % D + b - D := by
  have e := Nat.div_add_mod U D
  have m := Nat.mod_lt U hD
  have e2 : 2 * U + b = (U % D + U % D + b - D) + D * (2 * (U / D) + 1) := by rw [Nat.mul_add, Nat.mul_left_comm]; omega
  have lt : U % D + U % D + b - D < D := by omega
  constructor
  · rw [e2, Nat.add_mul_div_left _ _ hD, Nat.div_eq_of_lt lt, Nat.zero_add]
  · rw [e2, Nat.add_mul_mod_self_left, Nat.mod_eq_of_lt lt]
theorem half_up (V j : Nat) : V / 2 ^ j = 2 * (V / 2 ^ (j + 1)) + bitOf V j := by
  unfold bitOf
  rw [Nat.pow_succ, ← Nat.div_div_eq_div_mul]
  omega
/-- The binary digits of the quotient from k on have been set. -/
def DvInv (w2 : World) (g n V D k : Nat) (R : Option Addr) (c : Nat) (wr : World) : Prop :=
  ∃ zs, Row wr g zs ∧ zs.length = n ∧ okl zs ∧ val zs = V / 2 ^ k / D * 2 ^ k ∧ Own wr (g + 1) R c (ofv (V / 2 ^ k % D)) ∧ w2.grownBy wr (some g)

theorem dv_zero {w2 wr : World} {g n V D j c : Nat} {R : Option Addr} {zs : List Nat} (h1 : Row wr g zs) (h2 : zs.length = n) (h3 : okl zs) (h4 : val zs = V / 2 ^ (j + 1) / D * 2 ^ (j + 1)) (hD : 0 < D)
    (ho : Own wr (g + 1) R c (ofv (V / 2 ^ (j + 1) % D + V / 2 ^ (j + 1) % D + bitOf V j))) (hg : w2.grownBy wr (some g)) (hlt : V / 2 ^ (j + 1) % D + V / 2 ^ (j + 1) % D + bitOf V j < D) :
    (ofv (V / 2 ^ (j + 1) % D + V / 2 ^ (j + 1) % D + bitOf V j)).length = (ofv (V / 2 ^ j % D)).length ∧ DvInv w2 g n V D j R c wr := by
  obtain ⟨s1, s2⟩ := dstep0 hD hlt
  rw [← half_up] at s1 s2
  rw [s2]
  refine ⟨rfl, zs, h1, h2, h3, ?_, by rw [s2]; exact ho, hg⟩
  rw [h4, s1, Nat.pow_succ, Nat.mul_comm (2 ^ j) 2, ← Nat.mul_assoc, Nat.mul_comm _ 2]
theorem dv_one {w2 wr : World} {g n V D j c : Nat} {R : Option Addr} {zs : List Nat} (h1 : Row wr g zs) (h2 : zs.length = n) (h3 : okl zs) (h4 : val zs = V / 2 ^ (j + 1) / D * 2 ^ (j + 1)) (hD : 0 < D)
    (ho : Own wr (g + 1) R c (ofv (V / 2 ^ (j + 1) % D + V / 2 ^ (j + 1) % D + bitOf V j - D))) (hg : w2.grownBy wr (some g)) (hle : D ≤ V / 2 ^ (j + 1) % D + V / 2 ^ (j + 1) % D + bitOf V j) (hj : j / 32 < n) (z : Int) (hz : z = ((lim zs (j / 32) ||| 2 ^ (j % 32) : Nat) : Int)) :
    (ofv (V / 2 ^ (j + 1) % D + V / 2 ^ (j + 1) % D + bitOf V j - D)).length = (ofv (V / 2 ^ j % D)).length ∧ DvInv w2 g n V D j R c (wr.setCell ⟨g, j / 32, none⟩ (.int .u32 z)) := by
  subst hz
  obtain ⟨s1, s2⟩ := dstep1 hD (bitOf_lt V j) hle
  rw [← half_up] at s1 s2
  rw [s2]
  have hz0 : bitOf (val zs) j = 0 := by rw [h4]; exact bitOf_multiple
  obtain ⟨b1, b2⟩ := set_bit h3 (i := j) (by omega) hz0
  refine ⟨rfl, _, h1.set_ _ _, by rw [List.length_set]; exact h2, okl_set h3 b1 _, ?_, ?_, grown_trans hg (grown_set _ _ _ _)⟩
  · rw [b2, h4, s1, Nat.pow_succ, Nat.mul_comm (2 ^ j) 2, ← Nat.mul_assoc, Nat.mul_comm _ 2, Nat.add_mul, Nat.one_mul]
  · rw [s2]
    obtain ⟨o0, o1, o2, o3⟩ := ho
    refine ⟨o0, o1, o2, ?_⟩
    rcases o3 with o3 | ⟨b, o, cur, hA, hl, hr, hc⟩
    · exact .inl o3
    · exact .inr ⟨b, o, cur, hA, hl, (Below.heap_setCell _ _ _ _ (show b ≠ g by omega)).trans hr, hc⟩

theorem rfrom_n {v : Nat} {w : World} {z : Int} (hz : z = (v : Int)) (h : v ≤ 18446744073709551615) : Calls Try.prog 21 #[.int .u64 z] w (Gives w v) := by
  subst hz; exact rfrom_any v w (by omega)
theorem rfrom_q {a b : Nat} {w : World} (h : a ≤ 18446744073709551615) :
    Calls Try.prog 21 #[.int .u64 (IntKind.u64.wrap ((a : Int) / (b : Int)))] w (Gives w (a / b)) := by
  have hq : a / b ≤ a := Nat.div_le_self _ _
  refine rfrom_n ?_ (by omega)
  rw [IntKind.wrap_u64, ← Int.natCast_ediv]
  generalize a / b = q at *
  omega
theorem rfrom_t {a b : Nat} {w : World} (h : a ≤ 18446744073709551615) :
    Calls Try.prog 21 #[.int .u64 ((a : Int).tmod (b : Int))] w (Gives w (a % b)) := by
  have hq : a % b ≤ a := Nat.mod_le _ _
  exact rfrom_n (by rw [Int.tmod_eq_emod_of_nonneg (by omega)]; simp) (by omega)
theorem rfrom_r {a b : Nat} {w : World} (h : a ≤ 18446744073709551615) :
    Calls Try.prog 21 #[.int .u64 ((a : Int) % (b : Int))] w (Gives w (a % b)) := by
  have hq : a % b ≤ a := Nat.mod_le _ _
  exact rfrom_n (by simp) (by omega)

theorem rdm_zero (A B : Option Addr) (ca cb : Nat) (xs ys : List Nat) (w : World) (h' : Rd w B cb ys) (hn' : ys.length ≤ 70368744177664) (hv : val ys = 0) :
    Calls Try.prog 29 #[.slice A xs.length ca, .slice B ys.length cb] w (GivesF2 w) := by
  have S := rtrim_any B cb ys w h' hn'
  rw [hv] at S
  have HS := Lib.hid S
  have e0 : (ofv 0).length = 0 := by rw [ofv_zero]; rfl
  have H0 := Lib.hid e0
  clear S h' hv e0
  go_enter Try.func29, Try.ntmps29
  go_wp2_with fail
  refine HS.out.mono ?_
  rintro e w1 ⟨R, c, rfl, ho, hb⟩
  rw [H0.out]
  have FIN : Hid (GivesF2 w (.returned (.tuple #[.slice none 0 0, .slice none 0 0, .bool false])) w1) := ⟨rfl, hb⟩
  clear ho hb
  go_wp2
  go_ret3
  exact FIN.out

set_option maxHeartbeats 4000000 in
theorem rdm_short (A B : Option Addr) (ca cb : Nat) (xs ys : List Nat) (w : World) (h : Rd w A ca xs) (h' : Rd w B cb ys) (hn : xs.length ≤ 70368744177664) (hn' : ys.length ≤ 70368744177664) (hv : 0 < val ys) (h1 : val xs < 18446744073709551616) (h2 : val ys < 18446744073709551616) :
    Calls Try.prog 29 #[.slice A xs.length ca, .slice B ys.length cb] w (Gives2 w (val xs / val ys) (val xs % val ys)) := by
  have S := Lib.hid (rtrim_any B cb ys w h' hn')
  have X := Lib.hid h
  have hp := len_pos hv
  have hl := len_ofv_le h'.ok
  have V2 := Lib.hid (val_ofv (val ys))
  have b1 : val xs ≤ 18446744073709551615 := by omega
  clear h h'
  generalize hu : ofv (val ys) = vs at *
  have HU := Lib.hid hu
  clear hu
  go_enter Try.func29, Try.ntmps29
  go_wp2_with fail
  refine S.out.mono ?_
  rintro e w1 ⟨R, c, rfl, ho, hb⟩
  rw [HU.out] at ho ⊢
  have hcl := ho.rd.len
  have hcl2 := ho.rd.capLe
  have B1 := Lib.hid hb
  have X1 := Lib.hid (X.out.below hb)
  have Y1 := Lib.hid ho.rd
  clear ho hb
  go_wp2_with fail
  refine (ruint64_yes A ca xs _ X1.out hn h1).mono ?_
  rintro e w2 ⟨rfl, hb⟩
  have B2 : Hid (Below w.heap.size w w2) := B1.out.trans (hb.mono B1.out.size)
  have Y2 := Lib.hid (Y1.out.below hb)
  clear hb
  go_wp2_with fail
  refine (ruint64_yes R c vs _ Y2.out (by omega) (by rw [V2.out]; exact h2)).mono ?_
  rw [V2.out]
  rintro e w3 ⟨rfl, hb⟩
  have B3 : Hid (Below w.heap.size w w3) := B2.out.trans (hb.mono B2.out.size)
  clear hb X1 Y1 Y2 B1 B2
  generalize val xs = va at *
  generalize val ys = vb at *
  go_wp2_with fail
  go_region_with ((go_at_call 21; first | ((with_reducible refine (rfrom_q b1).mono ?_); rintro e wq ⟨Rq, cq, rfl, hoq, hbq⟩) | ((with_reducible refine (rfrom_t b1).mono ?_); rintro e wr ⟨Rr, cr, rfl, hor, hbr⟩) | ((with_reducible refine (rfrom_r b1).mono ?_); rintro e wr ⟨Rr, cr, rfl, hor, hbr⟩)))
  all_goals
    have FIN : Hid (Gives2 w (va / vb) (va % vb) (.returned (.tuple #[.slice Rq (ofv (va / vb)).length cq, .slice Rr (ofv (va % vb)).length cr, .bool true])) wr) := by
      have z3 := B3.out.size
      have hbq' : Below w3.heap.size w3 wq := (below_drewN w3.heap.size w3 1).trans hbq
      have hs := hbq'.size
      exact ⟨Rq, cq, Rr, cr, rfl, (hoq.below hbr).mono (by show w.heap.size ≤ w3.heap.size; omega), hor.mono (by omega), B3.out.trans ((hbq'.mono (by omega)).trans (hbr.mono (by omega)))⟩
    clear hoq hbq hor hbr
    go_wp2
    go_ret3
    exact FIN.out

theorem rsub_no_n {A B : Option Addr} {ca cb n m : Nat} {xs ys : List Nat} {w : World} (h : Rd w A ca xs) (h' : Rd w B cb ys) (hn : xs.length = n) (hm : ys.length = m) (hl : n ≤ 70368744177663) (hl' : m ≤ 70368744177663) (hv : val xs < val ys) :
    Calls Try.prog 25 #[.slice A n ca, .slice B m cb] w (GivesF w) := by
  subst hn hm; exact rsub_no A B ca cb xs ys w h h' hl hl' hv
theorem dv_below {w2 wr wr' : World} {g n V D k c : Nat} {R : Option Addr} (h : DvInv w2 g n V D k R c wr) (hb : Below wr.heap.size wr wr') : DvInv w2 g n V D k R c wr' := by
  obtain ⟨zs, h1, h2, h3, h4, h5, h6⟩ := h
  exact ⟨zs, h1.below hb h1.lt, h2, h3, h4, h5.below hb, grown_trans h6 (grown_below hb)⟩
end Go.Proofs.Ytmmlfmjelhninaa
