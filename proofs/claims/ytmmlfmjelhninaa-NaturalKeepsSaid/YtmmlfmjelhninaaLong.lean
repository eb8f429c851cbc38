/-
  Contract of natural.divideLong.
-/
import Derived.Test.YtmmlfmjelhninaaNext
namespace Go.Proofs.Ytmmlfmjelhninaa
open Go.RowKit
set_option linter.unusedVariables false

theorem nd_n {g o c n m : Nat} {zs ds : List Nat} {B : Option Addr} {cb : Nat} {w : World} (hm1 : m = n + 1) (hr : Row w g zs) (hz : okl zs) (hon : o + n < zs.length) (hc : n + 1 ≤ c) (hcm : c ≤ 9223372036854775807) (hm : zs.length ≤ 70368744177664) (h' : Rd w B cb ds) (hd : ds.length = n)
    (hne : ∀ b' o', 0 < cb → B = some ⟨b', o', none⟩ → some b' ≠ some g) (h2 : 2 ≤ n) (hh : 2147483648 ≤ lim ds (n - 1)) (hlt : win zs o (n + 1) < val ds * 4294967296) :
    Calls Try.prog 61 #[.slice (some ⟨g, o, none⟩) m c, .slice B n cb] w (NdPost w g o n zs (val ds)) := by
  subst hm1; exact nd_any g o c n zs ds B cb w hr hz hon hc hcm hm h' hd hne h2 hh hlt

/-- The shift by the leading zeros of the highest limb. -/
theorem norm_facts {vs : List Nat} (hv : okl vs) {n : Nat} (hn : vs.length = n) (h2 : 2 ≤ n) (ht : lim vs (n - 1) ≠ 0) :
    32 - nbits (lim vs (n - 1)) < 32 ∧ val vs * 2 ^ (32 - nbits (lim vs (n - 1))) < pw n ∧ 2147483648 * pw (n - 1) ≤ val vs * 2 ^ (32 - nbits (lim vs (n - 1))) := by
  have e := val_take_succ (xs := vs) (k := n - 1) (by omega)
  rw [show n - 1 + 1 = n from by omega, List.take_of_length_le (by omega)] at e
  have hb := val_lt (okl_take hv (n - 1))
  rw [List.length_take, Nat.min_eq_left (by omega)] at hb
  have hl := lim_lt hv (n - 1)
  generalize lim vs (n - 1) = t at *
  generalize val (vs.take (n - 1)) = r at *
  have h1 := nbits_lt t
  have h2' := nbits_ge ht
  have h3 : nbits t ≠ 0 := fun h => ht (nbits_eq_zero.1 h)
  have h4 : nbits t ≤ 32 := nbits_le (by have : (2 : Nat) ^ 32 = 4294967296 := rfl; omega)
  have hp := pw_pos (n - 1)
  have e3 : pw n = 4294967296 * pw (n - 1) := by rw [← pw_succ]; congr 1; omega
  have e32 : (2 : Nat) ^ nbits t * 2 ^ (32 - nbits t) = 4294967296 := by rw [← Nat.pow_add, show nbits t + (32 - nbits t) = 32 from by omega]
  have e31 : (2 : Nat) ^ (nbits t - 1) * 2 ^ (32 - nbits t) = 2147483648 := by rw [← Nat.pow_add, show nbits t - 1 + (32 - nbits t) = 31 from by omega]
  refine ⟨by omega, ?_, ?_⟩
  · have h5 : val vs + 1 ≤ 2 ^ nbits t * pw (n - 1) := by
      have := Nat.mul_le_mul_right (pw (n - 1)) (show t + 1 ≤ 2 ^ nbits t from h1)
      rw [Nat.add_mul, Nat.one_mul] at this
      omega
    have h6 := Nat.mul_le_mul_right (2 ^ (32 - nbits t)) h5
    have h7 : 2 ^ nbits t * pw (n - 1) * 2 ^ (32 - nbits t) = pw n := by rw [e3, ← e32]; grind
    have h8 : 0 < 2 ^ (32 - nbits t) := Nat.pow_pos (by omega)
    rw [Nat.add_mul, Nat.one_mul, h7] at h6
    omega
  · have h5 : 2 ^ (nbits t - 1) * pw (n - 1) ≤ val vs := by
      have := Nat.mul_le_mul_right (pw (n - 1)) h2'
      omega
    have h6 := Nat.mul_le_mul_right (2 ^ (32 - nbits t)) h5
    have h7 : 2 ^ (nbits t - 1) * pw (n - 1) * 2 ^ (32 - nbits t) = 2147483648 * pw (n - 1) := by rw [← e31]; grind
    omega
/-- The highest limb of the shifted divisor. -/
theorem norm_top {ds : List Nat} (hd : okl ds) {n : Nat} (hn : ds.length = n) (h2 : 2 ≤ n) (h : 2147483648 * pw (n - 1) ≤ val ds) : 2147483648 ≤ lim ds (n - 1) := by
  have e := val_take_succ (xs := ds) (k := n - 1) (by omega)
  rw [show n - 1 + 1 = n from by omega, List.take_of_length_le (by omega)] at e
  have hb := val_lt (okl_take hd (n - 1))
  rw [List.length_take, Nat.min_eq_left (by omega)] at hb
  generalize lim ds (n - 1) = t at *
  have h1 : 2147483648 * pw (n - 1) < (t + 1) * pw (n - 1) := by rw [Nat.add_mul, Nat.one_mul]; omega
  have := Nat.lt_of_mul_lt_mul_right h1
  omega

/-- One step of long division: the window's digit. -/
theorem lg_step {zs ys qs : List Nat} {n at_ A D : Nat} (hz : okl zs) (hyl : ys.length = zs.length) (hon : at_ + n < zs.length) (hj : ∀ j, j < at_ ∨ at_ + n ≤ j → lim ys j = lim zs j)
    (hwin : win ys at_ n = win zs at_ (n + 1) % D) (hD : 0 < D) (hA : A = val qs * D + val (zs.take (at_ + 1 + n))) (hq : at_ < qs.length) (hq0 : lim qs at_ = 0) :
    A = val (qs.set at_ (win zs at_ (n + 1) / D)) * D + val (ys.take (at_ + n)) ∧ val (ys.take (at_ + n)) < D * pw at_ := by
  have split : ∀ (l : List Nat) k, at_ + k ≤ l.length → val (l.take (at_ + k)) = val (l.take at_) + pw at_ * win l at_ k := by
    intro l k hk
    have := win_split (l.take (at_ + k)) (o := at_) (n := k) (by rw [List.length_take]; omega)
    rw [this]
    have e1 : (l.take (at_ + k)).take at_ = l.take at_ := by rw [List.take_take, Nat.min_eq_left (by omega)]
    have e2 : win (l.take (at_ + k)) at_ k = win l at_ k := by
      unfold win
      rw [List.drop_take, List.take_take, show at_ + k - at_ = k from by omega, Nat.min_self]
    have e3 : (l.take (at_ + k)).drop (at_ + k) = [] := by
      apply List.drop_eq_nil_of_le
      rw [List.length_take]; omega
    rw [e1, e2, e3, val_nil]
    simp
  have s1 := split zs (n + 1) (by omega)
  have s2 := split ys n (by omega)
  rw [show at_ + (n + 1) = at_ + 1 + n from by omega] at s1
  have t : ys.take at_ = zs.take at_ := by
    apply lim_ext
    · simp [hyl]
    · intro i hi
      rw [List.length_take] at hi
      rw [lim_take (by omega), lim_take (by omega)]
      exact hj i (by omega)
  rw [t, hwin] at s2
  have hb := val_lt (okl_take hz at_)
  rw [List.length_take, Nat.min_eq_left (by omega)] at hb
  have hdm := Nat.div_add_mod (win zs at_ (n + 1)) D
  have hml := Nat.mod_lt (win zs at_ (n + 1)) hD
  have vs := val_set (zs := qs) (v := win zs at_ (n + 1) / D) hq
  rw [hq0] at vs
  generalize val (qs.set at_ (win zs at_ (n + 1) / D)) = Q' at *
  generalize win zs at_ (n + 1) / D = q at *
  generalize win zs at_ (n + 1) % D = r at *
  generalize win zs at_ (n + 1) = W at *
  generalize val (zs.take at_) = L at *
  generalize val qs = Q at *
  generalize pw at_ = P at *
  refine ⟨?_, ?_⟩
  · rw [hA, s1, s2]
    have : Q' = Q + q * P := by omega
    rw [this, ← hdm]
    grind
  · rw [s2]
    have h1 := Nat.mul_le_mul_left P (show r + 1 ≤ D from hml)
    rw [Nat.mul_add, Nat.mul_one] at h1
    rw [Nat.mul_comm D]
    omega
/-- The window is less than the divisor times 2^32. -/
theorem lg_win {zs : List Nat} {n at_ D : Nat} (hon : at_ + n < zs.length) (h : val (zs.take (at_ + 1 + n)) < D * pw (at_ + 1)) : win zs at_ (n + 1) < D * 4294967296 := by
  have := win_split (zs.take (at_ + 1 + n)) (o := at_) (n := n + 1) (by rw [List.length_take]; omega)
  have e2 : win (zs.take (at_ + 1 + n)) at_ (n + 1) = win zs at_ (n + 1) := by
    unfold win
    rw [List.drop_take, List.take_take, show at_ + 1 + n - at_ = n + 1 from by omega, Nat.min_self]
  rw [e2] at this
  rw [pw_succ] at h
  have h1 : pw at_ * win zs at_ (n + 1) < pw at_ * (D * 4294967296) := by
    have e3 : pw at_ * (D * 4294967296) = D * (4294967296 * pw at_) := by grind
    rw [e3]
    rw [Nat.mul_add] at this
    omega
  exact Nat.lt_of_mul_lt_mul_left h1
end Go.Proofs.Ytmmlfmjelhninaa
