/-
  Rcmp, Rsum, Rmul, Rbits, Bitset, Rdm, Rdml, Rdmt, Rgcd.
-/
import Derived.Test.YtfmgbfdnmconiaaNB
import Derived.RegionTactic
import Derived.Deep.RegionWith
/-
  Contracts of the reference's Compare and Uint64.
-/
namespace Go.Proofs.Ytfmgbfdnmconiaa
open Go.RowKit
set_option linter.unusedVariables false

end Go.Proofs.Ytfmgbfdnmconiaa

/-
  Contracts of the reference's Add and Sub.
-/
namespace Go.Proofs.Ytfmgbfdnmconiaa
open Go.RowKit
set_option linter.unusedVariables false

theorem radd_step {w wr : World} {us vs zs : List Nat} {k cn m : Nat} (hk : k < m) (hu : okl us) (hv : okl vs) (hcn : cn ≤ 1) (hr : Row wr w.heap.size zs) (hzl : zs.length = m) (hz : okl zs)
    (he : val (zs.take k) + cn * pw k = val (us.take k) + val (vs.take k)) (hb : Below w.heap.size w wr) (z : Int) (hzz : z = ((cn + lim us k + lim vs k) % 4294967296 : Nat)) :
    ∃ zs', Row (wr.setCell ⟨w.heap.size, k, none⟩ (.int .u32 z)) w.heap.size zs' ∧ zs'.length = m ∧ okl zs' ∧ val (zs'.take (k + 1)) + ((cn + lim us k + lim vs k) / 4294967296) * pw (k + 1) = val (us.take (k + 1)) + val (vs.take (k + 1)) ∧ Below w.heap.size w (wr.setCell ⟨w.heap.size, k, none⟩ (.int .u32 z)) := by
  subst hzz
  refine ⟨zs.set k ((cn + lim us k + lim vs k) % 4294967296), hr.set_ _ _, by simpa using hzl, okl_set hz (by omega) _, ?_, hb.setCell (Nat.le_refl _) _⟩
  rw [val_take_set (by omega), val_take_succ' us k, val_take_succ' vs k, pw_succ]
  have e := Nat.div_add_mod (cn + lim us k + lim vs k) 4294967296
  generalize (cn + lim us k + lim vs k) / 4294967296 = q at *
  generalize (cn + lim us k + lim vs k) % 4294967296 = r at *
  grind
def RaInv (w : World) (us vs : List Nat) (m k cn : Nat) (wr : World) : Prop :=
  ∃ zs, Row wr w.heap.size zs ∧ zs.length = m ∧ okl zs ∧ val (zs.take k) + cn * pw k = val (us.take k) + val (vs.take k) ∧ Below w.heap.size w wr

end Go.Proofs.Ytfmgbfdnmconiaa

/-
  Contract of the reference's Mul.
-/
namespace Go.Proofs.Ytfmgbfdnmconiaa
open Go.RowKit
set_option linter.unusedVariables false

theorem ap_start {w : World} {g o x : Nat} {zs vs : List Nat} (hr : Row w g zs) (hz : okl zs) : ApInv w g o zs vs x 0 0 w :=
  ⟨zs, hr, rfl, hz, fun _ _ => rfl, by simp [val_nil], World.grownBy.refl _ _⟩

end Go.Proofs.Ytfmgbfdnmconiaa

/-
  Contracts of the reference's Bits and bit.
-/
namespace Go.Proofs.Ytfmgbfdnmconiaa
open Go.RowKit
set_option linter.unusedVariables false

/-- Binary digit i. -/
def bitOf (v i : Nat) : Nat := v / 2 ^ i % 2
theorem bitOf_val {xs : List Nat} (h : okl xs) (i : Nat) : bitOf (val xs) i = lim xs (i / 32) / 2 ^ (i % 32) % 2 := by
  unfold bitOf
  rw [val_div_two_pow h, val_drop_succ]
  have e : (4294967296 : Nat) = 2 ^ (i % 32) * (2 ^ (31 - i % 32) * 2) := by
    rw [← Nat.pow_succ, ← Nat.pow_add, show i % 32 + (31 - i % 32 + 1) = 32 from by omega]
  have hp : 0 < 2 ^ (i % 32) := Nat.pow_pos (by omega)
  rw [e, Nat.mul_assoc, Nat.add_mul_div_left _ _ hp, Nat.mul_comm (2 ^ (31 - i % 32)), Nat.mul_assoc, Nat.add_mul_mod_self_left]
theorem bitOf_lt (v i : Nat) : bitOf v i < 2 := Nat.mod_lt _ (by omega)

end Go.Proofs.Ytfmgbfdnmconiaa

/-
  Setting a binary digit.
-/
namespace Go.Proofs.Ytfmgbfdnmconiaa
open Go.RowKit
set_option linter.unusedVariables false

theorem or_bit {x k : Nat} (h : x / 2 ^ k % 2 = 0) : x ||| 2 ^ k = x + 2 ^ k := by
  have hp : 0 < 2 ^ k := Nat.pow_pos (by omega)
  have hlo : x % 2 ^ k < 2 ^ k := Nat.mod_lt _ hp
  have e1 := Nat.div_add_mod x (2 ^ k)
  have e2 := Nat.div_add_mod (x / 2 ^ k) 2
  rw [h] at e2
  have e3 : x = x % 2 ^ k + 2 ^ (k + 1) * (x / 2 ^ k / 2) := by
    rw [Nat.pow_succ, Nat.mul_assoc]
    have : 2 * (x / 2 ^ k / 2) = x / 2 ^ k := by omega
    rw [this]; omega
  generalize x % 2 ^ k = lo at *
  generalize x / 2 ^ k / 2 = hi at *
  have a1 : x = lo ||| 2 ^ (k + 1) * hi := by rw [or_low (by rw [Nat.pow_succ]; omega)]; exact e3
  have a2 : lo ||| 2 ^ k = lo + 2 ^ k := by
    have := or_low (a := lo) (b := 1) hlo
    rwa [Nat.mul_one] at this
  have a3 : (lo + 2 ^ k) ||| 2 ^ (k + 1) * hi = lo + 2 ^ k + 2 ^ (k + 1) * hi := or_low (by rw [Nat.pow_succ]; omega)
  rw [e3, ← or_low (show lo < 2 ^ (k + 1) by rw [Nat.pow_succ]; omega), Nat.or_assoc, Nat.or_comm (2 ^ (k + 1) * hi), ← Nat.or_assoc, a2, a3, or_low (by rw [Nat.pow_succ]; omega)]
  omega

theorem set_bit {zs : List Nat} (hz : okl zs) {i : Nat} (hi : i / 32 < zs.length) (h0 : bitOf (val zs) i = 0) :
    (lim zs (i / 32) ||| 2 ^ (i % 32)) < 4294967296 ∧ val (zs.set (i / 32) (lim zs (i / 32) ||| 2 ^ (i % 32))) = val zs + 2 ^ i := by
  rw [bitOf_val hz] at h0
  have e := or_bit h0
  have lt := lim_lt hz (i / 32)
  have h2 : 2 ^ (i % 32) < 2 ^ 32 := Nat.pow_lt_pow_right (by omega) (by omega)
  have e32 : (2 : Nat) ^ 32 = 4294967296 := rfl
  refine ⟨?_, ?_⟩
  · rw [← e32]
    exact Nat.or_lt_two_pow (by omega) h2
  · have := val_set (v := lim zs (i / 32) ||| 2 ^ (i % 32)) hi
    rw [e] at this ⊢
    rw [two_pow_split i, Nat.mul_comm]
    rw [Nat.add_mul] at this
    omega
theorem bitOf_small {v i : Nat} (h : v < 2 ^ i) : bitOf v i = 0 := by
  unfold bitOf; rw [Nat.div_eq_of_lt h]
theorem bitOf_multiple {q i : Nat} : bitOf (q * 2 ^ (i + 1)) i = 0 := by
  unfold bitOf
  rw [Nat.pow_succ, ← Nat.mul_assoc, Nat.mul_comm (q * 2 ^ i) 2, ← Nat.mul_assoc, Nat.mul_div_cancel _ (Nat.pow_pos (by omega)), Nat.mul_mod_right]
theorem mod_two_pow_succ (V i : Nat) : V % 2 ^ (i + 1) = V % 2 ^ i + 2 ^ i * bitOf V i := by
  unfold bitOf
  rw [Nat.pow_succ, Nat.mod_mul]
theorem bitOf_shift (V r i : Nat) : bitOf V (i + r) = bitOf (V / 2 ^ r) i := by
  unfold bitOf
  rw [Nat.add_comm, Nat.pow_add, Nat.div_div_eq_div_mul]
end Go.Proofs.Ytfmgbfdnmconiaa

/-
  Contract of the reference's DivMod.
-/
namespace Go.Proofs.Ytfmgbfdnmconiaa
open Go.RowKit
set_option linter.unusedVariables false

theorem dstep0 {U b D : Nat} (hD : 0 < D) (h : U % D + U % D + b < D) : (2 * U + b) / D = 2 * (U / D) ∧ (2 * U + b) % D = U % D + U % D + b := by
  have e := Nat.div_add_mod U D
  have e2 : 2 * U + b = (U % D + U % D + b) + D * (2 * (U / D)) := by rw [Nat.mul_left_comm]; omega
  constructor
  · rw [e2, Nat.add_mul_div_left _ _ hD, Nat.div_eq_of_lt h, Nat.zero_add]
  · rw [e2, Nat.add_mul_mod_self_left, Nat.mod_eq_of_lt h]
theorem dstep1 {U b D : Nat} (hD : 0 < D) (hb : b < 2) (h : D ≤ U % D + U % D + b) : (2 * U + b) / D = 2 * (U / D) + 1 ∧ (2 * U + b) % D = U % D + U % D + b - D := by
  have e := Nat.div_add_mod U D
  have m := Nat.mod_lt U hD
  have e2 : 2 * U + b = (U % D + U % D + b - D) + D * (2 * (U / D) + 1) := by rw [Nat.mul_add, Nat.mul_left_comm]; omega
  have lt : U % D + U % D + b - D < D := by omega
  constructor
  · rw [e2, Nat.add_mul_div_left _ _ hD, Nat.div_eq_of_lt lt, Nat.zero_add]
  · rw [e2, Nat.add_mul_mod_self_left, Nat.mod_eq_of_lt lt]
theorem half_up (V j : Nat) : V / 2 ^ j = 2 * (V / 2 ^ (j + 1)) + bitOf V j := by
  unfold bitOf
  rw [Nat.pow_succ, ← Nat.div_div_eq_div_mul]
  omega
/-- The binary digits of the quotient from k on have been set. -/
def DvInv (w2 : World) (g n V D k : Nat) (R : Option Addr) (c : Nat) (wr : World) : Prop :=
  ∃ zs, Row wr g zs ∧ zs.length = n ∧ okl zs ∧ val zs = V / 2 ^ k / D * 2 ^ k ∧ Own wr (g + 1) R c (ofv (V / 2 ^ k % D)) ∧ w2.grownBy wr (some g)

theorem dv_zero {w2 wr : World} {g n V D j c : Nat} {R : Option Addr} {zs : List Nat} (h1 : Row wr g zs) (h2 : zs.length = n) (h3 : okl zs) (h4 : val zs = V / 2 ^ (j + 1) / D * 2 ^ (j + 1)) (hD : 0 < D)
    (ho : Own wr (g + 1) R c (ofv (V / 2 ^ (j + 1) % D + V / 2 ^ (j + 1) % D + bitOf V j))) (hg : w2.grownBy wr (some g)) (hlt : V / 2 ^ (j + 1) % D + V / 2 ^ (j + 1) % D + bitOf V j < D) :
    (ofv (V / 2 ^ (j + 1) % D + V / 2 ^ (j + 1) % D + bitOf V j)).length = (ofv (V / 2 ^ j % D)).length ∧ DvInv w2 g n V D j R c wr := by
  obtain ⟨s1, s2⟩ := dstep0 hD hlt
  rw [← half_up] at s1 s2
  rw [s2]
  refine ⟨rfl, zs, h1, h2, h3, ?_, by rw [s2]; exact ho, hg⟩
  rw [h4, s1, Nat.pow_succ, Nat.mul_comm (2 ^ j) 2, ← Nat.mul_assoc, Nat.mul_comm _ 2]
theorem dv_one {w2 wr : World} {g n V D j c : Nat} {R : Option Addr} {zs : List Nat} (h1 : Row wr g zs) (h2 : zs.length = n) (h3 : okl zs) (h4 : val zs = V / 2 ^ (j + 1) / D * 2 ^ (j + 1)) (hD : 0 < D)
    (ho : Own wr (g + 1) R c (ofv (V / 2 ^ (j + 1) % D + V / 2 ^ (j + 1) % D + bitOf V j - D))) (hg : w2.grownBy wr (some g)) (hle : D ≤ V / 2 ^ (j + 1) % D + V / 2 ^ (j + 1) % D + bitOf V j) (hj : j / 32 < n) (z : Int) (hz : z = ((lim zs (j / 32) ||| 2 ^ (j % 32) : Nat) : Int)) :
    (ofv (V / 2 ^ (j + 1) % D + V / 2 ^ (j + 1) % D + bitOf V j - D)).length = (ofv (V / 2 ^ j % D)).length ∧ DvInv w2 g n V D j R c (wr.setCell ⟨g, j / 32, none⟩ (.int .u32 z)) := by
  subst hz
  obtain ⟨s1, s2⟩ := dstep1 hD (bitOf_lt V j) hle
  rw [← half_up] at s1 s2
  rw [s2]
  have hz0 : bitOf (val zs) j = 0 := by rw [h4]; exact bitOf_multiple
  obtain ⟨b1, b2⟩ := set_bit h3 (i := j) (by omega) hz0
  refine ⟨rfl, _, h1.set_ _ _, by rw [List.length_set]; exact h2, okl_set h3 b1 _, ?_, ?_, grown_trans hg (grown_set _ _ _ _)⟩
  · rw [b2, h4, s1, Nat.pow_succ, Nat.mul_comm (2 ^ j) 2, ← Nat.mul_assoc, Nat.mul_comm _ 2, Nat.add_mul, Nat.one_mul]
  · rw [s2]
    obtain ⟨o0, o1, o2, o3⟩ := ho
    refine ⟨o0, o1, o2, ?_⟩
    rcases o3 with o3 | ⟨b, o, cur, hA, hl, hr, hc⟩
    · exact .inl o3
    · exact .inr ⟨b, o, cur, hA, hl, (Below.heap_setCell _ _ _ _ (show b ≠ g by omega)).trans hr, hc⟩

theorem rfrom_n {v : Nat} {w : World} {z : Int} (hz : z = (v : Int)) (h : v ≤ 18446744073709551615) : Calls Try.prog 45 #[.int .u64 z] w (Gives w v) := by
  subst hz; exact rfrom_any v w (by omega)
theorem rfrom_q {a b : Nat} {w : World} (h : a ≤ 18446744073709551615) :
    Calls Try.prog 45 #[.int .u64 (IntKind.u64.wrap ((a : Int) / (b : Int)))] w (Gives w (a / b)) := by
  have hq : a / b ≤ a := Nat.div_le_self _ _
  refine rfrom_n ?_ (by omega)
  rw [IntKind.wrap_u64, ← Int.natCast_ediv]
  generalize a / b = q at *
  omega
theorem rfrom_t {a b : Nat} {w : World} (h : a ≤ 18446744073709551615) :
    Calls Try.prog 45 #[.int .u64 ((a : Int).tmod (b : Int))] w (Gives w (a % b)) := by
  have hq : a % b ≤ a := Nat.mod_le _ _
  exact rfrom_n (by rw [Int.tmod_eq_emod_of_nonneg (by omega)]; simp) (by omega)
theorem rfrom_r {a b : Nat} {w : World} (h : a ≤ 18446744073709551615) :
    Calls Try.prog 45 #[.int .u64 ((a : Int) % (b : Int))] w (Gives w (a % b)) := by
  have hq : a % b ≤ a := Nat.mod_le _ _
  exact rfrom_n (by simp) (by omega)

theorem dv_below {w2 wr wr' : World} {g n V D k c : Nat} {R : Option Addr} (h : DvInv w2 g n V D k R c wr) (hb : Below wr.heap.size wr wr') : DvInv w2 g n V D k R c wr' := by
  obtain ⟨zs, h1, h2, h3, h4, h5, h6⟩ := h
  exact ⟨zs, h1.below hb h1.lt, h2, h3, h4, h5.below hb, grown_trans h6 (grown_below hb)⟩
end Go.Proofs.Ytfmgbfdnmconiaa

/-
  Contract of the reference's DivMod: a dividend of more than 64 bits.
-/
namespace Go.Proofs.Ytfmgbfdnmconiaa
open Go.RowKit
set_option linter.unusedVariables false

end Go.Proofs.Ytfmgbfdnmconiaa

/-
  Contract of the reference's DivMod: a divisor of more than 64 bits; all cases.
-/
namespace Go.Proofs.Ytfmgbfdnmconiaa
open Go.RowKit
set_option linter.unusedVariables false

end Go.Proofs.Ytfmgbfdnmconiaa

/-
  Contract of the reference's GCD.
-/
namespace Go.Proofs.Ytfmgbfdnmconiaa
open Go.RowKit
set_option linter.unusedVariables false

/-- The number that a slice of limbs reads as. -/
def limbsOf (w : World) : Value → List Nat
  | .slice (some ⟨b, o, none⟩) n _ => (List.range n).map fun i => match w.cell? ⟨b, o + i, none⟩ with
    | some (.int .u32 x) => x.toNat
    | _ => 0
  | _ => []
def rdv (w : World) (v : Value) : Nat := val (limbsOf w v)
theorem limbsOf_rd {w : World} {A : Option Addr} {c n : Nat} {xs : List Nat} (h : Rd w A c xs) (hn : xs.length = n) : limbsOf w (.slice A n c) = xs := by
  subst hn
  rcases Nat.eq_zero_or_pos xs.length with h0 | h0
  · obtain rfl := List.eq_nil_of_length_eq_zero h0
    unfold limbsOf
    split <;> simp_all
  · obtain ⟨b, o, rfl, _, hc⟩ := h.at_ h0
    unfold limbsOf
    simp only
    apply List.ext_getElem
    · simp
    · intro i h1 h2
      simp only [List.getElem_map, List.getElem_range, hc i h2]
      unfold lim
      rw [List.getD_eq_getElem?_getD, List.getElem?_eq_getElem h2]
      simp
theorem rdv_rd {w : World} {A : Option Addr} {c n : Nat} {xs : List Nat} (h : Rd w A c xs) (hn : xs.length = n) : rdv w (.slice A n c) = val xs := by
  unfold rdv; rw [limbsOf_rd h hn]

end Go.Proofs.Ytfmgbfdnmconiaa
