/-
  Contracts of natural.shiftUp and natural.shiftDown.
-/
import Derived.Test.YtmmlfmjelhninaaBits
import Derived.StillTailTactics
namespace Go.Proofs.Ytmmlfmjelhninaa
open Go.RowKit
set_option linter.unusedVariables false

def SuInv (w : World) (g o : Nat) (zs vs : List Nat) (n k c : Nat) (wr : World) : Prop :=
  ∃ ys, Row wr g ys ∧ ys.length = zs.length ∧ okl ys ∧ (∀ j, o + k ≤ j → lim ys j = lim zs j) ∧ val ys + c * pw (o + k) = val zs + val (vs.take k) * 2 ^ n * pw o ∧ w.grownBy wr (some g)
def SuPost (w : World) (g o : Nat) (zs vs : List Nat) (n : Nat) (e : Ending) (w' : World) : Prop :=
  ∃ c, e = .returned (.int .u32 ((c : Nat) : Int)) ∧ c < 4294967296 ∧ c < 2 ^ n ∧ SuInv w g o zs vs n vs.length c w'

theorem su_nums {l n c : Nat} (hl : l < 4294967296) (hn : n < 32) (hc : c < 2 ^ n) :
    l * 2 ^ n ≤ 9223372036854775807 ∧ l * 2 ^ n / 4294967296 < 2 ^ n ∧ (l * 2 ^ n % 4294967296 ||| c) = l * 2 ^ n % 4294967296 + c ∧ l * 2 ^ n % 4294967296 + c < 4294967296 := by
  have e32 : 4294967296 = 2 ^ (32 - n) * 2 ^ n := by rw [← Nat.pow_add, show 32 - n + n = 32 from by omega]
  have hp : 0 < 2 ^ n := Nat.pow_pos (by omega)
  have hpn : 2 ^ n ≤ 2147483648 := by
    have := Nat.pow_le_pow_right (n := 2) (by omega) (show n ≤ 31 by omega)
    have e : (2 : Nat) ^ 31 = 2147483648 := rfl
    omega
  have h1 : l * 2 ^ n ≤ 4294967295 * 2147483648 := Nat.mul_le_mul (by omega) hpn
  have h2 : l * 2 ^ n / 4294967296 < 2 ^ n := by
    rw [Nat.div_lt_iff_lt_mul (by omega), Nat.mul_comm (2 ^ n)]
    exact Nat.mul_lt_mul_of_pos_right hl hp
  have h3 : l * 2 ^ n % 4294967296 = 2 ^ n * (l % 2 ^ (32 - n)) := by
    rw [e32, Nat.mul_mod_mul_right, Nat.mul_comm]
  have h4 : l % 2 ^ (32 - n) + 1 ≤ 2 ^ (32 - n) := Nat.mod_lt _ (Nat.pow_pos (by omega))
  have h5 := Nat.mul_le_mul_left (2 ^ n) h4
  rw [Nat.mul_comm (2 ^ n) (2 ^ (32 - n)), ← e32, Nat.mul_add] at h5
  refine ⟨by omega, h2, ?_, by rw [h3]; omega⟩
  rw [h3, Nat.or_comm, or_low hc]; omega

theorem su_step {w wr : World} {g o n k c : Nat} {zs ys vs : List Nat} (hk : k < vs.length) (hn : n < 32) (hv : okl vs) (hc : c < 2 ^ n) (hr : Row wr g ys) (hyl : ys.length = zs.length) (hy : okl ys) (hj : ∀ j, o + k ≤ j → lim ys j = lim zs j)
    (hz0 : lim zs (o + k) = 0) (he : val ys + c * pw (o + k) = val zs + val (vs.take k) * 2 ^ n * pw o) (hg : w.grownBy wr (some g)) (hok : o + k < zs.length) (z : Int) (hz : z = ((lim vs k * 2 ^ n % 4294967296 + c : Nat) : Int)) :
    SuInv w g o zs vs n (k + 1) (lim vs k * 2 ^ n / 4294967296) (wr.setCell ⟨g, o + k, none⟩ (.int .u32 z)) := by
  subst hz
  obtain ⟨_, _, _, hlt⟩ := su_nums (lim_lt hv k) hn hc
  refine ⟨ys.set (o + k) (lim vs k * 2 ^ n % 4294967296 + c), hr.set_ _ _, by simpa using hyl, okl_set hy hlt _, ?_, ?_, grown_trans hg (grown_set _ _ _ _)⟩
  · intro j hj'
    rw [lim_set_other (by omega)]
    exact hj j (by omega)
  · have e1 := val_set (v := lim vs k * 2 ^ n % 4294967296 + c) (show o + k < ys.length by omega)
    rw [hj _ (Nat.le_refl _), hz0] at e1
    have e2 := Nat.div_add_mod (lim vs k * 2 ^ n) 4294967296
    have p1 : pw (o + (k + 1)) = 4294967296 * (pw o * pw k) := by rw [← Nat.add_assoc, pw_succ, pw_add]
    rw [pw_add] at he e1
    rw [val_take_succ hk, p1]
    clear p1 hr hy hj hg hok hlt hc hn
    generalize lim vs k * 2 ^ n / 4294967296 = q at *
    generalize lim vs k * 2 ^ n % 4294967296 = r at *
    generalize lim vs k = v at *
    generalize val (ys.set (o + k) (r + c)) = V' at *
    generalize val ys = V at *
    generalize val zs = Z at *
    generalize val (vs.take k) = U at *
    generalize pw o = po at *
    generalize pw k = pk at *
    generalize 2 ^ n = t at *
    grind

set_option maxHeartbeats 2000000 in
theorem su_any (g o c m n : Nat) (zs vs : List Nat) (B : Option Addr) (cb : Nat) (w : World) (hr : Row w g zs) (hz : okl zs) (hmv : vs.length ≤ m) (hon : o + m ≤ zs.length) (hc : m ≤ c) (hm : zs.length ≤ 70368744177664) (h' : Rd w B cb vs)
    (hne : ∀ b' o', 0 < cb → B = some ⟨b', o', none⟩ → some b' ≠ some g) (hn : n < 32) (h0 : ∀ j, o ≤ j → j < o + vs.length → lim zs j = 0) :
    Calls Try.prog 51 #[.slice (some ⟨g, o, none⟩) m c, .slice B vs.length cb, .int .i64 (n : Int)] w (SuPost w g o zs vs n) := by
  have Y := Lib.hid h'
  have NE := Lib.hid hne
  have HR0 := Lib.hid hr
  have HZ0 := Lib.hid hz
  have H0 := Lib.hid h0
  have hl := h'.len
  have hcb := h'.capLe
  have hp : 0 < 2 ^ n := Nat.pow_pos (by omega)
  have HP := Lib.hid hp
  clear hr hz h' hne h0 hp
  go_enter Try.func51, Try.ntmps51
  go_wp2
  go_loopw [7, 13] (fun cy i wr => ∃ k cn : Nat, k ≤ vs.length ∧ i = .int .i64 k ∧ cy = .int .u32 cn ∧ cn ≤ 4294967295 ∧ Hid (cn < 2 ^ n) ∧ SuInv w g o zs vs n k cn wr) (fun _ i _ => vs.length - (intOf i).toNat)
  case atStart => exact ⟨0, 0, Nat.zero_le _, rfl, rfl, by omega, HP.out, zs, HR0.out, rfl, HZ0.out, fun j _ => rfl, by simp [val_nil], World.grownBy.refl _ _⟩
  case round =>
    obtain ⟨k, cn, hk, rfl, rfl, hcn, hcp, inv⟩ := hrel
    have INV := Lib.hid inv
    by_cases hlt : k < vs.length
    · obtain ⟨ys, hrow, hyl, hyo, hj, heq, hgr⟩ := inv
      have Y1 := Y.out.grown hgr NE.out
      obtain ⟨b, o', hB, hb, hcell⟩ := Y1.at_ hlt
      have c1 := hcell k hlt
      have hfz := hrow.frozen (o + k)
      have hcw := hrow.cell (i := o + k) (by omega)
      have b1 := lim_lt Y1.ok k
      have b2 := lim_lt hyo (o + k)
      have step := Lib.hid (su_step hlt hn Y1.ok hcp.out hrow hyl hyo hj (H0.out _ (by omega) (by omega)) heq hgr (by omega))
      obtain ⟨w1, w2, w3, w4⟩ := su_nums b1 hn hcp.out
      have hw2 := Lib.hid w2
      have hpe : ((lim vs k : Nat) : Int) * 2 ^ n = ((lim vs k * 2 ^ n : Nat) : Int) := by simp
      have eor : bits .or .u32 (((lim vs k * 2 ^ n : Nat) : Int) % 4294967296) ((cn : Nat) : Int) = ((lim vs k * 2 ^ n % 4294967296 + cn : Nat) : Int) := by
        have e : ((lim vs k * 2 ^ n : Nat) : Int) % 4294967296 = ((lim vs k * 2 ^ n % 4294967296 : Nat) : Int) := by
          generalize lim vs k * 2 ^ n = W
          omega
        rw [e, u32_or_nat _ _ (Nat.mod_lt _ (by omega)) (by omega), w3]
      subst hB
      clear hcell hrow hyl hj heq hgr Y1 INV w2 w3
      generalize lim vs k * 2 ^ n = W at *
      generalize lim ys (o + k) = y at *
      go_wp2
      go_roundw
      case rel => exact ⟨k + 1, W / 4294967296, by omega, by go_num, rfl, by omega, hw2, step.out _ (by omega)⟩
      case measure => simp [intOf]; omega
    · obtain rfl : k = vs.length := by omega
      have FIN : Hid (SuPost w g o zs vs n (.returned (.int .u32 (cn : Int))) wr) := ⟨cn, rfl, by omega, hcp.out, inv⟩
      clear inv INV
      go_wp2
      go_ret
      exact FIN.out

/-- Digit k of a quotient by a power of two. -/
theorem sd_digit {vs : List Nat} (hv : okl vs) {n : Nat} (hn : n < 32) (k : Nat) :
    val vs / 2 ^ n / pw k % 4294967296 = (lim vs k + 4294967296 * lim vs (k + 1)) / 2 ^ n % 4294967296 := by
  have h1 : val vs / 2 ^ n / pw k = (val vs / pw k) / 2 ^ n := by rw [Nat.div_div_eq_div_mul, Nat.mul_comm, ← Nat.div_div_eq_div_mul]
  rw [h1, val_div_pw hv, val_drop_succ, val_drop_succ]
  have e64 : 18446744073709551616 = 2 ^ n * (2 ^ (32 - n) * 4294967296) := by
    rw [← Nat.mul_assoc, ← Nat.pow_add, show n + (32 - n) = 32 from by omega]
  have hp : 0 < 2 ^ n := Nat.pow_pos (by omega)
  generalize val (vs.drop (k + 1 + 1)) = R
  have e : lim vs k + 4294967296 * (lim vs (k + 1) + 4294967296 * R) = (lim vs k + 4294967296 * lim vs (k + 1)) + 2 ^ n * (2 ^ (32 - n) * 4294967296 * R) := by
    rw [← Nat.mul_assoc, ← e64]; omega
  rw [e, Nat.add_mul_div_left _ _ hp, Nat.mul_assoc, Nat.mul_comm (2 ^ (32 - n)), Nat.mul_assoc, Nat.add_mul_mod_self_left]
theorem mod_pw_succ (V k : Nat) : V % pw (k + 1) = V % pw k + (V / pw k % 4294967296) * pw k := by
  rw [pw_succ, Nat.mul_comm 4294967296, Nat.mod_mul, Nat.mul_comm (pw k)]

def SdInv (w : World) (g : Nat) (vs : List Nat) (n m k : Nat) (wr : World) : Prop :=
  ∃ ys, Row wr g ys ∧ ys.length = m ∧ okl ys ∧ val (ys.take k) = val vs / 2 ^ n % pw k ∧ w.grownBy wr (some g)
def SdPost (w : World) (g : Nat) (vs : List Nat) (n m : Nat) (e : Ending) (w' : World) : Prop :=
  e = .returned (.tuple #[]) ∧ SdInv w g vs n m m w'

theorem sd_step {w wr : World} {g n k m : Nat} {ys vs : List Nat} (hk : k < m) (hn : n < 32) (hv : okl vs) (hr : Row wr g ys) (hyl : ys.length = m) (hy : okl ys)
    (he : val (ys.take k) = val vs / 2 ^ n % pw k) (hg : w.grownBy wr (some g)) (z : Int) (hz : z = (((lim vs k + 4294967296 * lim vs (k + 1)) / 2 ^ n % 4294967296 : Nat) : Int)) :
    SdInv w g vs n m (k + 1) (wr.setCell ⟨g, k, none⟩ (.int .u32 z)) := by
  subst hz
  refine ⟨ys.set k ((lim vs k + 4294967296 * lim vs (k + 1)) / 2 ^ n % 4294967296), hr.set_ _ _, by simpa using hyl, okl_set hy (Nat.mod_lt _ (by omega)) _, ?_, grown_trans hg (grown_set _ _ _ _)⟩
  rw [val_take_set (by omega), mod_pw_succ, sd_digit hv hn, he]

theorem SdInv.drew {w wr : World} {g n m k : Nat} {vs : List Nat} (h : SdInv w g vs n m k wr) : SdInv w g vs n m k wr.drew := by
  obtain ⟨ys, h1, h2, h3, h4, h5⟩ := h
  exact ⟨ys, h1, h2, h3, h4, ⟨h5.os, h5.tape, h5.output, h5.size, h5.block⟩⟩
theorem wrap32_div {V n : Nat} (h : V ≤ 18446744073709551615) : IntKind.u32.wrap ((V : Int) / 2 ^ n) = ((V / 2 ^ n % 4294967296 : Nat) : Int) := by
  have e : (V : Int) / 2 ^ n = ((V / 2 ^ n : Nat) : Int) := by simp
  rw [IntKind.wrap_u32, e]
  generalize V / 2 ^ n = q
  omega

set_option maxHeartbeats 2000000 in
theorem sd_any (g m c n : Nat) (zs vs : List Nat) (B : Option Addr) (cb : Nat) (w : World) (hr : Row w g zs) (hz : okl zs) (hmv : vs.length = m) (hon : zs.length = m) (hc : m ≤ c) (hm : m ≤ 70368744177664) (h' : Rd w B cb vs)
    (hne : ∀ b' o', 0 < cb → B = some ⟨b', o', none⟩ → some b' ≠ some g) (hn : n < 32) :
    Calls Try.prog 52 #[.slice (some ⟨g, 0, none⟩) m c, .slice B m cb, .int .i64 (n : Int)] w (SdPost w g vs n m) := by
  have Y := Lib.hid h'
  have NE := Lib.hid hne
  have HR0 := Lib.hid hr
  have HZ0 := Lib.hid hz
  have hl : m ≤ cb := by have := h'.len; omega
  have hcb := h'.capLe
  have HMV := Lib.hid hmv
  have HON := Lib.hid hon
  clear hr hz h' hne hmv hon
  go_enter Try.func52, Try.ntmps52
  go_wp2
  go_loopw [9] (fun i wr => ∃ k : Nat, k ≤ m ∧ i = .int .i64 k ∧ SdInv w g vs n m k wr) (fun i _ => m - (intOf i).toNat)
  case atStart => exact ⟨0, Nat.zero_le _, rfl, zs, HR0.out, HON.out, HZ0.out, by simp [val_nil, pw_zero, Nat.mod_one], World.grownBy.refl _ _⟩
  case round =>
    obtain ⟨k, hk, rfl, inv⟩ := hrel
    have INV := Lib.hid inv
    by_cases hlt : k < m
    · obtain ⟨ys, hrow, hyl, hyo, heq, hgr⟩ := inv
      have Y1 := Y.out.grown hgr NE.out
      have hlt' : k < vs.length := by have := HMV.out; omega
      obtain ⟨b, o', hB, hb, hcell⟩ := Y1.at_ hlt'
      have c1 := hcell k hlt'
      have hfz := hrow.frozen k
      have hcw := hrow.cell (i := k) (by omega)
      have b1 := lim_lt Y1.ok k
      have b2 := lim_lt Y1.ok (k + 1)
      have step := Lib.hid (sd_step hlt hn Y1.ok hrow hyl hyo heq hgr)
      have N2 : Hid (∀ q, Rd (wr.drewN q) B cb vs) := fun q => Y1
      have N3 : Hid (Rd wr.drew B cb vs) := Y1
      have E1 := or64 b1 b2
      have x1 : IntKind.i64.wrap ((k : Int) + 1) = (k : Int) + 1 := by rw [IntKind.wrap_i64]; omega
      have x2 : IntKind.u64.wrap ((lim vs k : Nat) : Int) = ((lim vs k : Nat) : Int) := by rw [IntKind.wrap_u64]; omega
      have x3 : IntKind.u64.wrap (((lim vs (k + 1) : Nat) : Int) * 4294967296) = ((lim vs (k + 1) : Nat) : Int) * 4294967296 := by rw [IntKind.wrap_u64]; omega
      have bV : lim vs k + 4294967296 * lim vs (k + 1) ≤ 18446744073709551615 := by omega
      subst hB
      clear hcell hrow hyl heq hgr Y1 INV
      generalize lim vs k + 4294967296 * lim vs (k + 1) = V at *
      generalize lim ys k = y at *
      go_wp2
      go_region_with ((go_at_call 46; refine (limbAt_e N3.out HMV.out (k + 1) (by omega) (by omega)).mono ?_; rintro e w' ⟨rfl, rfl⟩))
      all_goals
        clear x1 x2 x3
        go_wp2
        go_roundw
        case rel => exact ⟨k + 1, by omega, by go_num, (step.out _ (by simp)).drew⟩
        case measure => simp [intOf]; omega
    · obtain rfl : k = m := by omega
      clear INV
      have FIN : Hid (SdPost w g vs n k (.returned (.tuple #[])) wr) := ⟨rfl, inv⟩
      clear inv
      go_wp2
      go_end0
      exact FIN.out
end Go.Proofs.Ytmmlfmjelhninaa
