/-
  Setting a binary digit; contracts of the reference's ShiftLeft and ShiftRight.
-/
import Derived.Test.YtmmlfmjelhninaaRbits
import Derived.Test.YtmmlfmjelhninaaRsum
import Derived.Test.YtmmlfmjelhninaaShifts
namespace Go.Proofs.Ytmmlfmjelhninaa
open Go.RowKit
set_option linter.unusedVariables false

theorem or_bit {x k : Nat} (h : x / 2 ^ k % 2 = 0) : x ||| 2 ^ k = x + 2 ^ k := by
  have hp : 0 < 2 ^ k := Nat.pow_pos (by omega)
  have hlo : x % 2 ^ k < 2 ^ k := Nat.mod_lt _ hp
  have e1 := Nat.div_add_mod x (2 ^ k)
  have e2 := Nat.div_add_mod (x / 2 ^ k) 2
  rw [h] at e2
  have e3 : x = x % 2 ^ k + 2 ^ (k + 1) * (x / 2 ^ k / 2) := by
    rw [Nat.pow_succ, Nat.mul_assoc]
    have : 2 * (x / 2 ^ k / 2) = x / 2 ^ k := by omega
    rw [this]; omega
  generalize x % 2 ^ k = lo at *
  generalize x / 2 ^ k / 2 = hi at *
  have a1 : x = lo ||| 2 ^ (k + 1) * hi := by rw [or_low (by rw [Nat.pow_succ]; omega)]; exact e3
  have a2 : lo ||| 2 ^ k = lo + 2 ^ k := by
    have := or_low (a := lo) (b := 1) hlo
    rwa [Nat.mul_one] at this
  have a3 : (lo + 2 ^ k) ||| 2 ^ (k + 1) * hi = lo + 2 ^ k + 2 ^ (k + 1) * hi := or_low (by rw [Nat.pow_succ]; omega)
  rw [e3, ← or_low (show lo < 2 ^ (k + 1) by rw [Nat.pow_succ]; omega), Nat.or_assoc, Nat.or_comm (2 ^ (k + 1) * hi), ← Nat.or_assoc, a2, a3, or_low (by rw [Nat.pow_succ]; omega)]
  omega

theorem set_bit {zs : List Nat} (hz : okl zs) {i : Nat} (hi : i / 32 < zs.length) (h0 : bitOf (val zs) i = 0) :
    (lim zs (i / 32) ||| 2 ^ (i % 32)) < 4294967296 ∧ val (zs.set (i / 32) (lim zs (i / 32) ||| 2 ^ (i % 32))) = val zs + 2 ^ i := by
  rw [bitOf_val hz] at h0
  have e := or_bit h0
  have lt := lim_lt hz (i / 32)
  have h2 : 2 ^ (i % 32) < 2 ^ 32 := Nat.pow_lt_pow_right (by omega) (by omega)
  have e32 : (2 : Nat) ^ 32 = 4294967296 := rfl
  refine ⟨?_, ?_⟩
  · rw [← e32]
    exact Nat.or_lt_two_pow (by omega) h2
  · have := val_set (v := lim zs (i / 32) ||| 2 ^ (i % 32)) hi
    rw [e] at this ⊢
    rw [two_pow_split i, Nat.mul_comm]
    rw [Nat.add_mul] at this
    omega
theorem bitOf_small {v i : Nat} (h : v < 2 ^ i) : bitOf v i = 0 := by
  unfold bitOf; rw [Nat.div_eq_of_lt h]
theorem bitOf_multiple {q i : Nat} : bitOf (q * 2 ^ (i + 1)) i = 0 := by
  unfold bitOf
  rw [Nat.pow_succ, ← Nat.mul_assoc, Nat.mul_comm (q * 2 ^ i) 2, ← Nat.mul_assoc, Nat.mul_div_cancel _ (Nat.pow_pos (by omega)), Nat.mul_mod_right]
theorem mod_two_pow_succ (V i : Nat) : V % 2 ^ (i + 1) = V % 2 ^ i + 2 ^ i * bitOf V i := by
  unfold bitOf
  rw [Nat.pow_succ, Nat.mod_mul]
theorem bitOf_shift (V r i : Nat) : bitOf V (i + r) = bitOf (V / 2 ^ r) i := by
  unfold bitOf
  rw [Nat.add_comm, Nat.pow_add, Nat.div_div_eq_div_mul]

theorem rshl_no (A : Option Addr) (cap : Nat) (xs : List Nat) (w : World) (n : Int) (hn : n < 0 ∨ 65536 < n) (hb : -9223372036854775808 ≤ n ∧ n ≤ 9223372036854775807) :
    Calls Try.prog 33 #[.slice A xs.length cap, .int .i64 n] w (GivesF w) := by
  rcases hn with h | h
  · go_enter Try.func33, Try.ntmps33
    go_wp2
    go_ret2
    exact ⟨rfl, Below.refl _ _⟩
  · have h0 : 0 ≤ n := by omega
    go_enter Try.func33, Try.ntmps33
    go_wp2
    go_ret2
    exact ⟨rfl, Below.refl _ _⟩
theorem rshr_no (A : Option Addr) (cap : Nat) (xs : List Nat) (w : World) (n : Int) (hn : n < 0) (hb : -9223372036854775808 ≤ n) :
    Calls Try.prog 35 #[.slice A xs.length cap, .int .i64 n] w (GivesF w) := by
  go_enter Try.func35, Try.ntmps35
  go_wp2
  go_ret2
  exact ⟨rfl, Below.refl _ _⟩

theorem growBy_one (need c : Nat) {k B B' : Nat} (hB : ∀ c, c ≤ B → Builtin.growBy need k c ≤ B') (hBB : B ≤ B') (hc : c + (c + 768) / 4 ≤ B) : Builtin.growBy need (k + 1) c ≤ B' := by
  unfold Builtin.growBy
  split
  · omega
  · exact hB _ hc
theorem growBy_four (need c : Nat) (hc : c ≤ 2048) : Builtin.growBy need 4 c ≤ 100000 := by
  have h0 : ∀ c, c ≤ 50000 → Builtin.growBy need 0 c ≤ 100000 := by
    intro c h
    unfold Builtin.growBy
    omega
  have h1 : ∀ c, c ≤ 20000 → Builtin.growBy need 1 c ≤ 100000 := fun c h => growBy_one need c h0 (by omega) (by omega)
  have h2 : ∀ c, c ≤ 10000 → Builtin.growBy need 2 c ≤ 100000 := fun c h => growBy_one need c h1 (by omega) (by omega)
  have h3 : ∀ c, c ≤ 5000 → Builtin.growBy need 3 c ≤ 100000 := fun c h => growBy_one need c h2 (by omega) (by omega)
  exact growBy_one need c h3 (by omega) (by omega)
theorem nextcap_small {n m : Nat} (hn : n ≤ 2048) (hm : n + m ≤ 70368744177664) : Builtin.nextslicecap (n + m) n * 4 ≤ 281474976710656 := by
  have h4 := growBy_four (n + m) n hn
  unfold Builtin.nextslicecap
  split
  · omega
  · split
    · omega
    · generalize Builtin.growBy (n + m) 4 n = Z at *
      omega

set_option maxHeartbeats 2000000 in
theorem rshl_yes (A : Option Addr) (cap : Nat) (xs : List Nat) (w : World) (n : Nat) (h : Rd w A cap xs) (hn : n ≤ 65536) (hl : xs.length ≤ 35184372087808) :
    Calls Try.prog 33 #[.slice A xs.length cap, .int .i64 (n : Int)] w (GivesT w (val xs * 2 ^ n)) := by
  have X := Lib.hid h
  have hc := h.capLe
  have hlc := h.len
  have E2 := Lib.hid (two_pow_split n)
  have LB := Lib.hid (fun j (hj : j < 32) => (len_ofv_le_of_lt (k := xs.length + n / 32 + 1) (v := val xs * pw (n / 32) * 2 ^ j) (by
    have h1 := val_lt h.ok
    rw [pw_succ, pw_add]
    have h2 : 2 ^ j < 2 ^ 32 := Nat.pow_lt_pow_right (by omega) hj
    have h5 : (2 : Nat) ^ 32 = 4294967296 := rfl
    rw [h5] at h2
    have h3 := pw_pos (n / 32)
    have h4 : val xs * pw (n / 32) < pw xs.length * pw (n / 32) := Nat.mul_lt_mul_of_pos_right h1 h3
    rw [Nat.mul_comm]
    exact Nat.mul_lt_mul'' h2 h4)))
  clear h
  go_enter Try.func33, Try.ntmps33
  go_wp2_with (at_make; refine make_row rfl _ _ rfl _ _ (n / 32) rfl rfl (by omega) (by omega) (by omega) ?_)
  intro w1 hrow hbel
  have HR := Lib.hid hrow
  have HB := Lib.hid hbel
  have X1 := Lib.hid (X.out.below hbel)
  clear hrow hbel
  go_wp2_with (at_builtin; refine append_full rfl _ _ rfl w.heap.size w.heap.size (n / 32) (List.replicate (n / 32) 0) rfl HR.out (okl_replicate _) (by simp) (Nat.le_refl _) _ _ _ xs rfl X1.out rfl (by omega) (by omega) (fun _ => nextcap_small (by omega) (by omega)) ?_)
  intro R c w2 ho hb
  have HB2 : Hid (Below w.heap.size w w2) := HB.out.trans hb
  have HO := Lib.hid ho
  clear ho hb
  go_wp2
  go_loopw [6, 7] (fun out i wr => ∃ (k m : Nat) (R : Option Addr) (c : Nat), k ≤ n % 32 ∧ i = .int .i64 k ∧ out = .slice R m c ∧ m ≤ 35184372089860 ∧
      Hid (∃ us, us.length = m ∧ Rd wr R c us ∧ val us = val xs * pw (n / 32) * 2 ^ k ∧ Below w.heap.size w wr)) (fun _ i _ => n % 32 - (intOf i).toNat)
  case atStart =>
    refine ⟨0, n / 32 + xs.length, R, c, Nat.zero_le _, rfl, rfl, by omega, _, by simp, HO.out.rd, ?_, HB2.out⟩
    rw [val_append, val_replicate]
    simp [Nat.mul_comm]
  case round =>
    obtain ⟨k, m, R2, c2, hk, rfl, rfl, hm, hu⟩ := hrel
    obtain ⟨us, hul, hrd, huv, hbe⟩ := hu.out
    have RD := Lib.hid hrd
    have HUL := Lib.hid hul
    have HUV := Lib.hid huv
    have HBE := Lib.hid hbe
    clear hul hrd huv hbe hu
    by_cases hlt : k < n % 32
    · go_wp2_with fail
      refine (radd_n RD.out RD.out HUL.out HUL.out (by omega) (by omega)).mono ?_
      rintro e w3 ⟨R3, c3, rfl, ho, hb⟩
      have ev : val us + val us = val xs * pw (n / 32) * 2 ^ (k + 1) := by rw [HUV.out, Nat.pow_succ, ← Nat.mul_assoc]; omega
      rw [ev] at ho ⊢
      have NX : Hid (∃ us', us'.length = (ofv (val xs * pw (n / 32) * 2 ^ (k + 1))).length ∧ Rd w3 R3 c3 us' ∧ val us' = val xs * pw (n / 32) * 2 ^ (k + 1) ∧ Below w.heap.size w w3) :=
        ⟨_, rfl, ho.rd, val_ofv _, HBE.out.trans (hb.mono HBE.out.size)⟩
      have hlen := LB.out (k + 1) (by omega)
      clear ho hb ev
      generalize (ofv (val xs * pw (n / 32) * 2 ^ (k + 1))).length = m3 at *
      go_wp2
      go_roundw
      case rel => exact ⟨k + 1, m3, R3, c3, by omega, by go_num, rfl, by omega, NX.out⟩
      case measure => simp [intOf]; omega
    · obtain rfl : k = n % 32 := by omega
      have S := rtrim_n RD.out HUL.out (by omega)
      have ev : val us = val xs * 2 ^ n := by rw [HUV.out, E2.out]; grind
      rw [ev] at S
      have HS := Lib.hid S
      clear S ev hk hlt
      go_wp2_with fail
      refine HS.out.mono ?_
      rintro e w3 ⟨R3, c3, rfl, ho, hb⟩
      have FIN : Hid (GivesT w (val xs * 2 ^ n) (.returned (.tuple #[.slice R3 (ofv (val xs * 2 ^ n)).length c3, .bool true])) w3) :=
        ⟨R3, c3, rfl, ho.mono HBE.out.size, HBE.out.trans (hb.mono HBE.out.size)⟩
      clear ho hb
      go_wp2
      go_ret2
      exact FIN.out
end Go.Proofs.Ytmmlfmjelhninaa
