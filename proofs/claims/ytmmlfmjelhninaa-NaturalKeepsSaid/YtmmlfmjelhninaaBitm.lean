/-
  Plain facts: 64 bits of a list of limbs; shifts.
-/
import Derived.Test.YtmmlfmjelhninaaMath
namespace Go.Proofs.Ytmmlfmjelhninaa

theorem val_drop_succ (xs : List Nat) (k : Nat) : val (xs.drop k) = lim xs k + 4294967296 * val (xs.drop (k + 1)) := by
  rcases Nat.lt_or_ge k xs.length with h | h
  · rw [List.drop_eq_getElem_cons h, val_cons]
    unfold lim
    rw [List.getD_eq_getElem?_getD, List.getElem?_eq_getElem h]; rfl
  · rw [lim_out h, List.drop_of_length_le h, List.drop_of_length_le (by omega)]; rfl
theorem val_div_pw {xs : List Nat} (h : okl xs) (f : Nat) : val xs / pw f = val (xs.drop f) := by
  rcases Nat.lt_or_ge f xs.length with hf | hf
  · have e := val_split xs f (by omega)
    have b := val_lt (okl_take h f)
    rw [List.length_take, Nat.min_eq_left (by omega)] at b
    rw [e, Nat.add_mul_div_left _ _ (pw_pos f), Nat.div_eq_of_lt b]; omega
  · rw [List.drop_of_length_le hf]
    have b := val_lt h
    have := pw_le hf
    rw [Nat.div_eq_of_lt (by omega)]; rfl
theorem two_pow_32 (f : Nat) : 2 ^ (32 * f) = pw f := by unfold pw; rw [Nat.pow_mul]
theorem two_pow_split (n : Nat) : 2 ^ n = pw (n / 32) * 2 ^ (n % 32) := by
  rw [← two_pow_32, ← Nat.pow_add]; congr 1; omega
theorem val_div_two_pow {xs : List Nat} (h : okl xs) (n : Nat) : val xs / 2 ^ n = val (xs.drop (n / 32)) / 2 ^ (n % 32) := by
  rw [two_pow_split, ← Nat.div_div_eq_div_mul, val_div_pw h]

theorem win_core (low l2 rest r : Nat) (hr : r < 32) (hlow : low < 18446744073709551616) :
    (low + 18446744073709551616 * (l2 + 4294967296 * rest)) / 2 ^ r % 18446744073709551616 = low / 2 ^ r + 2 ^ (64 - r) * (l2 % 2 ^ r) := by
  have e64 : 18446744073709551616 = 2 ^ r * 2 ^ (64 - r) := by rw [← Nat.pow_add, show r + (64 - r) = 64 from by omega]
  have e32 : 4294967296 = 2 ^ r * 2 ^ (32 - r) := by rw [← Nat.pow_add, show r + (32 - r) = 32 from by omega]
  have hp : 0 < 2 ^ r := Nat.pow_pos (by omega)
  have hq : low / 2 ^ r < 2 ^ (64 - r) := by
    rw [Nat.div_lt_iff_lt_mul hp, Nat.mul_comm]; rw [← e64]; exact hlow
  have h1 : (low + 18446744073709551616 * (l2 + 4294967296 * rest)) / 2 ^ r = low / 2 ^ r + 2 ^ (64 - r) * (l2 + 4294967296 * rest) := by
    conv => lhs; rw [e64, Nat.mul_assoc]
    rw [Nat.add_mul_div_left _ _ hp]
  rw [h1]
  have h2 : l2 + 4294967296 * rest = l2 % 2 ^ r + 2 ^ r * (l2 / 2 ^ r + 2 ^ (32 - r) * rest) := by
    have := Nat.div_add_mod l2 (2 ^ r)
    rw [Nat.mul_add, ← Nat.mul_assoc, ← e32]; omega
  have h3 : l2 % 2 ^ r < 2 ^ r := Nat.mod_lt _ hp
  rw [h2, Nat.mul_add, ← Nat.mul_assoc, Nat.mul_comm (2 ^ (64 - r)) (2 ^ r), ← e64, ← Nat.add_assoc, Nat.add_mul_mod_self_left]
  apply Nat.mod_eq_of_lt
  have h4 : 2 ^ (64 - r) * (l2 % 2 ^ r) + 2 ^ (64 - r) ≤ 2 ^ (64 - r) * 2 ^ r := by
    rw [← Nat.mul_succ]; exact Nat.mul_le_mul_left _ h3
  rw [Nat.mul_comm (2 ^ (64 - r)) (2 ^ r), ← e64] at h4
  omega
theorem win_or (low l2 r : Nat) (hr : r < 32) (hlow : low < 18446744073709551616) :
    low / 2 ^ r ||| l2 * 2 ^ (64 - r) % 18446744073709551616 = low / 2 ^ r + 2 ^ (64 - r) * (l2 % 2 ^ r) := by
  have e64 : 18446744073709551616 = 2 ^ (64 - r) * 2 ^ r := by rw [← Nat.pow_add, show 64 - r + r = 64 from by omega]
  have hp : 0 < 2 ^ r := Nat.pow_pos (by omega)
  have hq : low / 2 ^ r < 2 ^ (64 - r) := by
    rw [Nat.div_lt_iff_lt_mul hp, ← e64]; exact hlow
  have h : l2 * 2 ^ (64 - r) % 18446744073709551616 = 2 ^ (64 - r) * (l2 % 2 ^ r) := by
    rw [e64, Nat.mul_comm l2, Nat.mul_mod_mul_left]
  rw [h, or_low hq]
theorem win_lt (low l2 r : Nat) (hr : r < 32) (hlow : low < 18446744073709551616) : low / 2 ^ r + 2 ^ (64 - r) * (l2 % 2 ^ r) < 18446744073709551616 := by
  have := win_core low l2 0 r hr hlow
  rw [← this]
  exact Nat.mod_lt _ (by omega)
theorem win_val {xs : List Nat} (h : okl xs) (n : Nat) :
    val xs / 2 ^ n % 18446744073709551616 = (lim xs (n / 32) + 4294967296 * lim xs (n / 32 + 1)) / 2 ^ (n % 32) + 2 ^ (64 - n % 32) * (lim xs (n / 32 + 2) % 2 ^ (n % 32)) := by
  have b0 := lim_lt h (n / 32)
  have b1 := lim_lt h (n / 32 + 1)
  rw [← win_core _ (lim xs (n / 32 + 2)) (val (xs.drop (n / 32 + 3))) (n % 32) (by omega) (by omega), val_div_two_pow h, val_drop_succ, val_drop_succ xs (n / 32 + 1), val_drop_succ xs (n / 32 + 1 + 1)]
  rw [show n / 32 + 1 + 1 = n / 32 + 2 from rfl, show n / 32 + 2 + 1 = n / 32 + 3 from rfl]
  congr 2
  omega
end Go.Proofs.Ytmmlfmjelhninaa
