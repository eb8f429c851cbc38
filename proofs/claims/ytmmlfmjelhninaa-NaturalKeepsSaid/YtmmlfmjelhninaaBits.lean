/-
  The number of binary digits; contracts of natural.Bits and of the library's Len32 and LeadingZeros32 in these words.
-/
import Derived.Test.YtmmlfmjelhninaaMul
import Derived.Test.YtmmlfmjelhninaaShelf
namespace Go.Proofs.Ytmmlfmjelhninaa
open Go.RowKit
set_option linter.unusedVariables false

/-- The number of binary digits. -/
def nbits (v : Nat) : Nat := if v = 0 then 0 else nbits (v / 2) + 1
termination_by v
decreasing_by omega
theorem nbits_zero : nbits 0 = 0 := by rw [nbits]; simp
theorem nbits_pos {v : Nat} (h : v ≠ 0) : nbits v = nbits (v / 2) + 1 := by rw [nbits]; simp [h]
theorem nbits_shift (k v : Nat) (h : 2 ^ k ≤ v) : nbits v = k + nbits (v / 2 ^ k) := by
  induction k generalizing v with
  | zero => simp
  | succ k ih =>
    have hp : 0 < 2 ^ k := Nat.pow_pos (by omega)
    rw [Nat.pow_succ] at h
    rw [nbits_pos (by omega), ih (v / 2) (by omega), Nat.div_div_eq_div_mul, Nat.pow_succ, Nat.mul_comm 2]; omega
theorem nbits_one : nbits 1 = 1 := by rw [nbits_pos (by omega), show 1 / 2 = 0 from rfl, nbits_zero]
theorem nbits_two_pow (k : Nat) : nbits (2 ^ k) = k + 1 := by
  rw [nbits_shift k _ (Nat.le_refl _), Nat.div_self (Nat.pow_pos (by omega)), nbits_one]
theorem nbits_lt (v : Nat) : v < 2 ^ nbits v := by
  induction v using Nat.strongRecOn with
  | ind v ih =>
    by_cases h : v = 0
    · subst h; rw [nbits_zero]; simp
    · rw [nbits_pos h, Nat.pow_succ]
      have := ih (v / 2) (by omega)
      omega
theorem nbits_le {v k : Nat} (h : v < 2 ^ k) : nbits v ≤ k := by
  induction k generalizing v with
  | zero => obtain rfl : v = 0 := by simpa using h
            rw [nbits_zero]; omega
  | succ k ih =>
    by_cases h0 : v = 0
    · rw [h0, nbits_zero]; omega
    · rw [nbits_pos h0]
      rw [Nat.pow_succ] at h
      have := ih (v := v / 2) (by omega)
      omega
theorem nbits_ge {v : Nat} (h : v ≠ 0) : 2 ^ (nbits v - 1) ≤ v := by
  rcases Nat.lt_or_ge v (2 ^ (nbits v - 1)) with h1 | h1
  · have := nbits_le h1
    have : nbits v ≠ 0 := by rw [nbits_pos h]; omega
    omega
  · exact h1
theorem nbits_eq_zero {v : Nat} : nbits v = 0 ↔ v = 0 := by
  constructor
  · intro h
    by_cases h0 : v = 0
    · exact h0
    · rw [nbits_pos h0] at h; omega
  · intro h; rw [h, nbits_zero]
theorem bitLen_nbits (x : Nat) (h : x < 2 ^ 64) : Lib.bitLen x = nbits x := by
  induction x using Nat.strongRecOn with
  | ind x ih =>
    by_cases h0 : x = 0
    · subst h0; rw [nbits_zero]; rfl
    · rw [Lib.bitLen_half x h0 h, nbits_pos h0, ih (x / 2) (by omega) (by omega)]; omega

theorem len32_any (x : Nat) (w : World) (hx : x < 4294967296) :
    Calls Try.prog 53 #[.int .u32 (x : Int)] w fun e w' => e = .returned (.int .i64 ((nbits x : Nat) : Int)) ∧ w = w' := by
  refine (Try.bits_Len32 (x : Int) w (by omega) (by omega)).mono fun e w' h => ?_
  rw [Int.toNat_natCast, bitLen_nbits x (by have : (2 : Nat) ^ 64 = 18446744073709551616 := rfl; omega)] at h
  exact ⟨h.1, h.2.symm⟩
theorem lead32_any (x : Nat) (w : World) (hx : x < 4294967296) :
    Calls Try.prog 60 #[.int .u32 (x : Int)] w fun e w' => e = .returned (.int .i64 ((32 - nbits x : Nat) : Int)) ∧ w = w' := by
  have hle : nbits x ≤ 32 := nbits_le (by have : (2 : Nat) ^ 32 = 4294967296 := rfl; omega)
  refine (Try.bits_LeadingZeros32 (x : Int) w (by omega) (by omega)).mono fun e w' h => ?_
  rw [Int.toNat_natCast, bitLen_nbits x (by have : (2 : Nat) ^ 64 = 18446744073709551616 := rfl; omega)] at h
  refine ⟨?_, h.2.symm⟩
  rw [h.1]
  exact ret_int (by omega)

/-- The digits of a number, by its highest limb. -/
theorem nbits_top {v : Nat} (h : v ≠ 0) : nbits v = 32 * ((ofv v).length - 1) + nbits (lim (ofv v) ((ofv v).length - 1)) := by
  have hp := len_pos (show 0 < v by omega)
  have e := val_take_succ (xs := ofv v) (k := (ofv v).length - 1) (by omega)
  rw [show (ofv v).length - 1 + 1 = (ofv v).length from by omega, List.take_of_length_le (Nat.le_refl _), val_ofv] at e
  have hb := val_lt (okl_take (okl_ofv v) ((ofv v).length - 1))
  rw [List.length_take, Nat.min_eq_left (by omega)] at hb
  have hl := ofv_last h
  generalize lim (ofv v) ((ofv v).length - 1) = t at *
  generalize val (List.take ((ofv v).length - 1) (ofv v)) = r at *
  generalize (ofv v).length - 1 = k at *
  have hd : v / 2 ^ (32 * k) = t := by
    rw [two_pow_32, e, Nat.add_mul_div_right _ _ (pw_pos k), Nat.div_eq_of_lt hb]; omega
  have hge : 2 ^ (32 * k) ≤ v := by
    rw [two_pow_32, e]
    have : pw k ≤ t * pw k := Nat.le_mul_of_pos_left _ (by omega)
    omega
  rw [nbits_shift (32 * k) v hge, hd]
/-- A bound on the digits. -/
theorem nbits_len (v : Nat) : nbits v ≤ 32 * (ofv v).length := nbits_le (by rw [two_pow_32]; exact lt_pw_len v)

set_option maxHeartbeats 1000000 in
theorem bits_any (A : Option Addr) (cap : Nat) (xs : List Nat) (w : World) (h : Rd w A cap xs) (hn : xs.length ≤ 70368744177664) :
    Calls Try.prog 36 #[.slice A xs.length cap] w fun e w' => e = .returned (.int .i64 ((nbits (val xs) : Nat) : Int)) ∧ w = w' := by
  have S1 := Lib.hid (sig_any A cap xs w h)
  have hl := h.sig.len
  have hc := h.capLe
  have hle := len_ofv_le h.ok
  have X := Lib.hid h.sig
  have hm : (ofv (val xs)).length ≤ 70368744177664 := by omega
  clear h
  by_cases h0 : val xs = 0
  · have e : (ofv (val xs)).length = 0 := by rw [h0, ofv_zero]; rfl
    rw [h0, nbits_zero]
    rw [e] at S1
    clear X hl hle hm h0 e
    go_enter Try.func36, Try.ntmps36
    go_wp2_with fail
    refine S1.out.mono ?_
    rintro e w' ⟨rfl, rfl⟩
    go_wp2
    go_ret
    exact ⟨rfl, rfl⟩
  · have hp := len_pos (show 0 < val xs by omega)
    have T := Lib.hid (nbits_top h0)
    have NB := nbits_len (val xs)
    have lt := lim_lt X.out.ok ((ofv (val xs)).length - 1)
    obtain ⟨b, o, rfl, _, hcell⟩ := X.out.at_ (k := (ofv (val xs)).length - 1) (by omega)
    have c1 := hcell ((ofv (val xs)).length - 1) (by omega)
    have L := Lib.hid (fun w => len32_any (lim (ofv (val xs)) ((ofv (val xs)).length - 1)) w lt)
    have bl : nbits (lim (ofv (val xs)) ((ofv (val xs)).length - 1)) ≤ 32 := nbits_le (by have : (2 : Nat) ^ 32 = 4294967296 := rfl; omega)
    clear hcell X hle h0
    generalize hnb : nbits (val xs) = nb at *
    have HNB := Lib.hid hnb
    clear hnb
    generalize hm2 : (ofv (val xs)).length = m at *
    have HM2 := Lib.hid hm2
    clear hm2
    generalize lim (ofv (val xs)) (m - 1) = t at *
    generalize nbits t = tb at *
    have hb : ((m : Int) == 0) = false := by simp; omega
    go_enter Try.func36, Try.ntmps36
    go_wp2_with fail
    refine S1.out.mono ?_
    rintro e w' ⟨rfl, rfl⟩
    go_wp2_with fail
    refine (L.out _).mono ?_
    rintro e w' ⟨rfl, rfl⟩
    go_wp2
    go_ret
    exact ⟨ret_int (by have := T.out; omega), rfl⟩
theorem bits_n {A : Option Addr} {cap n : Nat} {xs : List Nat} {w : World} (h : Rd w A cap xs) (hn : xs.length = n) (hl : n ≤ 70368744177664) :
    Calls Try.prog 36 #[.slice A n cap] w fun e w' => e = .returned (.int .i64 ((nbits (val xs) : Nat) : Int)) ∧ w = w' := by
  subst hn; exact bits_any A cap xs w h hl
end Go.Proofs.Ytmmlfmjelhninaa
