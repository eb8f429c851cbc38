/-
  Contracts of the reference's Bits and bit.
-/
import Derived.Test.YtmmlfmjelhninaaBits
import Derived.Test.YtmmlfmjelhninaaRcmp
namespace Go.Proofs.Ytmmlfmjelhninaa
open Go.RowKit
set_option linter.unusedVariables false

set_option maxHeartbeats 1000000 in
theorem rbits_any (A : Option Addr) (cap : Nat) (xs : List Nat) (w : World) (h : Rd w A cap xs) (hn : xs.length ≤ 70368744177664) :
    Calls Try.prog 37 #[.slice A xs.length cap] w fun e w' => e = .returned (.int .i64 ((nbits (val xs) : Nat) : Int)) ∧ Below w.heap.size w w' := by
  have S1 := Lib.hid (rtrim_any A cap xs w h hn)
  have hc := h.capLe
  have hle := len_ofv_le h.ok
  have hl := h.len
  clear h
  by_cases h0 : val xs = 0
  · rw [h0, nbits_zero]
    rw [h0] at S1
    go_enter Try.func37, Try.ntmps37
    go_wp2_with fail
    refine S1.out.mono ?_
    rintro e w1 ⟨R, c, rfl, ho, hb⟩
    rw [ofv_zero]
    have HB := Lib.hid hb
    clear ho hb
    go_wp2
    go_ret
    exact ⟨rfl, HB.out⟩
  · have hp := len_pos (show 0 < val xs by omega)
    have T := Lib.hid (nbits_top h0)
    have lt := lim_lt (okl_ofv (val xs)) ((ofv (val xs)).length - 1)
    have hm : (ofv (val xs)).length ≤ 70368744177664 := by omega
    have HNB : Hid (nbits (val xs) ≤ 32 * (ofv (val xs)).length) := nbits_len _
    clear h0 hle
    generalize val xs = v at *
    generalize hu : ofv v = us at *
    have HU := Lib.hid hu
    clear hu
    go_enter Try.func37, Try.ntmps37
    go_wp2_with fail
    refine S1.out.mono ?_
    rintro e w1 ⟨R, c, rfl, ho, hb⟩
    rw [HU.out] at ho ⊢
    have HB := Lib.hid hb
    have rd := ho.rd
    obtain ⟨b, o, rfl, _, hcell⟩ := rd.at_ (k := us.length - 1) (by omega)
    have c1 := hcell (us.length - 1) (by omega)
    have hbz : ((us.length : Int) == 0) = false := by rw [beq_eq_false_iff_ne]; omega
    have hcl := rd.len
    have hcl2 := rd.capLe
    clear ho hb rd hcell
    have lt' : lim us (us.length - 1) < 4294967296 := lt
    clear lt
    generalize lim us (us.length - 1) = t at *
    have TB := Lib.hid (nbits_le (v := t) (k := 32) (by have : (2 : Nat) ^ 32 = 4294967296 := rfl; omega))
    go_wp2
    go_loop [3, 4] (fun nv x => ∃ a r : Nat, nv = .int .i64 a ∧ x = .int .u32 r ∧ r < 4294967296 ∧ a ≤ 9000000000000000 ∧ Hid (a + nbits r = 32 * (us.length - 1) + nbits t)) (fun _ x => (intOf x).toNat)
    case atStart => exact ⟨32 * (us.length - 1), t, by congr 1; omega, rfl, lt', by omega, rfl⟩
    case round =>
      obtain ⟨a, r, rfl, rfl, hr, ha, hi⟩ := hrel
      by_cases h0 : r = 0
      · subst h0
        have F : Hid (a = nbits v) := by
          have e1 := hi.out
          rw [nbits_zero] at e1
          show _ = _
          rw [T.out]; omega
        go_wp2
        go_ret
        exact ⟨by rw [← F.out]; rfl, HB.out⟩
      · have hr1 : 1 ≤ r := by omega
        have hi' : Hid (a + 1 + nbits (r / 2) = 32 * (us.length - 1) + nbits t) := by
          have e1 := hi.out
          rw [nbits_pos h0] at e1
          show _ = _
          omega
        have ha' : a + 1 ≤ 9000000000000000 := by
          have e1 := hi'.out
          have e2 := TB.out
          omega
        clear h0
        go_wp2
        go_round
        case rel => exact ⟨a + 1, r / 2, by go_num, by first | rfl | (congr 1; omega), by omega, ha', hi'⟩
        case measure => simp [intOf]; omega
theorem rbits_n {A : Option Addr} {cap n : Nat} {xs : List Nat} {w : World} (h : Rd w A cap xs) (hn : xs.length = n) (hl : n ≤ 70368744177664) :
    Calls Try.prog 37 #[.slice A n cap] w fun e w' => e = .returned (.int .i64 ((nbits (val xs) : Nat) : Int)) ∧ Below w.heap.size w w' := by
  subst hn; exact rbits_any A cap xs w h hl

/-- Binary digit i. -/
def bitOf (v i : Nat) : Nat := v / 2 ^ i % 2
theorem bitOf_val {xs : List Nat} (h : okl xs) (i : Nat) : bitOf (val xs) i = lim xs (i / 32) / 2 ^ (i % 32) % 2 := by
  unfold bitOf
  rw [val_div_two_pow h, val_drop_succ]
  have e : (4294967296 : Nat) = 2 ^ (i % 32) * (2 ^ (31 - i % 32) * 2) := by
    rw [← Nat.pow_succ, ← Nat.pow_add, show i % 32 + (31 - i % 32 + 1) = 32 from by omega]
  have hp : 0 < 2 ^ (i % 32) := Nat.pow_pos (by omega)
  rw [e, Nat.mul_assoc, Nat.add_mul_div_left _ _ hp, Nat.mul_comm (2 ^ (31 - i % 32)), Nat.mul_assoc, Nat.add_mul_mod_self_left]
theorem bitOf_lt (v i : Nat) : bitOf v i < 2 := Nat.mod_lt _ (by omega)

set_option maxHeartbeats 1000000 in
theorem bit_any (A : Option Addr) (cap : Nat) (xs : List Nat) (w : World) (h : Rd w A cap xs) (i : Nat) (hi : i ≤ 9000000000000000000) :
    Calls Try.prog 49 #[.slice A xs.length cap, .int .i64 (i : Int)] w fun e w' => e = .returned (.int .u32 ((bitOf (val xs) i : Nat) : Int)) ∧ w = w' := by
  rw [bitOf_val h.ok]
  have hl := h.len
  have hc := h.capLe
  rcases Nat.lt_or_ge (i / 32) xs.length with hlt | hge
  · obtain ⟨b, o, rfl, _, hcell⟩ := h.at_ hlt
    have c1 := hcell (i / 32) hlt
    have b1 := lim_lt h.ok (i / 32)
    clear h hcell
    generalize lim xs (i / 32) = t at *
    go_enter Try.func49, Try.ntmps49
    go_wp2
    go_ret
    have e1 : (t : Int) / 2 ^ (i % 32) = ((t / 2 ^ (i % 32) : Nat) : Int) := by simp
    have e2 : t / 2 ^ (i % 32) < 4294967296 := Nat.lt_of_le_of_lt (Nat.div_le_self _ _) b1
    have e3 := u32_and_nat (t / 2 ^ (i % 32)) 1 e2 (by omega)
    rw [Nat.and_one_is_mod] at e3
    refine ⟨ret_int ?_, rfl⟩
    rw [e1]
    exact e3
  · rw [lim_out hge]
    clear h
    go_enter Try.func49, Try.ntmps49
    go_wp2
    go_ret
    exact ⟨by simp, rfl⟩
theorem bit_e {A : Option Addr} {cap n : Nat} {xs : List Nat} {w : World} (h : Rd w A cap xs) (hn : xs.length = n) (i : Nat) {z : Int} (hz : z = (i : Int)) (hi : i ≤ 9000000000000000000) :
    Calls Try.prog 49 #[.slice A n cap, .int .i64 z] w fun e w' => e = .returned (.int .u32 ((bitOf (val xs) i : Nat) : Int)) ∧ w = w' := by
  subst hn hz; exact bit_any A cap xs w h i hi
end Go.Proofs.Ytmmlfmjelhninaa
