/-
  Contracts of natural.window and natural.Uint64.
-/
import Derived.Test.YtmmlfmjelhninaaCmp
import Derived.Test.YtmmlfmjelhninaaBitm
import Derived.Laws.Bits64
import Derived.Laws.BitsAllLaws
namespace Go.Proofs.Ytmmlfmjelhninaa
open Go.RowKit
set_option linter.unusedVariables false

theorem or64 {a b : Nat} (ha : a < 4294967296) (hb : b < 4294967296) : bits .or .u64 (a : Int) ((b : Int) * 4294967296) = ((a + 4294967296 * b : Nat) : Int) := by
  have e : (b : Int) * 4294967296 = ((b * 4294967296 : Nat) : Int) := by omega
  rw [e, u64_or_nat a (b * 4294967296) (by omega) (by omega), or_low32 ha]

theorem orw {low l2 r : Nat} (hr : r < 32) (hlow : low < 18446744073709551616) : bits .or .u64 ((low : Int) / 2 ^ r) (IntKind.u64.wrap ((l2 : Int) * 2 ^ (64 - r))) = ((low / 2 ^ r + 2 ^ (64 - r) * (l2 % 2 ^ r) : Nat) : Int) := by
  have e1 : (low : Int) / 2 ^ r = ((low / 2 ^ r : Nat) : Int) := by simp
  have e2 : IntKind.u64.wrap ((l2 : Int) * 2 ^ (64 - r)) = ((l2 * 2 ^ (64 - r) % 18446744073709551616 : Nat) : Int) := by rw [IntKind.wrap_u64]; simp
  have h1 : low / 2 ^ r < 18446744073709551616 := Nat.lt_of_le_of_lt (Nat.div_le_self _ _) hlow
  rw [e1, e2, u64_or_nat _ _ h1 (Nat.mod_lt _ (by omega)), win_or _ _ _ hr hlow]

theorem window_any (A : Option Addr) (cap : Nat) (xs : List Nat) (w : World) (h : Rd w A cap xs) (n : Nat) (hn : n ≤ 1000000000000000000) :
    Calls Try.prog 44 #[.slice A xs.length cap, .int .i64 (n : Int)] w fun e w' => e = .returned (.int .u64 ((val xs / 2 ^ n % 18446744073709551616 : Nat) : Int)) ∧ ∃ n, w' = w.drewN n := by
  have b0 := lim_lt h.ok (n / 32)
  have b1 := lim_lt h.ok (n / 32 + 1)
  have b2 := lim_lt h.ok (n / 32 + 2)
  have N1 : Hid (Rd w A cap xs) := h
  have N2 : Hid (∀ q, Rd (w.drewN q) A cap xs) := fun q => h
  have E1 := or64 b0 b1
  have F := win_val h.ok n
  generalize hlow : lim xs (n / 32) + 4294967296 * lim xs (n / 32 + 1) = low at E1 F
  have bl : low ≤ 18446744073709551615 := by omega
  have E2 := orw (low := low) (l2 := lim xs (n / 32 + 2)) (r := n % 32) (by omega) (by omega)
  rw [← F] at E2
  have HL := Lib.hid hlow
  have HF := Lib.hid F
  generalize val xs / 2 ^ n % 18446744073709551616 = V at *
  clear h hlow F
  go_enter Try.func44, Try.ntmps44
  go_wp2_with fail
  refine (limbAt_e N1.out rfl (n / 32) (by omega) (by omega)).mono ?_
  rintro e w' ⟨rfl, rfl⟩
  go_wp2_with fail
  refine (limbAt_e N1.out rfl (n / 32 + 1) (by omega) (by omega)).mono ?_
  rintro e w' ⟨rfl, rfl⟩
  go_wp2_with fail
  go_quiet ((go_at_call 46; exact qcall1 ((limbAt_e (N2.out _) rfl (n / 32 + 2) (by omega) (by omega)).mono fun _ _ ⟨h, k⟩ => ⟨h, 0, k.symm⟩)))
  go_wp2
  go_ret
  exact ⟨rfl, _, rfl⟩

theorem window_n {A : Option Addr} {cap m : Nat} {xs : List Nat} {w : World} (h : Rd w A cap xs) (hm : xs.length = m) (n : Nat) {z : Int} (hz : z = (n : Int)) (hn : n ≤ 1000000000000000000) :
    Calls Try.prog 44 #[.slice A m cap, .int .i64 z] w fun e w' => e = .returned (.int .u64 ((val xs / 2 ^ n % 18446744073709551616 : Nat) : Int)) ∧ ∃ n, w' = w.drewN n := by
  subst hm hz; exact window_any A cap xs w h n hn
/-- A short list. -/
theorem val_two {xs : List Nat} (h : okl xs) (hl : xs.length ≤ 2) : val xs < 18446744073709551616 := by
  have h1 := val_lt h
  have h2 := pw_le hl
  have h3 : pw 2 = 18446744073709551616 := by rw [pw_succ, pw_succ, pw_zero]
  omega
theorem window_small {A : Option Addr} {cap m : Nat} {xs : List Nat} {w : World} (h : Rd w A cap xs) (hm : xs.length = m) (hl : m ≤ 2) :
    Calls Try.prog 44 #[.slice A m cap, .int .i64 0] w fun e w' => e = .returned (.int .u64 ((val xs : Nat) : Int)) ∧ ∃ n, w' = w.drewN n := by
  have e : val xs / 2 ^ 0 % 18446744073709551616 = val xs := by
    rw [Nat.pow_zero, Nat.div_one]; exact Nat.mod_eq_of_lt (val_two h.ok (by omega))
  have := window_n h hm 0 (z := 0) rfl (by omega)
  rwa [e] at this

theorem uint64_yes (A : Option Addr) (cap : Nat) (xs : List Nat) (w : World) (h : Rd w A cap xs) (hv : val xs < 18446744073709551616) :
    Calls Try.prog 14 #[.slice A xs.length cap] w fun e w' => e = .returned (.tuple #[.int .u64 ((val xs : Nat) : Int), .bool true]) ∧ ∃ n, w' = w.drewN n := by
  have S1 := Lib.hid (sig_any A cap xs w h)
  have l2 : (ofv (val xs)).length ≤ 2 := len_ofv_le_of_lt (by rw [pw_succ, pw_succ, pw_zero]; omega)
  have W := window_small h.sig rfl l2
  rw [val_ofv] at W
  have HW := Lib.hid W
  have hc := h.capLe
  clear h W hv
  generalize (ofv (val xs)).length = m at *
  generalize val xs = v at *
  go_enter Try.func14, Try.ntmps14
  go_wp2_with fail
  refine S1.out.mono ?_
  rintro e w' ⟨rfl, rfl⟩
  go_wp2_with fail
  refine HW.out.mono ?_
  rintro e w' ⟨rfl, hq⟩
  have HQ := Lib.hid hq
  clear hq
  go_wp2
  go_ret2
  exact ⟨rfl, HQ.out⟩
theorem uint64_no (A : Option Addr) (cap : Nat) (xs : List Nat) (w : World) (h : Rd w A cap xs) (hv : 18446744073709551616 ≤ val xs) :
    Calls Try.prog 14 #[.slice A xs.length cap] w fun e w' => e = .returned (.tuple #[.int .u64 0, .bool false]) ∧ ∃ n, w' = w.drewN n := by
  have S1 := Lib.hid (sig_any A cap xs w h)
  have l2 : ¬ (ofv (val xs)).length ≤ 2 := by
    intro hl
    have h1 := lt_pw_len (val xs)
    have h2 := pw_le hl
    have h3 : pw 2 = 18446744073709551616 := by rw [pw_succ, pw_succ, pw_zero]
    omega
  have hc := h.capLe
  have hl := h.sig.len
  clear h hv
  generalize (ofv (val xs)).length = m at *
  go_enter Try.func14, Try.ntmps14
  go_wp2_with fail
  refine S1.out.mono ?_
  rintro e w' ⟨rfl, rfl⟩
  go_wp2
  go_ret2
  exact ⟨rfl, 0, rfl⟩
end Go.Proofs.Ytmmlfmjelhninaa
