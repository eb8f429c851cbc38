/-
  Contracts of natural.significant, natural.limbAt and natural.order.
-/
import Derived.Test.YtmmlfmjelhninaaMem
namespace Go.Proofs.Ytmmlfmjelhninaa
open Go.RowKit
set_option linter.unusedVariables false

theorem limbAt_in (A : Option Addr) (cap : Nat) (xs : List Nat) (w : World) (h : Rd w A cap xs) (i : Nat) (hi : i < xs.length) :
    Calls Try.prog 46 #[.slice A xs.length cap, .int .i64 i] w fun e w' => e = .returned (.int .u64 ((lim xs i : Nat) : Int)) ∧ w = w' := by
  obtain ⟨b, o, rfl, _, hc⟩ := h.at_ hi
  have c1 := hc i hi
  have l1 := lim_lt h.ok i
  have hl := h.len
  have hm := h.capLe
  clear hc h
  go_enter Try.func46, Try.ntmps46
  go_wp2
  go_ret
  exact ⟨rfl, rfl⟩
theorem limbAt_out (A : Option Addr) (cap : Nat) (xs : List Nat) (w : World) (h : Rd w A cap xs) (i : Nat) (hi : xs.length ≤ i) (hm : i ≤ 9223372036854775807) :
    Calls Try.prog 46 #[.slice A xs.length cap, .int .i64 i] w fun e w' => e = .returned (.int .u64 ((lim xs i : Nat) : Int)) ∧ w = w' := by
  rw [lim_out hi]
  clear h
  go_enter Try.func46, Try.ntmps46
  go_wp2
  go_ret
  exact ⟨rfl, rfl⟩
theorem limbAt_any (A : Option Addr) (cap : Nat) (xs : List Nat) (w : World) (h : Rd w A cap xs) (i : Nat) (hm : i ≤ 9223372036854775807) :
    Calls Try.prog 46 #[.slice A xs.length cap, .int .i64 i] w fun e w' => e = .returned (.int .u64 ((lim xs i : Nat) : Int)) ∧ w = w' := by
  rcases Nat.lt_or_ge i xs.length with hi | hi
  · exact limbAt_in A cap xs w h i hi
  · exact limbAt_out A cap xs w h i hi hm

theorem sig_any (A : Option Addr) (cap : Nat) (xs : List Nat) (w : World) (h : Rd w A cap xs) :
    Calls Try.prog 43 #[.slice A xs.length cap] w fun e w' => e = .returned (.slice A (ofv (val xs)).length cap) ∧ w = w' := by
  have hl := h.len
  have hm := h.capLe
  have hok := Lib.hid h.ok
  have H := Lib.hid h
  clear h
  go_enter Try.func43, Try.ntmps43
  go_wp2
  go_loop [3] (fun i => ∃ n : Nat, n ≤ xs.length ∧ i = .int .i64 n ∧ Hid (∀ j, n ≤ j → j < xs.length → lim xs j = 0)) (fun i => (intOf i).toNat)
  case atStart => exact ⟨xs.length, Nat.le_refl _, rfl, fun j h1 h2 => by omega⟩
  case round =>
    obtain ⟨n, hn, rfl, hz⟩ := hrel
    have e1 : n = 0 ∨ (0 < n ∧ lim xs (n - 1) = 0) ∨ (0 < n ∧ lim xs (n - 1) ≠ 0) := by omega
    rcases e1 with rfl | ⟨hp, h0⟩ | ⟨hp, h0⟩
    · have e := take_eq_ofv hok.out (Nat.zero_le _) hz.out (.inl rfl)
      have el : (ofv (val xs)).length = 0 := by rw [← e]; simp
      have E := Lib.hid el
      clear e el
      go_wp2
      go_ret
      exact ⟨ret_slice rfl (by rw [E.out]) rfl, rfl⟩
    · obtain ⟨b, o, rfl, _, hc⟩ := H.out.at_ (k := n - 1) (by omega)
      have c1 := hc (n - 1) (by omega)
      rw [h0] at c1
      have hz' : Hid (∀ j, n - 1 ≤ j → j < xs.length → lim xs j = 0) := by
        intro j h1 h2
        by_cases ej : j = n - 1
        · rw [ej]; exact h0
        · exact hz.out j (by omega) h2
      clear hc h0 hz
      go_wp2
      go_round
      case rel => exact ⟨n - 1, by omega, by first | rfl | (congr 1; omega), hz'⟩
      case measure => simp [intOf]; omega
    · obtain ⟨b, o, rfl, _, hc⟩ := H.out.at_ (k := n - 1) (by omega)
      have c1 := hc (n - 1) (by omega)
      have hb : (((lim xs (n - 1) : Nat) : Int) == 0) = false := by simp; exact h0
      have e := take_eq_ofv hok.out hn hz.out (.inr h0)
      have el : (ofv (val xs)).length = n := by rw [← e, List.length_take, Nat.min_eq_left hn]
      have E := Lib.hid el
      clear hc e el h0 hz
      go_wp2
      go_ret
      exact ⟨ret_slice rfl (by rw [E.out]) rfl, rfl⟩

theorem sig_n {A : Option Addr} {cap : Nat} {n : Nat} {xs : List Nat} {w : World} (h : Rd w A cap xs) (hn : xs.length = n) :
    Calls Try.prog 43 #[.slice A n cap] w fun e w' => e = .returned (.slice A (ofv (val xs)).length cap) ∧ w = w' := by
  subst hn; exact sig_any A cap xs w h
theorem limbAt_n {A : Option Addr} {cap : Nat} {n : Nat} {xs : List Nat} {w : World} (h : Rd w A cap xs) (hn : xs.length = n) (i : Nat) (hm : i ≤ 9223372036854775807) :
    Calls Try.prog 46 #[.slice A n cap, .int .i64 i] w fun e w' => e = .returned (.int .u64 ((lim xs i : Nat) : Int)) ∧ w = w' := by
  subst hn; exact limbAt_any A cap xs w h i hm
theorem limbAt_e {A : Option Addr} {cap : Nat} {n : Nat} {xs : List Nat} {w : World} (h : Rd w A cap xs) (hn : xs.length = n) (i : Nat) {z : Int} (hz : z = (i : Int)) (hm : i ≤ 9223372036854775807) :
    Calls Try.prog 46 #[.slice A n cap, .int .i64 z] w fun e w' => e = .returned (.int .u64 ((lim xs i : Nat) : Int)) ∧ w = w' := by
  subst hn hz; exact limbAt_any A cap xs w h i hm

theorem order_any (b : Bool) (w : World) : Calls Try.prog 45 #[.bool b] w fun e w' => e = .returned (.int .i64 (if b then -1 else 1)) ∧ w = w' := by
  cases b
  all_goals
    go_enter Try.func45, Try.ntmps45
    go_wp2
    go_ret
    exact ⟨rfl, rfl⟩
end Go.Proofs.Ytmmlfmjelhninaa
