/-
  Contracts of package rational: Mul, Add.
-/
import Derived.Test.YtfmgbfdnmconiaaGreatRatn
namespace Go.Proofs.YtfmgbfdnmconiaaGreat
open Go.RowKit
set_option linter.unusedVariables false

theorem start_RRR (w : World) (s0 : Bool) (A0 : Option Addr) (n0 c0 : Nat) (D0 : Option Addr) (m0 k0 : Nat) (s1 : Bool) (A1 : Option Addr) (n1 c1 : Nat) (D1 : Option Addr) (m1 k1 : Nat) :
    Hid (Below w.heap.size w (((w.alloc (.cells #[.bool s0, .slice A0 n0 c0, .slice D0 m0 k0] 26)).alloc (.cells #[.bool s1, .slice A1 n1 c1, .slice D1 m1 k1] 26)).alloc (.cells #[.bool false, .slice none 0 0, .slice none 0 0] 26))) ∧ Hid (Rb (((w.alloc (.cells #[.bool s0, .slice A0 n0 c0, .slice D0 m0 k0] 26)).alloc (.cells #[.bool s1, .slice A1 n1 c1, .slice D1 m1 k1] 26)).alloc (.cells #[.bool false, .slice none 0 0, .slice none 0 0] 26)) (w.heap.size) s0 A0 n0 c0 D0 m0 k0) ∧ Hid (Rb (((w.alloc (.cells #[.bool s0, .slice A0 n0 c0, .slice D0 m0 k0] 26)).alloc (.cells #[.bool s1, .slice A1 n1 c1, .slice D1 m1 k1] 26)).alloc (.cells #[.bool false, .slice none 0 0, .slice none 0 0] 26)) (w.heap.size + 1) s1 A1 n1 c1 D1 m1 k1) ∧ Hid (Rb (((w.alloc (.cells #[.bool s0, .slice A0 n0 c0, .slice D0 m0 k0] 26)).alloc (.cells #[.bool s1, .slice A1 n1 c1, .slice D1 m1 k1] 26)).alloc (.cells #[.bool false, .slice none 0 0, .slice none 0 0] 26)) (w.heap.size + 2) false none 0 0 none 0 0) := by
  refine ⟨?_, ?_, ?_, ?_⟩
  · exact ((((Below.refl _ _).alloc (by first | exact Nat.le_refl _ | (simp; done) | (simp; omega)) _).alloc (by first | exact Nat.le_refl _ | (simp; done) | (simp; omega)) _).alloc (by first | exact Nat.le_refl _ | (simp; done) | (simp; omega)) _)
  · have := Rb.new w s0 A0 n0 c0 D0 m0 k0
    exact ((this.alloc _).alloc _)
  · have := Rb.new (w.alloc (.cells #[.bool s0, .slice A0 n0 c0, .slice D0 m0 k0] 26)) s1 A1 n1 c1 D1 m1 k1
    simp only [World.size_alloc] at this
    exact (this.alloc _)
  · have := Rb.new ((w.alloc (.cells #[.bool s0, .slice A0 n0 c0, .slice D0 m0 k0] 26)).alloc (.cells #[.bool s1, .slice A1 n1 c1, .slice D1 m1 k1] 26)) false none 0 0 none 0 0
    simp only [World.size_alloc] at this
    exact this
theorem prod_bound {a b : Int} {M N : Int} (ha : -M ≤ a ∧ a ≤ M) (hb : -N ≤ b ∧ b ≤ N) : -(M * N) ≤ a * b ∧ a * b ≤ M * N := by
  have h1 := Int.mul_nonneg (show 0 ≤ M - a by omega) (show 0 ≤ N - b by omega)
  have h2 := Int.mul_nonneg (show 0 ≤ M + a by omega) (show 0 ≤ N + b by omega)
  have h3 := Int.mul_nonneg (show 0 ≤ M - a by omega) (show 0 ≤ N + b by omega)
  have h4 := Int.mul_nonneg (show 0 ≤ M + a by omega) (show 0 ≤ N - b by omega)
  have e1 : (M - a) * (N - b) = M * N - M * b - a * N + a * b := by grind
  have e2 : (M + a) * (N + b) = M * N + M * b + a * N + a * b := by grind
  have e3 : (M - a) * (N + b) = M * N + M * b - a * N - a * b := by grind
  have e4 : (M + a) * (N - b) = M * N - M * b + a * N - a * b := by grind
  constructor <;> omega
end Go.Proofs.YtfmgbfdnmconiaaGreat
