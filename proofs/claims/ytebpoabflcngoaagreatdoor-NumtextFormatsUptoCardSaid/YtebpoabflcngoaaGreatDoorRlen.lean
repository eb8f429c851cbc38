/-
  How long a rational number's canonical form is, by the numbers that it is made of.
-/
import Derived.Test.YtebpoabflcngoaaGreatDoorRawake
namespace Go.Proofs.YtebpoabflcngoaaGreatDoor
open Go.RowKit
set_option linter.unusedVariables false

/-- Numerator and denominator have at most n limbs. -/
def RL (r : Rat) (n : Nat) : Prop := (ofv r.num.natAbs).length ≤ n ∧ (ofv r.den).length ≤ n
theorem RL.le {r : Rat} {n m : Nat} (h : RL r n) (hm : n ≤ m) : RL r m := ⟨Nat.le_trans h.1 hm, Nat.le_trans h.2 hm⟩
theorem RL.one {r : Rat} {n : Nat} (h : RL r n) : 1 ≤ n := by
  have h1 := h.2
  rcases Nat.eq_zero_or_pos (ofv r.den).length with h2 | h2
  · have h3 : ofv r.den = [] := List.eq_nil_of_length_eq_zero h2
    have h4 := val_ofv r.den
    rw [h3] at h4
    have := den_pos r
    simp [val] at h4
    omega
  · omega
theorem rl_mk {x : Int} {p N : Nat} (hx : (ofv x.natAbs).length ≤ N) (hp : (ofv p).length ≤ N) (h1 : 1 ≤ N) : RL (mkRat x p) N := canon_len hx hp h1
theorem nlen_mul {p q a b : Nat} (h : (ofv p).length ≤ a) (h' : (ofv q).length ≤ b) : (ofv (p * q)).length ≤ a + b := by
  have := zlen_mul (x := (p : Int)) (y := (q : Int)) (n := a) (m := b) (by simpa using h) (by simpa using h')
  rw [Int.natAbs_mul] at this
  simpa using this
theorem rl_mul {r s : Rat} {a b : Nat} (h : RL r a) (h' : RL s b) : RL (r * s) (a + b) := by
  have e : r * s = mkRat (r.num * s.num) (r.den * s.den) := by rw [← Rat.mkRat_mul_mkRat, mk_self, mk_self]
  have h1 := h.one
  rw [e]
  exact rl_mk (zlen_mul h.1 h'.1) (nlen_mul h.2 h'.2) (by omega)
theorem rl_add {r s : Rat} {a b : Nat} (h : RL r a) (h' : RL s b) : RL (r + s) (a + b + 1) := by
  have e : r + s = mkRat (r.num * s.den + s.num * r.den) (r.den * s.den) := by
    rw [← Rat.mkRat_add_mkRat _ _ (Nat.ne_of_gt (den_pos r)) (Nat.ne_of_gt (den_pos s)), mk_self, mk_self]
  have h1 := h.one
  rw [e]
  have l1 := zlen_mul (x := r.num) (y := (s.den : Int)) h.1 (by simpa using h'.2)
  have l2 := zlen_mul (x := s.num) (y := (r.den : Int)) h'.1 (by simpa using h.2)
  refine rl_mk (zlen_add l1 (by rw [Nat.add_comm] at l2; exact l2)) (Nat.le_succ_of_le (nlen_mul h.2 h'.2)) (by omega)
theorem rl_neg {r : Rat} {a : Nat} (h : RL r a) : RL (-r) a := by
  refine ⟨?_, ?_⟩
  · rw [Rat.neg_num, Int.natAbs_neg]; exact h.1
  · rw [Rat.neg_den]; exact h.2
theorem rl_sub {r s : Rat} {a b : Nat} (h : RL r a) (h' : RL s b) : RL (r - s) (a + b + 1) := by
  rw [Rat.sub_eq_add_neg]; exact rl_add h (rl_neg h')
theorem rl_inv {r : Rat} {a : Nat} (h : RL r a) (hr : r ≠ 0) : RL r⁻¹ a := by
  have hn : r.num ≠ 0 := fun e => hr (by rw [← mk_self r, e]; exact Rat.zero_mkRat _)
  have e := mk_inv (x := r.num) (p := r.den) hn (den_pos r)
  rw [mk_self] at e
  rw [e]
  refine rl_mk ?_ h.1 h.one
  have : (zv (decide (r.num < 0)) r.den).natAbs = r.den := by unfold zv; split <;> simp
  rw [this]; exact h.2
theorem start_R3 (w : World) (s0 : Bool) (A0 : Option Addr) (n0 c0 : Nat) (D0 : Option Addr) (m0 k0 : Nat) (s1 : Bool) (A1 : Option Addr) (n1 c1 : Nat) (D1 : Option Addr) (m1 k1 : Nat) (s2 : Bool) (A2 : Option Addr) (n2 c2 : Nat) (D2 : Option Addr) (m2 k2 : Nat) :
    Hid (Below w.heap.size w (((w.alloc (.cells #[.bool s0, .slice A0 n0 c0, .slice D0 m0 k0] 26)).alloc (.cells #[.bool s1, .slice A1 n1 c1, .slice D1 m1 k1] 26)).alloc (.cells #[.bool s2, .slice A2 n2 c2, .slice D2 m2 k2] 26))) ∧ Hid (Rb (((w.alloc (.cells #[.bool s0, .slice A0 n0 c0, .slice D0 m0 k0] 26)).alloc (.cells #[.bool s1, .slice A1 n1 c1, .slice D1 m1 k1] 26)).alloc (.cells #[.bool s2, .slice A2 n2 c2, .slice D2 m2 k2] 26)) (w.heap.size) s0 A0 n0 c0 D0 m0 k0) ∧ Hid (Rb (((w.alloc (.cells #[.bool s0, .slice A0 n0 c0, .slice D0 m0 k0] 26)).alloc (.cells #[.bool s1, .slice A1 n1 c1, .slice D1 m1 k1] 26)).alloc (.cells #[.bool s2, .slice A2 n2 c2, .slice D2 m2 k2] 26)) (w.heap.size + 1) s1 A1 n1 c1 D1 m1 k1) ∧ Hid (Rb (((w.alloc (.cells #[.bool s0, .slice A0 n0 c0, .slice D0 m0 k0] 26)).alloc (.cells #[.bool s1, .slice A1 n1 c1, .slice D1 m1 k1] 26)).alloc (.cells #[.bool s2, .slice A2 n2 c2, .slice D2 m2 k2] 26)) (w.heap.size + 2) s2 A2 n2 c2 D2 m2 k2) := by
  refine ⟨?_, ?_, ?_, ?_⟩
  · exact ((((Below.refl _ _).alloc (by first | exact Nat.le_refl _ | (simp; done) | (simp; omega)) _).alloc (by first | exact Nat.le_refl _ | (simp; done) | (simp; omega)) _).alloc (by first | exact Nat.le_refl _ | (simp; done) | (simp; omega)) _)
  · have := Rb.new w s0 A0 n0 c0 D0 m0 k0
    exact ((this.alloc _).alloc _)
  · have := Rb.new (w.alloc (.cells #[.bool s0, .slice A0 n0 c0, .slice D0 m0 k0] 26)) s1 A1 n1 c1 D1 m1 k1
    simp only [World.size_alloc] at this
    exact (this.alloc _)
  · have := Rb.new ((w.alloc (.cells #[.bool s0, .slice A0 n0 c0, .slice D0 m0 k0] 26)).alloc (.cells #[.bool s1, .slice A1 n1 c1, .slice D1 m1 k1] 26)) s2 A2 n2 c2 D2 m2 k2
    simp only [World.size_alloc] at this
    exact this
end Go.Proofs.YtebpoabflcngoaaGreatDoor
