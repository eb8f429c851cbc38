/-
  The statement RationalOrder: its walk.
-/
import Derived.Test.YtebpoabflcngoaaGreatDoorRlen
namespace Go.Proofs.YtebpoabflcngoaaGreatDoor
open Go.RowKit
set_option linter.unusedVariables false

/-- The sign of a rational number is among three. -/
theorem sgR_cases (r : Rat) : sgR r = -1 ∨ sgR r = 0 ∨ sgR r = 1 := by
  unfold sgR
  rcases sg_cases r.num with ⟨h, _⟩ | ⟨h, _⟩ | ⟨h, _⟩ <;> simp [h]
theorem sgR_pos {r : Rat} : sgR r = 1 ↔ 0 < r := by
  have hn : 0 < r ↔ 0 < r.num := by
    have h := Rat.num_nonneg (q := -r)
    rw [Rat.neg_num] at h
    constructor
    · intro h0
      have : ¬ 0 ≤ -r := by grind
      have := mt h.1 this
      omega
    · intro h0
      have : ¬ 0 ≤ -r := fun h1 => by have := h.2 h1; omega
      grind
  rw [hn]
  unfold sgR
  rcases sg_cases r.num with ⟨h, h2⟩ | ⟨h, h2⟩ | ⟨h, h2⟩ <;> rw [h] <;> omega
theorem sgR_neg {r : Rat} : sgR r = -1 ↔ r < 0 := by
  have h3 := sgR_pos (r := -r)
  have : sgR (-r) = - sgR r := by
    unfold sgR
    rw [Rat.neg_num]
    rcases sg_cases r.num with ⟨h, h2⟩ | ⟨h, h2⟩ | ⟨h, h2⟩ <;> rcases sg_cases (-r.num) with ⟨h4, h5⟩ | ⟨h4, h5⟩ | ⟨h4, h5⟩ <;> rw [h, h4] <;> omega
  rw [this] at h3
  constructor
  · intro h
    have := h3.1 (by omega)
    grind
  · intro h
    have := h3.2 (by grind)
    omega
theorem sgR_swap (a b : Rat) : sgR (b - a) = - sgR (a - b) := by
  rcases sgR_cases (a - b) with h | h | h <;> rw [h]
  · rw [sgR_neg] at h; rw [show - (-1 : Int) = 1 from rfl, sgR_pos]; grind
  · rw [sgR_zero] at h; rw [show - (0 : Int) = 0 from rfl, sgR_zero]; grind
  · rw [sgR_pos] at h; rw [sgR_neg]; grind
theorem sgR_shift (a b c : Rat) : sgR (a + c - (b + c)) = sgR (a - b) := by
  have : a + c - (b + c) = a - b := by grind
  rw [this]
theorem sgR_scale {a b c : Rat} (hc : 0 < c) : sgR (a * c - b * c) = sgR (a - b) := by
  have e : a * c - b * c = (a - b) * c := by grind
  rw [e]
  rcases sgR_cases (a - b) with h | h | h <;> rw [h]
  · rw [sgR_neg] at h ⊢
    have := Rat.mul_pos (a := -(a - b)) (b := c) (by grind) hc
    grind
  · rw [sgR_zero] at h ⊢
    rw [h]; exact Rat.zero_mul _
  · rw [sgR_pos] at h ⊢
    exact Rat.mul_pos h hc
theorem sgR_trans {a b c : Rat} (h1 : sgR (a - b) ≠ 1) (h2 : sgR (b - c) ≠ 1) : sgR (a - c) ≠ 1 := by
  rw [Ne, sgR_pos] at h1 h2 ⊢
  grind
end Go.Proofs.YtebpoabflcngoaaGreatDoor
