/-
  Contracts of package rational: Floor, isEven, Round, Size.
-/
import Derived.Test.YtfacndibfkamgaaGreatRatt
namespace Go.Proofs.YtfacndibfkamgaaGreat
open Go.RowKit
set_option linter.unusedVariables false

theorem val_even (xs : List Nat) (h : 0 < xs.length) : val xs % 2 = lim xs 0 % 2 := by
  cases xs with
  | nil => simp at h
  | cons a l => simp [val, lim]; omega
theorem even_abs (z : Int) : (z % 2 = 0) ↔ z.natAbs % 2 = 0 := by omega
/-- The nearest integer; of two the even one. -/
def rndR (r : Rat) : Int := if sgR (r + r - mkRat (2 * r.floor + 1) 1) < 0 ∨ (sgR (r + r - mkRat (2 * r.floor + 1) 1) = 0 ∧ r.floor % 2 = 0) then r.floor else r.floor + 1
theorem mk_double {x : Int} {p : Nat} (hp : 0 < p) : mkRat x p + mkRat x p = mkRat (x + x) p := by
  rw [Rat.mkRat_add_mkRat _ _ (by omega) (by omega), ← Int.add_mul, Rat.mkRat_mul_right (by omega)]
theorem cmp_sg (a b : Nat) : cmp a b = sg ((a : Int) - b) := by
  rcases cmp_cases a b with ⟨e, h⟩ | ⟨e, h⟩ | ⟨e, h⟩ <;> rw [e]
  · exact (sg_neg (by omega)).symm
  · subst h; rw [Int.sub_self]; rfl
  · exact (sg_pos (by omega)).symm
theorem rnd_mk {x f : Int} {p r : Nat} (hp : 0 < p) (hf : f = x / (p : Int)) (hr : ((r : Nat) : Int) = x % (p : Int)) : rndR (mkRat x p) = if cmp (r + r) p < 0 ∨ (cmp (r + r) p = 0 ∧ f % 2 = 0) then f else f + 1 := by
  have h1 : (mkRat x p).floor = f := by rw [floor_mk hp, hf]
  have h2 : sgR (mkRat x p + mkRat x p - mkRat (2 * f + 1) 1) = cmp (r + r) p := by
    rw [mk_double hp, sgR_sub hp (by decide), cmp_sg]
    congr 1
    have h3 := Int.mul_ediv_add_emod x (p : Int)
    rw [← hf, ← hr] at h3
    rw [Int.natCast_add]
    have h4 : (2 * f + 1) * (p : Int) = 2 * ((p : Int) * f) + p := by rw [Int.add_mul, Int.mul_assoc, Int.mul_comm f, Int.one_mul]
    rw [h4]
    omega
  unfold rndR
  rw [h1, h2]
end Go.Proofs.YtfacndibfkamgaaGreat
