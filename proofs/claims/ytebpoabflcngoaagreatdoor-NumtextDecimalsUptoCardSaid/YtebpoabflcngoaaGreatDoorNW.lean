/-
  Nlw, Nex.
-/
import Derived.Test.YtebpoabflcngoaaGreatDoorNU
/-
  What ParseInt and ParseRat return for the texts that FormatInt, FormatRat and Decimal return.
-/
namespace Go.Proofs.YtebpoabflcngoaaGreatDoor
open Go.RowKit
set_option linter.unusedVariables false

/-- Some result, of a text that is too long to be read. -/
def SomeZ (w : World) (e : Ending) (w' : World) : Prop := ∃ s R n c x, e = .returned (.tuple #[.agg #[.bool s, .slice R n c], .int .i64 x]) ∧ Below w.heap.size w w'
def SomeR (w : World) (e : Ending) (w' : World) : Prop := ∃ s R n c Q m k x, e = .returned (.tuple #[.agg #[.bool s, .slice R n c, .slice Q m k], .int .i64 x]) ∧ Below w.heap.size w w'
theorem GivesZE.some {w w' : World} {z : Int} {e : Ending} (h : GivesZE w z e w') : SomeZ w e w' := by obtain ⟨R, c, rfl, _, hb⟩ := h; exact ⟨_, _, _, _, _, rfl, hb⟩
theorem GivesZX.some {w w' : World} {z : Int} {e : Ending} (h : GivesZX w z e w') : SomeZ w e w' := by obtain ⟨rfl, hb⟩ := h; exact ⟨_, _, _, _, _, rfl, hb⟩
theorem GivesRE.some {w w' : World} {z : Int} {d : Nat} {e : Ending} (h : GivesRE w z d e w') : SomeR w e w' := by obtain ⟨R, c, Q, k, rfl, _, _, hb⟩ := h; exact ⟨_, _, _, _, _, _, _, _, rfl, hb⟩
theorem GivesRX.some {w w' : World} {z : Int} {e : Ending} (h : GivesRX w z e w') : SomeR w e w' := by obtain ⟨rfl, hb⟩ := h; exact ⟨_, _, _, _, _, _, _, _, rfl, hb⟩
theorem divInt_one (z : Int) : Rat.divInt z 1 = mkRat z 1 := rfl
end Go.Proofs.YtebpoabflcngoaaGreatDoor

/-
  The text of Decimal denotes the number; it is the text of an integer exactly for integers.
-/
namespace Go.Proofs.YtebpoabflcngoaaGreatDoor
open Go.RowKit
set_option linter.unusedVariables false

theorem rnd_int (v : Int) : rndR (mkRat v 1) = v := by
  rw [rnd_mk (x := v) (p := 1) (f := v) (r := 0) (by omega) (by simp) (by simp)]
  rw [if_pos (.inl (by decide))]
/-- A denominator of twos and fives: the number is an integer over a power of ten. -/
theorem dec_exact {r : Rat} {k1 r1 k2 : Nat} (h1 : Facs r.den 2 k1 r1) (h2 : Facs r1 5 k2 1) {q : Nat} (hq1 : k1 ≤ q) (hq2 : k2 ≤ q) :
    ∃ v : Int, rndR (r * mkRat ((10 ^ q : Nat) : Int) 1) = v ∧ Rat.divInt v ((10 ^ q : Nat) : Int) = r := by
  obtain ⟨e1, _⟩ := h1
  obtain ⟨e2, _⟩ := h2
  have hd := den_pos r
  have e3 : r.den = 2 ^ k1 * 5 ^ k2 := by rw [e1, e2, Nat.mul_one]
  have hc : r.den * (2 ^ (q - k1) * 5 ^ (q - k2)) = 10 ^ q := by
    have a1 : 2 ^ k1 * 2 ^ (q - k1) = 2 ^ q := by rw [← Nat.pow_add]; congr 1; omega
    have a2 : 5 ^ k2 * 5 ^ (q - k2) = 5 ^ q := by rw [← Nat.pow_add]; congr 1; omega
    have a3 : (10 : Nat) ^ q = 2 ^ q * 5 ^ q := by rw [← Nat.mul_pow]
    rw [e3, a3, ← a1, ← a2]
    grind
  generalize 2 ^ (q - k1) * 5 ^ (q - k2) = c at hc
  have c0 : 0 < c := by
    rcases Nat.eq_zero_or_pos c with e | e
    · subst e
      have : 0 < 10 ^ q := Nat.pow_pos (by omega)
      omega
    · exact e
  refine ⟨r.num * c, ?_, ?_⟩
  · rw [← hc]
    have e4 : r * mkRat ((r.den * c : Nat) : Int) 1 = mkRat (r.num * c) 1 := by
      have := Rat.mkRat_mul_mkRat r.num ((r.den * c : Nat) : Int) r.den 1
      rw [mk_self] at this
      rw [this, Int.natCast_mul, Nat.mul_one, show r.num * ((r.den : Int) * (c : Int)) = (r.num * c) * (r.den : Int) by grind]
      have := Rat.mkRat_mul_right (n := r.num * (c : Int)) (d := 1) (a := r.den) (by omega)
      rw [Nat.one_mul] at this
      exact this
    rw [e4]
    exact rnd_int _
  · rw [← hc]
    show mkRat (r.num * c) (r.den * c) = r
    rw [Rat.mkRat_mul_right (by omega), mk_self]
end Go.Proofs.YtebpoabflcngoaaGreatDoor
