/-
  Rlen, Rsgn, Rvals, Rzro, Rsize, Rscl.
-/
import Derived.Test.YtfacndibfkamgaaGreatRawake
/-
  How long a rational number's canonical form is, by the numbers that it is made of.
-/
namespace Go.Proofs.YtfacndibfkamgaaGreat
open Go.RowKit
set_option linter.unusedVariables false

/-- Numerator and denominator have at most n limbs. -/
def RL (r : Rat) (n : Nat) : Prop := (ofv r.num.natAbs).length ≤ n ∧ (ofv r.den).length ≤ n
theorem RL.le {r : Rat} {n m : Nat} (h : RL r n) (hm : n ≤ m) : RL r m := ⟨Nat.le_trans h.1 hm, Nat.le_trans h.2 hm⟩
theorem RL.one {r : Rat} {n : Nat} (h : RL r n) : 1 ≤ n := by
  have h1 := h.2
  rcases Nat.eq_zero_or_pos (ofv r.den).length with h2 | h2
  · have h3 : ofv r.den = [] := List.eq_nil_of_length_eq_zero h2
    have h4 := val_ofv r.den
    rw [h3] at h4
    have := den_pos r
    simp [val] at h4
    omega
  · omega
theorem rl_mk {x : Int} {p N : Nat} (hx : (ofv x.natAbs).length ≤ N) (hp : (ofv p).length ≤ N) (h1 : 1 ≤ N) : RL (mkRat x p) N := canon_len hx hp h1
theorem nlen_mul {p q a b : Nat} (h : (ofv p).length ≤ a) (h' : (ofv q).length ≤ b) : (ofv (p * q)).length ≤ a + b := by
  have := zlen_mul (x := (p : Int)) (y := (q : Int)) (n := a) (m := b) (by simpa using h) (by simpa using h')
  rw [Int.natAbs_mul] at this
  simpa using this
theorem rl_mul {r s : Rat} {a b : Nat} (h : RL r a) (h' : RL s b) : RL (r * s) (a + b) := by
  have e : r * s = mkRat (r.num * s.num) (r.den * s.den) := by rw [← Rat.mkRat_mul_mkRat, mk_self, mk_self]
  have h1 := h.one
  rw [e]
  exact rl_mk (zlen_mul h.1 h'.1) (nlen_mul h.2 h'.2) (by omega)
theorem rl_add {r s : Rat} {a b : Nat} (h : RL r a) (h' : RL s b) : RL (r + s) (a + b + 1) := by
  have e : r + s = mkRat (r.num * s.den + s.num * r.den) (r.den * s.den) := by
    rw [← Rat.mkRat_add_mkRat _ _ (Nat.ne_of_gt (den_pos r)) (Nat.ne_of_gt (den_pos s)), mk_self, mk_self]
  have h1 := h.one
  rw [e]
  have l1 := zlen_mul (x := r.num) (y := (s.den : Int)) h.1 (by simpa using h'.2)
  have l2 := zlen_mul (x := s.num) (y := (r.den : Int)) h'.1 (by simpa using h.2)
  refine rl_mk (zlen_add l1 (by rw [Nat.add_comm] at l2; exact l2)) (Nat.le_succ_of_le (nlen_mul h.2 h'.2)) (by omega)
theorem rl_neg {r : Rat} {a : Nat} (h : RL r a) : RL (-r) a := by
  refine ⟨?_, ?_⟩
  · rw [Rat.neg_num, Int.natAbs_neg]; exact h.1
  · rw [Rat.neg_den]; exact h.2
theorem rl_sub {r s : Rat} {a b : Nat} (h : RL r a) (h' : RL s b) : RL (r - s) (a + b + 1) := by
  rw [Rat.sub_eq_add_neg]; exact rl_add h (rl_neg h')
theorem rl_inv {r : Rat} {a : Nat} (h : RL r a) (hr : r ≠ 0) : RL r⁻¹ a := by
  have hn : r.num ≠ 0 := fun e => hr (by rw [← mk_self r, e]; exact Rat.zero_mkRat _)
  have e := mk_inv (x := r.num) (p := r.den) hn (den_pos r)
  rw [mk_self] at e
  rw [e]
  refine rl_mk ?_ h.1 h.one
  have : (zv (decide (r.num < 0)) r.den).natAbs = r.den := by unfold zv; split <;> simp
  rw [this]; exact h.2
theorem start_R3 (w : World) (s0 : Bool) (A0 : Option Addr) (n0 c0 : Nat) (D0 : Option Addr) (m0 k0 : Nat) (s1 : Bool) (A1 : Option Addr) (n1 c1 : Nat) (D1 : Option Addr) (m1 k1 : Nat) (s2 : Bool) (A2 : Option Addr) (n2 c2 : Nat) (D2 : Option Addr) (m2 k2 : Nat) :
    Hid (Below w.heap.size w (((w.alloc (.cells #[.bool s0, .slice A0 n0 c0, .slice D0 m0 k0] 29)).alloc (.cells #[.bool s1, .slice A1 n1 c1, .slice D1 m1 k1] 29)).alloc (.cells #[.bool s2, .slice A2 n2 c2, .slice D2 m2 k2] 29))) ∧ Hid (Rb (((w.alloc (.cells #[.bool s0, .slice A0 n0 c0, .slice D0 m0 k0] 29)).alloc (.cells #[.bool s1, .slice A1 n1 c1, .slice D1 m1 k1] 29)).alloc (.cells #[.bool s2, .slice A2 n2 c2, .slice D2 m2 k2] 29)) (w.heap.size) s0 A0 n0 c0 D0 m0 k0) ∧ Hid (Rb (((w.alloc (.cells #[.bool s0, .slice A0 n0 c0, .slice D0 m0 k0] 29)).alloc (.cells #[.bool s1, .slice A1 n1 c1, .slice D1 m1 k1] 29)).alloc (.cells #[.bool s2, .slice A2 n2 c2, .slice D2 m2 k2] 29)) (w.heap.size + 1) s1 A1 n1 c1 D1 m1 k1) ∧ Hid (Rb (((w.alloc (.cells #[.bool s0, .slice A0 n0 c0, .slice D0 m0 k0] 29)).alloc (.cells #[.bool s1, .slice A1 n1 c1, .slice D1 m1 k1] 29)).alloc (.cells #[.bool s2, .slice A2 n2 c2, .slice D2 m2 k2] 29)) (w.heap.size + 2) s2 A2 n2 c2 D2 m2 k2) := by
  refine ⟨?_, ?_, ?_, ?_⟩
  · exact ((((Below.refl _ _).alloc (by first | exact Nat.le_refl _ | (simp; done) | (simp; omega)) _).alloc (by first | exact Nat.le_refl _ | (simp; done) | (simp; omega)) _).alloc (by first | exact Nat.le_refl _ | (simp; done) | (simp; omega)) _)
  · have := Rb.new w s0 A0 n0 c0 D0 m0 k0
    exact ((this.alloc _).alloc _)
  · have := Rb.new (w.alloc (.cells #[.bool s0, .slice A0 n0 c0, .slice D0 m0 k0] 29)) s1 A1 n1 c1 D1 m1 k1
    simp only [World.size_alloc] at this
    exact (this.alloc _)
  · have := Rb.new ((w.alloc (.cells #[.bool s0, .slice A0 n0 c0, .slice D0 m0 k0] 29)).alloc (.cells #[.bool s1, .slice A1 n1 c1, .slice D1 m1 k1] 29)) s2 A2 n2 c2 D2 m2 k2
    simp only [World.size_alloc] at this
    exact this
end Go.Proofs.YtfacndibfkamgaaGreat

/-
  The statement RationalOrder: its walk.
-/
namespace Go.Proofs.YtfacndibfkamgaaGreat
open Go.RowKit
set_option linter.unusedVariables false

/-- The sign of a rational number is among three. -/
theorem sgR_cases (r : Rat) : sgR r = -1 ∨ sgR r = 0 ∨ sgR r = 1 := by
  unfold sgR
  rcases sg_cases r.num with ⟨h, _⟩ | ⟨h, _⟩ | ⟨h, _⟩ <;> simp [h]
theorem sgR_pos {r : Rat} : sgR r = 1 ↔ 0 < r := by
  have hn : 0 < r ↔ 0 < r.num := by
    have h := Rat.num_nonneg (q := -r)
    rw [Rat.neg_num] at h
    constructor
    · intro h0
      have : ¬ 0 ≤ -r := by grind
      have := mt h.1 this
      omega
    · intro h0
      have : ¬ 0 ≤ -r := fun h1 => by have := h.2 h1; omega
      grind
  rw [hn]
  unfold sgR
  rcases sg_cases r.num with ⟨h, h2⟩ | ⟨h, h2⟩ | ⟨h, h2⟩ <;> rw [h] <;> omega
theorem sgR_neg {r : Rat} : sgR r = -1 ↔ r < 0 := by
  have h3 := sgR_pos (r := -r)
  have : sgR (-r) = - sgR r := by
    unfold sgR
    rw [Rat.neg_num]
    rcases sg_cases r.num with ⟨h, h2⟩ | ⟨h, h2⟩ | ⟨h, h2⟩ <;> rcases sg_cases (-r.num) with ⟨h4, h5⟩ | ⟨h4, h5⟩ | ⟨h4, h5⟩ <;> rw [h, h4] <;> omega
  rw [this] at h3
  constructor
  · intro h
    have := h3.1 (by omega)
    grind
  · intro h
    have := h3.2 (by grind)
    omega
theorem sgR_swap (a b : Rat) : sgR (b - a) = - sgR (a - b) := by
  rcases sgR_cases (a - b) with h | h | h <;> rw [h]
  · rw [sgR_neg] at h; rw [show - (-1 : Int) = 1 from rfl, sgR_pos]; grind
  · rw [sgR_zero] at h; rw [show - (0 : Int) = 0 from rfl, sgR_zero]; grind
  · rw [sgR_pos] at h; rw [sgR_neg]; grind
theorem sgR_shift (a b c : Rat) : sgR (a + c - (b + c)) = sgR (a - b) := by
  have : a + c - (b + c) = a - b := by grind
  rw [this]
theorem sgR_scale {a b c : Rat} (hc : 0 < c) : sgR (a * c - b * c) = sgR (a - b) := by
  have e : a * c - b * c = (a - b) * c := by grind
  rw [e]
  rcases sgR_cases (a - b) with h | h | h <;> rw [h]
  · rw [sgR_neg] at h ⊢
    have := Rat.mul_pos (a := -(a - b)) (b := c) (by grind) hc
    grind
  · rw [sgR_zero] at h ⊢
    rw [h]; exact Rat.zero_mul _
  · rw [sgR_pos] at h ⊢
    exact Rat.mul_pos h hc
theorem sgR_trans {a b c : Rat} (h1 : sgR (a - b) ≠ 1) (h2 : sgR (b - c) ≠ 1) : sgR (a - c) ≠ 1 := by
  rw [Ne, sgR_pos] at h1 h2 ⊢
  grind
end Go.Proofs.YtfacndibfkamgaaGreat

/-
  Contracts: New, Min and Max of package rational; Min and Max of its reference.
-/
namespace Go.Proofs.YtfacndibfkamgaaGreat
open Go.RowKit
set_option linter.unusedVariables false

/-- The lesser, the greater number. -/
def minR (x y : Rat) : Rat := if sgR (x - y) < 0 then x else y
def maxR (x y : Rat) : Rat := if 0 < sgR (x - y) then x else y
theorem sub_zero_eq {x y : Rat} (h : sgR (x - y) = 0) : x = y := by
  rw [sgR_zero] at h
  grind
end Go.Proofs.YtfacndibfkamgaaGreat

/-
  The zero value of a rational number in a variable; a quotient with a bool as what an operation leaves.
-/
namespace Go.Proofs.YtfacndibfkamgaaGreat
open Go.RowKit
set_option linter.unusedVariables false

theorem rb_zero {w : World} {g : Nat} {x : Int} {d : Nat} (hx : 0 = x) (hd : 0 = d) (h : Rb w g false none 0 0 none 0 0) : Rb w g (decide (x < 0)) none (ofv x.natAbs).length 0 none (ofv d).length 0 := by
  subst hx hd
  simpa [ofv_zero] using h
theorem zo_zero {x : Int} (hx : 0 = x) (w : World) : Zo w none 0 x := by
  subst hx
  show Rd w none 0 (ofv 0)
  rw [ofv_zero]; exact Rd.nil _ _
theorem rd_zero {d : Nat} (hd : 0 = d) (w : World) : Rd w none 0 (ofv d) := by
  subst hd
  rw [ofv_zero]; exact Rd.nil _ _
/-- A rational number in lowest terms and true. -/
def isRT (z : Int) (d lo : Nat) (v : Value) (w : World) : Prop := ∃ R c Q k, v = .tuple #[.agg #[.bool (decide (z < 0)), .slice R (ofv z.natAbs).length c, .slice Q (ofv d).length k], .bool true] ∧ Own w lo R c (ofv z.natAbs) ∧ Own w lo Q k (ofv d)
theorem isRT_good (z : Int) (d lo : Nat) : Good (isRT z d lo) :=
  ⟨fun v w w' hb ⟨R, c, Q, k, e, o, o'⟩ => ⟨R, c, Q, k, e, o.below hb, o'.below hb⟩, fun v w g ⟨R, c, Q, k, e, o, o'⟩ h => by subst e; cases h⟩
end Go.Proofs.YtfacndibfkamgaaGreat

/-
  The reference's Size, and how many bits a product has.
-/
namespace Go.Proofs.YtfacndibfkamgaaGreat
open Go.RowKit
set_option linter.unusedVariables false

theorem zfield1 (s : Bool) (A : Option Addr) (n c : Nat) (w : World) : (Instr.field 27 (.agg #[.bool s, .slice A n c]) 1).run Tryz.prog w = .ok (.slice A n c) w := by kernel_rfl
theorem nbits_mono {a b : Nat} (h : a ≤ b) : nbits a ≤ nbits b := nbits_le (Nat.lt_of_le_of_lt h (nbits_lt b))
theorem nbits_mul (a b : Nat) : nbits (a * b) ≤ nbits a + nbits b := by
  refine nbits_le ?_
  rw [Nat.pow_add]
  exact Nat.mul_lt_mul'' (nbits_lt a) (nbits_lt b)
/-- How many bits the numerator and the denominator have. -/
def szR (r : Rat) : Int := ((nbits r.num.natAbs : Nat) : Int) + ((nbits r.den : Nat) : Int)
theorem szR_mul (r s : Rat) : szR (r * s) ≤ szR r + szR s := by
  have e : r * s = mkRat (r.num * s.num) (r.den * s.den) := by rw [← Rat.mkRat_mul_mkRat, mk_self, mk_self]
  have h := num_len (z := r.num * s.num) (d := r.den * s.den) (Nat.mul_pos (den_pos r) (den_pos s))
  rw [← e, Int.natAbs_mul] at h
  have h1 := nbits_mono h.1
  have h2 := nbits_mono h.2
  have h3 := nbits_mul r.num.natAbs s.num.natAbs
  have h4 := nbits_mul r.den s.den
  unfold szR
  omega
theorem szR_len {r : Rat} {n : Nat} (h : RL r n) : 0 ≤ szR r ∧ szR r ≤ 64 * n := by
  have h1 := nbits_len r.num.natAbs
  have h2 := nbits_len r.den
  have h3 := h.1
  have h4 := h.2
  unfold szR
  omega
end Go.Proofs.YtfacndibfkamgaaGreat

/-
  A slice of one limb; a slice as what an operation leaves.
-/
namespace Go.Proofs.YtfacndibfkamgaaGreat
open Go.RowKit
set_option linter.unusedVariables false

theorem nin_k (w : World) {a2 : Int} {k : Nat} (hk : (k : Int) = a2) (hb : a2 < 4294967296) : Nin (w.alloc (.cells #[.int .u32 a2] 118)) (some ⟨w.heap.size, 0, none⟩) 1 1 k := by
  subst hk
  have hr : Row (w.alloc (.cells #[.int .u32 (k : Int)] 118)) w.heap.size [k] := row_new rfl rfl
  have := Own.of_row (lo := 0) hr (okl1 (by omega)) (Nat.zero_le _) (by simp)
  exact ⟨[k], this.rd, rfl, by simp [val]⟩
/-- A slice that reads as a number, in memory from block lo on. -/
def isS (n lo : Nat) (v : Value) (w : World) : Prop := ∃ R c, v = .slice R (ofv n).length c ∧ Own w lo R c (ofv n)
theorem isS_good (n lo : Nat) : Good (isS n lo) :=
  ⟨fun v w w' hb ⟨R, c, e, o⟩ => ⟨R, c, e, o.below hb⟩, fun v w g ⟨R, c, e, o⟩ h => by subst e; cases h⟩
end Go.Proofs.YtfacndibfkamgaaGreat
