/-
  Contract of integer.Extended.
-/
import Derived.Test.YtfacndibfkamgaaGreatVar
namespace Go.Proofs.YtfacndibfkamgaaGreat
open Go.RowKit
set_option linter.unusedVariables false

/-- The two factors: they express the divisor, and are bounded. -/
def ExtOk (x y g u v : Int) : Prop := g = ((Int.gcd x y : Nat) : Int) ∧ x * u + y * v = g ∧ ((y = 0 ∧ v = 0 ∧ u.natAbs ≤ 1) ∨ (y ≠ 0 ∧ x = 0 ∧ u = 0 ∧ v.natAbs = 1) ∨ (y ≠ 0 ∧ x ≠ 0 ∧ ((u.natAbs : Nat) : Int) * g ≤ ((y.natAbs : Nat) : Int) ∧ ((v.natAbs : Nat) : Int) * g ≤ ((x.natAbs : Nat) : Int)))
/-- Three canonical integers in new memory. -/
def GivesE (w : World) (g u v : Int) (e : Ending) (w' : World) : Prop :=
  ∃ R c R' c' Q k, e = .returned (.tuple #[.agg #[.bool (decide (g < 0)), .slice R (ofv g.natAbs).length c], .agg #[.bool (decide (u < 0)), .slice R' (ofv u.natAbs).length c'], .agg #[.bool (decide (v < 0)), .slice Q (ofv v.natAbs).length k]]) ∧
    Own w' w.heap.size R c (ofv g.natAbs) ∧ Own w' w.heap.size R' c' (ofv u.natAbs) ∧ Own w' w.heap.size Q k (ofv v.natAbs) ∧ Below w.heap.size w w'
theorem ret_zbE {fn : Func} {R : Ending → World → Prop} {a : Act} {w : World} {k l j g g' g'' n c n' c' n'' c'' : Nat} {s s' s'' : Bool} {A A' A'' : Option Addr} (hf : fn.results = #[.cell k 27, .cell l 27, .cell j 27]) (hd : a.defers = [])
    (hk : (a.tmps[k]?).getD undef = .pointer (some ⟨g, 0, none⟩)) (hl : (a.tmps[l]?).getD undef = .pointer (some ⟨g', 0, none⟩)) (hj : (a.tmps[j]?).getD undef = .pointer (some ⟨g'', 0, none⟩)) (h : Zb w g s A n c) (h' : Zb w g' s' A' n' c') (h'' : Zb w g'' s'' A'' n'' c'')
    (hR : R (.returned (.tuple #[.agg #[.bool s, .slice A n c], .agg #[.bool s', .slice A' n' c'], .agg #[.bool s'', .slice A'' n'' c'']])) w) : bodyPost Tryz.prog fn R .ret a w := by
  obtain ⟨z1, z2⟩ := h.cells
  obtain ⟨z3, z4⟩ := h'.cells
  obtain ⟨z5, z6⟩ := h''.cells
  exact bodyPost_ret_by (v := .tuple #[.agg #[.bool s, .slice A n c], .agg #[.bool s', .slice A' n' c'], .agg #[.bool s'', .slice A'' n'' c'']]) (by simp [results, hf, go_sem, hk, hl, hj, z1, z2, z3, z4, z5, z6]) hd hR
theorem start5 (w : World) (s : Bool) (A : Option Addr) (n c : Nat) (t : Bool) (B : Option Addr) (m d : Nat) :
    Hid (Below w.heap.size w (((((w.alloc (.cells #[.bool s, .slice A n c] 27)).alloc (.cells #[.bool t, .slice B m d] 27)).alloc (.cells #[.bool false, .slice none 0 0] 27)).alloc (.cells #[.bool false, .slice none 0 0] 27)).alloc (.cells #[.bool false, .slice none 0 0] 27))) ∧ Hid (Zb (((((w.alloc (.cells #[.bool s, .slice A n c] 27)).alloc (.cells #[.bool t, .slice B m d] 27)).alloc (.cells #[.bool false, .slice none 0 0] 27)).alloc (.cells #[.bool false, .slice none 0 0] 27)).alloc (.cells #[.bool false, .slice none 0 0] 27)) w.heap.size s A n c) ∧ Hid (Zb (((((w.alloc (.cells #[.bool s, .slice A n c] 27)).alloc (.cells #[.bool t, .slice B m d] 27)).alloc (.cells #[.bool false, .slice none 0 0] 27)).alloc (.cells #[.bool false, .slice none 0 0] 27)).alloc (.cells #[.bool false, .slice none 0 0] 27)) (w.heap.size + 1) t B m d) ∧ Hid (Zb (((((w.alloc (.cells #[.bool s, .slice A n c] 27)).alloc (.cells #[.bool t, .slice B m d] 27)).alloc (.cells #[.bool false, .slice none 0 0] 27)).alloc (.cells #[.bool false, .slice none 0 0] 27)).alloc (.cells #[.bool false, .slice none 0 0] 27)) (w.heap.size + 2) false none 0 0) ∧ Hid (Zb (((((w.alloc (.cells #[.bool s, .slice A n c] 27)).alloc (.cells #[.bool t, .slice B m d] 27)).alloc (.cells #[.bool false, .slice none 0 0] 27)).alloc (.cells #[.bool false, .slice none 0 0] 27)).alloc (.cells #[.bool false, .slice none 0 0] 27)) (w.heap.size + 3) false none 0 0) ∧ Hid (Zb (((((w.alloc (.cells #[.bool s, .slice A n c] 27)).alloc (.cells #[.bool t, .slice B m d] 27)).alloc (.cells #[.bool false, .slice none 0 0] 27)).alloc (.cells #[.bool false, .slice none 0 0] 27)).alloc (.cells #[.bool false, .slice none 0 0] 27)) (w.heap.size + 4) false none 0 0) := by
  obtain ⟨b, x, y, z, u⟩ := start4 w s A n c t B m d
  refine ⟨b.out.alloc b.out.size _, x.out.alloc _, y.out.alloc _, z.out.alloc _, u.out.alloc _, ?_⟩
  have := Zb.new ((((w.alloc (.cells #[.bool s, .slice A n c] 27)).alloc (.cells #[.bool t, .slice B m d] 27)).alloc (.cells #[.bool false, .slice none 0 0] 27)).alloc (.cells #[.bool false, .slice none 0 0] 27)) false none 0 0
  simp only [World.size_alloc] at this
  exact this
theorem sg_abs (x : Int) (u : Int) : (if sg x < 0 then -u else u) * x = ((x.natAbs : Nat) : Int) * u := by
  rcases sg_cases x with ⟨e, h⟩ | ⟨e, h⟩ | ⟨e, h⟩ <;> rw [e]
  · rw [if_pos (by decide)]
    have : ((x.natAbs : Nat) : Int) = -x := by omega
    rw [this, Int.neg_mul, Int.neg_mul, Int.mul_comm]
  · rw [if_neg (by decide), h]; simp
  · rw [if_neg (by decide)]
    have : ((x.natAbs : Nat) : Int) = x := by omega
    rw [this, Int.mul_comm]
theorem ext_ok {x y ax ay g u k uu vv p q : Int} (hx : x ≠ 0) (hy : y ≠ 0) (ex : ((x.natAbs : Nat) : Int) = ax) (ey : ((y.natAbs : Nat) : Int) = ay) (kp : sg x = p) (kq : sg y = q) (eg : g = ((Int.gcd ax ay : Nat) : Int)) (ek : g = ax * u + ay * k)
    (b1 : ((u.natAbs : Nat) : Int) * g ≤ ay) (b2 : ((k.natAbs : Nat) : Int) * g ≤ ax) (eu : (if p < 0 then -u else u) = uu) (ev : (if q < 0 then -k else k) = vv) : ExtOk x y g uu vv := by
  subst ex ey kp kq
  have h1 := sg_abs x u
  have h2 := sg_abs y k
  rw [eu] at h1
  rw [ev] at h2
  have n1 : uu.natAbs = u.natAbs := by rw [← eu]; split <;> omega
  have n2 : vv.natAbs = k.natAbs := by rw [← ev]; split <;> omega
  refine ⟨by rw [eg]; simp [Int.gcd, Int.natAbs_natCast], ?_, .inr (.inr ⟨hy, hx, by rw [n1]; exact b1, by rw [n2]; exact b2⟩)⟩
  rw [Int.mul_comm x uu, Int.mul_comm y vv, h1, h2, ek]
/-- What the first factor and its bound give. -/
theorem ext_facts {ax ay g u k : Int} (hA : 0 < ax) (hB : 0 < ay) (eg : g = ((Int.gcd ax ay : Nat) : Int)) (ek : g = ax * u + ay * k) (hu : u = 0 ∨ 2 * (((u.natAbs : Nat) : Int) * g) ≤ ay) :
    (g - ax * u) / ay = k ∧ ((u.natAbs : Nat) : Int) * g ≤ ay ∧ ((k.natAbs : Nat) : Int) * g ≤ ax ∧ u.natAbs ≤ ay.natAbs ∧ k.natAbs ≤ ax.natAbs ∧ g.natAbs ≤ ax.natAbs ∧ (g - ax * u).natAbs = ay.natAbs * k.natAbs := by
  have g1 : g ≤ ax := by rw [eg]; exact Int.le_of_dvd hA (Int.gcd_dvd_left ..)
  have g2 : g ≤ ay := by rw [eg]; exact Int.le_of_dvd hB (Int.gcd_dvd_right ..)
  have g0 : 0 < g := by
    rw [eg]
    have : 0 < Int.gcd ax ay := Int.gcd_pos_of_ne_zero_left _ (by omega)
    omega
  obtain ⟨a1, a2, a3⟩ := other_factor hA hB g0 g1 ek hu g2
  have up : ∀ z : Int, ((z.natAbs : Nat) : Int) ≤ ((z.natAbs : Nat) : Int) * g := fun z => by
    have := Int.mul_le_mul_of_nonneg_left (show (1 : Int) ≤ g by omega) (show 0 ≤ ((z.natAbs : Nat) : Int) by omega)
    omega
  have u1 := up u
  have u2 := up k
  refine ⟨a1, a2, a3, by omega, by omega, by omega, ?_⟩
  rw [show g - ax * u = ay * k by omega, Int.natAbs_mul]

end Go.Proofs.YtfacndibfkamgaaGreat
