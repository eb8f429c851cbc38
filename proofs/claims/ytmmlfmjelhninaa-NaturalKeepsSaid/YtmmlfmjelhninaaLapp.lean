/-
  Contract of the method apply of natural's step: two rows in place.
-/
import Derived.Test.YtmmlfmjelhninaaLrun
namespace Go.Proofs.Ytmmlfmjelhninaa
open Go.RowKit
set_option linter.unusedVariables false

/-- Nothing that was there has changed, but blocks p and q. -/
def Two (w : World) (p q : Nat) (w' : World) : Prop :=
  w'.os = w.os ∧ w'.tape = w.tape ∧ w'.output = w.output ∧ w.heap.size ≤ w'.heap.size ∧ ∀ i, i < w.heap.size → i ≠ p → i ≠ q → w'.heap[i]? = w.heap[i]?
theorem Two.refl (w : World) (p q : Nat) : Two w p q w := ⟨rfl, rfl, rfl, Nat.le_refl _, fun _ _ _ _ => rfl⟩
theorem Two.set_ {w w' : World} {p q : Nat} (h : Two w p q w') (r o : Nat) (u : Value) (hr : r = p ∨ r = q) : Two w p q (w'.setCell ⟨r, o, none⟩ u) := by
  obtain ⟨h1, h2, h3, h4, h5⟩ := h
  refine ⟨h1, h2, h3, by simpa [World.setCell] using h4, fun i hi hp hq => ?_⟩
  rw [Below.heap_setCell _ _ _ _ (show i ≠ r by omega)]
  exact h5 i hi hp hq
theorem Two.below {w w' : World} {p q lo : Nat} (h : Two w p q w') (hp : lo ≤ p) (hq : lo ≤ q) (hl : lo ≤ w.heap.size) : Below lo w w' :=
  ⟨h.1, h.2.1, h.2.2.1, h.2.2.2.1, fun i hi => h.2.2.2.2 i (by omega) (by omega) (by omega)⟩
theorem Two.drewN {w w' : World} {p q n : Nat} (h : Two w p q w') : Two w p q (w'.drewN n) := h

theorem prod_up {a x : Int} (h0 : 0 ≤ a) (h1 : a ≤ 1073741824) (x0 : 0 ≤ x) (x1 : x ≤ 4294967295) : 0 ≤ a * x ∧ a * x ≤ 4611686018427387904 := by
  have := Int.mul_le_mul h1 x1 x0 (by omega)
  have := Int.mul_nonneg h0 x0
  omega
theorem prod_down {a x : Int} (h0 : a ≤ 0) (h1 : -1073741824 ≤ a) (x0 : 0 ≤ x) (x1 : x ≤ 4294967295) : -4611686018427387904 ≤ a * x ∧ a * x ≤ 0 := by
  have h := prod_up (a := -a) (x := x) (by omega) (by omega) x0 x1
  rw [Int.neg_mul] at h
  omega

def LaInv (w1 : World) (p q : Nat) (zs ws : List Nat) (a b c d : Int) (k : Nat) (cx cy : Int) (wr : World) : Prop :=
  ∃ us vs, Row wr p us ∧ Row wr q vs ∧ us.length = zs.length ∧ vs.length = ws.length ∧ okl us ∧ okl vs ∧ (∀ j, k ≤ j → lim us j = lim zs j) ∧ (∀ j, k ≤ j → lim vs j = lim ws j) ∧
    ((val (us.take k) : Nat) : Int) + cx * ((pw k : Nat) : Int) = a * ((val (zs.take k) : Nat) : Int) + b * ((val (ws.take k) : Nat) : Int) ∧
    ((val (vs.take k) : Nat) : Int) + cy * ((pw k : Nat) : Int) = c * ((val (zs.take k) : Nat) : Int) + d * ((val (ws.take k) : Nat) : Int) ∧ Two w1 p q wr

theorem la_half {us zs ws : List Nat} {a b cx t z : Int} {k : Nat} (hk : k < us.length)
    (he : ((val (us.take k) : Nat) : Int) + cx * ((pw k : Nat) : Int) = a * ((val (zs.take k) : Nat) : Int) + b * ((val (ws.take k) : Nat) : Int))
    (ht : t = cx + (a * ((lim zs k : Nat) : Int) + b * ((lim ws k : Nat) : Int))) (hz : z = t % 4294967296) :
    ((val ((us.set k z.toNat).take (k + 1)) : Nat) : Int) + t / 4294967296 * ((pw (k + 1) : Nat) : Int) = a * ((val (zs.take (k + 1)) : Nat) : Int) + b * ((val (ws.take (k + 1)) : Nat) : Int) := by
  rw [val_take_set hk, val_take_succ', val_take_succ', pw_succ]
  have hz0 : ((z.toNat : Nat) : Int) = t - 4294967296 * (t / 4294967296) := by omega
  simp only [Int.natCast_add, Int.natCast_mul, hz0]
  generalize t / 4294967296 = r at *
  simp only [Int.cast_ofNat_Int]
  grind

theorem la_step {w1 wr : World} {p q : Nat} {zs ws us vs : List Nat} {a b c d cx cy t1 t2 z1 z2 : Int} {k : Nat} (hpq : p ≠ q) (h1 : Row wr p us) (h2 : Row wr q vs) (h3 : us.length = zs.length) (h4 : vs.length = ws.length) (h5 : okl us) (h6 : okl vs)
    (h7 : ∀ j, k ≤ j → lim us j = lim zs j) (h8 : ∀ j, k ≤ j → lim vs j = lim ws j)
    (h9 : ((val (us.take k) : Nat) : Int) + cx * ((pw k : Nat) : Int) = a * ((val (zs.take k) : Nat) : Int) + b * ((val (ws.take k) : Nat) : Int))
    (h10 : ((val (vs.take k) : Nat) : Int) + cy * ((pw k : Nat) : Int) = c * ((val (zs.take k) : Nat) : Int) + d * ((val (ws.take k) : Nat) : Int)) (h11 : Two w1 p q wr) (hk : k < zs.length) (hk' : k < ws.length)
    (ht1 : t1 = cx + (a * ((lim zs k : Nat) : Int) + b * ((lim ws k : Nat) : Int))) (ht2 : t2 = cy + (c * ((lim zs k : Nat) : Int) + d * ((lim ws k : Nat) : Int))) (hz1 : z1 = t1 % 4294967296) (hz2 : z2 = t2 % 4294967296) :
    LaInv w1 p q zs ws a b c d (k + 1) (t1 / 4294967296) (t2 / 4294967296) ((wr.setCell ⟨p, k, none⟩ (.int .u32 z1)).setCell ⟨q, k, none⟩ (.int .u32 z2)) := by
  have e1 : z1 = ((z1.toNat : Nat) : Int) := by omega
  have e2 : z2 = ((z2.toNat : Nat) : Int) := by omega
  have l1 : z1.toNat < 4294967296 := by omega
  have l2 : z2.toNat < 4294967296 := by omega
  refine ⟨us.set k z1.toNat, vs.set k z2.toNat, ?_, ?_, by simpa using h3, by simpa using h4, okl_set h5 l1 _, okl_set h6 l2 _, fun j hj => ?_, fun j hj => ?_, la_half (by omega) h9 ht1 hz1, la_half (by omega) h10 ht2 hz2, (h11.set_ _ _ _ (.inl rfl)).set_ _ _ _ (.inr rfl)⟩
  · have := h1.set_ k z1.toNat
    rw [← e1] at this
    exact this.far (by simpa using hpq) _
  · have := (h2.far (p := ⟨p, k, none⟩) (by simpa using hpq.symm) (.int .u32 z1)).set_ k z2.toNat
    rw [← e2] at this
    exact this
  · rw [lim_set_other (by omega)]; exact h7 j (by omega)
  · rw [lim_set_other (by omega)]; exact h8 j (by omega)

theorem carry_none {V P C R : Int} (h0 : 0 ≤ V) (h1 : V < P) (r0 : 0 ≤ R) (r1 : R < P) (he : V + C * P = R) : V = R := by
  rcases Int.lt_trichotomy C 0 with h | h | h
  · have : C * P ≤ (-1) * P := Int.mul_le_mul_of_nonneg_right (by omega) (by omega)
    omega
  · subst h; omega
  · have : 1 * P ≤ C * P := Int.mul_le_mul_of_nonneg_right (by omega) (by omega)
    omega

/-- What apply leaves. -/
def LaPost (w : World) (p q n lo : Nat) (zs ws : List Nat) (a b c d : Int) (e : Ending) (w' : World) : Prop :=
  e = .returned (.tuple #[]) ∧ ∃ us vs, Row w' p us ∧ Row w' q vs ∧ us.length = zs.length ∧ vs.length = ws.length ∧ okl us ∧ okl vs ∧
    ((val (us.take n) : Nat) : Int) = a * ((val (zs.take n) : Nat) : Int) + b * ((val (ws.take n) : Nat) : Int) ∧
    ((val (vs.take n) : Nat) : Int) = c * ((val (zs.take n) : Nat) : Int) + d * ((val (ws.take n) : Nat) : Int) ∧ Below lo w w'

set_option maxHeartbeats 4000000 in
theorem apply_any (w : World) (p q n cx0 cy0 lo : Nat) (zs ws : List Nat) (a b c d : Int) (h1 : Row w p zs) (h2 : Row w q ws) (hz : okl zs) (hw : okl ws) (hpq : p ≠ q) (hn1 : n ≤ zs.length) (hn2 : n ≤ ws.length) (hn : n ≤ 70368744177664) (hlp : lo ≤ p) (hlq : lo ≤ q)
    (G : StepGood ((val (zs.take n) : Nat) : Int) ((val (ws.take n) : Nat) : Int) a b c d) :
    Calls Try.prog 57 #[.agg #[.int .i64 a, .int .i64 b, .int .i64 c, .int .i64 d], .slice (some ⟨p, 0, none⟩) n cx0, .slice (some ⟨q, 0, none⟩) n cy0] w (LaPost w p q n lo zs ws a b c d) := by
  have hpl := h1.lt
  have hql := h2.lt
  have HR1 := Lib.hid h1
  have HR2 := Lib.hid h2
  obtain ⟨gs, ⟨a1, a2, b1, b2, c1, c2, d1, d2⟩, ⟨t1, t2, t3, t4⟩, gd⟩ := G
  have XLT : Hid (((val (zs.take n) : Nat) : Int) < ((pw n : Nat) : Int)) := by
    have := val_lt (okl_take hz n)
    rw [List.length_take, Nat.min_eq_left hn1] at this
    show _ < _
    omega
  have HT := Lib.hid (And.intro t1 (And.intro t2 t3))
  have HZ := Lib.hid hz
  have HW := Lib.hid hw
  clear h1 h2 t1 t2 t3 t4 gd hz hw
  go_enter Try.func57, Try.ntmps57
  go_wp2
  generalize hw1 : w.alloc _ = w1
  have B1 : Hid (Below w.heap.size w w1) := by rw [← hw1]; exact (Below.refl _ _).alloc (Nat.le_refl _) _
  have S1 : Hid (St w1 w.heap.size a b c d) := by rw [← hw1]; exact heap_alloc_new w _
  have P1 := Lib.hid (HR1.out.below B1.out hpl)
  have Q1 := Lib.hid (HR2.out.below B1.out hql)
  have G1 : w.heap.size < w1.heap.size := lt_of_heap S1.out
  clear hw1
  generalize hg : w.heap.size = g at *
  clear hg
  go_loopw [6, 7, 13] (fun x y i wr => ∃ (k : Nat) (cx cy : Int), k ≤ n ∧ i = .int .i64 k ∧ x = .int .i64 cx ∧ y = .int .i64 cy ∧ -2147483648 ≤ cx ∧ cx ≤ 2147483648 ∧ -2147483648 ≤ cy ∧ cy ≤ 2147483648 ∧ Hid (LaInv w1 p q zs ws a b c d k cx cy wr)) (fun _ _ i _ => n - (intOf i).toNat)
  case atStart => exact ⟨0, 0, 0, Nat.zero_le _, rfl, rfl, rfl, by omega, by omega, by omega, by omega, zs, ws, P1.out, Q1.out, rfl, rfl, HZ.out, HW.out, fun _ _ => rfl, fun _ _ => rfl, by simp [val_nil], by simp [val_nil], Two.refl _ _ _⟩
  case round =>
    obtain ⟨k, cx, cy, hk, rfl, rfl, rfl, x1, x2, y1, y2, INV⟩ := hrel
    by_cases hlt : k < n
    · obtain ⟨us, vs, r1, r2, ul, vl, uo, vo, uj, vj, ue, ve, tw⟩ := INV.out
      have hc1 := r1.cell (i := k) (by omega)
      have hc2 := r2.cell (i := k) (by omega)
      rw [uj k (Nat.le_refl _)] at hc1
      rw [vj k (Nat.le_refl _)] at hc2
      have hf1 := r1.frozen k
      have hf2 := r2.frozen k
      have SW : St wr g a b c d := (tw.2.2.2.2 g G1 (by omega) (by omega)).trans S1.out
      obtain ⟨m1, m2, m3, m4⟩ := SW.cells
      have bx := lim_lt HZ.out k
      have by' := lim_lt HW.out k
      have STEP := Lib.hid (fun n => la_step (wr := wr.drewN n) (t1 := cx + (a * ((lim zs k : Nat) : Int) + b * ((lim ws k : Nat) : Int))) (t2 := cy + (c * ((lim zs k : Nat) : Int) + d * ((lim ws k : Nat) : Int))) hpq r1 r2 ul vl uo vo uj vj ue ve tw (by omega) (by omega) rfl rfl rfl rfl)
      clear r1 r2 ul vl uo vo uj vj ue ve tw SW
      have hqp : q ≠ p := fun e => hpq e.symm
      have X0 : (0 : Int) ≤ ((lim zs k : Nat) : Int) := by omega
      have X1 : ((lim zs k : Nat) : Int) ≤ 4294967295 := by omega
      have Y0 : (0 : Int) ≤ ((lim ws k : Nat) : Int) := by omega
      have Y1 : ((lim ws k : Nat) : Int) ≤ 4294967295 := by omega
      generalize lim zs k = x at *
      generalize lim ws k = y at *
      have SUM : -4611686018427387904 ≤ a * (x : Int) ∧ a * (x : Int) ≤ 4611686018427387904 ∧ -4611686018427387904 ≤ b * (y : Int) ∧ b * (y : Int) ≤ 4611686018427387904 ∧ -4611686018427387904 ≤ a * (x : Int) + b * (y : Int) ∧ a * (x : Int) + b * (y : Int) ≤ 4611686018427387904 ∧
          -4611686018427387904 ≤ c * (x : Int) ∧ c * (x : Int) ≤ 4611686018427387904 ∧ -4611686018427387904 ≤ d * (y : Int) ∧ d * (y : Int) ≤ 4611686018427387904 ∧ -4611686018427387904 ≤ c * (x : Int) + d * (y : Int) ∧ c * (x : Int) + d * (y : Int) ≤ 4611686018427387904 := by
        rcases gs with ⟨g1, g2, g3, g4⟩ | ⟨g1, g2, g3, g4⟩
        · have k1 := prod_up g1 a2 X0 X1
          have k2 := prod_down g2 b1 Y0 Y1
          have k3 := prod_down g3 c1 X0 X1
          have k4 := prod_up g4 d2 Y0 Y1
          omega
        · have k1 := prod_down g1 a1 X0 X1
          have k2 := prod_up g2 b2 Y0 Y1
          have k3 := prod_up g3 c2 X0 X1
          have k4 := prod_down g4 d1 Y0 Y1
          omega
      obtain ⟨u1, u2, u3, u4, u5, u6, u7, u8, u9, u10, u11, u12⟩ := SUM
      go_wp2
      go_quiet (fail)
      go_wp2
      go_roundw
      case rel => exact ⟨k + 1, _, _, by omega, by go_num, rfl, rfl, by omega, by omega, by omega, by omega, STEP.out _⟩
      case measure => simp [intOf]; omega
    · obtain rfl : k = n := by omega
      have FIN : Hid (LaPost w p q k lo zs ws a b c d (.returned (.tuple #[])) wr) := by
        obtain ⟨us, vs, r1, r2, ul, vl, uo, vo, uj, vj, ue, ve, tw⟩ := INV.out
        obtain ⟨t1, t2, t3⟩ := HT.out
        have xlt := XLT.out
        have v1 := val_lt (okl_take uo k)
        have v2 := val_lt (okl_take vo k)
        rw [List.length_take, Nat.min_eq_left (by omega)] at v1 v2
        refine ⟨rfl, us, vs, r1, r2, ul, vl, uo, vo, ?_, ?_, (B1.out.mono (by omega)).trans (tw.below hlp hlq (by omega))⟩
        · exact carry_none (by omega) (by omega) (by omega) (by omega) ue
        · exact carry_none (by omega) (by omega) (by omega) (by omega) ve
      clear INV
      go_wp2
      go_end0
      exact FIN.out
end Go.Proofs.Ytmmlfmjelhninaa
