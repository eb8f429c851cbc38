/-
  Zops, Zadd, Zval, Zdma, Zdm.
-/
import Derived.Test.YtfacndibfkamgaaGreatZA
import Derived.Test.YtfacndibfkamgaaGreatNB
import Derived.Test.YtfacndibfkamgaaGreatNE
import Derived.Test.YtfacndibfkamgaaGreatNA
import Derived.Test.YtfacndibfkamgaaGreatND
/-
  Contracts of package integer: Norm, Neg, Abs, Mul, GCD.
-/
namespace Go.Proofs.YtfacndibfkamgaaGreat
open Go.RowKit
set_option linter.unusedVariables false

set_option maxHeartbeats 2000000 in
theorem mul_z {A B : Option Addr} {n c m d : Nat} {s : Bool} {t : Bool} {w : World} {x y z : Int} (h : Zin w s A n c x) (h' : Zin w (t) B m d y) (hl : n + m ≤ 70368744177664) (hz : x * y = z) :
    Calls Tryz.prog 76 #[.agg #[.bool s, .slice A n c], .agg #[.bool t, .slice B m d]] w (GivesZ w z) := by
  obtain ⟨B2, X2, Y2, R2⟩ := start2 w s A n c (t) B m d
  obtain ⟨xs, hx, hn, ex⟩ := h
  obtain ⟨ys, hy, hm, ey⟩ := h'
  have P2 := Lib.hid (hx.keep (Nat.le_refl _) B2.out)
  have Q2 := Lib.hid (hy.keep (Nat.le_refl _) B2.out)
  have E : Hid (zv (s != t) (val xs * val ys) = z) := by show _ = _; rw [mul_zv, ex, ey, hz]
  clear hx hy ex ey hz
  go_enter Tryz.func76, Tryz.ntmps76
  go_wp2_with fail
  generalize (((w.alloc (.cells #[.bool s, .slice A n c] 27)).alloc (.cells #[.bool t, .slice B m d] 27)).alloc (.cells #[.bool false, .slice none 0 0] 27)) = w2 at *
  have LT := Lib.hid R2.out.lt
  have S2 := Lib.hid (keep2 X2 Y2 (Below.refl (w.heap.size + 2) w2) (by omega) (by omega))
  go_region_held3 (fun w' => w'.cell? ⟨w.heap.size, 0, none⟩ = some (.bool s) ∧ w'.cell? ⟨w.heap.size, 1, none⟩ = some (.slice A n c) ∧ w'.cell? ⟨w.heap.size + 1, 0, none⟩ = some (.bool t) ∧ w'.cell? ⟨w.heap.size + 1, 1, none⟩ = some (.slice B m d))
    (first | exact keep2s X2 Y2 BW.out (by omega) (by omega) | exact keep2 X2 Y2 BW.out (by omega) (by omega) | exact S2.out)
    (first
      | (go_at_call 106; refine Calls.mono (mul_n (xs := xs) (ys := ys) P2.out Q2.out hn hm hl) ?_; rintro e w3 ⟨R, c3, rfl, ho, hb⟩; have BW : Hid (Below (w.heap.size + 2) w2 w3) := (((below_drewN w2.heap.size w2 1).trans hb)).mono (Nat.le_of_lt LT.out))
      | (go_at_call 114; refine Calls.mono (signed_gives (w0 := w2) (v := val xs * val ys) ho ((below_drewN w2.heap.size w2 1).trans hb) E.out rfl) ?_; rintro e w4 ⟨R', c4, rfl, ho', hb'⟩; have BW : Hid (Below (w.heap.size + 2) w2 w4) := hb'.mono (Nat.le_of_lt LT.out); obtain ⟨f0, f1⟩ := (R2.out.below hb' LT.out).frozen; obtain ⟨k0, k1⟩ := (R2.out.below hb' LT.out).cells))
  all_goals
    go_wp2
    exact end_z Tryz.results76 rfl rfl R2 B2 (by omega) ho' hb'
end Go.Proofs.YtfacndibfkamgaaGreat

/-
  Contracts of package integer: Add.
-/
namespace Go.Proofs.YtfacndibfkamgaaGreat
open Go.RowKit
set_option linter.unusedVariables false

set_option maxHeartbeats 2000000 in
theorem add_same {A B : Option Addr} {n c m d : Nat} {s : Bool} {w : World} {x y z : Int} (h : Zin w s A n c x) (h' : Zin w (s) B m d y) (hl : n ≤ 70368744177663) (hl' : m ≤ 70368744177663) (hz : x + y = z) :
    Calls Tryz.prog 75 #[.agg #[.bool s, .slice A n c], .agg #[.bool s, .slice B m d]] w (GivesZ w z) := by
  obtain ⟨B2, X2, Y2, R2⟩ := start2 w s A n c (s) B m d
  obtain ⟨xs, hx, hn, ex⟩ := h
  obtain ⟨ys, hy, hm, ey⟩ := h'
  have P2 := Lib.hid (hx.keep (Nat.le_refl _) B2.out)
  have Q2 := Lib.hid (hy.keep (Nat.le_refl _) B2.out)
  have E : Hid (zv s (val xs + val ys) = z) := by show _ = _; rw [add_zv, ex, ey, hz]
  clear hx hy ex ey hz
  go_enter Tryz.func75, Tryz.ntmps75
  go_wp2_with fail
  generalize (((w.alloc (.cells #[.bool s, .slice A n c] 27)).alloc (.cells #[.bool s, .slice B m d] 27)).alloc (.cells #[.bool false, .slice none 0 0] 27)) = w2 at *
  have LT := Lib.hid R2.out.lt
  have S2 := Lib.hid (keep2 X2 Y2 (Below.refl (w.heap.size + 2) w2) (by omega) (by omega))
  go_region_held3 (fun w' => w'.cell? ⟨w.heap.size, 0, none⟩ = some (.bool s) ∧ w'.cell? ⟨w.heap.size, 1, none⟩ = some (.slice A n c) ∧ w'.cell? ⟨w.heap.size + 1, 0, none⟩ = some (.bool s) ∧ w'.cell? ⟨w.heap.size + 1, 1, none⟩ = some (.slice B m d))
    (first | exact keep2s X2 Y2 BW.out (by omega) (by omega) | exact keep2 X2 Y2 BW.out (by omega) (by omega) | exact S2.out)
    (first
      | (go_at_call 118; refine Calls.mono (add_n (xs := xs) (ys := ys) P2.out Q2.out hn hm hl hl') ?_; rintro e w3 ⟨R, c3, rfl, ho, hb⟩; have BW : Hid (Below (w.heap.size + 2) w2 w3) := (((below_drewN w2.heap.size w2 1).trans hb)).mono (Nat.le_of_lt LT.out))
      | (go_at_call 114; refine Calls.mono (signed_gives (w0 := w2) (v := val xs + val ys) ho ((below_drewN w2.heap.size w2 1).trans hb) E.out rfl) ?_; rintro e w4 ⟨R', c4, rfl, ho', hb'⟩; have BW : Hid (Below (w.heap.size + 2) w2 w4) := hb'.mono (Nat.le_of_lt LT.out); obtain ⟨f0, f1⟩ := (R2.out.below hb' LT.out).frozen; obtain ⟨k0, k1⟩ := (R2.out.below hb' LT.out).cells))
  all_goals
    go_wp2
    exact end_z Tryz.results75 rfl rfl R2 B2 (by omega) ho' hb'
set_option maxHeartbeats 2000000 in
theorem add_more {A B : Option Addr} {n c m d : Nat} {s : Bool} {w : World} {x y z : Int} (h : Zin w s A n c x) (h' : Zin w (!s) B m d y) (hl : n ≤ 70368744177663) (hl' : m ≤ 70368744177663) (hv : y.natAbs ≤ x.natAbs) (hz : x + y = z) :
    Calls Tryz.prog 75 #[.agg #[.bool s, .slice A n c], .agg #[.bool !s, .slice B m d]] w (GivesZ w z) := by
  obtain ⟨B2, X2, Y2, R2⟩ := start2 w s A n c (!s) B m d
  obtain ⟨xs, hx, hn, ex⟩ := h
  obtain ⟨ys, hy, hm, ey⟩ := h'
  have P2 := Lib.hid (hx.keep (Nat.le_refl _) B2.out)
  have Q2 := Lib.hid (hy.keep (Nat.le_refl _) B2.out)
  rw [← ex, ← ey, zv_abs, zv_abs] at hv
  have HV := Lib.hid hv
  have E : Hid (zv s (val xs - val ys) = z) := by show _ = _; rw [sub_zv hv, ex, ey, hz]
  have NE : (s == !s) = false := by cases s <;> rfl
  clear hx hy ex ey hv hz
  go_enter Tryz.func75, Tryz.ntmps75
  go_wp2_with fail
  generalize (((w.alloc (.cells #[.bool s, .slice A n c] 27)).alloc (.cells #[.bool (!s), .slice B m d] 27)).alloc (.cells #[.bool false, .slice none 0 0] 27)) = w2 at *
  have LT := Lib.hid R2.out.lt
  obtain ⟨x0, x1⟩ := X2.out.cells
  obtain ⟨y0, y1⟩ := Y2.out.cells
  go_wp2_with (first | (go_at_call 119; refine Calls.mono (sub_yes_n (xs := xs) (ys := ys) P2.out Q2.out hn hm hl HV.out) ?_; rintro e w3 ⟨R, c3, rfl, ho, hb⟩; have C0 := (hb.cell (p := ⟨w.heap.size, 0, none⟩) (Nat.lt_of_succ_lt (Nat.lt_of_succ_lt LT.out))).trans x0) | (go_at_call 114; refine Calls.mono (signed_gives (w0 := w2) (v := val xs - val ys) ho hb E.out rfl) ?_; rintro e w4 ⟨R', c4, rfl, ho', hb'⟩; have BW : Hid (Below (w.heap.size + 2) w2 w4) := hb'.mono (Nat.le_of_lt LT.out); obtain ⟨f0, f1⟩ := (R2.out.below hb' LT.out).frozen; obtain ⟨k0, k1⟩ := (R2.out.below hb' LT.out).cells))
  all_goals
    exact end_z Tryz.results75 rfl rfl R2 B2 (by omega) ho' hb'
set_option maxHeartbeats 2000000 in
theorem add_less {A B : Option Addr} {n c m d : Nat} {s : Bool} {w : World} {x y z : Int} (h : Zin w s A n c x) (h' : Zin w (!s) B m d y) (hl : n ≤ 70368744177663) (hl' : m ≤ 70368744177663) (hv : x.natAbs < y.natAbs) (hz : x + y = z) :
    Calls Tryz.prog 75 #[.agg #[.bool s, .slice A n c], .agg #[.bool !s, .slice B m d]] w (GivesZ w z) := by
  obtain ⟨B2, X2, Y2, R2⟩ := start2 w s A n c (!s) B m d
  obtain ⟨xs, hx, hn, ex⟩ := h
  obtain ⟨ys, hy, hm, ey⟩ := h'
  have P2 := Lib.hid (hx.keep (Nat.le_refl _) B2.out)
  have Q2 := Lib.hid (hy.keep (Nat.le_refl _) B2.out)
  rw [← ex, ← ey, zv_abs, zv_abs] at hv
  have HV := Lib.hid hv
  have HW := Lib.hid (Nat.le_of_lt hv)
  have E : Hid (zv (!s) (val ys - val xs) = z) := by show _ = _; rw [sub_zv' (Nat.le_of_lt hv), ex, ey, hz]
  have NE : (s == !s) = false := by cases s <;> rfl
  clear hx hy ex ey hv hz
  go_enter Tryz.func75, Tryz.ntmps75
  go_wp2_with fail
  generalize (((w.alloc (.cells #[.bool s, .slice A n c] 27)).alloc (.cells #[.bool (!s), .slice B m d] 27)).alloc (.cells #[.bool false, .slice none 0 0] 27)) = w2 at *
  have LT := Lib.hid R2.out.lt
  obtain ⟨x0, x1⟩ := X2.out.cells
  obtain ⟨y0, y1⟩ := Y2.out.cells
  have L0 := Lib.hid (Nat.lt_of_succ_lt (Nat.lt_of_succ_lt LT.out))
  have L1 := Lib.hid (Nat.lt_of_succ_lt LT.out)
  refine (sub_no_n (xs := xs) (ys := ys) P2.out Q2.out hn hm HV.out).mono ?_
  rintro e w3 ⟨rfl, hb3⟩
  have P3 := Lib.hid (P2.out.below hb3)
  have Q3 := Lib.hid (Q2.out.below hb3)
  have B3 : Hid (Below w2.heap.size w2 w3) := hb3
  have X3 := Lib.hid (X2.out.below hb3 L0.out)
  have Y3 := Lib.hid (Y2.out.below hb3 L1.out)
  obtain ⟨x0, x1⟩ := X3.out.cells
  obtain ⟨y0, y1⟩ := Y3.out.cells
  clear hb3
  go_wp2_with (first | (go_at_call 119; refine Calls.mono (sub_yes_n (xs := ys) (ys := xs) Q3.out P3.out hm hn hl' HW.out) ?_; rintro e w4 ⟨R, c4, rfl, ho, hb⟩; have C0 := (hb.cell (p := ⟨w.heap.size + 1, 0, none⟩) (Y3.out.lt)).trans y0) | (go_at_call 114; refine Calls.mono (signed_gives (w0 := w2) (v := val ys - val xs) (ho.mono B3.out.size) (B3.out.trans (hb.mono B3.out.size)) E.out rfl) ?_; rintro e w5 ⟨R', c5, rfl, ho', hb'⟩; obtain ⟨f0, f1⟩ := (R2.out.below hb' LT.out).frozen; obtain ⟨k0, k1⟩ := (R2.out.below hb' LT.out).cells))
  all_goals
    exact end_z Tryz.results75 rfl rfl R2 B2 (by omega) ho' hb'
theorem add_z {A B : Option Addr} {n c m d : Nat} {s t : Bool} {w : World} {x y z : Int} (h : Zin w s A n c x) (h' : Zin w t B m d y) (hl : n ≤ 70368744177663) (hl' : m ≤ 70368744177663) (hz : x + y = z) :
    Calls Tryz.prog 75 #[.agg #[.bool s, .slice A n c], .agg #[.bool t, .slice B m d]] w (GivesZ w z) := by
  by_cases e : t = s
  · subst e; exact add_same h h' hl hl' hz
  · obtain rfl : t = !s := by cases s <;> cases t <;> simp_all
    rcases Nat.lt_or_ge x.natAbs y.natAbs with hv | hv
    · exact add_less h h' hl hl' hv hz
    · exact add_more h h' hl hl' hv hz
end Go.Proofs.YtfacndibfkamgaaGreat

/-
  Contracts of package integer: Sub, Compare, FromInt, Value.
-/
namespace Go.Proofs.YtfacndibfkamgaaGreat
open Go.RowKit
set_option linter.unusedVariables false

set_option maxHeartbeats 2000000 in
theorem sub_z {A B : Option Addr} {n c m d : Nat} {s t : Bool} {w : World} {x y z : Int} (h : Zin w s A n c x) (h' : Zin w t B m d y) (hl : n ≤ 70368744177663) (hl' : m ≤ 70368744177663) (hz : x - y = z) :
    Calls Tryz.prog 159 #[.agg #[.bool s, .slice A n c], .agg #[.bool t, .slice B m d]] w (GivesZ w z) := by
  obtain ⟨B2, X2, Y2, R2⟩ := start2 w s A n c (!t) B m d
  have P2 := Lib.hid (h.below B2.out)
  have Q2 : Hid (Zin (((w.alloc (.cells #[.bool s, .slice A n c] 27)).alloc (.cells #[.bool (!t), .slice B m d] 27)).alloc (.cells #[.bool false, .slice none 0 0] 27)) (!t) B m d (-y)) := by
    obtain ⟨ys, hy, hm, ey⟩ := h'.below B2.out
    exact ⟨ys, hy, hm, by rw [not_zv, ey]⟩
  have E : Hid (x + -y = z) := by show _ = _; omega
  clear h h' hz
  go_enter Tryz.func159, Tryz.ntmps159
  go_wp2_with fail
  generalize (((w.alloc (.cells #[.bool s, .slice A n c] 27)).alloc (.cells #[.bool (!t), .slice B m d] 27)).alloc (.cells #[.bool false, .slice none 0 0] 27)) = w2 at *
  have LT := Lib.hid R2.out.lt
  go_wp2_with (refine Calls.mono (add_z P2.out Q2.out hl hl' E.out) ?_; rintro e w4 ⟨R', c4, rfl, ho', hb'⟩; obtain ⟨f0, f1⟩ := (R2.out.below hb' LT.out).frozen; obtain ⟨k0, k1⟩ := (R2.out.below hb' LT.out).cells)
  all_goals
    exact end_z Tryz.results159 rfl rfl R2 B2 (by omega) ho' hb'

theorem uint64_yes_n {A : Option Addr} {cap n : Nat} {xs : List Nat} {w : World} (h : Rd w A cap xs) (hn : xs.length = n) (hv : val xs < 18446744073709551616) :
    Calls Tryz.prog 161 #[.slice A n cap] w fun e w' => e = .returned (.tuple #[.int .u64 ((val xs : Nat) : Int), .bool true]) ∧ ∃ n, w' = w.drewN n := by
  subst hn; exact uint64_yes A cap xs w h hv
theorem uint64_no_n {A : Option Addr} {cap n : Nat} {xs : List Nat} {w : World} (h : Rd w A cap xs) (hn : xs.length = n) (hv : 18446744073709551616 ≤ val xs) :
    Calls Tryz.prog 161 #[.slice A n cap] w fun e w' => e = .returned (.tuple #[.int .u64 0, .bool false]) ∧ ∃ n, w' = w.drewN n := by
  subst hn; exact uint64_no A cap xs w h hv
theorem sign_z {A : Option Addr} {c n : Nat} {s : Bool} {w : World} {z : Int} (h : Zin w s A n c z) :
    Calls Tryz.prog 74 #[.agg #[.bool s, .slice A n c]] w fun e w' => e = .returned (.int .i64 (sg z)) ∧ Below w.heap.size w w' := by
  obtain ⟨xs, h1, h2, h3⟩ := h
  exact sign_n h1 h2 h3

set_option maxHeartbeats 2000000 in
theorem compare_z {A B : Option Addr} {n c m d : Nat} {s t : Bool} {w : World} {x y : Int} (h : Zin w s A n c x) (h' : Zin w t B m d y) :
    Calls Tryz.prog 111 #[.agg #[.bool s, .slice A n c], .agg #[.bool t, .slice B m d]] w fun e w' => e = .returned (.int .i64 (sg (x - y))) ∧ Below w.heap.size w w' := by
  obtain ⟨B2, X2, Y2⟩ := begin2 w s A n c t B m d
  have P2 := Lib.hid (h.keep (Nat.le_refl _) B2.out)
  have Q2 := Lib.hid (h'.keep (Nat.le_refl _) B2.out)
  obtain ⟨xs, hx, hn, ex⟩ := h
  obtain ⟨ys, hy, hm, ey⟩ := h'
  have HX := Lib.hid (hx.keep (Nat.le_refl _) B2.out)
  have HY := Lib.hid (hy.keep (Nat.le_refl _) B2.out)
  have EX := Lib.hid ex
  have EY := Lib.hid ey
  clear hx hy ex ey
  have HP : Hid (sg x < sg y → sg (x - y) = -1) := sg_lt
  have HQ : Hid (sg y < sg x → sg (x - y) = 1) := sg_gt
  have HE : Hid (sg x = sg y → sg x * cmp (val xs) (val ys) = sg (x - y)) := by
    have a := EX.out
    have b := EY.out
    subst a b
    exact sg_mul_cmp
  have HR : Hid (-1 ≤ sg x * cmp (val xs) (val ys) ∧ sg x * cmp (val xs) (val ys) ≤ 1) := sg_cmp_range _ _ _
  have BX : Hid (-1 ≤ sg x ∧ sg x ≤ 1) := sg_range _
  have BY : Hid (-1 ≤ sg y ∧ sg y ≤ 1) := sg_range _
  go_enter Tryz.func111, Tryz.ntmps111
  go_wp2_with fail
  generalize ((w.alloc (.cells #[.bool s, .slice A n c] 27)).alloc (.cells #[.bool t, .slice B m d] 27)) = w2 at *
  have S2 := Lib.hid (keep2 X2 Y2 (Below.refl (w.heap.size + 2) w2) (by omega) (by omega))
  have LT := Lib.hid Y2.out.lt
  have B0 := Lib.hid (Below.refl w2.heap.size w2)
  go_region_held3 (fun w' => w'.cell? ⟨w.heap.size, 0, none⟩ = some (.bool s) ∧ w'.cell? ⟨w.heap.size, 1, none⟩ = some (.slice A n c) ∧ w'.cell? ⟨w.heap.size + 1, 0, none⟩ = some (.bool t) ∧ w'.cell? ⟨w.heap.size + 1, 1, none⟩ = some (.slice B m d))
    (first | exact keep2 X2 Y2 BW.out (Nat.lt_of_succ_lt LT.out) LT.out | exact S2.out)
    (first
      | (go_at_call 74; with_reducible refine Calls.mono (sign_z (s := s) (A := A) (n := n) (c := c) (z := x) ?_) ?_; exact P2.out.drew; rintro e w3 ⟨rfl, hb⟩; have BW := below_drew hb; clear hb)
      | (go_at_call 74; with_reducible refine Calls.mono (sign_z (s := t) (A := B) (n := m) (c := d) (z := y) ?_) ?_; exact Q2.out.below BW.out; rintro e w4 ⟨rfl, hb⟩; have BW' := Lib.hid (BW.out.trans (hb.mono BW.out.size)); clear hb BW; have BW := BW'))
  have BZ : Hid (Below w.heap.size w w4) := B2.out.trans (BW.out.mono B2.out.size)
  obtain ⟨x0, x1, y0, y1⟩ := keep2 X2 Y2 BW.out (Nat.lt_of_succ_lt LT.out) LT.out
  generalize hp : sg x = p at *
  generalize hq : sg y = q at *
  clear hp hq
  rcases Int.lt_trichotomy p q with h1 | h1 | h1
  · go_wp2
    go_ret
    exact ⟨ret_int (HP.out h1).symm, BZ.out⟩
  · subst h1
    have HXB := Lib.hid (HX.out.below BW.out)
    have HYB := Lib.hid (HY.out.below BW.out)
    have C := Lib.hid (compare_n HXB.out HYB.out hn hm)
    have r1 := HR.out.1
    have r2 := HR.out.2
    have hz := Lib.hid (HE.out rfl)
    generalize cmp (val xs) (val ys) = k at *
    go_wp2_with fail
    refine C.out.mono ?_
    rintro e w5 ⟨rfl, hq5⟩
    have B5 := Lib.hid (BZ.out.trans ((below_q hq5).mono BZ.out.size))
    clear hq5
    go_wp2
    go_ret
    exact ⟨ret_int hz.out, B5.out⟩
  · have h2 : ¬ p < q := by omega
    go_wp2
    go_ret
    exact ⟨ret_int (HQ.out h1).symm, BZ.out⟩

set_option maxHeartbeats 2000000 in
theorem fromInt_z {v z : Int} (hv : -9223372036854775808 ≤ v ∧ v ≤ 9223372036854775807) (hz : v = z) (w : World) :
    Calls Tryz.prog 72 #[.int .i64 v] w (GivesZ w z) := by
  have R2 := Lib.hid (Zb.new w false none 0 0)
  have B2 := Lib.hid ((Below.refl w.heap.size w).alloc (Nat.le_refl _) (.cells #[.bool false, .slice none 0 0] 27))
  obtain ⟨v0, v1⟩ := hv
  rcases Int.lt_or_le v 0 with h0 | h0
  · have HW : Hid (IntKind.u64.wrap (-IntKind.u64.wrap v) = ((v.natAbs : Nat) : Int)) := by show _ = _; rw [IntKind.wrap_u64, IntKind.wrap_u64]; omega
    have HV : Hid (v.natAbs < 18446744073709551616) := by show _ < _; omega
    have E : Hid (zv true v.natAbs = z) := by show _ = _; unfold zv; simp; omega
    clear hz
    go_enter Tryz.func72, Tryz.ntmps72
    go_wp2_with fail
    generalize (w.alloc (.cells #[.bool false, .slice none 0 0] 27)) = w2 at *
    generalize IntKind.u64.wrap (-IntKind.u64.wrap v) = u at *
    have LT := Lib.hid R2.out.lt
    go_wp2_with (first | (go_at_call 115; refine Calls.mono (from_z (v := v.natAbs) HW.out HV.out) ?_; rintro e w3 ⟨R, c3, rfl, ho, hb⟩) | (go_at_call 114; refine Calls.mono (signed_gives (w0 := w2) (v := v.natAbs) ho hb E.out rfl) ?_; rintro e w4 ⟨R', c4, rfl, ho', hb'⟩; obtain ⟨f0, f1⟩ := (R2.out.below hb' LT.out).frozen; obtain ⟨k0, k1⟩ := (R2.out.below hb' LT.out).cells))
    exact end_z Tryz.results72 rfl rfl R2 B2 (Nat.le_refl _) ho' hb'
  · have HW : Hid (v = ((v.natAbs : Nat) : Int)) := by show _ = _; omega
    have HV : Hid (v.natAbs < 18446744073709551616) := by show _ < _; omega
    have E : Hid (zv false v.natAbs = z) := by show _ = _; unfold zv; simp; omega
    clear hz
    go_enter Tryz.func72, Tryz.ntmps72
    go_wp2_with fail
    generalize (w.alloc (.cells #[.bool false, .slice none 0 0] 27)) = w2 at *
    have LT := Lib.hid R2.out.lt
    go_wp2_with (first | (go_at_call 115; refine Calls.mono (from_z (v := v.natAbs) HW.out HV.out) ?_; rintro e w3 ⟨R, c3, rfl, ho, hb⟩) | (go_at_call 114; refine Calls.mono (signed_gives (w0 := w2) (v := v.natAbs) ho hb E.out rfl) ?_; rintro e w4 ⟨R', c4, rfl, ho', hb'⟩; obtain ⟨f0, f1⟩ := (R2.out.below hb' LT.out).frozen; obtain ⟨k0, k1⟩ := (R2.out.below hb' LT.out).cells))
    exact end_z Tryz.results72 rfl rfl R2 B2 (Nat.le_refl _) ho' hb'

end Go.Proofs.YtfacndibfkamgaaGreat

/-
  Contract of integer.DivMod.
-/
namespace Go.Proofs.YtfacndibfkamgaaGreat
open Go.RowKit
set_option linter.unusedVariables false

/-- Two integers in new memory, and true. -/
def GivesQ (w : World) (q r : Int) (e : Ending) (w' : World) : Prop :=
  ∃ R c R' c', e = .returned (.tuple #[.agg #[.bool (decide (q < 0)), .slice R (ofv q.natAbs).length c], .agg #[.bool (decide (r < 0)), .slice R' (ofv r.natAbs).length c'], .bool true]) ∧ Own w' w.heap.size R c (ofv q.natAbs) ∧ Own w' w.heap.size R' c' (ofv r.natAbs) ∧ Below w.heap.size w w'
/-- Zero values, and false. -/
def GivesN (w : World) (e : Ending) (w' : World) : Prop :=
  e = .returned (.tuple #[.agg #[.bool false, .slice none 0 0], .agg #[.bool false, .slice none 0 0], .bool false]) ∧ Below w.heap.size w w'
theorem ret_zb3 {fn : Func} {R : Ending → World → Prop} {a : Act} {w : World} {k l j g g' n c n' c' : Nat} {s s' b : Bool} {A A' : Option Addr} (hf : fn.results = #[.cell k 27, .cell l 27, .tmp j]) (hd : a.defers = [])
    (hk : (a.tmps[k]?).getD undef = .pointer (some ⟨g, 0, none⟩)) (hl : (a.tmps[l]?).getD undef = .pointer (some ⟨g', 0, none⟩)) (hj : (a.tmps[j]?).getD undef = .bool b) (h : Zb w g s A n c) (h' : Zb w g' s' A' n' c')
    (hR : R (.returned (.tuple #[.agg #[.bool s, .slice A n c], .agg #[.bool s', .slice A' n' c'], .bool b])) w) : bodyPost Tryz.prog fn R .ret a w := by
  obtain ⟨z1, z2⟩ := h.cells
  obtain ⟨z3, z4⟩ := h'.cells
  exact bodyPost_ret_by (v := .tuple #[.agg #[.bool s, .slice A n c], .agg #[.bool s', .slice A' n' c'], .bool b]) (by simp [results, hf, go_sem, hk, hl, hj, z1, z2, z3, z4]) hd hR
theorem start4 (w : World) (s : Bool) (A : Option Addr) (n c : Nat) (t : Bool) (B : Option Addr) (m d : Nat) :
    Hid (Below w.heap.size w ((((w.alloc (.cells #[.bool s, .slice A n c] 27)).alloc (.cells #[.bool t, .slice B m d] 27)).alloc (.cells #[.bool false, .slice none 0 0] 27)).alloc (.cells #[.bool false, .slice none 0 0] 27))) ∧ Hid (Zb ((((w.alloc (.cells #[.bool s, .slice A n c] 27)).alloc (.cells #[.bool t, .slice B m d] 27)).alloc (.cells #[.bool false, .slice none 0 0] 27)).alloc (.cells #[.bool false, .slice none 0 0] 27)) w.heap.size s A n c) ∧ Hid (Zb ((((w.alloc (.cells #[.bool s, .slice A n c] 27)).alloc (.cells #[.bool t, .slice B m d] 27)).alloc (.cells #[.bool false, .slice none 0 0] 27)).alloc (.cells #[.bool false, .slice none 0 0] 27)) (w.heap.size + 1) t B m d) ∧ Hid (Zb ((((w.alloc (.cells #[.bool s, .slice A n c] 27)).alloc (.cells #[.bool t, .slice B m d] 27)).alloc (.cells #[.bool false, .slice none 0 0] 27)).alloc (.cells #[.bool false, .slice none 0 0] 27)) (w.heap.size + 2) false none 0 0) ∧ Hid (Zb ((((w.alloc (.cells #[.bool s, .slice A n c] 27)).alloc (.cells #[.bool t, .slice B m d] 27)).alloc (.cells #[.bool false, .slice none 0 0] 27)).alloc (.cells #[.bool false, .slice none 0 0] 27)) (w.heap.size + 3) false none 0 0) := by
  obtain ⟨b, x, y, z⟩ := start2 w s A n c t B m d
  refine ⟨b.out.alloc b.out.size _, x.out.alloc _, y.out.alloc _, z.out.alloc _, ?_⟩
  have := Zb.new (((w.alloc (.cells #[.bool s, .slice A n c] 27)).alloc (.cells #[.bool t, .slice B m d] 27)).alloc (.cells #[.bool false, .slice none 0 0] 27)) false none 0 0
  simp only [World.size_alloc] at this
  exact this
theorem end_q {fn : Func} {w w2 w5 : World} {a : Act} {k l j n0 c0 n1 c1 c c' g : Nat} {s0 s1 : Bool} {A0 A1 R R' : Option Addr} {q r : Int} (hf : fn.results = #[.cell k 27, .cell l 27, .tmp j]) (hd : a.defers = [])
    (hk : (a.tmps[k]?).getD undef = .pointer (some ⟨g, 0, none⟩)) (hl : (a.tmps[l]?).getD undef = .pointer (some ⟨g + 1, 0, none⟩)) (hj : (a.tmps[j]?).getD undef = .bool true)
    (Y : Hid (Zb w2 g s0 A0 n0 c0)) (Z : Hid (Zb w2 (g + 1) s1 A1 n1 c1)) (B : Hid (Below w.heap.size w w2)) (hg : w.heap.size ≤ g)
    (ho : Own w5 w2.heap.size R c (ofv q.natAbs)) (ho' : Own w5 w2.heap.size R' c' (ofv r.natAbs)) (hb : Below w2.heap.size w2 w5) :
    bodyPost Tryz.prog fn (GivesQ w q r) .ret a ((((w5.setCell ⟨g, 0, none⟩ (.bool (decide (q < 0)))).setCell ⟨g, 1, none⟩ (.slice R (ofv q.natAbs).length c)).setCell ⟨g + 1, 0, none⟩ (.bool (decide (r < 0)))).setCell ⟨g + 1, 1, none⟩ (.slice R' (ofv r.natAbs).length c')) := by
  have h1 := Y.out.lt
  have h2 := Z.out.lt
  have K1 := (((Y.out.below hb h1).lit (decide (q < 0)) R (ofv q.natAbs).length c).far (p := ⟨g + 1, 0, none⟩) (by simp) (.bool (decide (r < 0)))).far (p := ⟨g + 1, 1, none⟩) (by simp) (.slice R' (ofv r.natAbs).length c')
  have K2 := (((Z.out.below hb h2).far (p := ⟨g, 0, none⟩) (by simp) (.bool (decide (q < 0)))).far (p := ⟨g, 1, none⟩) (by simp) (.slice R (ofv q.natAbs).length c)).lit (decide (r < 0)) R' (ofv r.natAbs).length c'
  refine ret_zb3 hf hd hk hl hj K1 K2 ⟨R, c, R', c', rfl, ((((ho.set_low h1 _).set_low h1 _).set_low h2 _).set_low h2 _).mono B.out.size, ((((ho'.set_low h1 _).set_low h1 _).set_low h2 _).set_low h2 _).mono B.out.size, ?_⟩
  exact ((((B.out.trans (hb.mono B.out.size)).setCell (p := ⟨g, 0, none⟩) hg _).setCell (p := ⟨g, 1, none⟩) hg _).setCell (p := ⟨g + 1, 0, none⟩) (by show _ ≤ g + 1; omega) _).setCell (p := ⟨g + 1, 1, none⟩) (by show _ ≤ g + 1; omega) _
theorem dm_zero_n {A B : Option Addr} {ca cb n m : Nat} {xs ys : List Nat} {w : World} (h : Rd w A ca xs) (h' : Rd w B cb ys) (hn : xs.length = n) (hm : ys.length = m) (hv : val ys = 0) :
    Calls Tryz.prog 104 #[.slice A n ca, .slice B m cb] w (GivesF2 w) := by
  subst hn hm; exact dm_zero A B ca cb xs ys w h h' hv
/-- Quotient and remainder are told by their equation. -/
theorem divmod_unique {x y q r : Int} (he : q * y + r = x) (h0 : 0 ≤ r) (h1 : r < (y.natAbs : Int)) (hy : y ≠ 0) : q = x / y ∧ r = x % y := by
  have e1 : x % y = r := by
    have e : x = r + y * q := by rw [← he, Int.mul_comm]; omega
    rw [e, Int.add_mul_emod_self_left]
    rcases Int.lt_or_le y 0 with hn | hn
    · rw [← Int.emod_neg]
      exact Int.emod_eq_of_lt h0 (by omega)
    · exact Int.emod_eq_of_lt h0 (by omega)
  refine ⟨?_, e1.symm⟩
  have e2 := Int.mul_ediv_add_emod x y
  rw [e1] at e2
  exact Int.eq_of_mul_eq_mul_left hy (by rw [Int.mul_comm]; omega)
end Go.Proofs.YtfacndibfkamgaaGreat

/-
  Contract of integer.DivMod.
-/
namespace Go.Proofs.YtfacndibfkamgaaGreat
open Go.RowKit
set_option linter.unusedVariables false

theorem zero_z {A B : Option Addr} {n c m d : Nat} {s t : Bool} {w : World} {x : Int} (h : Zin w s A n c x) (h' : Zin w t B m d 0) :
    Calls Tryz.prog 113 #[.agg #[.bool s, .slice A n c], .agg #[.bool t, .slice B m d]] w (GivesN w) := by
  obtain ⟨B2, X2, Y2, R2, S2⟩ := start4 w s A n c t B m d
  obtain ⟨xs, hx, hn, ex⟩ := h
  obtain ⟨ys, hy, hm, ey⟩ := h'
  have P2 := Lib.hid (hx.keep (Nat.le_refl _) B2.out)
  have Q2 := Lib.hid (hy.keep (Nat.le_refl _) B2.out)
  have HV := Lib.hid (zv_eq_zero.1 ey)
  clear hx hy ex ey
  go_enter Tryz.func113, Tryz.ntmps113
  go_wp2_with fail
  generalize ((((w.alloc (.cells #[.bool s, .slice A n c] 27)).alloc (.cells #[.bool t, .slice B m d] 27)).alloc (.cells #[.bool false, .slice none 0 0] 27)).alloc (.cells #[.bool false, .slice none 0 0] 27)) = w2 at *
  refine (dm_zero_n P2.out Q2.out hn hm HV.out).mono ?_
  rintro e w3 ⟨rfl, hb⟩
  have h1 := R2.out.lt
  have h2 := S2.out.lt
  have K1 := Lib.hid (R2.out.below hb h1)
  have K2 := Lib.hid (S2.out.below hb h2)
  have B3 := Lib.hid (B2.out.trans (hb.mono B2.out.size))
  obtain ⟨f0, f1⟩ := K1.out.frozen
  obtain ⟨k0, k1⟩ := K1.out.cells
  obtain ⟨f2, f3⟩ := K2.out.frozen
  obtain ⟨k2, k3⟩ := K2.out.cells
  clear hb h1 h2
  go_wp2
  refine ret_zb3 Tryz.results113 rfl rfl rfl rfl (((K1.out.lit _ _ _ _).far (by simp) _).far (by simp) _) (((K2.out.far (by simp) _).far (by simp) _).lit _ _ _ _) ⟨rfl, ?_⟩
  exact (((B3.out.setCell (p := ⟨w.heap.size + 2, 0, none⟩) (by show _ ≤ w.heap.size + 2; omega) _).setCell (p := ⟨w.heap.size + 2, 1, none⟩) (by show _ ≤ w.heap.size + 2; omega) _).setCell (p := ⟨w.heap.size + 3, 0, none⟩) (by show _ ≤ w.heap.size + 3; omega) _).setCell (p := ⟨w.heap.size + 3, 1, none⟩) (by show _ ≤ w.heap.size + 3; omega) _
set_option maxHeartbeats 4000000 in
theorem dm_plus {A B : Option Addr} {n c m d : Nat} {t : Bool} {w : World} {xs ys : List Nat} {q r : Int} (hx : Rd w A c xs) (hn : xs.length = n) (hy : Rd w B d ys) (hm : ys.length = m) (hl : n ≤ 70368744177660) (hl' : m ≤ 70368744177660) (h0 : 0 < val ys) (hyp : True)
    (hq : zv t (val xs / val ys) = q) (hr : zv false (val xs % val ys) = r) :
    Calls Tryz.prog 113 #[.agg #[.bool false, .slice A n c], .agg #[.bool t, .slice B m d]] w (GivesQ w q r) := by
  obtain ⟨B2, X2, Y2, R2, S2⟩ := start4 w false A n c t B m d
  have P2 := Lib.hid (hx.keep (Nat.le_refl _) B2.out)
  have Q2 := Lib.hid (hy.keep (Nat.le_refl _) B2.out)
  have lx := len_ofv_le hx.ok
  have ly := len_ofv_le hy.ok
  have HV := Lib.hid h0
  have HS := Lib.hid hyp
  have EQ := Lib.hid hq
  have ER := Lib.hid hr
  have HN := Lib.hid hn
  have HM := Lib.hid hm
  have LQ : Hid ((ofv (val xs / val ys)).length ≤ 70368744177660) := by
    have := len_mono (Nat.div_le_self (val xs) (val ys))
    show _ ≤ _
    omega
  clear hx hy hq hr hn hm lx ly h0 hyp
  go_enter Tryz.func113, Tryz.ntmps113
  go_wp2_with fail
  generalize ((((w.alloc (.cells #[.bool false, .slice A n c] 27)).alloc (.cells #[.bool t, .slice B m d] 27)).alloc (.cells #[.bool false, .slice none 0 0] 27)).alloc (.cells #[.bool false, .slice none 0 0] 27)) = w2 at *
  refine (dm_n P2.out Q2.out HN.out HM.out (by omega) HV.out).mono ?_
  rintro e w3 ⟨R, c3, R', c4, rfl, ho, ho', hb⟩
  have B3 := Lib.hid hb
  have O3 := Lib.hid ho
  have O4 := Lib.hid ho'
  have X3 := Lib.hid (X2.out.below hb X2.out.lt)
  have Y3 := Lib.hid (Y2.out.below hb Y2.out.lt)
  obtain ⟨x0, x1⟩ := X3.out.cells
  obtain ⟨y0, y1⟩ := Y3.out.cells
  clear hb ho ho' HV
  generalize hA : val xs / val ys = va at *
  generalize hB : val xs % val ys = vb at *
  clear hA hB

  have L3 : Hid ((ofv (va)).length ≤ 9223372036854775807) := by have a := O3.out.2.1; have b := O3.out.2.2.1; show _ ≤ _; omega
  have L4 : Hid ((ofv (vb)).length ≤ 9223372036854775807) := by have a := O4.out.2.1; have b := O4.out.2.2.1; show _ ≤ _; omega
  obtain ⟨eq1, eq2⟩ := sgn_len EQ.out rfl
  obtain ⟨er1, er2⟩ := sgn_len ER.out rfl
  have G1 := Lib.hid eq1
  have G2 := Lib.hid eq2
  have G3 := Lib.hid er1
  have G4 := Lib.hid er2
  clear eq1 eq2 er1 er2 EQ ER
  go_wp2_with fail
  refine (signed_any t R _ c3 _ L3.out).mono ?_
  rintro e wa ⟨rfl, ha⟩
  obtain ⟨x0, x1⟩ := (X3.out.below ha X3.out.lt).cells
  have O5 := Lib.hid (O3.out.below ha)
  have O6 := Lib.hid (O4.out.below ha)
  have B5 := Lib.hid (B3.out.trans (ha.mono B3.out.size))
  clear ha
  go_wp2_with fail
  refine (signed_any false R' _ c4 _ L4.out).mono ?_
  rintro e wb ⟨rfl, hb⟩
  have O7 := O5.out.below hb
  have O8 := O6.out.below hb
  have B7 := B5.out.trans (hb.mono B5.out.size)
  have F1 := (R2.out.below B7 R2.out.lt).frozen
  have K1 := (R2.out.below B7 R2.out.lt).cells
  have F2 := (S2.out.below B7 S2.out.lt).frozen
  have K2 := (S2.out.below B7 S2.out.lt).cells
  rw [← G2.out] at O7 
  rw [← G4.out] at O8
  have H7 := Lib.hid O7
  have H8 := Lib.hid O8
  have H9 := Lib.hid B7
  have e1 := G1.out
  have e3 := G3.out
  rw [← G2.out] at e1
  rw [← G4.out] at e3
  rw [← G2.out, ← G4.out]
  rw [e1, e3]
  obtain ⟨f0, f1⟩ := F1
  obtain ⟨k0, k1⟩ := K1
  obtain ⟨f2, f3⟩ := F2
  obtain ⟨k2, k3⟩ := K2
  clear O7 O8 B7 hb e1 e3
  go_wp2
  exact end_q Tryz.results113 rfl rfl rfl rfl R2 S2 B2 (by omega) H7.out H8.out H9.out
set_option maxHeartbeats 4000000 in
theorem dm_exact {A B : Option Addr} {n c m d : Nat} {t : Bool} {w : World} {xs ys : List Nat} {q r : Int} (hx : Rd w A c xs) (hn : xs.length = n) (hy : Rd w B d ys) (hm : ys.length = m) (hl : n ≤ 70368744177660) (hl' : m ≤ 70368744177660) (h0 : 0 < val ys) (hyp : val xs % val ys = 0)
    (hq : zv (!t) (val xs / val ys) = q) (hr : zv false (val xs % val ys) = r) :
    Calls Tryz.prog 113 #[.agg #[.bool true, .slice A n c], .agg #[.bool t, .slice B m d]] w (GivesQ w q r) := by
  obtain ⟨B2, X2, Y2, R2, S2⟩ := start4 w true A n c t B m d
  have P2 := Lib.hid (hx.keep (Nat.le_refl _) B2.out)
  have Q2 := Lib.hid (hy.keep (Nat.le_refl _) B2.out)
  have lx := len_ofv_le hx.ok
  have ly := len_ofv_le hy.ok
  have HV := Lib.hid h0
  have HS := Lib.hid hyp
  have EQ := Lib.hid hq
  have ER := Lib.hid hr
  have HN := Lib.hid hn
  have HM := Lib.hid hm
  have LQ : Hid ((ofv (val xs / val ys)).length ≤ 70368744177660) := by
    have := len_mono (Nat.div_le_self (val xs) (val ys))
    show _ ≤ _
    omega
  clear hx hy hq hr hn hm lx ly h0 hyp
  go_enter Tryz.func113, Tryz.ntmps113
  go_wp2_with fail
  generalize ((((w.alloc (.cells #[.bool true, .slice A n c] 27)).alloc (.cells #[.bool t, .slice B m d] 27)).alloc (.cells #[.bool false, .slice none 0 0] 27)).alloc (.cells #[.bool false, .slice none 0 0] 27)) = w2 at *
  refine (dm_n P2.out Q2.out HN.out HM.out (by omega) HV.out).mono ?_
  rintro e w3 ⟨R, c3, R', c4, rfl, ho, ho', hb⟩
  have B3 := Lib.hid hb
  have O3 := Lib.hid ho
  have O4 := Lib.hid ho'
  have X3 := Lib.hid (X2.out.below hb X2.out.lt)
  have Y3 := Lib.hid (Y2.out.below hb Y2.out.lt)
  obtain ⟨x0, x1⟩ := X3.out.cells
  obtain ⟨y0, y1⟩ := Y3.out.cells
  clear hb ho ho' HV
  generalize hA : val xs / val ys = va at *
  generalize hB : val xs % val ys = vb at *
  clear hA hB
  go_wp2_with fail
  refine (isZero_yes O4.out.rd rfl (by rw [val_ofv]; exact HS.out)).mono ?_
  rintro e w4 ⟨rfl, hq4⟩
  have hb := below_q hq4
  have B4 := Lib.hid (B3.out.trans (hb.mono B3.out.size))
  have O3' := Lib.hid (O3.out.below hb)
  have O4' := Lib.hid (O4.out.below hb)
  have X4 := Lib.hid (X3.out.below hb X3.out.lt)
  have Y4 := Lib.hid (Y3.out.below hb Y3.out.lt)
  clear hq4 hb O3 O4 X3 Y3 B3 x0 x1 y0 y1
  have B3 := B4
  have O3 := O3'
  have O4 := O4'
  have X3 := X4
  have Y3 := Y4
  clear B4 O3' O4' X4 Y4
  obtain ⟨x0, x1⟩ := X3.out.cells
  obtain ⟨y0, y1⟩ := Y3.out.cells
  have L3 : Hid ((ofv (va)).length ≤ 9223372036854775807) := by have a := O3.out.2.1; have b := O3.out.2.2.1; show _ ≤ _; omega
  have L4 : Hid ((ofv (vb)).length ≤ 9223372036854775807) := by have a := O4.out.2.1; have b := O4.out.2.2.1; show _ ≤ _; omega
  obtain ⟨eq1, eq2⟩ := sgn_len EQ.out rfl
  obtain ⟨er1, er2⟩ := sgn_len ER.out rfl
  have G1 := Lib.hid eq1
  have G2 := Lib.hid eq2
  have G3 := Lib.hid er1
  have G4 := Lib.hid er2
  clear eq1 eq2 er1 er2 EQ ER
  go_wp2_with fail
  refine (signed_any (!t) R _ c3 _ L3.out).mono ?_
  rintro e wa ⟨rfl, ha⟩
  obtain ⟨x0, x1⟩ := (X3.out.below ha X3.out.lt).cells
  have O5 := Lib.hid (O3.out.below ha)
  have O6 := Lib.hid (O4.out.below ha)
  have B5 := Lib.hid (B3.out.trans (ha.mono B3.out.size))
  clear ha
  go_wp2_with fail
  refine (signed_any false R' _ c4 _ L4.out).mono ?_
  rintro e wb ⟨rfl, hb⟩
  have O7 := O5.out.below hb
  have O8 := O6.out.below hb
  have B7 := B5.out.trans (hb.mono B5.out.size)
  have F1 := (R2.out.below B7 R2.out.lt).frozen
  have K1 := (R2.out.below B7 R2.out.lt).cells
  have F2 := (S2.out.below B7 S2.out.lt).frozen
  have K2 := (S2.out.below B7 S2.out.lt).cells
  rw [← G2.out] at O7 
  rw [← G4.out] at O8
  have H7 := Lib.hid O7
  have H8 := Lib.hid O8
  have H9 := Lib.hid B7
  have e1 := G1.out
  have e3 := G3.out
  rw [← G2.out] at e1
  rw [← G4.out] at e3
  rw [← G2.out, ← G4.out]
  rw [e1, e3]
  obtain ⟨f0, f1⟩ := F1
  obtain ⟨k0, k1⟩ := K1
  obtain ⟨f2, f3⟩ := F2
  obtain ⟨k2, k3⟩ := K2
  clear O7 O8 B7 hb e1 e3
  go_wp2
  exact end_q Tryz.results113 rfl rfl rfl rfl R2 S2 B2 (by omega) H7.out H8.out H9.out
set_option maxHeartbeats 4000000 in
theorem dm_less_z {A B : Option Addr} {n c m d : Nat} {t : Bool} {w : World} {xs ys : List Nat} {q r : Int} (hx : Rd w A c xs) (hn : xs.length = n) (hy : Rd w B d ys) (hm : ys.length = m) (hl : n ≤ 70368744177660) (hl' : m ≤ 70368744177660) (h0 : 0 < val ys) (hyp : 0 < val xs % val ys)
    (hq : zv (!t) (val xs / val ys + 1) = q) (hr : zv false (val ys - val xs % val ys) = r) :
    Calls Tryz.prog 113 #[.agg #[.bool true, .slice A n c], .agg #[.bool t, .slice B m d]] w (GivesQ w q r) := by
  obtain ⟨B2, X2, Y2, R2, S2⟩ := start4 w true A n c t B m d
  have P2 := Lib.hid (hx.keep (Nat.le_refl _) B2.out)
  have Q2 := Lib.hid (hy.keep (Nat.le_refl _) B2.out)
  have lx := len_ofv_le hx.ok
  have ly := len_ofv_le hy.ok
  have HV := Lib.hid h0
  have HP := Lib.hid hyp
  have HS := Lib.hid (Nat.le_of_lt (Nat.mod_lt (val xs) h0))
  have EQ := Lib.hid hq
  have ER := Lib.hid hr
  have HN := Lib.hid hn
  have HM := Lib.hid hm
  have LQ : Hid ((ofv (val xs / val ys)).length ≤ 70368744177660) := by
    have := len_mono (Nat.div_le_self (val xs) (val ys))
    show _ ≤ _
    omega
  clear hx hy hq hr hn hm lx ly h0 hyp
  go_enter Tryz.func113, Tryz.ntmps113
  go_wp2_with fail
  generalize ((((w.alloc (.cells #[.bool true, .slice A n c] 27)).alloc (.cells #[.bool t, .slice B m d] 27)).alloc (.cells #[.bool false, .slice none 0 0] 27)).alloc (.cells #[.bool false, .slice none 0 0] 27)) = w2 at *
  refine (dm_n P2.out Q2.out HN.out HM.out (by omega) HV.out).mono ?_
  rintro e w3 ⟨R, c3, R', c4, rfl, ho, ho', hb⟩
  have B3 := Lib.hid hb
  have O3 := Lib.hid ho
  have O4 := Lib.hid ho'
  have X3 := Lib.hid (X2.out.below hb X2.out.lt)
  have Y3 := Lib.hid (Y2.out.below hb Y2.out.lt)
  obtain ⟨x0, x1⟩ := X3.out.cells
  obtain ⟨y0, y1⟩ := Y3.out.cells
  clear hb ho ho' HV
  generalize hA : val xs / val ys = va at *
  generalize hB : val xs % val ys = vb at *
  clear hA hB
  have VB : Hid (vb ≤ val ys) := by show _ ≤ _; have := HS.out; omega
  go_wp2_with fail
  refine (isZero_no O4.out.rd rfl (by rw [val_ofv]; exact HP.out)).mono ?_
  rintro e w4 ⟨rfl, hq4⟩
  have hb := below_q hq4
  clear hq4
  have B4 := Lib.hid (B3.out.trans (hb.mono B3.out.size))
  have O3' := Lib.hid (O3.out.below hb)
  have O4' := Lib.hid (O4.out.below hb)
  have X4 := Lib.hid (X3.out.below hb X3.out.lt)
  have Y4 := Lib.hid (Y3.out.below hb Y3.out.lt)
  clear hb O3 O4 X3 Y3 B3 x0 x1 y0 y1
  have B3 := B4
  have O3 := O3'
  have O4 := O4'
  have X3 := X4
  have Y3 := Y4
  clear B4 O3' O4' X4 Y4
  obtain ⟨x0, x1⟩ := X3.out.cells
  obtain ⟨y0, y1⟩ := Y3.out.cells
  go_wp2_with fail
  refine (add_n (xs := ofv va) (ys := [1]) (O3.out.rd.below ((Below.refl _ _).alloc (Nat.le_refl _) _)) (rd_row (row_new rfl rfl) (okl1 (by omega)) rfl (by simp)) rfl rfl (by have := LQ.out; omega) (by simp)).mono ?_
  rw [val_ofv, v1]
  rintro e w5 ⟨R5, c5, rfl, ho5, hb5⟩
  have hb : Below w4.heap.size w4 w5 := ((Below.refl _ _).alloc (Nat.le_refl _) _).trans (hb5.mono (by simp))
  have O5 := Lib.hid (ho5.mono (show w2.heap.size ≤ _ by have := B3.out.size; simp; omega))
  clear ho5 hb5
  have B4 := Lib.hid (B3.out.trans (hb.mono B3.out.size))
  have O3' := Lib.hid (O3.out.below hb)
  have O4' := Lib.hid (O4.out.below hb)
  have X4 := Lib.hid (X3.out.below hb X3.out.lt)
  have Y4 := Lib.hid (Y3.out.below hb Y3.out.lt)
  clear hb O3 O4 X3 Y3 B3 x0 x1 y0 y1
  have B3 := B4
  have O3 := O3'
  have O4 := O4'
  have X3 := X4
  have Y3 := Y4
  clear B4 O3' O4' X4 Y4
  obtain ⟨x0, x1⟩ := X3.out.cells
  obtain ⟨y0, y1⟩ := Y3.out.cells
  clear O3
  have O3 := O5
  clear O5
  go_wp2_with fail
  refine (sub_yes_n (ys := ofv vb) ((Q2.out.keep (Nat.le_refl _) B3.out)) O4.out.rd HM.out rfl (by omega) (by rw [val_ofv]; exact VB.out)).mono ?_
  rw [val_ofv]
  rintro e w6 ⟨R6, c6, rfl, ho6, hb⟩
  have O6 := Lib.hid (ho6.mono B3.out.size)
  clear ho6
  have B4 := Lib.hid (B3.out.trans (hb.mono B3.out.size))
  have O3' := Lib.hid (O3.out.below hb)
  have O4' := Lib.hid (O4.out.below hb)
  have X4 := Lib.hid (X3.out.below hb X3.out.lt)
  have Y4 := Lib.hid (Y3.out.below hb Y3.out.lt)
  clear hb O3 O4 X3 Y3 B3 x0 x1 y0 y1
  have B3 := B4
  have O3 := O3'
  have O4 := O4'
  have X3 := X4
  have Y3 := Y4
  clear B4 O3' O4' X4 Y4
  obtain ⟨x0, x1⟩ := X3.out.cells
  obtain ⟨y0, y1⟩ := Y3.out.cells
  clear O4
  have O4 := O6
  clear O6
  generalize hC : va + 1 = vc at *
  generalize hD : val ys - vb = vd at *
  clear hC hD
  have L3 : Hid ((ofv (vc)).length ≤ 9223372036854775807) := by have a := O3.out.2.1; have b := O3.out.2.2.1; show _ ≤ _; omega
  have L4 : Hid ((ofv (vd)).length ≤ 9223372036854775807) := by have a := O4.out.2.1; have b := O4.out.2.2.1; show _ ≤ _; omega
  obtain ⟨eq1, eq2⟩ := sgn_len EQ.out rfl
  obtain ⟨er1, er2⟩ := sgn_len ER.out rfl
  have G1 := Lib.hid eq1
  have G2 := Lib.hid eq2
  have G3 := Lib.hid er1
  have G4 := Lib.hid er2
  clear eq1 eq2 er1 er2 EQ ER
  go_wp2_with fail
  refine (signed_any (!t) R5 _ c5 _ L3.out).mono ?_
  rintro e wa ⟨rfl, ha⟩
  obtain ⟨x0, x1⟩ := (X3.out.below ha X3.out.lt).cells
  have O5 := Lib.hid (O3.out.below ha)
  have O6 := Lib.hid (O4.out.below ha)
  have B5 := Lib.hid (B3.out.trans (ha.mono B3.out.size))
  clear ha
  go_wp2_with fail
  refine (signed_any false R6 _ c6 _ L4.out).mono ?_
  rintro e wb ⟨rfl, hb⟩
  have O7 := O5.out.below hb
  have O8 := O6.out.below hb
  have B7 := B5.out.trans (hb.mono B5.out.size)
  have F1 := (R2.out.below B7 R2.out.lt).frozen
  have K1 := (R2.out.below B7 R2.out.lt).cells
  have F2 := (S2.out.below B7 S2.out.lt).frozen
  have K2 := (S2.out.below B7 S2.out.lt).cells
  rw [← G2.out] at O7 
  rw [← G4.out] at O8
  have H7 := Lib.hid O7
  have H8 := Lib.hid O8
  have H9 := Lib.hid B7
  have e1 := G1.out
  have e3 := G3.out
  rw [← G2.out] at e1
  rw [← G4.out] at e3
  rw [← G2.out, ← G4.out]
  rw [e1, e3]
  obtain ⟨f0, f1⟩ := F1
  obtain ⟨k0, k1⟩ := K1
  obtain ⟨f2, f3⟩ := F2
  obtain ⟨k2, k3⟩ := K2
  clear O7 O8 B7 hb e1 e3
  go_wp2
  exact end_q Tryz.results113 rfl rfl rfl rfl R2 S2 B2 (by omega) H7.out H8.out H9.out
theorem zv_prod (t : Bool) (a b : Nat) : zv t a * zv t b = (a : Int) * b ∧ zv (!t) a * zv t b = -((a : Int) * b) := by
  cases t <;> simp [zv, Int.neg_mul, Int.mul_neg]
theorem zv_natAbs_pos {t : Bool} {b : Nat} (h : 0 < b) : zv t b ≠ 0 := fun e => by have := zv_eq_zero.1 e; omega
theorem nat_dm (X Y : Nat) : ((X / Y : Nat) : Int) * Y + ((X % Y : Nat) : Int) = X := by
  have := Nat.div_add_mod X Y
  rw [Nat.mul_comm] at this
  exact_mod_cast this
theorem dm_math_plus {t : Bool} {X Y : Nat} (h0 : 0 < Y) : zv t (X / Y) = zv false X / zv t Y ∧ zv false (X % Y) = zv false X % zv t Y := by
  have hl := Nat.mod_lt X h0
  refine divmod_unique ?_ (Int.natCast_nonneg (X % Y)) (by rw [zv_abs]; simp [zv]; omega) (zv_natAbs_pos h0)
  rw [(zv_prod t _ _).1]
  exact nat_dm X Y
theorem dm_math_exact {t : Bool} {X Y : Nat} (h0 : 0 < Y) (hz : X % Y = 0) : zv (!t) (X / Y) = zv true X / zv t Y ∧ zv false (X % Y) = zv true X % zv t Y := by
  refine divmod_unique ?_ (Int.natCast_nonneg (X % Y)) (by rw [zv_abs, hz]; simp [zv]; omega) (zv_natAbs_pos h0)
  rw [(zv_prod t _ _).2, hz]
  have e := nat_dm X Y
  rw [hz] at e
  simp only [zv] at *
  simp at *
  omega
theorem dm_math_less {t : Bool} {X Y : Nat} (h0 : 0 < Y) (hz : 0 < X % Y) : zv (!t) (X / Y + 1) = zv true X / zv t Y ∧ zv false (Y - X % Y) = zv true X % zv t Y := by
  have hl := Nat.mod_lt X h0
  refine divmod_unique ?_ (by simp [zv]) (by rw [zv_abs]; simp [zv]; omega) (zv_natAbs_pos h0)
  rw [(zv_prod t _ _).2]
  have e := nat_dm X Y
  have e2 : ((Y - X % Y : Nat) : Int) = (Y : Int) - ((X % Y : Nat) : Int) := by omega
  have e3 : (((X / Y + 1 : Nat) : Nat) : Int) * (Y : Int) = ((X / Y : Nat) : Int) * Y + Y := by rw [Int.natCast_add, Int.add_mul]; simp
  have e4 : zv false (Y - X % Y) = ((Y - X % Y : Nat) : Int) := rfl
  have e5 : zv true X = -(X : Int) := rfl
  rw [e3, e4, e5, e2]
  omega
theorem dm_z {A B : Option Addr} {n c m d : Nat} {s t : Bool} {w : World} {x y : Int} (h : Zin w s A n c x) (h' : Zin w t B m d y) (hl : n ≤ 70368744177660) (hl' : m ≤ 70368744177660) (hy0 : y ≠ 0) {q r : Int} (hq : x / y = q) (hr : x % y = r) :
    Calls Tryz.prog 113 #[.agg #[.bool s, .slice A n c], .agg #[.bool t, .slice B m d]] w (GivesQ w q r) := by
  obtain ⟨xs, hx, hn, ex⟩ := h
  obtain ⟨ys, hy, hm, ey⟩ := h'
  have h0 : 0 < val ys := by
    rcases Nat.eq_zero_or_pos (val ys) with h | h
    · exact absurd (by rw [← ey, h, zv_zero]) hy0
    · exact h
  subst ex ey
  cases s
  · obtain ⟨e1, e2⟩ := dm_math_plus (t := t) (X := val xs) h0
    exact dm_plus hx hn hy hm hl hl' h0 trivial (e1.trans hq) (e2.trans hr)
  · rcases Nat.eq_zero_or_pos (val xs % val ys) with hz | hz
    · obtain ⟨e1, e2⟩ := dm_math_exact (t := t) h0 hz
      exact dm_exact hx hn hy hm hl hl' h0 hz (e1.trans hq) (e2.trans hr)
    · obtain ⟨e1, e2⟩ := dm_math_less (t := t) h0 hz
      exact dm_less_z hx hn hy hm hl hl' h0 hz (e1.trans hq) (e2.trans hr)
end Go.Proofs.YtfacndibfkamgaaGreat
