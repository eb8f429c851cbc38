/-
  Zrop, Zradd, Zrval, Zawake.
-/
import Derived.Test.YtfacndibfkamgaaGreatZA
import Derived.Test.YtfacndibfkamgaaGreatNC
import Derived.Test.YtfacndibfkamgaaGreatZB
/-
  Contracts of the reference's package 2: Norm, Neg, Abs, Mul, GCD.
-/
namespace Go.Proofs.YtfacndibfkamgaaGreat
open Go.RowKit
set_option linter.unusedVariables false

set_option maxHeartbeats 2000000 in
theorem rneg_z {A : Option Addr} {n c : Nat} {s : Bool} {w : World} {x z : Int} (h : Zin w s A n c x) (hl : n ≤ 70368744177664) (hz : -x = z) :
    Calls Tryz.prog 109 #[.agg #[.bool s, .slice A n c]] w (GivesZ w z) := by
  obtain ⟨B2, X2, R2⟩ := start1 w s A n c
  obtain ⟨xs, hx, hn, ex⟩ := h
  have P2 := Lib.hid (hx.keep (Nat.le_refl _) B2.out)
  have E : Hid (zv (!s) (val xs) = z) := by show _ = _; rw [← hz, ← ex]; rw [not_zv]
  clear hx ex hz
  go_enter Tryz.func109, Tryz.ntmps109
  go_wp2_with fail
  generalize ((w.alloc (.cells #[.bool s, .slice A n c] 27)).alloc (.cells #[.bool false, .slice none 0 0] 27)) = w2 at *
  obtain ⟨x0, x1⟩ := X2.out.cells
  have LT := Lib.hid R2.out.lt
  go_wp2_with (go_at_call 80; refine Calls.mono (make_n (xs := xs) P2.out hn hl E.out) ?_; rintro e w4 ⟨R', c4, rfl, ho', hb'⟩; obtain ⟨f0, f1⟩ := (R2.out.below hb' LT.out).frozen; obtain ⟨k0, k1⟩ := (R2.out.below hb' LT.out).cells)
  all_goals
    exact end_z Tryz.results109 rfl rfl R2 B2 (by omega) ho' hb'
set_option maxHeartbeats 2000000 in
theorem rabs_z {A : Option Addr} {n c : Nat} {s : Bool} {w : World} {x z : Int} (h : Zin w s A n c x) (hl : n ≤ 70368744177664) (hz : ((x.natAbs : Nat) : Int) = z) :
    Calls Tryz.prog 146 #[.agg #[.bool s, .slice A n c]] w (GivesZ w z) := by
  obtain ⟨B2, X2, R2⟩ := start1 w s A n c
  obtain ⟨xs, hx, hn, ex⟩ := h
  have P2 := Lib.hid (hx.keep (Nat.le_refl _) B2.out)
  have E : Hid (zv false (val xs) = z) := by show _ = _; rw [← hz, ← ex]; rw [← abs_zv]
  clear hx ex hz
  go_enter Tryz.func146, Tryz.ntmps146
  go_wp2_with fail
  generalize ((w.alloc (.cells #[.bool s, .slice A n c] 27)).alloc (.cells #[.bool false, .slice none 0 0] 27)) = w2 at *
  obtain ⟨x0, x1⟩ := X2.out.cells
  have LT := Lib.hid R2.out.lt
  go_wp2_with (go_at_call 80; refine Calls.mono (make_n (xs := xs) P2.out hn hl E.out) ?_; rintro e w4 ⟨R', c4, rfl, ho', hb'⟩; obtain ⟨f0, f1⟩ := (R2.out.below hb' LT.out).frozen; obtain ⟨k0, k1⟩ := (R2.out.below hb' LT.out).cells)
  all_goals
    exact end_z Tryz.results146 rfl rfl R2 B2 (by omega) ho' hb'
set_option maxHeartbeats 2000000 in
theorem rnrm_z {A : Option Addr} {n c : Nat} {s : Bool} {w : World} {x z : Int} (h : Zin w s A n c x) (hl : n ≤ 70368744177664) (hz : x = z) :
    Calls Tryz.prog 78 #[.agg #[.bool s, .slice A n c]] w (GivesZ w z) := by
  obtain ⟨B2, X2, R2⟩ := start1 w s A n c
  obtain ⟨xs, hx, hn, ex⟩ := h
  have P2 := Lib.hid (hx.keep (Nat.le_refl _) B2.out)
  have E : Hid (zv s (val xs) = z) := by show _ = _; rw [← hz, ← ex]
  clear hx ex hz
  go_enter Tryz.func78, Tryz.ntmps78
  go_wp2_with fail
  generalize ((w.alloc (.cells #[.bool s, .slice A n c] 27)).alloc (.cells #[.bool false, .slice none 0 0] 27)) = w2 at *
  obtain ⟨x0, x1⟩ := X2.out.cells
  have LT := Lib.hid R2.out.lt
  go_wp2_with (go_at_call 80; refine Calls.mono (make_n (xs := xs) P2.out hn hl E.out) ?_; rintro e w4 ⟨R', c4, rfl, ho', hb'⟩; obtain ⟨f0, f1⟩ := (R2.out.below hb' LT.out).frozen; obtain ⟨k0, k1⟩ := (R2.out.below hb' LT.out).cells)
  all_goals
    exact end_z Tryz.results78 rfl rfl R2 B2 (by omega) ho' hb'
set_option maxHeartbeats 2000000 in
theorem rmul_z {A B : Option Addr} {n c m d : Nat} {s : Bool} {t : Bool} {w : World} {x y z : Int} (h : Zin w s A n c x) (h' : Zin w (t) B m d y) (hl : n + m ≤ 70368744177664) (hz : x * y = z) :
    Calls Tryz.prog 128 #[.agg #[.bool s, .slice A n c], .agg #[.bool t, .slice B m d]] w (GivesZ w z) := by
  obtain ⟨B2, X2, Y2, R2⟩ := start2 w s A n c (t) B m d
  obtain ⟨xs, hx, hn, ex⟩ := h
  obtain ⟨ys, hy, hm, ey⟩ := h'
  have P2 := Lib.hid (hx.keep (Nat.le_refl _) B2.out)
  have Q2 := Lib.hid (hy.keep (Nat.le_refl _) B2.out)
  have lx := len_ofv_le hx.ok
  have ly := len_ofv_le hy.ok
  rw [hn] at lx
  rw [hm] at ly
  have LN : Hid ((ofv (val xs * val ys)).length ≤ 70368744177664) := by show _ ≤ _; have := len_mul (val xs) (val ys); omega
  clear lx ly
  have E : Hid (zv (s != t) (val xs * val ys) = z) := by show _ = _; rw [mul_zv, ex, ey, hz]
  clear hx hy ex ey hz
  go_enter Tryz.func128, Tryz.ntmps128
  go_wp2_with fail
  generalize (((w.alloc (.cells #[.bool s, .slice A n c] 27)).alloc (.cells #[.bool t, .slice B m d] 27)).alloc (.cells #[.bool false, .slice none 0 0] 27)) = w2 at *
  have LT := Lib.hid R2.out.lt
  have S2 := Lib.hid (keep2 X2 Y2 (Below.refl (w.heap.size + 2) w2) (by omega) (by omega))
  go_region_held3 (fun w' => w'.cell? ⟨w.heap.size, 0, none⟩ = some (.bool s) ∧ w'.cell? ⟨w.heap.size, 1, none⟩ = some (.slice A n c) ∧ w'.cell? ⟨w.heap.size + 1, 0, none⟩ = some (.bool t) ∧ w'.cell? ⟨w.heap.size + 1, 1, none⟩ = some (.slice B m d))
    (first | exact keep2s X2 Y2 BW.out (by omega) (by omega) | exact keep2 X2 Y2 BW.out (by omega) (by omega) | exact S2.out)
    (first
      | (go_at_call 162; refine Calls.mono (rmul_n (xs := xs) (ys := ys) P2.out Q2.out hn hm hl) ?_; rintro e w3 ⟨R, c3, rfl, ho, hb⟩; have BW : Hid (Below (w.heap.size + 2) w2 w3) := (((below_drewN w2.heap.size w2 1).trans hb)).mono (Nat.le_of_lt LT.out))
      | (go_at_call 80; refine Calls.mono (make_gives (w0 := w2) (v := val xs * val ys) ho ((below_drewN w2.heap.size w2 1).trans hb) E.out rfl LN.out) ?_; rintro e w4 ⟨R', c4, rfl, ho', hb'⟩; have BW : Hid (Below (w.heap.size + 2) w2 w4) := hb'.mono (Nat.le_of_lt LT.out); obtain ⟨f0, f1⟩ := (R2.out.below hb' LT.out).frozen; obtain ⟨k0, k1⟩ := (R2.out.below hb' LT.out).cells))
  all_goals
    go_wp2
    exact end_z Tryz.results128 rfl rfl R2 B2 (by omega) ho' hb'
set_option maxHeartbeats 2000000 in
theorem rgcd_z {A B : Option Addr} {n c m d : Nat} {s : Bool} {t : Bool} {w : World} {x y z : Int} (h : Zin w s A n c x) (h' : Zin w (t) B m d y) (hl : n ≤ 70368744177000) (hl' : m ≤ 70368744177000) (hz : ((Int.gcd x y : Nat) : Int) = z) :
    Calls Tryz.prog 107 #[.agg #[.bool s, .slice A n c], .agg #[.bool t, .slice B m d]] w (GivesZ w z) := by
  obtain ⟨B2, X2, Y2, R2⟩ := start2 w s A n c (t) B m d
  obtain ⟨xs, hx, hn, ex⟩ := h
  obtain ⟨ys, hy, hm, ey⟩ := h'
  have P2 := Lib.hid (hx.keep (Nat.le_refl _) B2.out)
  have Q2 := Lib.hid (hy.keep (Nat.le_refl _) B2.out)
  have lx := len_ofv_le hx.ok
  have ly := len_ofv_le hy.ok
  rw [hn] at lx
  rw [hm] at ly
  have LN : Hid ((ofv (Nat.gcd (val xs) (val ys))).length ≤ 70368744177664) := by show _ ≤ _; have := len_gcd (val xs) (val ys); have := len_gcd_max (val xs) (val ys) 70368744177000 (by omega) (by omega); omega
  clear lx ly
  have E : Hid (zv false (Nat.gcd (val xs) (val ys)) = z) := by show _ = _; rw [← hz, ← ex, ← ey]; unfold Int.gcd; rw [zv_abs, zv_abs]; rfl
  clear hx hy ex ey hz
  go_enter Tryz.func107, Tryz.ntmps107
  go_wp2_with fail
  generalize (((w.alloc (.cells #[.bool s, .slice A n c] 27)).alloc (.cells #[.bool t, .slice B m d] 27)).alloc (.cells #[.bool false, .slice none 0 0] 27)) = w2 at *
  have LT := Lib.hid R2.out.lt
  obtain ⟨x0, x1⟩ := X2.out.cells
  obtain ⟨y0, y1⟩ := Y2.out.cells
  go_wp2_with (first | (go_at_call 144; refine Calls.mono (rgcd_n (xs := xs) (ys := ys) P2.out Q2.out hn hm hl hl') ?_; rintro e w3 ⟨R, c3, rfl, ho, hb⟩; have BW : Hid (Below (w.heap.size + 2) w2 w3) := (hb).mono (Nat.le_of_lt LT.out)) | (go_at_call 80; refine Calls.mono (make_gives (w0 := w2) (v := Nat.gcd (val xs) (val ys)) ho hb E.out rfl LN.out) ?_; rintro e w4 ⟨R', c4, rfl, ho', hb'⟩; have BW : Hid (Below (w.heap.size + 2) w2 w4) := hb'.mono (Nat.le_of_lt LT.out); obtain ⟨f0, f1⟩ := (R2.out.below hb' LT.out).frozen; obtain ⟨k0, k1⟩ := (R2.out.below hb' LT.out).cells))
  all_goals
    exact end_z Tryz.results107 rfl rfl R2 B2 (by omega) ho' hb'
end Go.Proofs.YtfacndibfkamgaaGreat

/-
  Contracts of the reference's package 2: Add.
-/
namespace Go.Proofs.YtfacndibfkamgaaGreat
open Go.RowKit
set_option linter.unusedVariables false

set_option maxHeartbeats 2000000 in
theorem radd_same {A B : Option Addr} {n c m d : Nat} {s : Bool} {w : World} {x y z : Int} (h : Zin w s A n c x) (h' : Zin w (s) B m d y) (hl : n ≤ 70368744177663) (hl' : m ≤ 70368744177663) (hz : x + y = z) :
    Calls Tryz.prog 120 #[.agg #[.bool s, .slice A n c], .agg #[.bool s, .slice B m d]] w (GivesZ w z) := by
  obtain ⟨B2, X2, Y2, R2⟩ := start2 w s A n c (s) B m d
  obtain ⟨xs, hx, hn, ex⟩ := h
  obtain ⟨ys, hy, hm, ey⟩ := h'
  have P2 := Lib.hid (hx.keep (Nat.le_refl _) B2.out)
  have Q2 := Lib.hid (hy.keep (Nat.le_refl _) B2.out)
  have lx := len_ofv_le hx.ok
  have ly := len_ofv_le hy.ok
  rw [hn] at lx
  rw [hm] at ly
  have LN : Hid ((ofv (val xs + val ys)).length ≤ 70368744177664) := by show _ ≤ _; have := len_add_max (n := 70368744177663) (Nat.le_trans lx hl) (Nat.le_trans ly hl'); omega
  clear lx ly
  have E : Hid (zv s (val xs + val ys) = z) := by show _ = _; rw [add_zv, ex, ey, hz]
  clear hx hy ex ey hz
  go_enter Tryz.func120, Tryz.ntmps120
  go_wp2_with fail
  generalize (((w.alloc (.cells #[.bool s, .slice A n c] 27)).alloc (.cells #[.bool s, .slice B m d] 27)).alloc (.cells #[.bool false, .slice none 0 0] 27)) = w2 at *
  have LT := Lib.hid R2.out.lt
  have S2 := Lib.hid (keep2 X2 Y2 (Below.refl (w.heap.size + 2) w2) (by omega) (by omega))
  go_region_held3 (fun w' => w'.cell? ⟨w.heap.size, 0, none⟩ = some (.bool s) ∧ w'.cell? ⟨w.heap.size, 1, none⟩ = some (.slice A n c) ∧ w'.cell? ⟨w.heap.size + 1, 0, none⟩ = some (.bool s) ∧ w'.cell? ⟨w.heap.size + 1, 1, none⟩ = some (.slice B m d))
    (first | exact keep2s X2 Y2 BW.out (by omega) (by omega) | exact keep2 X2 Y2 BW.out (by omega) (by omega) | exact S2.out)
    (first
      | (go_at_call 150; refine Calls.mono (radd_n (xs := xs) (ys := ys) P2.out Q2.out hn hm hl hl') ?_; rintro e w3 ⟨R, c3, rfl, ho, hb⟩; have BW : Hid (Below (w.heap.size + 2) w2 w3) := (((below_drewN w2.heap.size w2 1).trans hb)).mono (Nat.le_of_lt LT.out))
      | (go_at_call 80; refine Calls.mono (make_gives (w0 := w2) (v := val xs + val ys) ho ((below_drewN w2.heap.size w2 1).trans hb) E.out rfl LN.out) ?_; rintro e w4 ⟨R', c4, rfl, ho', hb'⟩; have BW : Hid (Below (w.heap.size + 2) w2 w4) := hb'.mono (Nat.le_of_lt LT.out); obtain ⟨f0, f1⟩ := (R2.out.below hb' LT.out).frozen; obtain ⟨k0, k1⟩ := (R2.out.below hb' LT.out).cells))
  all_goals
    go_wp2
    exact end_z Tryz.results120 rfl rfl R2 B2 (by omega) ho' hb'
set_option maxHeartbeats 2000000 in
theorem radd_more {A B : Option Addr} {n c m d : Nat} {s : Bool} {w : World} {x y z : Int} (h : Zin w s A n c x) (h' : Zin w (!s) B m d y) (hl : n ≤ 70368744177663) (hl' : m ≤ 70368744177663) (hv : y.natAbs ≤ x.natAbs) (hz : x + y = z) :
    Calls Tryz.prog 120 #[.agg #[.bool s, .slice A n c], .agg #[.bool !s, .slice B m d]] w (GivesZ w z) := by
  obtain ⟨B2, X2, Y2, R2⟩ := start2 w s A n c (!s) B m d
  obtain ⟨xs, hx, hn, ex⟩ := h
  obtain ⟨ys, hy, hm, ey⟩ := h'
  have P2 := Lib.hid (hx.keep (Nat.le_refl _) B2.out)
  have Q2 := Lib.hid (hy.keep (Nat.le_refl _) B2.out)
  have lx := len_ofv_le hx.ok
  have ly := len_ofv_le hy.ok
  rw [hn] at lx
  rw [hm] at ly
  have LN : Hid ((ofv (val xs - val ys)).length ≤ 70368744177664) := by show _ ≤ _; have := len_mono (Nat.sub_le (val xs) (val ys)); omega
  clear lx ly
  rw [← ex, ← ey, zv_abs, zv_abs] at hv
  have HV := Lib.hid hv
  have E : Hid (zv s (val xs - val ys) = z) := by show _ = _; rw [sub_zv hv, ex, ey, hz]
  have NE : (s == !s) = false := by cases s <;> rfl
  clear hx hy ex ey hv hz
  go_enter Tryz.func120, Tryz.ntmps120
  go_wp2_with fail
  generalize (((w.alloc (.cells #[.bool s, .slice A n c] 27)).alloc (.cells #[.bool (!s), .slice B m d] 27)).alloc (.cells #[.bool false, .slice none 0 0] 27)) = w2 at *
  have LT := Lib.hid R2.out.lt
  obtain ⟨x0, x1⟩ := X2.out.cells
  obtain ⟨y0, y1⟩ := Y2.out.cells
  go_wp2_with (first | (go_at_call 151; refine Calls.mono (rsub_yes_n (xs := xs) (ys := ys) P2.out Q2.out hn hm hl hl' HV.out) ?_; rintro e w3 ⟨R, c3, rfl, ho, hb⟩; have C0 := (hb.cell (p := ⟨w.heap.size, 0, none⟩) (Nat.lt_of_succ_lt (Nat.lt_of_succ_lt LT.out))).trans x0) | (go_at_call 80; refine Calls.mono (make_gives (w0 := w2) (v := val xs - val ys) ho hb E.out rfl LN.out) ?_; rintro e w4 ⟨R', c4, rfl, ho', hb'⟩; have BW : Hid (Below (w.heap.size + 2) w2 w4) := hb'.mono (Nat.le_of_lt LT.out); obtain ⟨f0, f1⟩ := (R2.out.below hb' LT.out).frozen; obtain ⟨k0, k1⟩ := (R2.out.below hb' LT.out).cells))
  all_goals
    exact end_z Tryz.results120 rfl rfl R2 B2 (by omega) ho' hb'
set_option maxHeartbeats 2000000 in
theorem radd_less {A B : Option Addr} {n c m d : Nat} {s : Bool} {w : World} {x y z : Int} (h : Zin w s A n c x) (h' : Zin w (!s) B m d y) (hl : n ≤ 70368744177663) (hl' : m ≤ 70368744177663) (hv : x.natAbs < y.natAbs) (hz : x + y = z) :
    Calls Tryz.prog 120 #[.agg #[.bool s, .slice A n c], .agg #[.bool !s, .slice B m d]] w (GivesZ w z) := by
  obtain ⟨B2, X2, Y2, R2⟩ := start2 w s A n c (!s) B m d
  obtain ⟨xs, hx, hn, ex⟩ := h
  obtain ⟨ys, hy, hm, ey⟩ := h'
  have P2 := Lib.hid (hx.keep (Nat.le_refl _) B2.out)
  have Q2 := Lib.hid (hy.keep (Nat.le_refl _) B2.out)
  have lx := len_ofv_le hx.ok
  have ly := len_ofv_le hy.ok
  rw [hn] at lx
  rw [hm] at ly
  have LN : Hid ((ofv (val ys - val xs)).length ≤ 70368744177664) := by show _ ≤ _; have := len_mono (Nat.sub_le (val ys) (val xs)); omega
  clear lx ly
  rw [← ex, ← ey, zv_abs, zv_abs] at hv
  have HV := Lib.hid hv
  have HW := Lib.hid (Nat.le_of_lt hv)
  have E : Hid (zv (!s) (val ys - val xs) = z) := by show _ = _; rw [sub_zv' (Nat.le_of_lt hv), ex, ey, hz]
  have NE : (s == !s) = false := by cases s <;> rfl
  clear hx hy ex ey hv hz
  go_enter Tryz.func120, Tryz.ntmps120
  go_wp2_with fail
  generalize (((w.alloc (.cells #[.bool s, .slice A n c] 27)).alloc (.cells #[.bool (!s), .slice B m d] 27)).alloc (.cells #[.bool false, .slice none 0 0] 27)) = w2 at *
  have LT := Lib.hid R2.out.lt
  obtain ⟨x0, x1⟩ := X2.out.cells
  obtain ⟨y0, y1⟩ := Y2.out.cells
  have L0 := Lib.hid (Nat.lt_of_succ_lt (Nat.lt_of_succ_lt LT.out))
  have L1 := Lib.hid (Nat.lt_of_succ_lt LT.out)
  refine (rsub_no_n (xs := xs) (ys := ys) P2.out Q2.out hn hm hl hl' HV.out).mono ?_
  rintro e w3 ⟨rfl, hb3⟩
  have P3 := Lib.hid (P2.out.below hb3)
  have Q3 := Lib.hid (Q2.out.below hb3)
  have B3 : Hid (Below w2.heap.size w2 w3) := hb3
  have X3 := Lib.hid (X2.out.below hb3 L0.out)
  have Y3 := Lib.hid (Y2.out.below hb3 L1.out)
  obtain ⟨x0, x1⟩ := X3.out.cells
  obtain ⟨y0, y1⟩ := Y3.out.cells
  clear hb3
  go_wp2_with (first | (go_at_call 151; refine Calls.mono (rsub_yes_n (xs := ys) (ys := xs) Q3.out P3.out hm hn hl' hl HW.out) ?_; rintro e w4 ⟨R, c4, rfl, ho, hb⟩; have C0 := (hb.cell (p := ⟨w.heap.size + 1, 0, none⟩) (Y3.out.lt)).trans y0) | (go_at_call 80; refine Calls.mono (make_gives (w0 := w2) (v := val ys - val xs) (ho.mono B3.out.size) (B3.out.trans (hb.mono B3.out.size)) E.out rfl LN.out) ?_; rintro e w5 ⟨R', c5, rfl, ho', hb'⟩; obtain ⟨f0, f1⟩ := (R2.out.below hb' LT.out).frozen; obtain ⟨k0, k1⟩ := (R2.out.below hb' LT.out).cells))
  all_goals
    exact end_z Tryz.results120 rfl rfl R2 B2 (by omega) ho' hb'
theorem radd_z {A B : Option Addr} {n c m d : Nat} {s t : Bool} {w : World} {x y z : Int} (h : Zin w s A n c x) (h' : Zin w t B m d y) (hl : n ≤ 70368744177663) (hl' : m ≤ 70368744177663) (hz : x + y = z) :
    Calls Tryz.prog 120 #[.agg #[.bool s, .slice A n c], .agg #[.bool t, .slice B m d]] w (GivesZ w z) := by
  by_cases e : t = s
  · subst e; exact radd_same h h' hl hl' hz
  · obtain rfl : t = !s := by cases s <;> cases t <;> simp_all
    rcases Nat.lt_or_ge x.natAbs y.natAbs with hv | hv
    · exact radd_less h h' hl hl' hv hz
    · exact radd_more h h' hl hl' hv hz
end Go.Proofs.YtfacndibfkamgaaGreat

/-
  Contracts of the reference's package 2: Sub, Sign, Compare, FromInt, Value, Canonical.
-/
namespace Go.Proofs.YtfacndibfkamgaaGreat
open Go.RowKit
set_option linter.unusedVariables false

set_option maxHeartbeats 2000000 in
theorem rsub_z {A B : Option Addr} {n c m d : Nat} {s t : Bool} {w : World} {x y z : Int} (h : Zin w s A n c x) (h' : Zin w t B m d y) (hl : n ≤ 70368744177663) (hl' : m ≤ 70368744177663) (hz : x - y = z) :
    Calls Tryz.prog 79 #[.agg #[.bool s, .slice A n c], .agg #[.bool t, .slice B m d]] w (GivesZ w z) := by
  obtain ⟨B2, X2, Y2, R2⟩ := start2 w s A n c t B m d
  have P2 := Lib.hid (h.below B2.out)
  have Q2 := Lib.hid (h'.below B2.out)
  have LY := Lib.hid h'.len
  obtain ⟨ny, hny⟩ : ∃ ny, ny = -y := ⟨_, rfl⟩
  have NY := Lib.hid hny.symm
  have E : Hid (x + ny = z) := by show _ = _; omega
  have LN : Hid ((ofv ny.natAbs).length ≤ 70368744177663) := by
    show _ ≤ _
    rw [hny, Int.natAbs_neg]
    have := LY.out
    omega
  clear h h' hz hny
  go_enter Tryz.func79, Tryz.ntmps79
  go_wp2_with fail
  generalize (((w.alloc (.cells #[.bool s, .slice A n c] 27)).alloc (.cells #[.bool t, .slice B m d] 27)).alloc (.cells #[.bool false, .slice none 0 0] 27)) = w2 at *
  have LT := Lib.hid R2.out.lt
  have S2 := Lib.hid (keep2 X2 Y2 (Below.refl (w.heap.size + 2) w2) (by omega) (by omega))
  go_region_held3 (fun w' => w'.cell? ⟨w.heap.size, 0, none⟩ = some (.bool s) ∧ w'.cell? ⟨w.heap.size, 1, none⟩ = some (.slice A n c) ∧ w'.cell? ⟨w.heap.size + 1, 0, none⟩ = some (.bool t) ∧ w'.cell? ⟨w.heap.size + 1, 1, none⟩ = some (.slice B m d))
    (first | exact keep2s X2 Y2 BW.out (by omega) (by omega) | exact keep2 X2 Y2 BW.out (by omega) (by omega) | exact S2.out)
    (first
      | (go_at_call 109; refine Calls.mono (rneg_z Q2.out.drew (Nat.le_trans hl' (by decide)) NY.out) ?_; rintro e w3 ⟨R, c3, rfl, ho, hb⟩; have BD := below_drew hb; have BW := Lib.hid (BD.out.mono (Nat.le_of_lt LT.out)))
      | (go_at_call 120; refine Calls.mono (radd_z (P2.out.below BD.out) (Zin.of ho.rd) hl LN.out E.out) ?_; rintro e w4 hg; obtain ⟨R', c4, rfl, ho', hb'⟩ := hg.at_ BD.out; have BW := Lib.hid (hb'.mono (Nat.le_of_lt LT.out)); obtain ⟨f0, f1⟩ := (R2.out.below hb' LT.out).frozen; obtain ⟨k0, k1⟩ := (R2.out.below hb' LT.out).cells))
  all_goals
    go_wp2
    exact end_z Tryz.results79 rfl rfl R2 B2 (by omega) ho' hb'

theorem len_zero_iff {v : Nat} : (ofv v).length = 0 ↔ v = 0 := by
  rw [List.length_eq_zero_iff]; exact ofv_eq_nil
set_option maxHeartbeats 2000000 in
theorem rsign_z {A : Option Addr} {n c : Nat} {s : Bool} {w : World} {x : Int} (h : Zin w s A n c x) (hl : n ≤ 70368744177664) :
    Calls Tryz.prog 37 #[.agg #[.bool s, .slice A n c]] w fun e w' => e = .returned (.int .i64 (sg x)) ∧ Below w.heap.size w w' := by
  have hb0 := (Below.refl w.heap.size w).alloc (Nat.le_refl _) (.cells #[.bool s, .slice A n c] 27)
  have P2 := Lib.hid (h.below hb0)
  have Z := Lib.hid (Zb.new w s A n c)
  have B2 := Lib.hid hb0
  clear h hb0
  rcases sg_cases x with ⟨e1, h1⟩ | ⟨e1, h1⟩ | ⟨e1, h1⟩
  all_goals
    have E1 := Lib.hid e1
    have H1 := Lib.hid h1
    clear e1 h1
    go_enter Tryz.func37, Tryz.ntmps37
    go_wp2_with fail
    generalize (w.alloc (.cells #[.bool s, .slice A n c] 27)) = w2 at *
    refine (rnrm_z P2.out hl rfl).mono ?_
    rintro e w3 ⟨R, c3, rfl, ho, hb⟩
    have K := Lib.hid (Z.out.below hb Z.out.lt)
    have KK := Lib.hid (K.out.lit (decide (x < 0)) R (ofv x.natAbs).length c3)
    have BB := Lib.hid (((B2.out.trans (hb.mono B2.out.size)).setCell (p := ⟨w.heap.size, 0, none⟩) (Nat.le_refl _) (.bool (decide (x < 0)))).setCell (p := ⟨w.heap.size, 1, none⟩) (Nat.le_refl _) (.slice R (ofv x.natAbs).length c3))
    obtain ⟨f0, f1⟩ := K.out.frozen
    obtain ⟨k0, k1⟩ := K.out.cells
    clear ho hb
  · have d1 : decide (x < 0) = true := by simpa using H1.out
    rw [d1] at KK BB ⊢
    clear d1
    generalize (ofv x.natAbs).length = k at *
    go_wp2
    go_ret
    exact ⟨ret_int E1.out.symm, BB.out⟩
  · have d1 : decide (x < 0) = false := by have := H1.out; simp; omega
    have d2 : (ofv x.natAbs).length = 0 := by rw [H1.out]; exact len_zero_iff.2 rfl
    rw [d1, d2] at KK BB ⊢
    clear d1 d2
    go_wp2
    go_ret
    exact ⟨ret_int E1.out.symm, BB.out⟩
  · have d1 : decide (x < 0) = false := by have := H1.out; simp; omega
    have d2 : 0 < (ofv x.natAbs).length := by have := H1.out; exact len_pos (by omega)
    rw [d1] at KK BB ⊢
    clear d1
    generalize (ofv x.natAbs).length = k at *
    go_wp2
    go_ret
    exact ⟨ret_int E1.out.symm, BB.out⟩

set_option maxHeartbeats 2000000 in
theorem rcompare_z {A B : Option Addr} {n c m d : Nat} {s t : Bool} {w : World} {x y : Int} (h : Zin w s A n c x) (h' : Zin w t B m d y) (hl : n ≤ 70368744177663) (hl' : m ≤ 70368744177663) :
    Calls Tryz.prog 38 #[.agg #[.bool s, .slice A n c], .agg #[.bool t, .slice B m d]] w fun e w' => e = .returned (.int .i64 (sg (x - y))) ∧ Below w.heap.size w w' := by
  obtain ⟨B2, X2, Y2⟩ := begin2 w s A n c t B m d
  have P2 := Lib.hid (h.below B2.out)
  have Q2 := Lib.hid (h'.below B2.out)
  obtain ⟨z, hz⟩ : ∃ z, x - y = z := ⟨_, rfl⟩
  have LZ : Hid ((ofv z.natAbs).length ≤ 70368744177664) := by
    show _ ≤ _
    rw [← hz]
    exact zlen_sub (n := 70368744177663) (Nat.le_trans h.len hl) (Nat.le_trans h'.len hl')
  rw [hz]
  have E := Lib.hid hz
  clear h h' hz
  go_enter Tryz.func38, Tryz.ntmps38
  go_wp2_with fail
  generalize ((w.alloc (.cells #[.bool s, .slice A n c] 27)).alloc (.cells #[.bool t, .slice B m d] 27)) = w2 at *
  refine (rsub_z P2.out Q2.out hl hl' E.out).mono ?_
  rintro e w3 ⟨R, c3, rfl, ho, hb⟩
  have B3 := Lib.hid (B2.out.trans (hb.mono B2.out.size))
  have O3 := Lib.hid (Zin.of ho.rd)
  clear ho hb
  go_wp2_with fail
  refine (rsign_z O3.out LZ.out).mono ?_
  rintro e w4 ⟨rfl, hb⟩
  have B4 := Lib.hid (B3.out.trans (hb.mono B3.out.size))
  clear hb
  go_wp2
  go_ret
  exact ⟨rfl, B4.out⟩

set_option maxHeartbeats 2000000 in
theorem rfromInt_z {v z : Int} (hv : -9223372036854775808 ≤ v ∧ v ≤ 9223372036854775807) (hz : v = z) (w : World) :
    Calls Tryz.prog 39 #[.int .i64 v] w (GivesZ w z) := by
  have R2 := Lib.hid (Zb.new w false none 0 0)
  have B2 := Lib.hid ((Below.refl w.heap.size w).alloc (Nat.le_refl _) (.cells #[.bool false, .slice none 0 0] 27))
  obtain ⟨v0, v1⟩ := hv
  have LN : Hid ((ofv v.natAbs).length ≤ 70368744177664) := by
    show _ ≤ _
    have : (ofv v.natAbs).length ≤ 2 := len_ofv_le_of_lt (by rw [pw_succ, pw_succ, pw_zero]; omega)
    omega
  rcases Int.lt_or_le v 0 with h0 | h0
  · have HV : Hid (v.natAbs < 18446744073709551616) := by show _ < _; omega
    have E : Hid (zv true v.natAbs = z) := by show _ = _; unfold zv; simp; omega
    clear hz
    go_enter Tryz.func39, Tryz.ntmps39
    go_wp2_with fail
    generalize (w.alloc (.cells #[.bool false, .slice none 0 0] 27)) = w2 at *
    have LT := Lib.hid R2.out.lt
    go_wp2_with (first | (go_at_call 81; refine Calls.mono (rfrom_n (v := v.natAbs) (by omega) (by omega)) ?_; rintro e w3 ⟨R, c3, rfl, ho, hb⟩) | (go_at_call 80; refine Calls.mono (make_gives (w0 := w2) (v := v.natAbs) ho hb E.out rfl LN.out) ?_; rintro e w4 ⟨R', c4, rfl, ho', hb'⟩; obtain ⟨f0, f1⟩ := (R2.out.below hb' LT.out).frozen; obtain ⟨k0, k1⟩ := (R2.out.below hb' LT.out).cells))
    exact end_z Tryz.results39 rfl rfl R2 B2 (Nat.le_refl _) ho' hb'
  · have HW : Hid (v = ((v.natAbs : Nat) : Int)) := by show _ = _; omega
    have HV : Hid (v.natAbs ≤ 18446744073709551615) := by show _ ≤ _; omega
    have E : Hid (zv false v.natAbs = z) := by show _ = _; unfold zv; simp; omega
    clear hz
    go_enter Tryz.func39, Tryz.ntmps39
    go_wp2_with fail
    generalize (w.alloc (.cells #[.bool false, .slice none 0 0] 27)) = w2 at *
    have LT := Lib.hid R2.out.lt
    go_wp2_with (first | (go_at_call 81; refine Calls.mono (rfrom_n (v := v.natAbs) HW.out HV.out) ?_; rintro e w3 ⟨R, c3, rfl, ho, hb⟩) | (go_at_call 80; refine Calls.mono (make_gives (w0 := w2) (v := v.natAbs) ho hb E.out rfl LN.out) ?_; rintro e w4 ⟨R', c4, rfl, ho', hb'⟩; obtain ⟨f0, f1⟩ := (R2.out.below hb' LT.out).frozen; obtain ⟨k0, k1⟩ := (R2.out.below hb' LT.out).cells))
    exact end_z Tryz.results39 rfl rfl R2 B2 (Nat.le_refl _) ho' hb'
end Go.Proofs.YtfacndibfkamgaaGreat

/-
  The statements' own sanity check of package integer: two divisions with negative numbers.
-/
namespace Go.Proofs.YtfacndibfkamgaaGreat
open Go.RowKit
set_option linter.unusedVariables false

/-- What four blocks hold. -/
theorem keep4 {w w' : World} {B g1 g2 g3 g4 n1 c1 n2 c2 n3 c3 n4 c4 : Nat} {s1 s2 s3 s4 : Bool} {A1 A2 A3 A4 : Option Addr} (X1 : Hid (Zb w g1 s1 A1 n1 c1)) (X2 : Hid (Zb w g2 s2 A2 n2 c2)) (X3 : Hid (Zb w g3 s3 A3 n3 c3)) (X4 : Hid (Zb w g4 s4 A4 n4 c4)) (hb : Below B w w') (h1 : g1 < B) (h2 : g2 < B) (h3 : g3 < B) (h4 : g4 < B) :
    w'.cell? ⟨g1, 0, none⟩ = some (.bool s1) ∧ w'.cell? ⟨g1, 1, none⟩ = some (.slice A1 n1 c1) ∧ w'.cell? ⟨g2, 0, none⟩ = some (.bool s2) ∧ w'.cell? ⟨g2, 1, none⟩ = some (.slice A2 n2 c2) ∧ w'.cell? ⟨g3, 0, none⟩ = some (.bool s3) ∧ w'.cell? ⟨g3, 1, none⟩ = some (.slice A3 n3 c3) ∧ w'.cell? ⟨g4, 0, none⟩ = some (.bool s4) ∧ w'.cell? ⟨g4, 1, none⟩ = some (.slice A4 n4 c4) := by
  obtain ⟨a, b⟩ := (X1.out.below hb h1).cells
  obtain ⟨c, d⟩ := (X2.out.below hb h2).cells
  obtain ⟨e, f⟩ := (X3.out.below hb h3).cells
  obtain ⟨g, h⟩ := (X4.out.below hb h4).cells
  exact ⟨a, b, c, d, e, f, g, h⟩
theorem Zo.of_own {w : World} {lo c : Nat} {R : Option Addr} {z : Int} (h : Own w lo R c (ofv z.natAbs)) : Zo w R c z := h.rd
theorem Zo.len_small {w : World} {R : Option Addr} {c : Nat} {z : Int} (h : Zo w R c z) (hz : z.natAbs < 4294967296) : (ofv z.natAbs).length ≤ 70368744177660 := by
  have : (ofv z.natAbs).length ≤ 1 := len_ofv_le_of_lt (by rw [pw_succ, pw_zero]; omega)
  omega

end Go.Proofs.YtfacndibfkamgaaGreat
