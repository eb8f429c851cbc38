/-
  Contracts of the reference's texts: Decimal.
-/
import Derived.Test.YtebpoabflcngoaaGreatDoorNrp
import Derived.Test.YtebpoabflcngoaaGreatDoorZbez
import Derived.Test.YtebpoabflcngoaaGreatDoorZff
import Derived.Test.YtebpoabflcngoaaGreatDoorNW
namespace Go.Proofs.YtebpoabflcngoaaGreatDoor
open Go.RowKit
set_option linter.unusedVariables false
set_option linter.unusedSimpArgs false

theorem start_nZZq (w : World) (s0 : Bool) (A0 : Option Addr) (n0 c0 : Nat) (s1 : Bool) (A1 : Option Addr) (n1 c1 : Nat) :
    Hid (Below w.heap.size w ((w.alloc (.cells #[.bool s0, .slice A0 n0 c0] 24)).alloc (.cells #[.bool s1, .slice A1 n1 c1] 24))) ∧ Hid (Zb ((w.alloc (.cells #[.bool s0, .slice A0 n0 c0] 24)).alloc (.cells #[.bool s1, .slice A1 n1 c1] 24)) (w.heap.size) s0 A0 n0 c0) ∧ Hid (Zb ((w.alloc (.cells #[.bool s0, .slice A0 n0 c0] 24)).alloc (.cells #[.bool s1, .slice A1 n1 c1] 24)) (w.heap.size + 1) s1 A1 n1 c1) := by
  refine ⟨?_, ?_, ?_⟩
  · exact (((Below.refl _ _).alloc (by first | exact Nat.le_refl _ | (simp; done) | (simp; omega)) _).alloc (by first | exact Nat.le_refl _ | (simp; done) | (simp; omega)) _)
  · have := Zb.new w s0 A0 n0 c0
    exact (this.alloc _)
  · have := Zb.new (w.alloc (.cells #[.bool s0, .slice A0 n0 c0] 24)) s1 A1 n1 c1
    simp only [World.size_alloc] at this
    exact this
/-- The reference's DivMod and FromInt on natural numbers. -/
theorem rdmNat {A B : Option Addr} {c d n p : Nat} {w : World} (h : Rd w A c (ofv n)) (h' : Rd w B d (ofv p)) (hl : (ofv n).length ≤ 35184372087808) (hl' : (ofv p).length ≤ 35184372087808) (hp : 0 < p) {q r : Nat} (hq : n / p = q) (hr : n % p = r) :
    Calls Tryz.prog 43 #[.agg #[.bool false, .slice A (ofv n).length c], .agg #[.bool false, .slice B (ofv p).length d]] w fun e w' => ∃ R k R' k', e = .returned (.tuple #[.agg #[.bool false, .slice R (ofv q).length k], .agg #[.bool false, .slice R' (ofv r).length k'], .bool true]) ∧ Own w' w.heap.size R k (ofv q) ∧ Own w' w.heap.size R' k' (ofv r) ∧ Below w.heap.size w w' := by
  refine (rdm_z (rd_zin h) (rd_zin h') hl hl' (by omega) (q := (q : Int)) (r := (r : Int)) (by rw [← hq]; simp) (by rw [← hr]; simp)).mono ?_
  rintro e w' ⟨R, k, R', k', rfl, ho, ho2, hb⟩
  rw [Int.natAbs_natCast] at ho ho2 ⊢
  rw [Int.natAbs_natCast]
  exact ⟨R, k, R', k', by rw [show decide ((q : Int) < 0) = false from by simp, show decide ((r : Int) < 0) = false from by simp], ho, ho2, hb⟩
theorem rfromNat {v : Int} {n : Nat} (hv : v = (n : Int)) (hn : n < 9223372036854775807) (w : World) :
    Calls Tryz.prog 26 #[.int .i64 v] w fun e w' => ∃ R k, e = .returned (.agg #[.bool false, .slice R (ofv n).length k]) ∧ Own w' w.heap.size R k (ofv n) ∧ Below w.heap.size w w' := by
  refine (rfromInt_z (v := v) (z := (n : Int)) (by omega) hv w).mono ?_
  rintro e w' ⟨R, k, rfl, ho, hb⟩
  rw [Int.natAbs_natCast] at ho ⊢
  exact ⟨R, k, by rw [show decide ((n : Int) < 0) = false from by simp], ho, hb⟩
theorem rsign_n {A : Option Addr} {c n : Nat} {w : World} (h : Rd w A c (ofv n)) (hl : (ofv n).length ≤ 70368744177664) {r : Int} (hr : sg (n : Int) = r) :
    Calls Tryz.prog 82 #[.agg #[.bool false, .slice A (ofv n).length c]] w fun e w' => e = .returned (.int .i64 r) ∧ Below w.heap.size w w' := rsign_k (rd_zin h) hl hr
/-- The two primes of ten. -/
def Ab (w : World) (g : Nat) : Prop := w.cell? ⟨g, 0, none⟩ = some (.int .i64 2) ∧ w.cell? ⟨g, 1, none⟩ = some (.int .i64 5)
theorem Ab.below {w w' : World} {g : Nat} (h : Ab w g) (hb : Below w.heap.size w w') : Ab w' g := ⟨(hb.cell (lt_of_cell h.1)).trans h.1, (hb.cell (lt_of_cell h.2)).trans h.2⟩
theorem Ab.ne {w : World} {g g4 n c : Nat} {s : Bool} {A : Option Addr} (h : Ab w g) (hz : Zb w g4 s A n c) : g ≠ g4 := by
  intro e
  subst e
  obtain ⟨z1, _⟩ := hz.cells
  rw [h.1] at z1
  cases z1
theorem Ab.gr {w w' : World} {g g4 n c : Nat} {s : Bool} {A : Option Addr} (h : Ab w g) (hz : Zb w g4 s A n c) (hg : w.grownBy w' (some g4)) : Ab w' g := by
  have hne := h.ne hz
  have l1 := lt_of_cell h.1
  exact ⟨(World.cell?_of_block (a := ⟨g, 0, none⟩) (hg.block _ l1 (by simpa using hne))).trans h.1, (World.cell?_of_block (a := ⟨g, 1, none⟩) (hg.block _ l1 (by simpa using hne))).trans h.2⟩
theorem Ab.new (w : World) : Ab (w.alloc (.cells #[.int .i64 2, .int .i64 5] 3)) w.heap.size := by
  refine ⟨?_, ?_⟩ <;> simp [go_sem]
set_option maxRecDepth 100000 in
set_option maxHeartbeats 16000000 in
theorem rdivides_yes {A B : Option Addr} {c k n p : Nat} {w : World} (h : Rd w A c (ofv n)) (h' : Rd w B k (ofv p)) (hl : (ofv n).length ≤ 35184372087808) (hl' : (ofv p).length ≤ 35184372087808) (hp : 0 < p) (hd : n % p = 0) :
    Calls Tryz.prog 42 #[.agg #[.bool false, .slice B (ofv p).length k], .agg #[.bool false, .slice A (ofv n).length c]] w fun e w' => e = .returned (.bool true) ∧ Below w.heap.size w w' := by
  obtain ⟨B1, V0, V1⟩ := start_nZZq w false B (ofv p).length k false A (ofv n).length c
  obtain ⟨q, hq⟩ : ∃ q, n / p = q := ⟨_, rfl⟩
  obtain ⟨r, hr⟩ : ∃ r, n % p = r := ⟨_, rfl⟩
  have RN := Lib.hid (h.below B1.out)
  have RP := Lib.hid (h'.below B1.out)
  have HQ := Lib.hid hq
  have HR := Lib.hid hr
  have LN := Lib.hid hl
  have LP := Lib.hid hl'
  have P0 := Lib.hid hp
  have lr : (ofv r).length ≤ 70368744177664 := by rw [← hr]; exact Nat.le_trans (len_mono (Nat.mod_le _ _)) (Nat.le_trans hl (by decide))
  have LR := Lib.hid lr
  have SS : Hid (sg (r : Int) = 0) := by
    show _ = _
    rcases sg_cases (r : Int) with ⟨e, h0⟩ | ⟨e, h0⟩ | ⟨e, h0⟩ <;> first | exact e | omega
  clear h h' hl hl' hp hd hq hr lr
  go_enter Tryz.func42, Tryz.ntmps42
  go_wp2_with fail
  generalize ((w.alloc (.cells #[.bool false, .slice B (ofv p).length k] 24)).alloc (.cells #[.bool false, .slice A (ofv n).length c] 24)) = w2 at *
  refine (rdmNat RN.out RP.out LN.out LP.out P0.out HQ.out HR.out).mono ?_
  rintro e w3 ⟨P3, k3, P4, k4, rfl, ho, ho2, hb⟩
  replace V0 := Lib.hid (V0.out.below hb V0.out.lt)
  replace V1 := Lib.hid (V1.out.below hb V1.out.lt)
  replace RN := Lib.hid (RN.out.below hb)
  replace RP := Lib.hid (RP.out.below hb)
  replace B1 := Lib.hid (B1.out.trans (hb.mono B1.out.size))
  have RR := Lib.hid ho2.rd
  clear ho ho2 hb
  go_wp2_with fail
  have hb : Below w3.heap.size w3 (w3.alloc (.cells #[.bool false, .slice P3 (ofv q).length k3] 24)) := (Below.refl _ _).alloc (Nat.le_refl _) _
  replace V0 := Lib.hid (V0.out.below hb V0.out.lt)
  replace V1 := Lib.hid (V1.out.below hb V1.out.lt)
  replace RN := Lib.hid (RN.out.below hb)
  replace RP := Lib.hid (RP.out.below hb)
  replace RR := Lib.hid (RR.out.below hb)
  replace B1 := Lib.hid (B1.out.trans (hb.mono B1.out.size))
  have V3 := Lib.hid (Zb.new w3 false P3 (ofv q).length k3)
  clear hb
  have hb : Below (w3.alloc (.cells #[.bool false, .slice P3 (ofv q).length k3] 24)).heap.size (w3.alloc (.cells #[.bool false, .slice P3 (ofv q).length k3] 24)) ((w3.alloc (.cells #[.bool false, .slice P3 (ofv q).length k3] 24)).alloc (.cells #[.bool false, .slice P4 (ofv r).length k4] 24)) := (Below.refl _ _).alloc (Nat.le_refl _) _
  replace V0 := Lib.hid (V0.out.below hb V0.out.lt)
  replace V1 := Lib.hid (V1.out.below hb V1.out.lt)
  replace RN := Lib.hid (RN.out.below hb)
  replace RP := Lib.hid (RP.out.below hb)
  replace RR := Lib.hid (RR.out.below hb)
  replace V3 := Lib.hid (V3.out.below hb V3.out.lt)
  replace B1 := Lib.hid (B1.out.trans (hb.mono B1.out.size))
  clear hb
  generalize ((w3.alloc (.cells #[.bool false, .slice P3 (ofv q).length k3] 24)).alloc (.cells #[.bool false, .slice P4 (ofv r).length k4] 24)) = w4 at *
  go_wp2_with fail
  refine (rsign_n RR.out LR.out SS.out).mono ?_
  rintro e w5 ⟨rfl, hb⟩
  replace V0 := Lib.hid (V0.out.below hb V0.out.lt)
  replace V1 := Lib.hid (V1.out.below hb V1.out.lt)
  replace RN := Lib.hid (RN.out.below hb)
  replace RP := Lib.hid (RP.out.below hb)
  replace RR := Lib.hid (RR.out.below hb)
  replace V3 := Lib.hid (V3.out.below hb V3.out.lt)
  replace B1 := Lib.hid (B1.out.trans (hb.mono B1.out.size))
  clear hb
  go_wp2
  go_ret
  exact ⟨rfl, B1.out⟩
set_option maxRecDepth 100000 in
set_option maxHeartbeats 16000000 in
theorem rdivides_no {A B : Option Addr} {c k n p : Nat} {w : World} (h : Rd w A c (ofv n)) (h' : Rd w B k (ofv p)) (hl : (ofv n).length ≤ 35184372087808) (hl' : (ofv p).length ≤ 35184372087808) (hp : 0 < p) (hd : n % p ≠ 0) :
    Calls Tryz.prog 42 #[.agg #[.bool false, .slice B (ofv p).length k], .agg #[.bool false, .slice A (ofv n).length c]] w fun e w' => e = .returned (.bool false) ∧ Below w.heap.size w w' := by
  obtain ⟨B1, V0, V1⟩ := start_nZZq w false B (ofv p).length k false A (ofv n).length c
  obtain ⟨q, hq⟩ : ∃ q, n / p = q := ⟨_, rfl⟩
  obtain ⟨r, hr⟩ : ∃ r, n % p = r := ⟨_, rfl⟩
  have RN := Lib.hid (h.below B1.out)
  have RP := Lib.hid (h'.below B1.out)
  have HQ := Lib.hid hq
  have HR := Lib.hid hr
  have LN := Lib.hid hl
  have LP := Lib.hid hl'
  have P0 := Lib.hid hp
  have lr : (ofv r).length ≤ 70368744177664 := by rw [← hr]; exact Nat.le_trans (len_mono (Nat.mod_le _ _)) (Nat.le_trans hl (by decide))
  have LR := Lib.hid lr
  have SS : Hid (sg (r : Int) = 1) := by
    show _ = _
    rcases sg_cases (r : Int) with ⟨e, h0⟩ | ⟨e, h0⟩ | ⟨e, h0⟩ <;> first | exact e | omega
  clear h h' hl hl' hp hd hq hr lr
  go_enter Tryz.func42, Tryz.ntmps42
  go_wp2_with fail
  generalize ((w.alloc (.cells #[.bool false, .slice B (ofv p).length k] 24)).alloc (.cells #[.bool false, .slice A (ofv n).length c] 24)) = w2 at *
  refine (rdmNat RN.out RP.out LN.out LP.out P0.out HQ.out HR.out).mono ?_
  rintro e w3 ⟨P3, k3, P4, k4, rfl, ho, ho2, hb⟩
  replace V0 := Lib.hid (V0.out.below hb V0.out.lt)
  replace V1 := Lib.hid (V1.out.below hb V1.out.lt)
  replace RN := Lib.hid (RN.out.below hb)
  replace RP := Lib.hid (RP.out.below hb)
  replace B1 := Lib.hid (B1.out.trans (hb.mono B1.out.size))
  have RR := Lib.hid ho2.rd
  clear ho ho2 hb
  go_wp2_with fail
  have hb : Below w3.heap.size w3 (w3.alloc (.cells #[.bool false, .slice P3 (ofv q).length k3] 24)) := (Below.refl _ _).alloc (Nat.le_refl _) _
  replace V0 := Lib.hid (V0.out.below hb V0.out.lt)
  replace V1 := Lib.hid (V1.out.below hb V1.out.lt)
  replace RN := Lib.hid (RN.out.below hb)
  replace RP := Lib.hid (RP.out.below hb)
  replace RR := Lib.hid (RR.out.below hb)
  replace B1 := Lib.hid (B1.out.trans (hb.mono B1.out.size))
  have V3 := Lib.hid (Zb.new w3 false P3 (ofv q).length k3)
  clear hb
  have hb : Below (w3.alloc (.cells #[.bool false, .slice P3 (ofv q).length k3] 24)).heap.size (w3.alloc (.cells #[.bool false, .slice P3 (ofv q).length k3] 24)) ((w3.alloc (.cells #[.bool false, .slice P3 (ofv q).length k3] 24)).alloc (.cells #[.bool false, .slice P4 (ofv r).length k4] 24)) := (Below.refl _ _).alloc (Nat.le_refl _) _
  replace V0 := Lib.hid (V0.out.below hb V0.out.lt)
  replace V1 := Lib.hid (V1.out.below hb V1.out.lt)
  replace RN := Lib.hid (RN.out.below hb)
  replace RP := Lib.hid (RP.out.below hb)
  replace RR := Lib.hid (RR.out.below hb)
  replace V3 := Lib.hid (V3.out.below hb V3.out.lt)
  replace B1 := Lib.hid (B1.out.trans (hb.mono B1.out.size))
  clear hb
  generalize ((w3.alloc (.cells #[.bool false, .slice P3 (ofv q).length k3] 24)).alloc (.cells #[.bool false, .slice P4 (ofv r).length k4] 24)) = w4 at *
  go_wp2_with fail
  refine (rsign_n RR.out LR.out SS.out).mono ?_
  rintro e w5 ⟨rfl, hb⟩
  replace V0 := Lib.hid (V0.out.below hb V0.out.lt)
  replace V1 := Lib.hid (V1.out.below hb V1.out.lt)
  replace RN := Lib.hid (RN.out.below hb)
  replace RP := Lib.hid (RP.out.below hb)
  replace RR := Lib.hid (RR.out.below hb)
  replace V3 := Lib.hid (V3.out.below hb V3.out.lt)
  replace B1 := Lib.hid (B1.out.trans (hb.mono B1.out.size))
  clear hb
  go_wp2
  go_ret
  exact ⟨rfl, B1.out⟩
/-- Quotient and remainder. -/
def isD (q r : Nat) (v : Value) (w : World) : Prop := ∃ R c R' c', v = .tuple #[.agg #[.bool false, .slice R (ofv q).length c], .agg #[.bool false, .slice R' (ofv r).length c'], .bool true] ∧ Rd w R c (ofv q) ∧ Rd w R' c' (ofv r)
theorem isD_good (q r : Nat) : Good (isD q r) := ⟨fun v w w' hb ⟨R, c, R', c', e, o, o'⟩ => ⟨R, c, R', c', e, o.below hb, o'.below hb⟩, fun v w g ⟨R, c, R', c', e, o, o'⟩ h => by subst e; cases h⟩
theorem facs_div {e p k r : Nat} (hp : 2 ≤ p) (h : Facs e p k r) (hd : e % p = 0) : ∃ k', Facs (e / p) p k' r := by
  obtain ⟨h1, h2⟩ := h
  cases k with
  | zero => rw [Nat.pow_zero, Nat.one_mul] at h1; subst h1; exact absurd (Nat.dvd_of_mod_eq_zero hd) h2
  | succ k =>
    refine ⟨k, ?_, h2⟩
    rw [h1, Nat.pow_succ, Nat.mul_comm (p ^ k) p, Nat.mul_assoc, Nat.mul_div_cancel_left _ (by omega)]
theorem facs_end {e p k r : Nat} (h : Facs e p k r) (hd : e % p ≠ 0) : e = r := by
  obtain ⟨h1, h2⟩ := h
  cases k with
  | zero => rw [h1]; simp
  | succ k => exact absurd (by rw [h1, Nat.pow_succ, Nat.mul_comm (p ^ k) p, Nat.mul_assoc]; exact Nat.mul_mod_right _ _) hd
theorem mul_ten {r : Rat} (i : Nat) : r * mkRat ((10 ^ i : Nat) : Int) 1 = mkRat (r.num * ((10 ^ i : Nat) : Int)) r.den := by
  have := Rat.mkRat_mul_mkRat r.num ((10 ^ i : Nat) : Int) r.den 1
  rw [mk_self, Nat.mul_one] at this
  exact this
theorem den_low {r : Rat} {i : Nat} (h : (r * mkRat ((10 ^ i : Nat) : Int) 1).den = 1) : r.den ∣ 10 ^ i := by
  rw [mul_ten] at h
  have hd := den_pos r
  obtain ⟨_, h2⟩ := mk_low (z := r.num * ((10 ^ i : Nat) : Int)) hd rfl
  rw [h] at h2
  have hg : Nat.gcd (r.num * ((10 ^ i : Nat) : Int)).natAbs r.den ∣ r.den := Nat.gcd_dvd_right _ _
  obtain ⟨t, ht⟩ := hg
  have hgp : 0 < Nat.gcd (r.num * ((10 ^ i : Nat) : Int)).natAbs r.den := Nat.gcd_pos_of_pos_right _ hd
  have h3 : r.den / Nat.gcd (r.num * ((10 ^ i : Nat) : Int)).natAbs r.den = t := by
    conv => lhs; lhs; rw [ht]
    exact Nat.mul_div_cancel_left _ hgp
  rw [h3] at h2
  subst h2
  rw [Nat.mul_one] at ht
  have h4 : r.den ∣ (r.num * ((10 ^ i : Nat) : Int)).natAbs := by
    have h5 := Nat.gcd_dvd_left (r.num * ((10 ^ i : Nat) : Int)).natAbs r.den
    rwa [← ht] at h5
  rw [Int.natAbs_mul, Int.natAbs_natCast] at h4
  have hc : Nat.Coprime r.den r.num.natAbs := by
    have := r.reduced
    exact Nat.Coprime.symm this
  exact hc.dvd_of_dvd_mul_left h4
theorem places {d i k1 r1 k2 : Nat} (h1 : Facs d 2 k1 r1) (h2 : Facs r1 5 k2 1) (h : d ∣ 10 ^ i) : k1 ≤ i ∧ k2 ≤ i := by
  have e3 : d = 2 ^ k1 * 5 ^ k2 := by rw [h1.1, h2.1, Nat.mul_one]
  have e10 : (10 : Nat) ^ i = 2 ^ i * 5 ^ i := by rw [← Nat.mul_pow]
  rw [e3, e10] at h
  have a1 : 2 ^ k1 ∣ 2 ^ i * 5 ^ i := Nat.dvd_trans (Nat.dvd_mul_right _ _) h
  have a2 : 5 ^ k2 ∣ 2 ^ i * 5 ^ i := Nat.dvd_trans (Nat.dvd_mul_left _ _) h
  have c1 : Nat.Coprime (2 ^ k1) (5 ^ i) := Nat.Coprime.pow _ _ (by decide)
  have c2 : Nat.Coprime (5 ^ k2) (2 ^ i) := Nat.Coprime.pow _ _ (by decide)
  exact ⟨(Nat.pow_dvd_pow_iff_le_right (by decide)).1 (c1.dvd_of_dvd_mul_right a1), (Nat.pow_dvd_pow_iff_le_right (by decide)).1 (c2.dvd_of_dvd_mul_left a2)⟩
theorem den_not {r : Rat} {k1 r1 k2 i : Nat} (h1 : Facs r.den 2 k1 r1) (h2 : Facs r1 5 k2 1) (hi : i < max k1 k2) : (r * mkRat ((10 ^ i : Nat) : Int) 1).den ≠ 1 := by
  intro h
  obtain ⟨a, b⟩ := places h1 h2 (den_low h)
  omega
theorem int_of {r : Rat} {i : Nat} {v : Int} (hv : Rat.divInt v ((10 ^ i : Nat) : Int) = r) : r * mkRat ((10 ^ i : Nat) : Int) 1 = mkRat v 1 := by
  have hp : 0 < 10 ^ i := Nat.pow_pos (by omega)
  have e : Rat.divInt v ((10 ^ i : Nat) : Int) = mkRat v (10 ^ i) := rfl
  rw [← hv, e, Rat.mkRat_mul_mkRat, Nat.mul_one]
  have := Rat.mkRat_mul_right (n := v) (d := 1) (a := 10 ^ i) (by omega)
  rw [Nat.one_mul] at this
  exact this
theorem mk_one (v : Int) : (mkRat v 1).num = v ∧ (mkRat v 1).den = 1 := by
  obtain ⟨a, b⟩ := mk_low (z := v) (d := 1) (g := 1) (by omega) (Nat.gcd_one_right _)
  exact ⟨by rw [a]; simp, by rw [b]⟩
set_option maxRecDepth 100000 in
set_option maxHeartbeats 16000000 in
theorem rdecimal_any {s : Bool} {A D : Option Addr} {n cA m k : Nat} {x : Int} {p : Nat} {w : World} (h : Zin w s A n cA x) (h' : Nin w D m k p) (hn : n ≤ 1500000) (hm : m ≤ 1500000) {k1 r1 k2 r2 : Nat} (f1 : Facs (mkRat x p).den 2 k1 r1) (f2 : Facs r1 5 k2 r2) {res : Value} (hc : (r2 ≠ 1 ∧ res = .tuple #[.string ⟨#[]⟩, .bool false]) ∨ (r2 = 1 ∧ ∃ (v : Int) (l : List UInt8), Rat.divInt v ((10 ^ max k1 k2 : Nat) : Int) = mkRat x p ∧ ptxt v (max k1 k2) = l ∧ res = .tuple #[.string (txt l), .bool true])) :
    Calls Tryz.prog 14 #[.agg #[.bool s, .slice A n cA, .slice D m k]] w fun e w' => e = .returned res ∧ Below w.heap.size w w' := by
  have fr1 := f1
  have fr2 := f2
  have ra : RL (mkRat x p) 1500000 := rl_mk (Nat.le_trans h.len hn) (Nat.le_trans h'.len hm) (by decide)
  obtain ⟨B1, V0⟩ := start_nR w s A n cA D m k
  have HX := Lib.hid (h.below B1.out)
  have HP := Lib.hid (h'.below B1.out)
  obtain ⟨z, hz⟩ : ∃ z, (mkRat x p).num = z := ⟨_, rfl⟩
  obtain ⟨d, hd⟩ : ∃ z, (mkRat x p).den = z := ⟨_, rfl⟩
  have hrl : RL (mkRat x p) 1500000 := rl_mk (Nat.le_trans h.len hn) (Nat.le_trans h'.len hm) (by decide)
  have l2 := hrl.2
  rw [hd] at l2 f1
  have d0 : 0 < d := by rw [← hd]; exact den_pos _
  have r0 : 0 < r1 := f1.pos d0
  have r20 : 0 < r2 := f2.pos r0
  have hb1 := f1.le d0 (by decide)
  have hb2 := f2.le r0 (by decide)
  have HZ := Lib.hid hz
  have HD := Lib.hid hd
  have F1 := Lib.hid f1
  have F2 := Lib.hid f2
  have D0 := Lib.hid d0
  have R0 := Lib.hid r0
  have R20 := Lib.hid r20
  have LD : Hid ((ofv d).length ≤ 1500000) := l2
  have BB1 := Lib.hid hb1
  have BB2 := Lib.hid hb2
  have KN : Hid (n ≤ 17592186043000) := Nat.le_trans hn (by decide)
  have KM : Hid (m ≤ 17592186043000) := Nat.le_trans hm (by decide)
  have KN2 : Hid (n ≤ 35184372087808) := Nat.le_trans hn (by decide)
  have KM2 : Hid (m ≤ 35184372087808) := Nat.le_trans hm (by decide)
  obtain ⟨two, h2⟩ : ∃ z : Nat, 2 = z := ⟨_, rfl⟩
  obtain ⟨five, h5⟩ : ∃ z : Nat, 5 = z := ⟨_, rfl⟩
  obtain ⟨one, h1⟩ : ∃ z : Nat, 1 = z := ⟨_, rfl⟩
  have E2 : Hid ((2 : Int) = (two : Int)) := by show _ = _; omega
  have E5 : Hid ((5 : Int) = (five : Int)) := by show _ = _; omega
  have E1 : Hid ((1 : Int) = (one : Int)) := by show _ = _; omega
  have N2 : Hid (2 ≤ two ∧ two < 9223372036854775807) := by show _ ∧ _; omega
  have N5 : Hid (2 ≤ five ∧ five < 9223372036854775807) := by show _ ∧ _; omega
  have N1 : Hid (one < 9223372036854775807) := by show _ < _; omega
  have G2 : Hid ((ofv two).length ≤ 35184372087808) := by show _ ≤ _; rw [← h2]; exact Nat.le_trans (len_small (by decide)) (by decide)
  have G5 : Hid ((ofv five).length ≤ 35184372087808) := by show _ ≤ _; rw [← h5]; exact Nat.le_trans (len_small (by decide)) (by decide)
  have G1L : Hid ((ofv one).length ≤ 70368744177663) := by show _ ≤ _; rw [← h1]; exact Nat.le_trans (len_small (by decide)) (by decide)
  have LR2 : Hid ((ofv r2).length ≤ 70368744177663) := Nat.le_trans (len_mono (Nat.le_trans hb2.2 hb1.2)) (Nat.le_trans l2 (by decide))
  rw [h2] at f1
  rw [h5] at f2
  have F1' := Lib.hid f1
  have F2' := Lib.hid f2
  have HC := Lib.hid hc
  have FR1 := Lib.hid fr1
  have FR2 := Lib.hid fr2
  have RA := Lib.hid ra
  clear hc fr1 fr2 ra
  clear h h' hn hm f1 f2 hz hd hrl l2 d0 r0 r20 hb1 hb2 h1 h2 h5
  go_enter Tryz.func14, Tryz.ntmps14
  go_wp2_with fail
  generalize (w.alloc (.cells #[.bool s, .slice A n cA, .slice D m k] 26)) = w2 at *
  refine (rnorm_any HX.out HP.out KN2.out KM2.out HZ.out HD.out).mono ?_
  rintro e w3 ⟨P1, c1, Q1, k1q, rfl, ho, ho2, hb⟩
  replace V0 := Lib.hid (V0.out.below hb V0.out.lt)
  replace HX := Lib.hid (HX.out.below hb)
  replace HP := Lib.hid (HP.out.below hb)
  replace B1 := Lib.hid (B1.out.trans (hb.mono B1.out.size))
  have OE := Lib.hid ho2.rd
  have LG : Hid (w.heap.size < w3.heap.size) := V0.out.lt
  clear ho ho2 hb
  have fl := field1 (decide (z < 0)) P1 (ofv z.natAbs).length c1 Q1 (ofv d).length k1q w3
  have hb : Below w3.heap.size w3 (w3.alloc (.cells #[.bool false, .slice Q1 (ofv d).length k1q] 24)) := (Below.refl _ _).alloc (Nat.le_refl _) _
  replace V0 := Lib.hid (V0.out.below hb V0.out.lt)
  replace HX := Lib.hid (HX.out.below hb)
  replace HP := Lib.hid (HP.out.below hb)
  replace OE := Lib.hid (OE.out.below hb)
  replace B1 := Lib.hid (B1.out.trans (hb.mono B1.out.size))
  have V4 := Lib.hid (Zb.new w3 false Q1 (ofv d).length k1q)
  clear hb
  have hb : Below (w3.alloc (.cells #[.bool false, .slice Q1 (ofv d).length k1q] 24)).heap.size (w3.alloc (.cells #[.bool false, .slice Q1 (ofv d).length k1q] 24)) ((w3.alloc (.cells #[.bool false, .slice Q1 (ofv d).length k1q] 24)).alloc (.cells #[.int .i64 2, .int .i64 5] 3)) := (Below.refl _ _).alloc (Nat.le_refl _) _
  replace V0 := Lib.hid (V0.out.below hb V0.out.lt)
  replace HX := Lib.hid (HX.out.below hb)
  replace HP := Lib.hid (HP.out.below hb)
  replace OE := Lib.hid (OE.out.below hb)
  replace V4 := Lib.hid (V4.out.below hb V4.out.lt)
  replace B1 := Lib.hid (B1.out.trans (hb.mono B1.out.size))
  have CA := Lib.hid (Ab.new (w3.alloc (.cells #[.bool false, .slice Q1 (ofv d).length k1q] 24)))
  have hsz : (w3.alloc (.cells #[.bool false, .slice Q1 (ofv d).length k1q] 24)).heap.size = w3.heap.size + 1 := by simp
  rw [hsz] at CA
  clear hb hsz
  go_wp2_with fail
  generalize ((w3.alloc (.cells #[.bool false, .slice Q1 (ofv d).length k1q] 24)).alloc (.cells #[.int .i64 2, .int .i64 5] 3)) = w4 at *
  generalize w3.heap.size = g4 at *
  go_loopw [15] (fun a wr => ∃ (i : Int) (e : Nat) (P : Option Addr) (c : Nat), ((i = 0 ∧ d = e) ∨ (i = 1 ∧ r1 = e) ∨ (i = 2 ∧ r2 = e)) ∧ Hid (Zb wr g4 false P (ofv e).length c) ∧ Hid (Rd wr P c (ofv e)) ∧ Hid (Ab wr (g4 + 1)) ∧ Hid (Rb wr w.heap.size s A n cA D m k) ∧ Hid (Zin wr s A n cA x) ∧ Hid (Nin wr D m k p) ∧ Hid (Below w.heap.size w wr) ∧ a = .int .i64 i) (fun a _ => (3 - intOf a).toNat)
  case atStart => exact ⟨0, d, _, _, .inl ⟨rfl, rfl⟩, V4, OE, CA, V0, HX, HP, B1, rfl⟩
  case round =>
    clear V4 OE CA V0 HX HP B1
    obtain ⟨i, e, P, c, hcase, V4, OE, CA, V0, HX, HP, B1, rfl⟩ := hrel
    rcases hcase with ⟨rfl, rfl⟩ | ⟨rfl, rfl⟩ | ⟨rfl, rfl⟩
    · skip
      have c0 := CA.out.1
      go_wp2_with fail
      clear c0
      go_loopw [] (fun wi => ∃ (e k' : Nat) (P : Option Addr) (c : Nat), Hid (0 < e) ∧ Hid (e ≤ d) ∧ Hid (Facs e two k' r1) ∧ Hid (Zb wi g4 false P (ofv e).length c) ∧ Hid (Rd wi P c (ofv e)) ∧ Hid (Ab wi (g4 + 1)) ∧ Hid (Rb wi w.heap.size s A n cA D m k) ∧ Hid (Zin wi s A n cA x) ∧ Hid (Nin wi D m k p) ∧ Hid (Below w.heap.size w wi)) (fun wi => rdz wi g4)
      case atStart => exact ⟨d, _, P, c, D0, Nat.le_refl _, F1', V4, OE, CA, V0, HX, HP, B1⟩
      case round =>
        clear V4 OE CA V0 HX HP B1
        obtain ⟨e, k', P, c, EP, ED, FK, V4, OE, CA, V0, HX, HP, B1⟩ := hrel
        have LE : Hid ((ofv e).length ≤ 35184372087808) := Nat.le_trans (len_mono ED.out) (Nat.le_trans LD.out (by decide))
        by_cases hdv : e % two = 0
        · have DV := Lib.hid hdv
          obtain ⟨q, hq⟩ : ∃ q, e / two = q := ⟨_, rfl⟩
          obtain ⟨rm, hrm⟩ : ∃ q, e % two = q := ⟨_, rfl⟩
          have HQ := Lib.hid hq
          have HRM := Lib.hid hrm
          clear hq hrm
          clear hdv
          have me := rdz_eq V4.out OE.out rfl
          rw [val_ofv] at me
          have ME := Lib.hid me
          clear me
          go_wp2_with fail
          have HB : Hid (Below wr.heap.size wr wr.drew) := below_drewN _ wr 1
          refine wp_region_held_drew (S := fun w' => Below wr.heap.size wr w') (by kernel_rfl) (HB.out) (fun hHeld => ?_)
          refine wpAnyH_takeL (i := 0) (oi := _) (v := ?_) rfl (by kernel_rfl) (by kernel_rfl) (by kernel_rfl) (fun _ _ _ h => h) (Or.inl ⟨by rfl, ?_⟩) hHeld ?_
          rotate_left
          · (intro w' hSw; (try dsimp only at hSw); go_simp; try (with_reducible rfl))
          try simp only [Act.put, List.setIfInBounds_toArray, List.set_cons_zero, List.set_cons_succ]
          refine wpAnyH_takeL (i := 2) (oi := _) rfl (by kernel_rfl) (by kernel_rfl) (by kernel_rfl) (fun _ _ _ h => h) (yields_ldZ (by rfl) _ rfl (by rfl) (fun _ hb => V4.out.below hb V4.out.lt)) hHeld ?_
          try simp only [Act.put, List.setIfInBounds_toArray, List.set_cons_zero, List.set_cons_succ]
          refine wpAnyH_ready (rs := [1]) (by kernel_rfl) (by simp) ?_
          refine AllReadyH.consL (o := _) rfl (fun K hK => ?_) AllReadyH.nil
          clear hHeld
          go_simp
          go_at_call 26
          refine Calls.mono (rfromNat E2.out N2.out.2 _) ?_
          rintro e w6 ⟨P6, c6, rfl, ho, hb⟩
          replace HB := Lib.hid (HB.out.trans (hb.mono HB.out.size))
          have R6 := Lib.hid ho.rd
          clear ho
          clear hb
          refine hK.out _ _ HB.out (fun hHeld => ?_)
          clear hK K
          try simp only [Act.put, List.setIfInBounds_toArray, List.set_cons_zero, List.set_cons_succ]
          refine wpAnyH_ready (rs := [3]) (by kernel_rfl) (by simp) ?_
          refine AllReadyH.consL (o := _) rfl (fun K hK => ?_) AllReadyH.nil
          clear hHeld
          go_simp
          go_at_call 42
          refine Calls.mono (rdivides_yes (OE.out.below HB.out) R6.out LE.out G2.out (Nat.lt_of_lt_of_le (by decide) N2.out.1) DV.out) ?_
          rintro e w7 ⟨rfl, hb⟩
          replace HB := Lib.hid (HB.out.trans (hb.mono HB.out.size))
          clear R6
          clear hb
          refine hK.out _ _ HB.out (fun hHeld => ?_)
          clear hK K
          try simp only [Act.put, List.setIfInBounds_toArray, List.set_cons_zero, List.set_cons_succ]
          skip
          refine wpAnyH_done (by kernel_rfl) ?_ _
          have hb := HB.out
          replace V4 := Lib.hid (V4.out.below hb V4.out.lt)
          replace OE := Lib.hid (OE.out.below hb)
          replace CA := Lib.hid (CA.out.below hb)
          replace V0 := Lib.hid (V0.out.below hb V0.out.lt)
          replace HX := Lib.hid (HX.out.below hb)
          replace HP := Lib.hid (HP.out.below hb)
          replace B1 := Lib.hid (B1.out.trans (hb.mono B1.out.size))
          clear hHeld hb HB
          go_wp2_with fail
          have HB : Hid (Below w7.heap.size w7 w7.drew) := below_drewN _ w7 1
          refine wp_region_held_drew (S := fun _ => True) (by kernel_rfl) trivial (fun hHeld => ?_)
          refine wpAnyH_rgu [(0, some 24), (1, some 25), (2, some 26), (3, some 27), (4, some 23), (5, some 28), (6, some 29), (7, some 30)] [4, 5, 6, 7] (isN q) [(0, isN e), (1, isV (.int .i64 2)), (2, isN two), (3, isD q rm), (4, isD q rm), (6, isN rm), (7, isV (.bool true))] w7 (f0 := 1) (by kernel_rfl) (by kernel_rfl) (by rfl) HB.out (fun _ _ => trivial) (fun _ _ _ _ _ h => h) (isN_good _) ⟨isN_good _, isV_good _, isN_good _, isD_good _ _, isD_good _ _, isN_good _, isV_good _, trivial⟩ ?_ ?_ ?_
          · clear hHeld HB
            show RgOps _ _ _ _ _ _ _ _ _ [0, 1, 2, 3]
            refine RgOps.consL (o := _) (ds := []) rfl rfl (by kernel_rfl) (fun vals wr hbr hC hdep K hK => ?_) ?_
            · have BB := Lib.hid hbr
              clear hdep
              clear hbr hC
              simp only [Upd2, Act.put, List.setIfInBounds_toArray, List.set_cons_zero, List.set_cons_succ] at hK ⊢
              rw [if_pos (by rfl)]
              refine wp_ldZ _ rfl (by rfl) (V4.out.below BB.out V4.out.lt) ?_
              exact hK.out _ _ (LeavesB.same ⟨_, _, rfl, OE.out.below BB.out⟩ rfl)
            refine RgOps.consL (o := _) (ds := []) rfl rfl (by kernel_rfl) (fun vals wr hbr hC hdep K hK => ?_) ?_
            · have BB := Lib.hid hbr
              clear hdep
              clear hbr hC
              simp only [Upd2, Act.put, List.setIfInBounds_toArray, List.set_cons_zero, List.set_cons_succ] at hK ⊢
              go_simp
              exact hK.out _ _ (LeavesB.same ⟨rfl, rfl⟩ rfl)
            refine RgOps.consL (o := _) (ds := [1]) rfl rfl (by kernel_rfl) (fun vals wr hbr hC hdep K hK => ?_) ?_
            · have BB := Lib.hid hbr
              obtain ⟨⟨e1, -⟩, -⟩ := hdep
              clear hbr hC
              simp only [e1, Upd2, Act.put, List.setIfInBounds_toArray, List.set_cons_zero, List.set_cons_succ] at hK ⊢
              clear e1
              go_simp
              go_at_call 26
              refine Calls.mono (rfromNat E2.out N2.out.2 _) ?_
              rintro e wq ⟨R, cR, rfl, ho, hb⟩
              exact hK.out _ _ (LeavesB.behind hb ⟨_, _, rfl, ho.rd⟩ rfl)
            refine RgOps.consL (o := _) (ds := [0, 2]) rfl rfl (by kernel_rfl) (fun vals wr hbr hC hdep K hK => ?_) RgOps.nil
            · have BB := Lib.hid hbr
              obtain ⟨⟨P0, c0, e0, o0⟩, ⟨P2, c2, e2, o2⟩, -⟩ := hdep
              clear hbr hC
              simp only [e0, e2, Upd2, Act.put, List.setIfInBounds_toArray, List.set_cons_zero, List.set_cons_succ] at hK ⊢
              clear e0 e2
              go_simp
              go_at_call 43
              refine Calls.mono (rdmNat o0 o2 LE.out G2.out (Nat.lt_of_lt_of_le (by decide) N2.out.1) HQ.out HRM.out) ?_
              rintro e wq ⟨R, cR, R', cR', rfl, ho, ho2, hb⟩
              exact hK.out _ _ (LeavesB.behind hb ⟨_, _, _, _, rfl, ho.rd, ho2.rd⟩ rfl)
          · clear hHeld HB
            show TaAll _ _ _ _ _ [4, 5, 6, 7]
            refine TaAll.cons (o := _) (ds := [3]) rfl rfl (by kernel_rfl) (fun vals wr hdep => ?_) ?_
            · obtain ⟨⟨P3, c3, Q3, k3, e3, o3, u3⟩, -⟩ := hdep
              refine ⟨_, fun S => Or.inl ⟨by rfl, ?_⟩, ⟨_, _, _, _, rfl, o3, u3⟩, rfl⟩
              intro w' _
              simp only [e3, Upd2, Act.put, List.setIfInBounds_toArray, List.set_cons_zero, List.set_cons_succ]
              go_simp
            refine TaAll.cons (o := _) (ds := [4]) rfl rfl (by kernel_rfl) (fun vals wr hdep => ?_) ?_
            · obtain ⟨⟨P4, c4, Q4, k4, e4, o4, u4⟩, -⟩ := hdep
              refine ⟨_, fun S => Or.inl ⟨by rfl, ?_⟩, ⟨_, _, rfl, o4⟩, rfl⟩
              intro w' _
              simp only [e4, Upd2, Act.put, List.setIfInBounds_toArray, List.set_cons_zero, List.set_cons_succ]
              go_simp
            refine TaAll.cons (o := _) (ds := [4]) rfl rfl (by kernel_rfl) (fun vals wr hdep => ?_) ?_
            · obtain ⟨⟨P4, c4, Q4, k4, e4, o4, u4⟩, -⟩ := hdep
              refine ⟨_, fun S => Or.inl ⟨by rfl, ?_⟩, ⟨_, _, rfl, u4⟩, rfl⟩
              intro w' _
              simp only [e4, Upd2, Act.put, List.setIfInBounds_toArray, List.set_cons_zero, List.set_cons_succ]
              go_simp
            refine TaAll.cons (o := _) (ds := [4]) rfl rfl (by kernel_rfl) (fun vals wr hdep => ?_) TaAll.nil
            · obtain ⟨⟨P4, c4, Q4, k4, e4, o4, u4⟩, -⟩ := hdep
              refine ⟨_, fun S => Or.inl ⟨by rfl, ?_⟩, ⟨rfl, rfl⟩, rfl⟩
              intro w' _
              simp only [e4, Upd2, Act.put, List.setIfInBounds_toArray, List.set_cons_zero, List.set_cons_succ]
              go_simp
          clear hHeld HB
          intro vals wr hb hdep hD
          obtain ⟨⟨P0, c0, e0, o0⟩, ⟨e1, -⟩, ⟨P2, c2, e2, o2⟩, ⟨P3, c3, Q3, k3, e3, o3, u3⟩, ⟨P4, c4, Q4, k4, e4, o4, u4⟩, ⟨P5, c5, e5, o5⟩, ⟨P6, c6, e6, o6⟩, ⟨e7, -⟩, -⟩ := hdep
          simp only [Upd2, e0, e1, e2, e3, e4, e5, e6, e7, Act.put, List.setIfInBounds_toArray, List.set_cons_zero, List.set_cons_succ]
          clear e0 e1 e2 e3 e4 e5 e6 e7
          clear hD vals
          replace V4 := Lib.hid (V4.out.below hb V4.out.lt)
          replace OE := Lib.hid (OE.out.below hb)
          replace CA := Lib.hid (CA.out.below hb)
          replace V0 := Lib.hid (V0.out.below hb V0.out.lt)
          replace HX := Lib.hid (HX.out.below hb)
          replace HP := Lib.hid (HP.out.below hb)
          replace B1 := Lib.hid (B1.out.trans (hb.mono B1.out.size))
          have HB := Lib.hid hb
          clear hb
          have OQ := Lib.hid o5
          clear o0 o2 o3 u3 o4 u4 o5 o6
          refine wpAnyH_ready (rs := [8]) (by kernel_rfl) (by simp) ?_
          refine AllReadyH.consL (o := _) rfl (fun K hK => ?_) AllReadyH.nil
          rw [if_pos (by rfl)]
          refine wp_stZ _ _ rfl (by rfl) (by rfl) V4.out ?_
          intro w8_0 hz hg
          replace OE := Lib.hid (OE.out.gr V4.out hg)
          replace CA := Lib.hid (CA.out.gr V4.out hg)
          replace V0 := Lib.hid (V0.out.gro hg (by have := LG.out; omega))
          replace HX := Lib.hid (HX.out.gr V4.out hg)
          replace HP := Lib.hid (HP.out.gr V4.out hg)
          replace OQ := Lib.hid (OQ.out.gr V4.out hg)
          replace B1 := Lib.hid (Below.gr B1.out (by have := LG.out; omega) hg B1.out.size)
          replace V4 := Lib.hid hz
          refine hK.out _ _ trivial (fun _ => ?_)
          clear hK K hg hz
          try simp only [Act.put]
          refine wpAnyH_done (by kernel_rfl) ?_ _
          clear HB
          go_wp2
          obtain ⟨k2', hk2'⟩ := facs_div N2.out.1 FK.out DV.out
          rw [HQ.out] at hk2'
          have hqe : q < e := by rw [← HQ.out]; exact Nat.div_lt_self EP.out N2.out.1
          have hq0 : 0 < q := by
            have h1 := Nat.le_of_dvd EP.out (Nat.dvd_of_mod_eq_zero DV.out)
            rw [← HQ.out]
            exact Nat.div_pos h1 (Nat.lt_of_lt_of_le (by decide) N2.out.1)
          have m1 := rdz_eq V4.out OQ.out rfl
          rw [val_ofv] at m1
          go_roundw
          case rel => exact ⟨q, k2', _, _, hq0, Nat.le_trans (Nat.le_of_lt hqe) ED.out, hk2', V4, OQ, CA, V0, HX, HP, B1⟩
          case measure =>
            rw [m1, ME.out]
            exact hqe
        · have DV := Lib.hid hdv
          clear hdv
          go_wp2_with fail
          have HB : Hid (Below wr.heap.size wr wr.drew) := below_drewN _ wr 1
          refine wp_region_held_drew (S := fun w' => Below wr.heap.size wr w') (by kernel_rfl) (HB.out) (fun hHeld => ?_)
          refine wpAnyH_takeL (i := 0) (oi := _) (v := ?_) rfl (by kernel_rfl) (by kernel_rfl) (by kernel_rfl) (fun _ _ _ h => h) (Or.inl ⟨by rfl, ?_⟩) hHeld ?_
          rotate_left
          · (intro w' hSw; (try dsimp only at hSw); go_simp; try (with_reducible rfl))
          try simp only [Act.put, List.setIfInBounds_toArray, List.set_cons_zero, List.set_cons_succ]
          refine wpAnyH_takeL (i := 2) (oi := _) rfl (by kernel_rfl) (by kernel_rfl) (by kernel_rfl) (fun _ _ _ h => h) (yields_ldZ (by rfl) _ rfl (by rfl) (fun _ hb => V4.out.below hb V4.out.lt)) hHeld ?_
          try simp only [Act.put, List.setIfInBounds_toArray, List.set_cons_zero, List.set_cons_succ]
          refine wpAnyH_ready (rs := [1]) (by kernel_rfl) (by simp) ?_
          refine AllReadyH.consL (o := _) rfl (fun K hK => ?_) AllReadyH.nil
          clear hHeld
          go_simp
          go_at_call 26
          refine Calls.mono (rfromNat E2.out N2.out.2 _) ?_
          rintro e w6 ⟨P6, c6, rfl, ho, hb⟩
          replace HB := Lib.hid (HB.out.trans (hb.mono HB.out.size))
          have R6 := Lib.hid ho.rd
          clear ho
          clear hb
          refine hK.out _ _ HB.out (fun hHeld => ?_)
          clear hK K
          try simp only [Act.put, List.setIfInBounds_toArray, List.set_cons_zero, List.set_cons_succ]
          refine wpAnyH_ready (rs := [3]) (by kernel_rfl) (by simp) ?_
          refine AllReadyH.consL (o := _) rfl (fun K hK => ?_) AllReadyH.nil
          clear hHeld
          go_simp
          go_at_call 42
          refine Calls.mono (rdivides_no (OE.out.below HB.out) R6.out LE.out G2.out (Nat.lt_of_lt_of_le (by decide) N2.out.1) DV.out) ?_
          rintro e w7 ⟨rfl, hb⟩
          replace HB := Lib.hid (HB.out.trans (hb.mono HB.out.size))
          clear R6
          clear hb
          refine hK.out _ _ HB.out (fun hHeld => ?_)
          clear hK K
          try simp only [Act.put, List.setIfInBounds_toArray, List.set_cons_zero, List.set_cons_succ]
          skip
          refine wpAnyH_done (by kernel_rfl) ?_ _
          have hb := HB.out
          replace V4 := Lib.hid (V4.out.below hb V4.out.lt)
          replace OE := Lib.hid (OE.out.below hb)
          replace CA := Lib.hid (CA.out.below hb)
          replace V0 := Lib.hid (V0.out.below hb V0.out.lt)
          replace HX := Lib.hid (HX.out.below hb)
          replace HP := Lib.hid (HP.out.below hb)
          replace B1 := Lib.hid (B1.out.trans (hb.mono B1.out.size))
          clear hHeld hb HB
          go_wp2
          have hee := facs_end FK.out DV.out
          go_roundw
          case rel => exact ⟨1, e, P, c, .inr (.inl ⟨rfl, hee.symm⟩), V4, OE, CA, V0, HX, HP, B1, rfl⟩
          case measure => simp [intOf]
    · skip
      have c0 := CA.out.2
      go_wp2_with fail
      clear c0
      go_loopw [] (fun wi => ∃ (e k' : Nat) (P : Option Addr) (c : Nat), Hid (0 < e) ∧ Hid (e ≤ d) ∧ Hid (Facs e five k' r2) ∧ Hid (Zb wi g4 false P (ofv e).length c) ∧ Hid (Rd wi P c (ofv e)) ∧ Hid (Ab wi (g4 + 1)) ∧ Hid (Rb wi w.heap.size s A n cA D m k) ∧ Hid (Zin wi s A n cA x) ∧ Hid (Nin wi D m k p) ∧ Hid (Below w.heap.size w wi)) (fun wi => rdz wi g4)
      case atStart => exact ⟨r1, _, P, c, R0, BB1.out.2, F2', V4, OE, CA, V0, HX, HP, B1⟩
      case round =>
        clear V4 OE CA V0 HX HP B1
        obtain ⟨e, k', P, c, EP, ED, FK, V4, OE, CA, V0, HX, HP, B1⟩ := hrel
        have LE : Hid ((ofv e).length ≤ 35184372087808) := Nat.le_trans (len_mono ED.out) (Nat.le_trans LD.out (by decide))
        by_cases hdv : e % five = 0
        · have DV := Lib.hid hdv
          obtain ⟨q, hq⟩ : ∃ q, e / five = q := ⟨_, rfl⟩
          obtain ⟨rm, hrm⟩ : ∃ q, e % five = q := ⟨_, rfl⟩
          have HQ := Lib.hid hq
          have HRM := Lib.hid hrm
          clear hq hrm
          clear hdv
          have me := rdz_eq V4.out OE.out rfl
          rw [val_ofv] at me
          have ME := Lib.hid me
          clear me
          go_wp2_with fail
          have HB : Hid (Below wr.heap.size wr wr.drew) := below_drewN _ wr 1
          refine wp_region_held_drew (S := fun w' => Below wr.heap.size wr w') (by kernel_rfl) (HB.out) (fun hHeld => ?_)
          refine wpAnyH_takeL (i := 0) (oi := _) (v := ?_) rfl (by kernel_rfl) (by kernel_rfl) (by kernel_rfl) (fun _ _ _ h => h) (Or.inl ⟨by rfl, ?_⟩) hHeld ?_
          rotate_left
          · (intro w' hSw; (try dsimp only at hSw); go_simp; try (with_reducible rfl))
          try simp only [Act.put, List.setIfInBounds_toArray, List.set_cons_zero, List.set_cons_succ]
          refine wpAnyH_takeL (i := 2) (oi := _) rfl (by kernel_rfl) (by kernel_rfl) (by kernel_rfl) (fun _ _ _ h => h) (yields_ldZ (by rfl) _ rfl (by rfl) (fun _ hb => V4.out.below hb V4.out.lt)) hHeld ?_
          try simp only [Act.put, List.setIfInBounds_toArray, List.set_cons_zero, List.set_cons_succ]
          refine wpAnyH_ready (rs := [1]) (by kernel_rfl) (by simp) ?_
          refine AllReadyH.consL (o := _) rfl (fun K hK => ?_) AllReadyH.nil
          clear hHeld
          go_simp
          go_at_call 26
          refine Calls.mono (rfromNat E5.out N5.out.2 _) ?_
          rintro e w6 ⟨P6, c6, rfl, ho, hb⟩
          replace HB := Lib.hid (HB.out.trans (hb.mono HB.out.size))
          have R6 := Lib.hid ho.rd
          clear ho
          clear hb
          refine hK.out _ _ HB.out (fun hHeld => ?_)
          clear hK K
          try simp only [Act.put, List.setIfInBounds_toArray, List.set_cons_zero, List.set_cons_succ]
          refine wpAnyH_ready (rs := [3]) (by kernel_rfl) (by simp) ?_
          refine AllReadyH.consL (o := _) rfl (fun K hK => ?_) AllReadyH.nil
          clear hHeld
          go_simp
          go_at_call 42
          refine Calls.mono (rdivides_yes (OE.out.below HB.out) R6.out LE.out G5.out (Nat.lt_of_lt_of_le (by decide) N5.out.1) DV.out) ?_
          rintro e w7 ⟨rfl, hb⟩
          replace HB := Lib.hid (HB.out.trans (hb.mono HB.out.size))
          clear R6
          clear hb
          refine hK.out _ _ HB.out (fun hHeld => ?_)
          clear hK K
          try simp only [Act.put, List.setIfInBounds_toArray, List.set_cons_zero, List.set_cons_succ]
          skip
          refine wpAnyH_done (by kernel_rfl) ?_ _
          have hb := HB.out
          replace V4 := Lib.hid (V4.out.below hb V4.out.lt)
          replace OE := Lib.hid (OE.out.below hb)
          replace CA := Lib.hid (CA.out.below hb)
          replace V0 := Lib.hid (V0.out.below hb V0.out.lt)
          replace HX := Lib.hid (HX.out.below hb)
          replace HP := Lib.hid (HP.out.below hb)
          replace B1 := Lib.hid (B1.out.trans (hb.mono B1.out.size))
          clear hHeld hb HB
          go_wp2_with fail
          have HB : Hid (Below w7.heap.size w7 w7.drew) := below_drewN _ w7 1
          refine wp_region_held_drew (S := fun _ => True) (by kernel_rfl) trivial (fun hHeld => ?_)
          refine wpAnyH_rgu [(0, some 24), (1, some 25), (2, some 26), (3, some 27), (4, some 23), (5, some 28), (6, some 29), (7, some 30)] [4, 5, 6, 7] (isN q) [(0, isN e), (1, isV (.int .i64 5)), (2, isN five), (3, isD q rm), (4, isD q rm), (6, isN rm), (7, isV (.bool true))] w7 (f0 := 1) (by kernel_rfl) (by kernel_rfl) (by rfl) HB.out (fun _ _ => trivial) (fun _ _ _ _ _ h => h) (isN_good _) ⟨isN_good _, isV_good _, isN_good _, isD_good _ _, isD_good _ _, isN_good _, isV_good _, trivial⟩ ?_ ?_ ?_
          · clear hHeld HB
            show RgOps _ _ _ _ _ _ _ _ _ [0, 1, 2, 3]
            refine RgOps.consL (o := _) (ds := []) rfl rfl (by kernel_rfl) (fun vals wr hbr hC hdep K hK => ?_) ?_
            · have BB := Lib.hid hbr
              clear hdep
              clear hbr hC
              simp only [Upd2, Act.put, List.setIfInBounds_toArray, List.set_cons_zero, List.set_cons_succ] at hK ⊢
              rw [if_pos (by rfl)]
              refine wp_ldZ _ rfl (by rfl) (V4.out.below BB.out V4.out.lt) ?_
              exact hK.out _ _ (LeavesB.same ⟨_, _, rfl, OE.out.below BB.out⟩ rfl)
            refine RgOps.consL (o := _) (ds := []) rfl rfl (by kernel_rfl) (fun vals wr hbr hC hdep K hK => ?_) ?_
            · have BB := Lib.hid hbr
              clear hdep
              clear hbr hC
              simp only [Upd2, Act.put, List.setIfInBounds_toArray, List.set_cons_zero, List.set_cons_succ] at hK ⊢
              go_simp
              exact hK.out _ _ (LeavesB.same ⟨rfl, rfl⟩ rfl)
            refine RgOps.consL (o := _) (ds := [1]) rfl rfl (by kernel_rfl) (fun vals wr hbr hC hdep K hK => ?_) ?_
            · have BB := Lib.hid hbr
              obtain ⟨⟨e1, -⟩, -⟩ := hdep
              clear hbr hC
              simp only [e1, Upd2, Act.put, List.setIfInBounds_toArray, List.set_cons_zero, List.set_cons_succ] at hK ⊢
              clear e1
              go_simp
              go_at_call 26
              refine Calls.mono (rfromNat E5.out N5.out.2 _) ?_
              rintro e wq ⟨R, cR, rfl, ho, hb⟩
              exact hK.out _ _ (LeavesB.behind hb ⟨_, _, rfl, ho.rd⟩ rfl)
            refine RgOps.consL (o := _) (ds := [0, 2]) rfl rfl (by kernel_rfl) (fun vals wr hbr hC hdep K hK => ?_) RgOps.nil
            · have BB := Lib.hid hbr
              obtain ⟨⟨P0, c0, e0, o0⟩, ⟨P2, c2, e2, o2⟩, -⟩ := hdep
              clear hbr hC
              simp only [e0, e2, Upd2, Act.put, List.setIfInBounds_toArray, List.set_cons_zero, List.set_cons_succ] at hK ⊢
              clear e0 e2
              go_simp
              go_at_call 43
              refine Calls.mono (rdmNat o0 o2 LE.out G5.out (Nat.lt_of_lt_of_le (by decide) N5.out.1) HQ.out HRM.out) ?_
              rintro e wq ⟨R, cR, R', cR', rfl, ho, ho2, hb⟩
              exact hK.out _ _ (LeavesB.behind hb ⟨_, _, _, _, rfl, ho.rd, ho2.rd⟩ rfl)
          · clear hHeld HB
            show TaAll _ _ _ _ _ [4, 5, 6, 7]
            refine TaAll.cons (o := _) (ds := [3]) rfl rfl (by kernel_rfl) (fun vals wr hdep => ?_) ?_
            · obtain ⟨⟨P3, c3, Q3, k3, e3, o3, u3⟩, -⟩ := hdep
              refine ⟨_, fun S => Or.inl ⟨by rfl, ?_⟩, ⟨_, _, _, _, rfl, o3, u3⟩, rfl⟩
              intro w' _
              simp only [e3, Upd2, Act.put, List.setIfInBounds_toArray, List.set_cons_zero, List.set_cons_succ]
              go_simp
            refine TaAll.cons (o := _) (ds := [4]) rfl rfl (by kernel_rfl) (fun vals wr hdep => ?_) ?_
            · obtain ⟨⟨P4, c4, Q4, k4, e4, o4, u4⟩, -⟩ := hdep
              refine ⟨_, fun S => Or.inl ⟨by rfl, ?_⟩, ⟨_, _, rfl, o4⟩, rfl⟩
              intro w' _
              simp only [e4, Upd2, Act.put, List.setIfInBounds_toArray, List.set_cons_zero, List.set_cons_succ]
              go_simp
            refine TaAll.cons (o := _) (ds := [4]) rfl rfl (by kernel_rfl) (fun vals wr hdep => ?_) ?_
            · obtain ⟨⟨P4, c4, Q4, k4, e4, o4, u4⟩, -⟩ := hdep
              refine ⟨_, fun S => Or.inl ⟨by rfl, ?_⟩, ⟨_, _, rfl, u4⟩, rfl⟩
              intro w' _
              simp only [e4, Upd2, Act.put, List.setIfInBounds_toArray, List.set_cons_zero, List.set_cons_succ]
              go_simp
            refine TaAll.cons (o := _) (ds := [4]) rfl rfl (by kernel_rfl) (fun vals wr hdep => ?_) TaAll.nil
            · obtain ⟨⟨P4, c4, Q4, k4, e4, o4, u4⟩, -⟩ := hdep
              refine ⟨_, fun S => Or.inl ⟨by rfl, ?_⟩, ⟨rfl, rfl⟩, rfl⟩
              intro w' _
              simp only [e4, Upd2, Act.put, List.setIfInBounds_toArray, List.set_cons_zero, List.set_cons_succ]
              go_simp
          clear hHeld HB
          intro vals wr hb hdep hD
          obtain ⟨⟨P0, c0, e0, o0⟩, ⟨e1, -⟩, ⟨P2, c2, e2, o2⟩, ⟨P3, c3, Q3, k3, e3, o3, u3⟩, ⟨P4, c4, Q4, k4, e4, o4, u4⟩, ⟨P5, c5, e5, o5⟩, ⟨P6, c6, e6, o6⟩, ⟨e7, -⟩, -⟩ := hdep
          simp only [Upd2, e0, e1, e2, e3, e4, e5, e6, e7, Act.put, List.setIfInBounds_toArray, List.set_cons_zero, List.set_cons_succ]
          clear e0 e1 e2 e3 e4 e5 e6 e7
          clear hD vals
          replace V4 := Lib.hid (V4.out.below hb V4.out.lt)
          replace OE := Lib.hid (OE.out.below hb)
          replace CA := Lib.hid (CA.out.below hb)
          replace V0 := Lib.hid (V0.out.below hb V0.out.lt)
          replace HX := Lib.hid (HX.out.below hb)
          replace HP := Lib.hid (HP.out.below hb)
          replace B1 := Lib.hid (B1.out.trans (hb.mono B1.out.size))
          have HB := Lib.hid hb
          clear hb
          have OQ := Lib.hid o5
          clear o0 o2 o3 u3 o4 u4 o5 o6
          refine wpAnyH_ready (rs := [8]) (by kernel_rfl) (by simp) ?_
          refine AllReadyH.consL (o := _) rfl (fun K hK => ?_) AllReadyH.nil
          rw [if_pos (by rfl)]
          refine wp_stZ _ _ rfl (by rfl) (by rfl) V4.out ?_
          intro w8_0 hz hg
          replace OE := Lib.hid (OE.out.gr V4.out hg)
          replace CA := Lib.hid (CA.out.gr V4.out hg)
          replace V0 := Lib.hid (V0.out.gro hg (by have := LG.out; omega))
          replace HX := Lib.hid (HX.out.gr V4.out hg)
          replace HP := Lib.hid (HP.out.gr V4.out hg)
          replace OQ := Lib.hid (OQ.out.gr V4.out hg)
          replace B1 := Lib.hid (Below.gr B1.out (by have := LG.out; omega) hg B1.out.size)
          replace V4 := Lib.hid hz
          refine hK.out _ _ trivial (fun _ => ?_)
          clear hK K hg hz
          try simp only [Act.put]
          refine wpAnyH_done (by kernel_rfl) ?_ _
          clear HB
          go_wp2
          obtain ⟨k2', hk2'⟩ := facs_div N5.out.1 FK.out DV.out
          rw [HQ.out] at hk2'
          have hqe : q < e := by rw [← HQ.out]; exact Nat.div_lt_self EP.out N5.out.1
          have hq0 : 0 < q := by
            have h1 := Nat.le_of_dvd EP.out (Nat.dvd_of_mod_eq_zero DV.out)
            rw [← HQ.out]
            exact Nat.div_pos h1 (Nat.lt_of_lt_of_le (by decide) N5.out.1)
          have m1 := rdz_eq V4.out OQ.out rfl
          rw [val_ofv] at m1
          go_roundw
          case rel => exact ⟨q, k2', _, _, hq0, Nat.le_trans (Nat.le_of_lt hqe) ED.out, hk2', V4, OQ, CA, V0, HX, HP, B1⟩
          case measure =>
            rw [m1, ME.out]
            exact hqe
        · have DV := Lib.hid hdv
          clear hdv
          go_wp2_with fail
          have HB : Hid (Below wr.heap.size wr wr.drew) := below_drewN _ wr 1
          refine wp_region_held_drew (S := fun w' => Below wr.heap.size wr w') (by kernel_rfl) (HB.out) (fun hHeld => ?_)
          refine wpAnyH_takeL (i := 0) (oi := _) (v := ?_) rfl (by kernel_rfl) (by kernel_rfl) (by kernel_rfl) (fun _ _ _ h => h) (Or.inl ⟨by rfl, ?_⟩) hHeld ?_
          rotate_left
          · (intro w' hSw; (try dsimp only at hSw); go_simp; try (with_reducible rfl))
          try simp only [Act.put, List.setIfInBounds_toArray, List.set_cons_zero, List.set_cons_succ]
          refine wpAnyH_takeL (i := 2) (oi := _) rfl (by kernel_rfl) (by kernel_rfl) (by kernel_rfl) (fun _ _ _ h => h) (yields_ldZ (by rfl) _ rfl (by rfl) (fun _ hb => V4.out.below hb V4.out.lt)) hHeld ?_
          try simp only [Act.put, List.setIfInBounds_toArray, List.set_cons_zero, List.set_cons_succ]
          refine wpAnyH_ready (rs := [1]) (by kernel_rfl) (by simp) ?_
          refine AllReadyH.consL (o := _) rfl (fun K hK => ?_) AllReadyH.nil
          clear hHeld
          go_simp
          go_at_call 26
          refine Calls.mono (rfromNat E5.out N5.out.2 _) ?_
          rintro e w6 ⟨P6, c6, rfl, ho, hb⟩
          replace HB := Lib.hid (HB.out.trans (hb.mono HB.out.size))
          have R6 := Lib.hid ho.rd
          clear ho
          clear hb
          refine hK.out _ _ HB.out (fun hHeld => ?_)
          clear hK K
          try simp only [Act.put, List.setIfInBounds_toArray, List.set_cons_zero, List.set_cons_succ]
          refine wpAnyH_ready (rs := [3]) (by kernel_rfl) (by simp) ?_
          refine AllReadyH.consL (o := _) rfl (fun K hK => ?_) AllReadyH.nil
          clear hHeld
          go_simp
          go_at_call 42
          refine Calls.mono (rdivides_no (OE.out.below HB.out) R6.out LE.out G5.out (Nat.lt_of_lt_of_le (by decide) N5.out.1) DV.out) ?_
          rintro e w7 ⟨rfl, hb⟩
          replace HB := Lib.hid (HB.out.trans (hb.mono HB.out.size))
          clear R6
          clear hb
          refine hK.out _ _ HB.out (fun hHeld => ?_)
          clear hK K
          try simp only [Act.put, List.setIfInBounds_toArray, List.set_cons_zero, List.set_cons_succ]
          skip
          refine wpAnyH_done (by kernel_rfl) ?_ _
          have hb := HB.out
          replace V4 := Lib.hid (V4.out.below hb V4.out.lt)
          replace OE := Lib.hid (OE.out.below hb)
          replace CA := Lib.hid (CA.out.below hb)
          replace V0 := Lib.hid (V0.out.below hb V0.out.lt)
          replace HX := Lib.hid (HX.out.below hb)
          replace HP := Lib.hid (HP.out.below hb)
          replace B1 := Lib.hid (B1.out.trans (hb.mono B1.out.size))
          clear hHeld hb HB
          go_wp2
          have hee := facs_end FK.out DV.out
          go_roundw
          case rel => exact ⟨2, e, P, c, .inr (.inr ⟨rfl, hee.symm⟩), V4, OE, CA, V0, HX, HP, B1, rfl⟩
          case measure => simp [intOf]
    · rcases HC.out with ⟨hr2, rfl⟩ | ⟨hr2, v, l, hv, hl, rfl⟩
      · have S1 : Hid (sg (((r2 : Nat) : Int) - ((one : Nat) : Int)) = 1) := by
          show _ = _
          have h1 := E1.out
          have h2 := R20.out
          rcases sg_cases (((r2 : Nat) : Int) - ((one : Nat) : Int)) with ⟨e, h0⟩ | ⟨e, h0⟩ | ⟨e, h0⟩ <;> first | exact e | omega
        clear HC hr2
        go_wp2_with fail
        have HB : Hid (Below wr.heap.size wr wr.drew) := below_drewN _ wr 1
        refine wp_region_held_drew (S := fun w' => Below wr.heap.size wr w') (by kernel_rfl) (HB.out) (fun hHeld => ?_)
        refine wpAnyH_takeL (i := 0) (oi := _) rfl (by kernel_rfl) (by kernel_rfl) (by kernel_rfl) (fun _ _ _ h => h) (yields_ldZ (by rfl) _ rfl (by rfl) (fun _ hb => V4.out.below hb V4.out.lt)) hHeld ?_
        try simp only [Act.put, List.setIfInBounds_toArray, List.set_cons_zero, List.set_cons_succ]
        refine wpAnyH_ready (rs := [1]) (by kernel_rfl) (by simp) ?_
        refine AllReadyH.consL (o := _) rfl (fun K hK => ?_) AllReadyH.nil
        clear hHeld
        go_simp
        go_at_call 26
        refine Calls.mono (rfromNat E1.out N1.out _) ?_
        rintro e w6 ⟨P6, c6, rfl, ho, hb⟩
        replace HB := Lib.hid (HB.out.trans (hb.mono HB.out.size))
        have R6 := Lib.hid ho.rd
        clear ho
        clear hb
        refine hK.out _ _ HB.out (fun hHeld => ?_)
        clear hK K
        try simp only [Act.put, List.setIfInBounds_toArray, List.set_cons_zero, List.set_cons_succ]
        refine wpAnyH_ready (rs := [2]) (by kernel_rfl) (by simp) ?_
        refine AllReadyH.consL (o := _) rfl (fun K hK => ?_) AllReadyH.nil
        clear hHeld
        go_simp
        go_at_call 44
        refine Calls.mono (rcompare_k (r := 1) (rd_zin (OE.out.below HB.out)) (rd_zin R6.out) LR2.out G1L.out S1.out) ?_
        rintro e w7 ⟨rfl, hb⟩
        replace HB := Lib.hid (HB.out.trans (hb.mono HB.out.size))
        clear R6
        clear hb
        refine hK.out _ _ HB.out (fun hHeld => ?_)
        clear hK K
        try simp only [Act.put, List.setIfInBounds_toArray, List.set_cons_zero, List.set_cons_succ]
        refine wpAnyH_takeL (i := 3) (oi := _) (v := ?_) rfl (by kernel_rfl) (by kernel_rfl) (by kernel_rfl) (fun _ _ _ h => h) (Or.inl ⟨by rfl, ?_⟩) hHeld ?_
        rotate_left
        · (intro w' hSw; (try dsimp only at hSw); go_simp; try (with_reducible rfl))
        try simp only [Act.put, List.setIfInBounds_toArray, List.set_cons_zero, List.set_cons_succ]
        skip
        refine wpAnyH_done (by kernel_rfl) ?_ _
        have hb := HB.out
        replace V4 := Lib.hid (V4.out.below hb V4.out.lt)
        replace OE := Lib.hid (OE.out.below hb)
        replace CA := Lib.hid (CA.out.below hb)
        replace V0 := Lib.hid (V0.out.below hb V0.out.lt)
        replace HX := Lib.hid (HX.out.below hb)
        replace HP := Lib.hid (HP.out.below hb)
        replace B1 := Lib.hid (B1.out.trans (hb.mono B1.out.size))
        clear hHeld hb HB
        go_wp2
        go_ret2
        exact ⟨rfl, B1.out⟩
      · have SS : Hid (sg (((r2 : Nat) : Int) - ((one : Nat) : Int)) = 0) := by
          show _ = _
          rw [show ((r2 : Nat) : Int) - ((one : Nat) : Int) = 0 by have := E1.out; omega]
          rfl
        have HV2 := Lib.hid hv
        have HL := Lib.hid hl
        have FR2q : Hid (Facs r1 5 k2 1) := by
          have h0 := FR2.out
          rw [hr2] at h0
          exact h0
        clear HC hr2 hv hl
        go_wp2_with fail
        have HB : Hid (Below wr.heap.size wr wr.drew) := below_drewN _ wr 1
        refine wp_region_held_drew (S := fun w' => Below wr.heap.size wr w') (by kernel_rfl) (HB.out) (fun hHeld => ?_)
        refine wpAnyH_takeL (i := 0) (oi := _) rfl (by kernel_rfl) (by kernel_rfl) (by kernel_rfl) (fun _ _ _ h => h) (yields_ldZ (by rfl) _ rfl (by rfl) (fun _ hb => V4.out.below hb V4.out.lt)) hHeld ?_
        try simp only [Act.put, List.setIfInBounds_toArray, List.set_cons_zero, List.set_cons_succ]
        refine wpAnyH_ready (rs := [1]) (by kernel_rfl) (by simp) ?_
        refine AllReadyH.consL (o := _) rfl (fun K hK => ?_) AllReadyH.nil
        clear hHeld
        go_simp
        go_at_call 26
        refine Calls.mono (rfromNat E1.out N1.out _) ?_
        rintro e w6 ⟨P6, c6, rfl, ho, hb⟩
        replace HB := Lib.hid (HB.out.trans (hb.mono HB.out.size))
        have R6 := Lib.hid ho.rd
        clear ho
        clear hb
        refine hK.out _ _ HB.out (fun hHeld => ?_)
        clear hK K
        try simp only [Act.put, List.setIfInBounds_toArray, List.set_cons_zero, List.set_cons_succ]
        refine wpAnyH_ready (rs := [2]) (by kernel_rfl) (by simp) ?_
        refine AllReadyH.consL (o := _) rfl (fun K hK => ?_) AllReadyH.nil
        clear hHeld
        go_simp
        go_at_call 44
        refine Calls.mono (rcompare_k (r := 0) (rd_zin (OE.out.below HB.out)) (rd_zin R6.out) LR2.out G1L.out SS.out) ?_
        rintro e w7 ⟨rfl, hb⟩
        replace HB := Lib.hid (HB.out.trans (hb.mono HB.out.size))
        clear R6
        clear hb
        refine hK.out _ _ HB.out (fun hHeld => ?_)
        clear hK K
        try simp only [Act.put, List.setIfInBounds_toArray, List.set_cons_zero, List.set_cons_succ]
        refine wpAnyH_takeL (i := 3) (oi := _) (v := ?_) rfl (by kernel_rfl) (by kernel_rfl) (by kernel_rfl) (fun _ _ _ h => h) (Or.inl ⟨by rfl, ?_⟩) hHeld ?_
        rotate_left
        · (intro w' hSw; (try dsimp only at hSw); go_simp; try (with_reducible rfl))
        try simp only [Act.put, List.setIfInBounds_toArray, List.set_cons_zero, List.set_cons_succ]
        skip
        refine wpAnyH_done (by kernel_rfl) ?_ _
        have hb := HB.out
        replace V4 := Lib.hid (V4.out.below hb V4.out.lt)
        replace OE := Lib.hid (OE.out.below hb)
        replace CA := Lib.hid (CA.out.below hb)
        replace V0 := Lib.hid (V0.out.below hb V0.out.lt)
        replace HX := Lib.hid (HX.out.below hb)
        replace HP := Lib.hid (HP.out.below hb)
        replace B1 := Lib.hid (B1.out.trans (hb.mono B1.out.size))
        clear hHeld hb HB
        go_wp2_with fail
        clear V4 OE CA
        go_loopw [7] (fun a wr => ∃ i : Nat, Hid (i ≤ max k1 k2) ∧ Hid (Rb wr w.heap.size s A n cA D m k) ∧ Hid (Zin wr s A n cA x) ∧ Hid (Nin wr D m k p) ∧ Hid (Below w.heap.size w wr) ∧ a = .int .i64 (i : Int)) (fun a _ => max k1 k2 + 1 - (intOf a).toNat)
        case atStart => exact ⟨0, Nat.zero_le _, V0, HX, HP, B1, rfl⟩
        case round =>
          clear V0 HX HP B1
          obtain ⟨i, HI, V0, HX, HP, B1, rfl⟩ := hrel
          obtain ⟨wl, hwl⟩ : ∃ q, q = wr := ⟨_, rfl⟩
          subst hwl
          have ki : i ≤ 48000000 := by
            have h1 := HI.out
            have h2 := BB1.out.1
            have h3 := BB2.out.1
            have h4 := BB1.out.2
            have h5 := LD.out
            have h6 : (ofv r1).length ≤ 1500000 := Nat.le_trans (len_mono h4) h5
            omega
          obtain ⟨t, ht⟩ : ∃ t : Int, ((10 ^ i : Nat) : Int) = t := ⟨_, rfl⟩
          obtain ⟨wn, hwn⟩ : ∃ z, (Rat.divInt t 1).num = z := ⟨_, rfl⟩
          obtain ⟨wd, hwd⟩ : ∃ z, (Rat.divInt t 1).den = z := ⟨_, rfl⟩
          have ew : mkRat wn wd = mkRat t 1 := by rw [← hwn, ← hwd, mk_self]; rfl
          obtain ⟨mz, hmz⟩ : ∃ z, (mkRat x p * mkRat wn wd).num = z := ⟨_, rfl⟩
          obtain ⟨md, hmd⟩ : ∃ z, (mkRat x p * mkRat wn wd).den = z := ⟨_, rfl⟩
          have em : mkRat mz md = mkRat x p * mkRat wn wd := by rw [← hmz, ← hmd, mk_self]
          have rT : RL (Rat.divInt t 1) 48000001 := by rw [← ht]; exact rl_ten ki (by decide)
          have rW : RL (mkRat wn wd) 48000001 := by rw [ew]; exact rT
          have rM := rl_mul RA.out rW
          have HT := Lib.hid ht
          have HWN := Lib.hid hwn
          have HWD := Lib.hid hwd
          have HMZ := Lib.hid hmz
          have HMD := Lib.hid hmd
          have HMZ2 : Hid ((mkRat mz md).num = mz) := by show _ = _; rw [em]; exact hmz
          have HMD2 : Hid ((mkRat mz md).den = md) := by show _ = _; rw [em]; exact hmd
          have LT : Hid ((ofv t.natAbs).length ≤ 35184372087808) := by show _ ≤ _; rw [← ht, Int.natAbs_natCast]; exact Nat.le_trans (len_ten _) (by omega)
          have LWN : Hid ((ofv wn.natAbs).length ≤ 17592186043000) := by show _ ≤ _; rw [← hwn]; exact Nat.le_trans rT.1 (by decide)
          have LWD : Hid ((ofv wd).length ≤ 17592186043000) := by show _ ≤ _; rw [← hwd]; exact Nat.le_trans rT.2 (by decide)
          have LMZ : Hid ((ofv mz.natAbs).length ≤ 35184372087808) := by show _ ≤ _; rw [← hmz]; exact Nat.le_trans rM.1 (by decide)
          have LMD : Hid ((ofv md).length ≤ 35184372087808) := by show _ ≤ _; rw [← hmd]; exact Nat.le_trans rM.2 (by decide)
          have LV : Hid ((ofv mz.natAbs).length ≤ 300000000) := by show _ ≤ _; rw [← hmz]; exact Nat.le_trans rM.1 (by decide)
          have KP : Hid (i ≤ 1000000000) := Nat.le_trans ki (by decide)
          have LTW : Hid (w.heap.size < wl.heap.size) := V0.out.lt
          have hw : IntKind.i64.wrap ((i : Int) + 1) = (i : Int) + 1 := IntWalk.i64_in _ (by omega)
          have emd : mkRat x p * mkRat ((10 ^ i : Nat) : Int) 1 = mkRat mz md := by rw [em, ew, ht]
          have EMD := Lib.hid emd
          clear ki ht hwn hwd ew hmz hmd em rT rW rM emd
          by_cases hmx : i = max k1 k2
          · have HMX := Lib.hid hmx
            have hone : md = 1 ∧ mz = v := by
              have h1 := int_of (r := mkRat x p) (i := max k1 k2) HV2.out
              rw [← hmx, EMD.out] at h1
              have h2 := HMZ2.out
              have h3 := HMD2.out
              rw [h1, (mk_one v).1] at h2
              rw [h1, (mk_one v).2] at h3
              exact ⟨h3.symm, h2.symm⟩
            have DD : Hid (decide (md = 1) = true) := decide_eq_true hone.1
            have HL2 : Hid (ptxt mz i = l) := by show _ = _; rw [hone.2, hmx]; exact HL.out
            clear hmx hone
            go_wp2_with fail
            have HB : Hid (Below wl.heap.size wl wl.drew) := below_drewN _ wl 1
            refine wp_region_held_drew (S := fun w' => Below wl.heap.size wl w') (by kernel_rfl) (HB.out) (fun hHeld => ?_)
            refine wpAnyH_takeL (i := 0) (oi := _) rfl (by kernel_rfl) (by kernel_rfl) (by kernel_rfl) (fun _ _ _ h => h) (yields_ldR (by rfl) _ rfl (by rfl) (fun _ hb => V0.out.below hb V0.out.lt)) hHeld ?_
            try simp only [Act.put, List.setIfInBounds_toArray, List.set_cons_zero, List.set_cons_succ]
            refine wpAnyH_takeL (i := 1) (oi := _) (v := ?_) rfl (by kernel_rfl) (by kernel_rfl) (by kernel_rfl) (fun _ _ _ h => h) (Or.inl ⟨by rfl, ?_⟩) hHeld ?_
            rotate_left
            · (intro w' hSw; (try dsimp only at hSw); go_simp; try (with_reducible rfl))
            try simp only [Act.put, List.setIfInBounds_toArray, List.set_cons_zero, List.set_cons_succ]
            refine wpAnyH_rgt [(2, some 40), (3, some 41), (4, some 42), (5, some 43), (6, some 8)] [] (isNewR wl.heap.size) [(2, isZ t wl.heap.size), (3, isR wn wd wl.heap.size), (4, isR mz md wl.heap.size), (5, isR mz md wl.heap.size)] wl (f0 := 1) (by kernel_rfl) (by kernel_rfl) (by rfl) HB.out (fun _ h => h) (fun _ _ _ _ _ h => h) (isNewR_good _) ⟨isZ_good _ _, isR_good _ _ _, isR_good _ _ _, isR_good _ _ _, trivial⟩ ?_ ?_ ?_
            · clear hHeld HB
              show RgOps _ _ _ _ _ _ _ _ _ [2, 3, 4, 5, 6]
              refine RgOps.consL (o := _) (ds := []) rfl rfl (by kernel_rfl) (fun vals wr hbr hC hdep K hK => ?_) ?_
              · have BB := Lib.hid hbr
                clear hdep
                clear hbr hC
                simp only [Upd2, Act.put, List.setIfInBounds_toArray, List.set_cons_zero, List.set_cons_succ] at hK ⊢
                go_simp
                go_at_call 46
                refine Calls.mono (rpower_any KP.out rfl HT.out _) ?_
                rintro e wq ⟨R, cR, rfl, ho, hb⟩
                exact hK.out _ _ (LeavesB.giveZ BB.out.size ho hb)
              refine RgOps.consL (o := _) (ds := [2]) rfl rfl (by kernel_rfl) (fun vals wr hbr hC hdep K hK => ?_) ?_
              · have BB := Lib.hid hbr
                obtain ⟨⟨P2, c2, e2, o2⟩, -⟩ := hdep
                clear hbr hC
                simp only [e2, Upd2, Act.put, List.setIfInBounds_toArray, List.set_cons_zero, List.set_cons_succ] at hK ⊢
                clear e2
                go_simp
                go_at_call 24
                refine Calls.mono (r3whole_any (Zo.of_own o2).in_ LT.out HWN.out HWD.out) ?_
                rintro e wq ⟨R, cR, R2, cR2, rfl, ho, ho2, hb⟩
                exact hK.out _ _ (LeavesB.giveR BB.out.size ho ho2 hb)
              refine RgOps.consL (o := _) (ds := [3]) rfl rfl (by kernel_rfl) (fun vals wr hbr hC hdep K hK => ?_) ?_
              · have BB := Lib.hid hbr
                obtain ⟨⟨P3, c3, Q3, k3, e3, o3, u3⟩, -⟩ := hdep
                clear hbr hC
                simp only [e3, Upd2, Act.put, List.setIfInBounds_toArray, List.set_cons_zero, List.set_cons_succ] at hK ⊢
                clear e3
                go_simp
                go_at_call 45
                refine Calls.mono (r3mul_any (HX.out.below BB.out) (HP.out.below BB.out) (Zo.of_own o3).in_ (Nin.of_rd u3.rd) KN.out KM.out LWN.out LWD.out HMZ.out HMD.out) ?_
                rintro e wq ⟨R, cR, R2, cR2, rfl, ho, ho2, hb⟩
                exact hK.out _ _ (LeavesB.giveR BB.out.size ho ho2 hb)
              refine RgOps.consL (o := _) (ds := [4]) rfl rfl (by kernel_rfl) (fun vals wr hbr hC hdep K hK => ?_) ?_
              · have BB := Lib.hid hbr
                obtain ⟨⟨P4, c4, Q4, k4, e4, o4, u4⟩, -⟩ := hdep
                clear hbr hC
                simp only [e4, Upd2, Act.put, List.setIfInBounds_toArray, List.set_cons_zero, List.set_cons_succ] at hK ⊢
                clear e4
                go_simp
                go_at_call 22
                refine Calls.mono (rnorm_any (Zo.of_own o4).in_ (Nin.of_rd u4.rd) LMZ.out LMD.out HMZ2.out HMD2.out) ?_
                rintro e wq ⟨R, cR, R2, cR2, rfl, ho, ho2, hb⟩
                exact hK.out _ _ (LeavesB.giveR BB.out.size ho ho2 hb)
              refine RgOps.consL (o := _) (ds := []) rfl rfl (by kernel_rfl) (fun vals wr hbr hC hdep K hK => ?_) RgOps.nil
              · have BB := Lib.hid hbr
                clear hdep
                clear hbr hC
                simp only [Upd2, Act.put, List.setIfInBounds_toArray, List.set_cons_zero, List.set_cons_succ] at hK ⊢
                go_simp
                exact hK.out _ _ (LeavesB.newR BB.out.size)
            · clear hHeld HB
              show TaAll _ _ _ _ _ []
              exact TaAll.nil
            clear hHeld HB
            intro vals wr hb hdep hD
            obtain ⟨⟨P2, c2, e2, o2⟩, ⟨P3, c3, Q3, k3, e3, o3, u3⟩, ⟨P4, c4, Q4, k4, e4, o4, u4⟩, ⟨P5, c5, Q5, k5, e5, o5, u5⟩, ⟨g6, e6, l6, z6⟩, -⟩ := hdep
            simp only [Upd2, e2, e3, e4, e5, e6, Act.put, List.setIfInBounds_toArray, List.set_cons_zero, List.set_cons_succ]
            clear e2 e3 e4 e5 e6
            clear hD vals
            replace V0 := Lib.hid (V0.out.below hb V0.out.lt)
            replace HX := Lib.hid (HX.out.below hb)
            replace HP := Lib.hid (HP.out.below hb)
            replace B1 := Lib.hid (B1.out.trans (hb.mono B1.out.size))
            have HB := Lib.hid hb
            clear hb
            have O5 := Lib.hid o5; have U5 := Lib.hid u5; have G1 := Lib.hid z6; have LG1 : Hid (wl.heap.size ≤ g6) := l6; have LL1 := Lib.hid l6
            clear o2 o3 u3 o4 u4 o5 u5 z6 l6
            refine wpAnyH_ready (rs := [7]) (by kernel_rfl) (by simp) ?_
            refine AllReadyH.consL (o := _) rfl (fun K hK => ?_) AllReadyH.nil
            rw [if_pos (by rfl)]
            refine wp_stR _ _ rfl (by rfl) (by rfl) G1.out ?_
            intro ws0 hz hg
            replace HB := Lib.hid (Below.gr HB.out (by have := LL1.out; omega) hg HB.out.size)
            replace V0 := Lib.hid (V0.out.gro hg (by have := LG1.out; have := LTW.out; omega))
            replace HX := Lib.hid (HX.out.grR G1.out hg)
            replace HP := Lib.hid (HP.out.grR G1.out hg)
            replace O5 := Lib.hid (O5.out.grR G1.out hg)
            replace U5 := Lib.hid (U5.out.grR G1.out hg)
            replace B1 := Lib.hid (Below.gr B1.out (by have := LG1.out; have := LTW.out; omega) hg B1.out.size)
            replace G1 := Lib.hid hz
            refine hK.out _ _ ⟨HB.out, HB.out⟩ (fun _ => ?_)
            clear hK K hg hz
            try simp only [Act.put]
            refine wpAnyH_done (by kernel_rfl) ?_ _
            clear HB
            go_wp2_with (refine wpList_ldRd (by rfl) _ rfl (by rfl) G1.out ?_)
            have hb : Below ws0.heap.size ws0 (ws0.alloc (.cells #[.int .u32 1] 60)) := (Below.refl _ _).alloc (Nat.le_refl _) _
            replace V0 := Lib.hid (V0.out.below hb V0.out.lt)
            replace HX := Lib.hid (HX.out.below hb)
            replace HP := Lib.hid (HP.out.below hb)
            replace O5 := Lib.hid (O5.out.below hb)
            replace U5 := Lib.hid (U5.out.below hb)
            replace G1 := Lib.hid (G1.out.below hb G1.out.lt)
            replace B1 := Lib.hid (B1.out.trans (hb.mono B1.out.size))
            have RO := Lib.hid (rd_unit ws0)
            clear hb
            refine (equal_d (a := md) (b := 1) U5.out.rd RO.out rfl unit_len DD.out).mono ?_
            rintro e w9 ⟨rfl, hb⟩
            replace V0 := Lib.hid (V0.out.below hb V0.out.lt)
            replace HX := Lib.hid (HX.out.below hb)
            replace HP := Lib.hid (HP.out.below hb)
            replace O5 := Lib.hid (O5.out.below hb)
            replace U5 := Lib.hid (U5.out.below hb)
            replace G1 := Lib.hid (G1.out.below hb G1.out.lt)
            replace B1 := Lib.hid (B1.out.trans (hb.mono B1.out.size))
            clear hb RO
            go_wp2_with (refine wpList_ldRz (by rfl) _ rfl (by rfl) G1.out ?_)
            refine (rpoint_any (Zo.of_own O5.out).in_ LV.out KP.out rfl HL2.out).mono ?_
            rintro e w10 ⟨rfl, hb⟩
            replace V0 := Lib.hid (V0.out.below hb V0.out.lt)
            replace HX := Lib.hid (HX.out.below hb)
            replace HP := Lib.hid (HP.out.below hb)
            replace O5 := Lib.hid (O5.out.below hb)
            replace U5 := Lib.hid (U5.out.below hb)
            replace G1 := Lib.hid (G1.out.below hb G1.out.lt)
            replace B1 := Lib.hid (B1.out.trans (hb.mono B1.out.size))
            clear hb
            go_wp2
            go_ret2
            exact ⟨rfl, B1.out⟩
          · have HMX := Lib.hid hmx
            have hlt : i < max k1 k2 := by have := HI.out; omega
            have DD : Hid (decide (md = 1) = false) := by
              refine decide_eq_false (fun e => ?_)
              have h1 := den_not FR1.out FR2q.out hlt
              rw [EMD.out] at h1
              exact h1 (HMD2.out.trans e)
            have HLT := Lib.hid hlt
            clear hmx hlt
            go_wp2_with fail
            have HB : Hid (Below wl.heap.size wl wl.drew) := below_drewN _ wl 1
            refine wp_region_held_drew (S := fun w' => Below wl.heap.size wl w') (by kernel_rfl) (HB.out) (fun hHeld => ?_)
            refine wpAnyH_takeL (i := 0) (oi := _) rfl (by kernel_rfl) (by kernel_rfl) (by kernel_rfl) (fun _ _ _ h => h) (yields_ldR (by rfl) _ rfl (by rfl) (fun _ hb => V0.out.below hb V0.out.lt)) hHeld ?_
            try simp only [Act.put, List.setIfInBounds_toArray, List.set_cons_zero, List.set_cons_succ]
            refine wpAnyH_takeL (i := 1) (oi := _) (v := ?_) rfl (by kernel_rfl) (by kernel_rfl) (by kernel_rfl) (fun _ _ _ h => h) (Or.inl ⟨by rfl, ?_⟩) hHeld ?_
            rotate_left
            · (intro w' hSw; (try dsimp only at hSw); go_simp; try (with_reducible rfl))
            try simp only [Act.put, List.setIfInBounds_toArray, List.set_cons_zero, List.set_cons_succ]
            refine wpAnyH_rgt [(2, some 40), (3, some 41), (4, some 42), (5, some 43), (6, some 8)] [] (isNewR wl.heap.size) [(2, isZ t wl.heap.size), (3, isR wn wd wl.heap.size), (4, isR mz md wl.heap.size), (5, isR mz md wl.heap.size)] wl (f0 := 1) (by kernel_rfl) (by kernel_rfl) (by rfl) HB.out (fun _ h => h) (fun _ _ _ _ _ h => h) (isNewR_good _) ⟨isZ_good _ _, isR_good _ _ _, isR_good _ _ _, isR_good _ _ _, trivial⟩ ?_ ?_ ?_
            · clear hHeld HB
              show RgOps _ _ _ _ _ _ _ _ _ [2, 3, 4, 5, 6]
              refine RgOps.consL (o := _) (ds := []) rfl rfl (by kernel_rfl) (fun vals wr hbr hC hdep K hK => ?_) ?_
              · have BB := Lib.hid hbr
                clear hdep
                clear hbr hC
                simp only [Upd2, Act.put, List.setIfInBounds_toArray, List.set_cons_zero, List.set_cons_succ] at hK ⊢
                go_simp
                go_at_call 46
                refine Calls.mono (rpower_any KP.out rfl HT.out _) ?_
                rintro e wq ⟨R, cR, rfl, ho, hb⟩
                exact hK.out _ _ (LeavesB.giveZ BB.out.size ho hb)
              refine RgOps.consL (o := _) (ds := [2]) rfl rfl (by kernel_rfl) (fun vals wr hbr hC hdep K hK => ?_) ?_
              · have BB := Lib.hid hbr
                obtain ⟨⟨P2, c2, e2, o2⟩, -⟩ := hdep
                clear hbr hC
                simp only [e2, Upd2, Act.put, List.setIfInBounds_toArray, List.set_cons_zero, List.set_cons_succ] at hK ⊢
                clear e2
                go_simp
                go_at_call 24
                refine Calls.mono (r3whole_any (Zo.of_own o2).in_ LT.out HWN.out HWD.out) ?_
                rintro e wq ⟨R, cR, R2, cR2, rfl, ho, ho2, hb⟩
                exact hK.out _ _ (LeavesB.giveR BB.out.size ho ho2 hb)
              refine RgOps.consL (o := _) (ds := [3]) rfl rfl (by kernel_rfl) (fun vals wr hbr hC hdep K hK => ?_) ?_
              · have BB := Lib.hid hbr
                obtain ⟨⟨P3, c3, Q3, k3, e3, o3, u3⟩, -⟩ := hdep
                clear hbr hC
                simp only [e3, Upd2, Act.put, List.setIfInBounds_toArray, List.set_cons_zero, List.set_cons_succ] at hK ⊢
                clear e3
                go_simp
                go_at_call 45
                refine Calls.mono (r3mul_any (HX.out.below BB.out) (HP.out.below BB.out) (Zo.of_own o3).in_ (Nin.of_rd u3.rd) KN.out KM.out LWN.out LWD.out HMZ.out HMD.out) ?_
                rintro e wq ⟨R, cR, R2, cR2, rfl, ho, ho2, hb⟩
                exact hK.out _ _ (LeavesB.giveR BB.out.size ho ho2 hb)
              refine RgOps.consL (o := _) (ds := [4]) rfl rfl (by kernel_rfl) (fun vals wr hbr hC hdep K hK => ?_) ?_
              · have BB := Lib.hid hbr
                obtain ⟨⟨P4, c4, Q4, k4, e4, o4, u4⟩, -⟩ := hdep
                clear hbr hC
                simp only [e4, Upd2, Act.put, List.setIfInBounds_toArray, List.set_cons_zero, List.set_cons_succ] at hK ⊢
                clear e4
                go_simp
                go_at_call 22
                refine Calls.mono (rnorm_any (Zo.of_own o4).in_ (Nin.of_rd u4.rd) LMZ.out LMD.out HMZ2.out HMD2.out) ?_
                rintro e wq ⟨R, cR, R2, cR2, rfl, ho, ho2, hb⟩
                exact hK.out _ _ (LeavesB.giveR BB.out.size ho ho2 hb)
              refine RgOps.consL (o := _) (ds := []) rfl rfl (by kernel_rfl) (fun vals wr hbr hC hdep K hK => ?_) RgOps.nil
              · have BB := Lib.hid hbr
                clear hdep
                clear hbr hC
                simp only [Upd2, Act.put, List.setIfInBounds_toArray, List.set_cons_zero, List.set_cons_succ] at hK ⊢
                go_simp
                exact hK.out _ _ (LeavesB.newR BB.out.size)
            · clear hHeld HB
              show TaAll _ _ _ _ _ []
              exact TaAll.nil
            clear hHeld HB
            intro vals wr hb hdep hD
            obtain ⟨⟨P2, c2, e2, o2⟩, ⟨P3, c3, Q3, k3, e3, o3, u3⟩, ⟨P4, c4, Q4, k4, e4, o4, u4⟩, ⟨P5, c5, Q5, k5, e5, o5, u5⟩, ⟨g6, e6, l6, z6⟩, -⟩ := hdep
            simp only [Upd2, e2, e3, e4, e5, e6, Act.put, List.setIfInBounds_toArray, List.set_cons_zero, List.set_cons_succ]
            clear e2 e3 e4 e5 e6
            clear hD vals
            replace V0 := Lib.hid (V0.out.below hb V0.out.lt)
            replace HX := Lib.hid (HX.out.below hb)
            replace HP := Lib.hid (HP.out.below hb)
            replace B1 := Lib.hid (B1.out.trans (hb.mono B1.out.size))
            have HB := Lib.hid hb
            clear hb
            have O5 := Lib.hid o5; have U5 := Lib.hid u5; have G1 := Lib.hid z6; have LG1 : Hid (wl.heap.size ≤ g6) := l6; have LL1 := Lib.hid l6
            clear o2 o3 u3 o4 u4 o5 u5 z6 l6
            refine wpAnyH_ready (rs := [7]) (by kernel_rfl) (by simp) ?_
            refine AllReadyH.consL (o := _) rfl (fun K hK => ?_) AllReadyH.nil
            rw [if_pos (by rfl)]
            refine wp_stR _ _ rfl (by rfl) (by rfl) G1.out ?_
            intro ws0 hz hg
            replace HB := Lib.hid (Below.gr HB.out (by have := LL1.out; omega) hg HB.out.size)
            replace V0 := Lib.hid (V0.out.gro hg (by have := LG1.out; have := LTW.out; omega))
            replace HX := Lib.hid (HX.out.grR G1.out hg)
            replace HP := Lib.hid (HP.out.grR G1.out hg)
            replace O5 := Lib.hid (O5.out.grR G1.out hg)
            replace U5 := Lib.hid (U5.out.grR G1.out hg)
            replace B1 := Lib.hid (Below.gr B1.out (by have := LG1.out; have := LTW.out; omega) hg B1.out.size)
            replace G1 := Lib.hid hz
            refine hK.out _ _ ⟨HB.out, HB.out⟩ (fun _ => ?_)
            clear hK K hg hz
            try simp only [Act.put]
            refine wpAnyH_done (by kernel_rfl) ?_ _
            clear HB
            go_wp2_with (refine wpList_ldRd (by rfl) _ rfl (by rfl) G1.out ?_)
            have hb : Below ws0.heap.size ws0 (ws0.alloc (.cells #[.int .u32 1] 60)) := (Below.refl _ _).alloc (Nat.le_refl _) _
            replace V0 := Lib.hid (V0.out.below hb V0.out.lt)
            replace HX := Lib.hid (HX.out.below hb)
            replace HP := Lib.hid (HP.out.below hb)
            replace O5 := Lib.hid (O5.out.below hb)
            replace U5 := Lib.hid (U5.out.below hb)
            replace G1 := Lib.hid (G1.out.below hb G1.out.lt)
            replace B1 := Lib.hid (B1.out.trans (hb.mono B1.out.size))
            have RO := Lib.hid (rd_unit ws0)
            clear hb
            refine (equal_d (a := md) (b := 1) U5.out.rd RO.out rfl unit_len DD.out).mono ?_
            rintro e w9 ⟨rfl, hb⟩
            replace V0 := Lib.hid (V0.out.below hb V0.out.lt)
            replace HX := Lib.hid (HX.out.below hb)
            replace HP := Lib.hid (HP.out.below hb)
            replace O5 := Lib.hid (O5.out.below hb)
            replace U5 := Lib.hid (U5.out.below hb)
            replace G1 := Lib.hid (G1.out.below hb G1.out.lt)
            replace B1 := Lib.hid (B1.out.trans (hb.mono B1.out.size))
            clear hb RO
            go_wp2
            go_roundw
            case rel => exact ⟨i + 1, HLT.out, V0, HX, HP, B1, by simp⟩
            case measure =>
              have := HLT.out
              simp [intOf]
              omega
theorem rdecimal_yes {s : Bool} {A D : Option Addr} {n cA m k : Nat} {x : Int} {p : Nat} {w : World} (h : Zin w s A n cA x) (h' : Nin w D m k p) (hn : n ≤ 1500000) (hm : m ≤ 1500000) {k1 r1 k2 : Nat} (f1 : Facs (mkRat x p).den 2 k1 r1) (f2 : Facs r1 5 k2 1) {v : Int} (hv : Rat.divInt v ((10 ^ max k1 k2 : Nat) : Int) = mkRat x p) {l : List UInt8} (hl : ptxt v (max k1 k2) = l) :
    Calls Tryz.prog 14 #[.agg #[.bool s, .slice A n cA, .slice D m k]] w fun e w' => e = .returned (.tuple #[.string (txt l), .bool true]) ∧ Below w.heap.size w w' := rdecimal_any h h' hn hm f1 f2 (.inr ⟨rfl, v, l, hv, hl, rfl⟩)
theorem rdecimal_no {s : Bool} {A D : Option Addr} {n cA m k : Nat} {x : Int} {p : Nat} {w : World} (h : Zin w s A n cA x) (h' : Nin w D m k p) (hn : n ≤ 1500000) (hm : m ≤ 1500000) {k1 r1 k2 r2 : Nat} (f1 : Facs (mkRat x p).den 2 k1 r1) (f2 : Facs r1 5 k2 r2) (hr2 : r2 ≠ 1) :
    Calls Tryz.prog 14 #[.agg #[.bool s, .slice A n cA, .slice D m k]] w fun e w' => e = .returned (.tuple #[.string ⟨#[]⟩, .bool false]) ∧ Below w.heap.size w w' := rdecimal_any h h' hn hm f1 f2 (.inl ⟨hr2, rfl⟩)
end Go.Proofs.YtebpoabflcngoaaGreatDoor
