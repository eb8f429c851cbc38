/-
  The statements' own sanity check: 'awake' returns true and changes nothing that was there.
-/
import Derived.Test.YtmmlfmjelhninaaGcds
namespace Go.Proofs.Ytmmlfmjelhninaa
open Go.RowKit
set_option linter.unusedVariables false

theorem row_new {w : World} {o : Obj} {g : Nat} {xs : List Nat} (hg : g = w.heap.size) (ho : o = .cells (xs.map lv).toArray 42) : Row (w.alloc o) g xs := by
  subst hg ho; exact heap_alloc_new w _
theorem rd_row {w : World} {g n : Nat} {xs : List Nat} (h : Row w g xs) (hk : okl xs) (hn : xs.length = n) (hm : n ≤ 9223372036854775807) : Rd w (some ⟨g, 0, none⟩) n xs := by
  subst hn; exact (Own.of_row (lo := 0) h hk (Nat.zero_le _) hm).rd
theorem ofv_is {v : Nat} {xs : List Nat} (hv : val xs = v) (hk : okl xs) (hl : xs = [] ∨ lim xs (xs.length - 1) ≠ 0) : ofv v = xs := by
  subst hv; exact ofv_val_of hk hl
theorem dm_limb_n {A B : Option Addr} {ca cb n m : Nat} {xs ys : List Nat} {w : World} (h : Rd w A ca xs) (h' : Rd w B cb ys) (hn : xs.length = n) (hm : ys.length = m) (hl : n ≤ 70368744177663) (h1 : (ofv (val ys)).length = 1) (h2 : 2 < (ofv (val xs)).length) :
    Calls Try.prog 28 #[.slice A n ca, .slice B m cb] w (Gives2 w (val xs / val ys) (val xs % val ys)) := by
  subst hn hm; exact dm_limb A B ca cb xs ys w h h' hl h1 h2
theorem add_n {A B : Option Addr} {ca cb n m : Nat} {xs ys : List Nat} {w : World} (h : Rd w A ca xs) (h' : Rd w B cb ys) (hn : xs.length = n) (hm : ys.length = m) (hl : n ≤ 70368744177663) (hl' : m ≤ 70368744177663) :
    Calls Try.prog 26 #[.slice A n ca, .slice B m cb] w (Gives w (val xs + val ys)) := by
  subst hn hm; exact add_any A B ca cb xs ys w h h' hl hl'
theorem gcd_short_n {A B : Option Addr} {ca cb n m : Nat} {xs ys : List Nat} {w : World} (h : Rd w A ca xs) (h' : Rd w B cb ys) (hn : xs.length = n) (hm : ys.length = m) (hl : n ≤ 70368744177663) (hl' : m ≤ 70368744177663) (h2 : (ofv (max (val xs) (val ys))).length ≤ 2) :
    Calls Try.prog 38 #[.slice A n ca, .slice B m cb] w (Gives w (Nat.gcd (val xs) (val ys))) := by
  subst hn hm; exact gcd_short A B ca cb xs ys w h h' hl hl' h2

theorem okl1 {a : Nat} (h : a < 4294967296) : okl [a] := by
  intro x hx; simp only [List.mem_cons, List.not_mem_nil, or_false] at hx; omega
theorem okl2 {a b : Nat} (h : a < 4294967296) (k : b < 4294967296) : okl [a, b] := by
  intro x hx; simp only [List.mem_cons, List.not_mem_nil, or_false] at hx; rcases hx with rfl | rfl <;> omega
theorem okl3 {a b c : Nat} (h : a < 4294967296) (k : b < 4294967296) (l : c < 4294967296) : okl [a, b, c] := by
  intro x hx; simp only [List.mem_cons, List.not_mem_nil, or_false] at hx; rcases hx with rfl | rfl | rfl <;> omega

theorem v01 : val [0, 1] = 4294967296 := by simp [val]
theorem v100 : val [1, 0, 0] = 1 := by simp [val]
theorem v001 : val [0, 0, 1] = 18446744073709551616 := by simp [val]
theorem v3 : val [3] = 3 := by simp [val]
theorem vmax : val [4294967295] = 4294967295 := by simp [val]
theorem v1 : val [1] = 1 := by simp [val]
theorem vthird : val [1431655765, 1431655765] = 6148914691236517205 := by simp [val]
theorem v12 : val [12] = 12 := by simp [val]
theorem v18 : val [18, 0] = 18 := by simp [val]
theorem v6 : val [6] = 6 := by simp [val]
theorem omax : ofv 4294967295 = [4294967295] := ofv_is vmax (okl1 (by omega)) (.inr (by simp [lim]))
theorem o01 : ofv 4294967296 = [0, 1] := ofv_is v01 (okl2 (by omega) (by omega)) (.inr (by simp [lim]))
theorem othird : ofv 6148914691236517205 = [1431655765, 1431655765] := ofv_is vthird (okl2 (by omega) (by omega)) (.inr (by simp [lim]))
theorem o1 : ofv 1 = [1] := ofv_is v1 (okl1 (by omega)) (.inr (by simp [lim]))
theorem o3 : ofv 3 = [3] := ofv_is v3 (okl1 (by omega)) (.inr (by simp [lim]))
theorem o6 : ofv 6 = [6] := ofv_is v6 (okl1 (by omega)) (.inr (by simp [lim]))
theorem o18 : ofv 18 = [18] := ofv_is (by simp [val]) (okl1 (by omega)) (.inr (by simp [lim]))
theorem o001 : ofv 18446744073709551616 = [0, 0, 1] := ofv_is v001 (okl3 (by omega) (by omega) (by omega)) (.inr (by simp [lim]))

set_option maxHeartbeats 4000000 in
theorem awake_any (w : World) : Calls Try.prog 17 #[] w fun e w' => e = .returned (.bool true) ∧ Below w.heap.size w w' := by
  go_enter Try.func17, Try.ntmps17
  go_wp2_with fail
  refine (sub_yes_n (xs := [0, 1]) (ys := [1, 0, 0]) (rd_row ((row_new rfl rfl).alloc _) (okl2 (by omega) (by omega)) rfl (by simp)) (rd_row (row_new (by simp) rfl) (okl3 (by omega) (by omega) (by omega)) rfl (by simp)) rfl rfl (by simp) (by rw [v01, v100]; omega)).mono ?_
  rw [v01, v100]
  rintro e w1 ⟨D, cd, rfl, hd, hb1⟩
  rw [show 4294967296 - 1 = 4294967295 from rfl, omax] at *
  have B1 : Hid (Below w.heap.size w w1) := (((Below.refl _ _).alloc (Nat.le_refl _) _).alloc (by simp) _).trans (hb1.mono (by simp <;> omega))
  have D1 : Hid (Rd w1 D cd [4294967295]) := hd.rd
  clear hd hb1
  go_wp2_with fail
  refine (dm_limb_n (xs := [0, 0, 1]) (ys := [3]) (rd_row ((row_new rfl rfl).alloc _) (okl3 (by omega) (by omega) (by omega)) rfl (by simp)) (rd_row (row_new (by simp) rfl) (okl1 (by omega)) rfl (by simp)) rfl rfl (by simp) (by rw [v3, o3]; rfl) (by rw [v001, o001]; decide)).mono ?_
  rw [v001, v3]
  rintro e w2 ⟨Q, cq, R, cr, rfl, hq, hr, hb2⟩
  rw [show 18446744073709551616 / 3 = 6148914691236517205 from rfl, show 18446744073709551616 % 3 = 1 from rfl, othird, o1] at *
  have B2 : Hid (Below w1.heap.size w1 w2) := (((Below.refl _ _).alloc (Nat.le_refl _) _).alloc (by simp) _).trans (hb2.mono (by simp <;> omega))
  have D2 : Hid (Rd w2 D cd [4294967295]) := D1.out.below B2.out
  have Q2 : Hid (Rd w2 Q cq [1431655765, 1431655765]) := hq.rd
  have R2 : Hid (Rd w2 R cr [1]) := hr.rd
  clear hq hr hb2 D1
  go_wp2_with fail
  refine (add_n (xs := [4294967295]) (ys := [1]) (rd_row ((row_new rfl rfl).alloc _) (okl1 (by omega)) rfl (by simp)) (rd_row (row_new (by simp) rfl) (okl1 (by omega)) rfl (by simp)) rfl rfl (by simp) (by simp)).mono ?_
  rw [vmax, v1]
  rintro e w3 ⟨S, cs, rfl, hs, hb3⟩
  rw [show 4294967295 + 1 = 4294967296 from rfl, o01] at *
  have B3 : Hid (Below w2.heap.size w2 w3) := (((Below.refl _ _).alloc (Nat.le_refl _) _).alloc (by simp) _).trans (hb3.mono (by simp <;> omega))
  have D3 : Hid (Rd w3 D cd [4294967295]) := D2.out.below B3.out
  have Q3 : Hid (Rd w3 Q cq [1431655765, 1431655765]) := Q2.out.below B3.out
  have R3 : Hid (Rd w3 R cr [1]) := R2.out.below B3.out
  have S3 : Hid (Rd w3 S cs [0, 1]) := hs.rd
  clear hs hb3 D2 Q2 R2
  go_wp2_with fail
  refine (equal_n (xs := [0, 1]) (ys := [0, 1]) (S3.out.keep (Nat.le_refl _) ((Below.refl _ _).alloc (Nat.le_refl _) _)) (rd_row (row_new rfl rfl) (okl2 (by omega) (by omega)) rfl (by simp)) rfl rfl rfl).mono ?_
  rintro e w4 ⟨rfl, hq4⟩
  have B4 : Hid (Below w3.heap.size w3 w4) := ((Below.refl _ _).alloc (Nat.le_refl _) _).trans ((below_q hq4).mono (by simp <;> omega))
  have D4 : Hid (Rd w4 D cd [4294967295]) := D3.out.below B4.out
  have Q4 : Hid (Rd w4 Q cq [1431655765, 1431655765]) := Q3.out.below B4.out
  have R4 : Hid (Rd w4 R cr [1]) := R3.out.below B4.out
  clear hq4 D3 Q3 R3 S3
  go_wp2_with fail
  refine (equal_n (xs := [4294967295]) (ys := [4294967295]) (D4.out.keep (Nat.le_refl _) ((Below.refl _ _).alloc (Nat.le_refl _) _)) (rd_row (row_new rfl rfl) (okl1 (by omega)) rfl (by simp)) rfl rfl rfl).mono ?_
  rintro e w5 ⟨rfl, hq5⟩
  have B5 : Hid (Below w4.heap.size w4 w5) := ((Below.refl _ _).alloc (Nat.le_refl _) _).trans ((below_q hq5).mono (by simp <;> omega))
  have Q5 : Hid (Rd w5 Q cq [1431655765, 1431655765]) := Q4.out.below B5.out
  have R5 : Hid (Rd w5 R cr [1]) := R4.out.below B5.out
  clear hq5 D4 Q4 R4
  go_wp2_with fail
  refine (equal_n (xs := [1431655765, 1431655765]) (ys := [1431655765, 1431655765]) (Q5.out.keep (Nat.le_refl _) ((Below.refl _ _).alloc (Nat.le_refl _) _)) (rd_row (row_new rfl rfl) (okl2 (by omega) (by omega)) rfl (by simp)) rfl rfl rfl).mono ?_
  rintro e w6 ⟨rfl, hq6⟩
  have B6 : Hid (Below w5.heap.size w5 w6) := ((Below.refl _ _).alloc (Nat.le_refl _) _).trans ((below_q hq6).mono (by simp <;> omega))
  have R6 : Hid (Rd w6 R cr [1]) := R5.out.below B6.out
  clear hq6 Q5 R5
  go_wp2_with fail
  refine (equal_n (xs := [1]) (ys := [1]) (R6.out.keep (Nat.le_refl _) ((Below.refl _ _).alloc (Nat.le_refl _) _)) (rd_row (row_new rfl rfl) (okl1 (by omega)) rfl (by simp)) rfl rfl rfl).mono ?_
  rintro e w7 ⟨rfl, hq7⟩
  have B7 : Hid (Below w6.heap.size w6 w7) := ((Below.refl _ _).alloc (Nat.le_refl _) _).trans ((below_q hq7).mono (by simp <;> omega))
  clear hq7 R6
  go_wp2_with fail
  refine (gcd_short_n (xs := [12]) (ys := [18, 0]) (rd_row ((row_new rfl rfl).alloc _) (okl1 (by omega)) rfl (by simp)) (rd_row (row_new (by simp) rfl) (okl2 (by omega) (by omega)) rfl (by simp)) rfl rfl (by simp) (by simp) (by rw [v12, v18, show max 12 18 = 18 from rfl, o18]; decide)).mono ?_
  rw [v12, v18]
  rintro e w8 ⟨G, cg, rfl, hg, hb8⟩
  rw [show Nat.gcd 12 18 = 6 from by decide, o6] at *
  have B8 : Hid (Below w7.heap.size w7 w8) := (((Below.refl _ _).alloc (Nat.le_refl _) _).alloc (by simp) _).trans (hb8.mono (by simp <;> omega))
  have G8 : Hid (Rd w8 G cg [6]) := hg.rd
  clear hg hb8
  go_wp2_with fail
  refine (equal_n (xs := [6]) (ys := [6]) (G8.out.keep (Nat.le_refl _) ((Below.refl _ _).alloc (Nat.le_refl _) _)) (rd_row (row_new rfl rfl) (okl1 (by omega)) rfl (by simp)) rfl rfl rfl).mono ?_
  rintro e w9 ⟨rfl, hq9⟩
  have B9 : Hid (Below w8.heap.size w8 w9) := ((Below.refl _ _).alloc (Nat.le_refl _) _).trans ((below_q hq9).mono (by simp <;> omega))
  have FIN : Hid (Below w.heap.size w w9) := by
    have s1 := B1.out.size
    have s2 := B2.out.size
    have s3 := B3.out.size
    have s4 := B4.out.size
    have s5 := B5.out.size
    have s6 := B6.out.size
    have s7 := B7.out.size
    have s8 := B8.out.size
    exact B1.out.trans ((B2.out.mono (by omega)).trans ((B3.out.mono (by omega)).trans ((B4.out.mono (by omega)).trans ((B5.out.mono (by omega)).trans ((B6.out.mono (by omega)).trans ((B7.out.mono (by omega)).trans ((B8.out.mono (by omega)).trans (B9.out.mono (by omega)))))))))
  clear hq9 G8 B1 B2 B3 B4 B5 B6 B7 B8 B9
  go_wp2
  go_ret
  exact ⟨rfl, FIN.out⟩
end Go.Proofs.Ytmmlfmjelhninaa
