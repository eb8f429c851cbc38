/-
  The walk of the law NaturalSums: sums and differences are those of the reference.
-/
import Derived.Test.YtmmlfmjelhninaaAwake
import Derived.Test.YtmmlfmjelhninaaRsum
namespace Go.Proofs.Ytmmlfmjelhninaa
open Go.RowKit
set_option linter.unusedVariables false

theorem rcompare_n {A B : Option Addr} {ca cb n m : Nat} {xs ys : List Nat} {w : World} (h : Rd w A ca xs) (h' : Rd w B cb ys) (hn : xs.length = n) (hm : ys.length = m) (hl : n ≤ 35184372088832) (hl' : m ≤ 35184372088832) :
    Calls Try.prog 23 #[.slice A n ca, .slice B m cb] w fun e w' => e = .returned (.int .i64 (cmp (val xs) (val ys))) ∧ Below w.heap.size w w' := by
  subst hn hm; exact rcompare_any A B ca cb xs ys w h h' hl hl'

set_option maxHeartbeats 4000000 in
theorem naturalSums_walk (A : Option Addr) (ca : Nat) (xs : List Nat) (B : Option Addr) (cb : Nat) (ys : List Nat) (w : World) (h : Rd w A ca xs) (hc : ca * 4 ≤ 140737488351232) (h' : Rd w B cb ys) (hc' : cb * 4 ≤ 140737488351232) :
    Calls Try.prog 4 #[.slice A xs.length ca, .slice B ys.length cb] w fun e w' => e = .returned (.bool true) ∧ Below w.heap.size w w' := by
  have hn1 : xs.length ≤ 35184372087808 := by have := h.len; omega
  have hn2 : ys.length ≤ 35184372087808 := by have := h'.len; omega
  have H := Lib.hid h
  have H' := Lib.hid h'
  clear h h' hc hc'
  rcases Nat.lt_or_ge (val xs) (val ys) with hlt | hge
  · have hv := Lib.hid hlt
    have hcm := Lib.hid (cmp_lt hlt)
    clear hlt
    go_enter Try.func4, Try.ntmps4
    go_wp2_with fail
    refine (sub_no A B ca cb xs ys w H.out H'.out hv.out).mono ?_
    rintro e w1 ⟨rfl, hb⟩
    have B1 : Hid (Below w.heap.size w w1) := hb
    have P1 := Lib.hid (H.out.below hb)
    have Q1 := Lib.hid (H'.out.below hb)
    clear hb
    go_wp2_with fail
    refine (rsub_no A B ca cb xs ys w1 P1.out Q1.out (by omega) (by omega) hv.out).mono ?_
    rintro e w2 ⟨rfl, hb⟩
    have B2 : Hid (Below w.heap.size w w2) := B1.out.trans (hb.mono B1.out.size)
    have P2 := Lib.hid (P1.out.below hb)
    have Q2 := Lib.hid (Q1.out.below hb)
    clear hb B1 P1 Q1
    go_wp2_with fail
    refine (awake_any w2).mono ?_
    rintro e w3 ⟨rfl, hb⟩
    have B3 : Hid (Below w.heap.size w w3) := B2.out.trans (hb.mono B2.out.size)
    have P3 := Lib.hid (P2.out.below hb)
    have Q3 := Lib.hid (Q2.out.below hb)
    clear hb B2 P2 Q2
    go_wp2_with fail
    refine (add_n P3.out Q3.out rfl rfl (by omega) (by omega)).mono ?_
    rintro e w4 ⟨S, cs, rfl, ho, hb⟩
    have B4 : Hid (Below w.heap.size w w4) := B3.out.trans (hb.mono B3.out.size)
    have P4 := Lib.hid (P3.out.below hb)
    have Q4 := Lib.hid (Q3.out.below hb)
    have S4 := Lib.hid ho.rd
    clear ho hb B3 P3 Q3
    go_wp2_with fail
    refine (radd_n P4.out Q4.out rfl rfl (by omega) (by omega)).mono ?_
    rintro e w5 ⟨T, ct, rfl, ho, hb⟩
    have B5 : Hid (Below w.heap.size w w5) := B4.out.trans (hb.mono B4.out.size)
    have P5 := Lib.hid (P4.out.below hb)
    have Q5 := Lib.hid (Q4.out.below hb)
    have S5 := Lib.hid (S4.out.below hb)
    have T5 := Lib.hid ho.rd
    clear ho hb B4 P4 Q4 S4
    go_wp2_with fail
    refine (equal_n S5.out T5.out rfl rfl rfl).mono ?_
    rintro e w6 ⟨rfl, hq⟩
    have B6 : Hid (Below w.heap.size w w6) := B5.out.trans ((below_q hq).mono B5.out.size)
    have P6 := Lib.hid (P5.out.below (below_q hq))
    have Q6 := Lib.hid (Q5.out.below (below_q hq))
    clear hq B5 P5 Q5 S5 T5
    go_wp2_with fail
    refine (equal_n (Rd.nil w6 none) (Rd.nil w6 none) rfl rfl rfl).mono ?_
    rintro e w7 ⟨rfl, hq⟩
    have B7 : Hid (Below w.heap.size w w7) := B6.out.trans ((below_q hq).mono B6.out.size)
    have P7 := Lib.hid (P6.out.below (below_q hq))
    have Q7 := Lib.hid (Q6.out.below (below_q hq))
    clear hq B6 P6 Q6
    go_wp2_with fail
    refine (rcompare_n P7.out Q7.out rfl rfl (by omega) (by omega)).mono ?_
    rw [hcm.out]
    rintro e w8 ⟨rfl, hb⟩
    have B8 : Hid (Below w.heap.size w w8) := B7.out.trans (hb.mono B7.out.size)
    clear hb B7 P7 Q7
    go_wp2
    go_ret
    exact ⟨rfl, B8.out⟩
  · have hv := Lib.hid hge
    have hc0 := cmp_nonneg hge
    obtain ⟨cc, hcc⟩ : ∃ cc, cc = cmp (val xs) (val ys) := ⟨_, rfl⟩
    rw [← hcc] at hc0
    have hcm := Lib.hid hcc
    clear hge hcc
    go_enter Try.func4, Try.ntmps4
    go_wp2_with fail
    refine (sub_yes_n H.out H'.out rfl rfl (by omega) hv.out).mono ?_
    rintro e w1 ⟨D, cd, rfl, ho, hb⟩
    have B1 : Hid (Below w.heap.size w w1) := hb
    have P1 := Lib.hid (H.out.below hb)
    have Q1 := Lib.hid (H'.out.below hb)
    have D1 := Lib.hid ho.rd
    clear hb ho
    go_wp2_with fail
    refine (rsub_yes_n P1.out Q1.out rfl rfl (by omega) (by omega) hv.out).mono ?_
    rintro e w2 ⟨E, ce, rfl, ho, hb⟩
    have B2 : Hid (Below w.heap.size w w2) := B1.out.trans (hb.mono B1.out.size)
    have P2 := Lib.hid (P1.out.below hb)
    have Q2 := Lib.hid (Q1.out.below hb)
    have D2 := Lib.hid (D1.out.below hb)
    have E2 := Lib.hid ho.rd
    clear hb ho B1 P1 Q1 D1
    go_wp2_with fail
    refine (awake_any w2).mono ?_
    rintro e w3 ⟨rfl, hb⟩
    have B3 : Hid (Below w.heap.size w w3) := B2.out.trans (hb.mono B2.out.size)
    have P3 := Lib.hid (P2.out.below hb)
    have Q3 := Lib.hid (Q2.out.below hb)
    have D3 := Lib.hid (D2.out.below hb)
    have E3 := Lib.hid (E2.out.below hb)
    clear hb B2 P2 Q2 D2 E2
    go_wp2_with fail
    refine (add_n P3.out Q3.out rfl rfl (by omega) (by omega)).mono ?_
    rintro e w4 ⟨S, cs, rfl, ho, hb⟩
    have B4 : Hid (Below w.heap.size w w4) := B3.out.trans (hb.mono B3.out.size)
    have P4 := Lib.hid (P3.out.below hb)
    have Q4 := Lib.hid (Q3.out.below hb)
    have D4 := Lib.hid (D3.out.below hb)
    have E4 := Lib.hid (E3.out.below hb)
    have S4 := Lib.hid ho.rd
    clear ho hb B3 P3 Q3 D3 E3
    go_wp2_with fail
    refine (radd_n P4.out Q4.out rfl rfl (by omega) (by omega)).mono ?_
    rintro e w5 ⟨T, ct, rfl, ho, hb⟩
    have B5 : Hid (Below w.heap.size w w5) := B4.out.trans (hb.mono B4.out.size)
    have P5 := Lib.hid (P4.out.below hb)
    have Q5 := Lib.hid (Q4.out.below hb)
    have D5 := Lib.hid (D4.out.below hb)
    have E5 := Lib.hid (E4.out.below hb)
    have S5 := Lib.hid (S4.out.below hb)
    have T5 := Lib.hid ho.rd
    clear ho hb B4 P4 Q4 D4 E4 S4
    go_wp2_with fail
    refine (equal_n S5.out T5.out rfl rfl rfl).mono ?_
    rintro e w6 ⟨rfl, hq⟩
    have B6 : Hid (Below w.heap.size w w6) := B5.out.trans ((below_q hq).mono B5.out.size)
    have P6 := Lib.hid (P5.out.below (below_q hq))
    have Q6 := Lib.hid (Q5.out.below (below_q hq))
    have D6 := Lib.hid (D5.out.below (below_q hq))
    have E6 := Lib.hid (E5.out.below (below_q hq))
    clear hq B5 P5 Q5 S5 T5 D5 E5
    go_wp2_with fail
    refine (equal_n D6.out E6.out rfl rfl rfl).mono ?_
    rintro e w7 ⟨rfl, hq⟩
    have B7 : Hid (Below w.heap.size w w7) := B6.out.trans ((below_q hq).mono B6.out.size)
    have P7 := Lib.hid (P6.out.below (below_q hq))
    have Q7 := Lib.hid (Q6.out.below (below_q hq))
    clear hq B6 P6 Q6 D6 E6
    go_wp2_with fail
    refine (rcompare_n P7.out Q7.out rfl rfl (by omega) (by omega)).mono ?_
    rw [← hcm.out]
    rintro e w8 ⟨rfl, hb⟩
    have B8 : Hid (Below w.heap.size w w8) := B7.out.trans (hb.mono B7.out.size)
    clear hb B7 P7 Q7
    go_wp2
    go_ret
    exact ⟨rfl, B8.out⟩
end Go.Proofs.Ytmmlfmjelhninaa
