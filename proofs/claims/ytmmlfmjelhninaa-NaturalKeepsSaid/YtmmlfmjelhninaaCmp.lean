/-
  Contract of natural.Compare: the order of the values.
-/
import Derived.Test.YtmmlfmjelhninaaSig
import Derived.BigQuiet
import Derived.Deep.QuietTactic
import Derived.Deep.Draws
namespace Go.Proofs.Ytmmlfmjelhninaa
open Go.RowKit
set_option linter.unusedVariables false

/-- The order of two numbers. -/
def cmp (a b : Nat) : Int := if a < b then -1 else if a = b then 0 else 1
theorem cmp_lt {a b : Nat} (h : a < b) : cmp a b = -1 := by unfold cmp; rw [if_pos h]
theorem cmp_gt {a b : Nat} (h : b < a) : cmp a b = 1 := by unfold cmp; rw [if_neg (by omega), if_neg (by omega)]
theorem cmp_eq {a b : Nat} (h : a = b) : cmp a b = 0 := by unfold cmp; rw [if_neg (by omega), if_pos h]

theorem drew_on {w wr w' : World} (h : ∃ q, wr = w.drewN q) (h' : ∃ m, w' = wr.drewN m) : ∃ q, w' = w.drewN q := by
  obtain ⟨q, rfl⟩ := h
  obtain ⟨m, rfl⟩ := h'
  exact ⟨q + m, World.drewN_drewN ..⟩
/-- A call that only draws, behind an earlier region that drew. -/
theorem qcall2 {P : Program} {f : FuncId} {args : Array Value} {w : World} {a n : Nat} {v : Value} (h : Calls P f args (w.drewN (a + n)) fun e w' => e = .returned v ∧ ∃ m, w' = (w.drewN (a + n)).drewN m) :
    Calls P f args (w.drewN (a + n)) fun e w' => e = .returned v ∧ ∃ m, w' = w.drewN (a + m) := by
  refine h.mono fun e w' hh => ⟨hh.1, ?_⟩
  obtain ⟨m, hm⟩ := hh.2
  exact ⟨n + m, by rw [hm, World.drewN_drewN, Nat.add_assoc]⟩
theorem qcall1 {P : Program} {f : FuncId} {args : Array Value} {w : World} {n : Nat} {v : Value} (h : Calls P f args (w.drewN n) fun e w' => e = .returned v ∧ ∃ m, w' = (w.drewN n).drewN m) :
    Calls P f args (w.drewN n) fun e w' => e = .returned v ∧ ∃ m, w' = w.drewN m := by
  refine h.mono fun e w' hh => ⟨hh.1, ?_⟩
  obtain ⟨m, hm⟩ := hh.2
  exact ⟨n + m, by rw [hm, World.drewN_drewN]⟩

theorem order_q (b : Bool) (w : World) : Calls Try.prog 45 #[.bool b] w fun e w' => e = .returned (.int .i64 (if b then -1 else 1)) ∧ ∃ n, w' = w.drewN n :=
  (order_any b w).mono fun _ _ ⟨h, k⟩ => ⟨h, 0, k.symm⟩


theorem compare_diff (A B : Option Addr) (ca cb : Nat) (xs ys : List Nat) (w : World) (h : Rd w A ca xs) (h' : Rd w B cb ys) (hne : (ofv (val xs)).length ≠ (ofv (val ys)).length) :
    Calls Try.prog 22 #[.slice A xs.length ca, .slice B ys.length cb] w fun e w' => e = .returned (.int .i64 (cmp (val xs) (val ys))) ∧ ∃ n, w' = w.drewN n := by
  have S1 := Lib.hid (sig_any A ca xs w h)
  have S2 := Lib.hid (sig_any B cb ys w h')
  have hl1 := h.sig.len
  have hl2 := h'.sig.len
  have hm1 := h.capLe
  have hm2 := h'.capLe
  have hb : (((ofv (val xs)).length : Int) != ((ofv (val ys)).length : Int)) = true := by rw [bne_iff_ne]; omega
  have Q := Lib.hid h
  have hcase := Nat.lt_or_gt_of_ne hne
  have K1 := Lib.hid (@lt_of_len_lt (val xs) (val ys))
  have K2 := Lib.hid (@lt_of_len_lt (val ys) (val xs))
  clear h h' hne
  generalize (ofv (val xs)).length = m1 at *
  generalize (ofv (val ys)).length = m2 at *
  rcases hcase with hlt | hlt
  · go_enter Try.func22, Try.ntmps22
    go_wp2_with fail
    refine S1.out.mono ?_
    rintro e w' ⟨rfl, rfl⟩
    go_wp2_with fail
    refine S2.out.mono ?_
    rintro e w' ⟨rfl, rfl⟩
    go_wp2_with fail
    refine (order_any _ _).mono ?_
    rintro e w' ⟨rfl, rfl⟩
    go_wp2
    go_ret
    exact ⟨ret_int (cmp_lt (K1.out hlt)).symm, 0, rfl⟩
  · go_enter Try.func22, Try.ntmps22
    go_wp2_with fail
    refine S1.out.mono ?_
    rintro e w' ⟨rfl, rfl⟩
    go_wp2_with fail
    refine S2.out.mono ?_
    rintro e w' ⟨rfl, rfl⟩
    go_wp2_with fail
    refine (order_any _ _).mono ?_
    rintro e w' ⟨rfl, rfl⟩
    go_wp2
    go_ret
    exact ⟨ret_int (cmp_gt (K2.out hlt)).symm, 0, rfl⟩

theorem compare_same (A B : Option Addr) (ca cb : Nat) (xs ys : List Nat) (w : World) (h : Rd w A ca xs) (h' : Rd w B cb ys) (heq : (ofv (val xs)).length = (ofv (val ys)).length) :
    Calls Try.prog 22 #[.slice A xs.length ca, .slice B ys.length cb] w fun e w' => e = .returned (.int .i64 (cmp (val xs) (val ys))) ∧ ∃ n, w' = w.drewN n := by
  obtain ⟨m, hm1⟩ : ∃ m, m = (ofv (val xs)).length := ⟨_, rfl⟩
  have S1 := sig_any A ca xs w h
  have S2 := sig_any B cb ys w h'
  rw [← heq, ← hm1] at S2
  rw [← hm1] at S1
  have X := Lib.hid h.sig
  have Y := Lib.hid h'.sig
  have hl1 := h.sig.len
  have hl2 := h'.sig.len
  have hc1 := h.capLe
  have hc2 := h'.capLe
  have T1 := Lib.hid S1
  have T2 := Lib.hid S2
  have M1 := Lib.hid hm1
  have M2 := Lib.hid heq
  have hml1 : m ≤ ca := by omega
  have hml2 : m ≤ cb := by omega
  have hb : ((m : Int) != (m : Int)) = false := by simp
  clear S1 S2 h h' hl1 hl2 hm1 heq
  go_enter Try.func22, Try.ntmps22
  go_wp2_with fail
  refine T1.out.mono ?_
  rintro e w' ⟨rfl, rfl⟩
  go_wp2_with fail
  refine T2.out.mono ?_
  rintro e w' ⟨rfl, rfl⟩
  go_wp2_with fail
  go_loopw [5] (fun i wr => ∃ z : Int, i = .int .i64 z ∧ -1 ≤ z ∧ z < m ∧ Hid (∀ j : Nat, z < j → j < m → lim (ofv (val xs)) j = lim (ofv (val ys)) j) ∧ Hid (∃ q, wr = w.drewN q)) (fun i _ => (intOf i + 1).toNat)
  case atStart => exact ⟨(m : Int) - 1, rfl, by omega, by omega, fun j h1 h2 => by omega, 0, rfl⟩
  case round =>
    obtain ⟨z, rfl, hz1, hz2, hz, hq⟩ := hrel
    by_cases h0 : z = -1
    · subst h0
      go_wp2
      go_ret
      refine ⟨ret_int (Eq.symm (cmp_eq ?_)), hq.out⟩
      apply ofv_inj
      apply lim_ext M2.out
      intro i hi
      exact hz.out i (by omega) (by rw [M1.out]; exact hi)
    · obtain ⟨k, rfl⟩ : ∃ k : Nat, z = (k : Int) := Int.eq_ofNat_of_zero_le (by omega)
      have hk : k < m := by omega
      obtain ⟨b, o, hA, hb1, hc1'⟩ := X.out.at_ (k := k) (by have := M1.out; omega)
      obtain ⟨b', o', hB, hb2, hc2'⟩ := Y.out.at_ (k := k) (by have := M1.out; have := M2.out; omega)
      have c1 : wr.cell? ⟨b, o + k, none⟩ = some (.int .u32 ((lim (ofv (val xs)) k : Nat) : Int)) := by
        obtain ⟨q, rfl⟩ := hq.out
        exact hc1' k (by have := M1.out; omega)
      have c2 : wr.cell? ⟨b', o' + k, none⟩ = some (.int .u32 ((lim (ofv (val ys)) k : Nat) : Int)) := by
        obtain ⟨q, rfl⟩ := hq.out
        exact hc2' k (by have := M1.out; have := M2.out; omega)
      have r1 := lim_lt X.out.ok k
      have r2 := lim_lt Y.out.ok k
      subst hA hB
      clear hc1' hc2' h0
      by_cases hE : lim (ofv (val xs)) k = lim (ofv (val ys)) k
      · have hE' : (((lim (ofv (val xs)) k : Nat) : Int) != ((lim (ofv (val ys)) k : Nat) : Int)) = false := by rw [hE]; simp
        have hz' : Hid (∀ j : Nat, (k : Int) - 1 < j → j < m → lim (ofv (val xs)) j = lim (ofv (val ys)) j) := by
          intro j h1 h2
          by_cases ej : j = k
          · rw [ej]; exact hE
          · exact hz.out j (by omega) h2
        clear hE hz
        generalize lim (ofv (val xs)) k = l1 at *
        generalize lim (ofv (val ys)) k = l2 at *
        go_wp2
        go_quiet (fail)
        go_wp2
        go_roundw
        case rel => exact ⟨(k : Int) - 1, rfl, by omega, by omega, hz', drew_on hq.out ⟨_, rfl⟩⟩
        case measure => simp [intOf]
      · have hE' : (((lim (ofv (val xs)) k : Nat) : Int) != ((lim (ofv (val ys)) k : Nat) : Int)) = true := by rw [bne_iff_ne]; intro e; exact hE (by exact_mod_cast e)
        have top : ∀ j, k < j → j < (ofv (val xs)).length → lim (ofv (val xs)) j = lim (ofv (val ys)) j := fun j h1 h2 => hz.out j (by omega) (by have := M1.out; omega)
        have K1 : Hid (lim (ofv (val xs)) k < lim (ofv (val ys)) k → cmp (val xs) (val ys) = -1) := by
          intro hlt
          have := val_lt_of_top (okl_ofv (val xs)) (by have := M1.out; omega) M2.out top hlt
          rw [val_ofv, val_ofv] at this
          exact cmp_lt this
        have K2 : Hid (lim (ofv (val ys)) k < lim (ofv (val xs)) k → cmp (val xs) (val ys) = 1) := by
          intro hlt
          have := val_lt_of_top (okl_ofv (val ys)) (i := k) (by have := M1.out; have := M2.out; omega) M2.out.symm (fun j h1 h2 => (top j h1 (by have := M2.out; omega)).symm) hlt
          rw [val_ofv, val_ofv] at this
          exact cmp_gt this
        have hcase := Nat.lt_or_gt_of_ne hE
        clear hE hz top
        generalize lim (ofv (val xs)) k = l1 at *
        generalize lim (ofv (val ys)) k = l2 at *
        rcases hcase with hlt | hlt
        · have hd : decide (l1 < l2) = true := by simpa using hlt
          go_wp2
          go_quiet (fail)
          go_wp2
          go_quiet ((go_at_call 45; exact qcall2 (order_q _ _)))
          go_wp2
          go_ret
          exact ⟨ret_int (K1.out hlt).symm, by first | exact drew_on hq.out ⟨_, rfl⟩ | exact drew_on (drew_on hq.out ⟨_, rfl⟩) ⟨_, rfl⟩⟩
        · have hd : decide (l1 < l2) = false := by simp; omega
          go_wp2
          go_quiet (fail)
          go_wp2
          go_quiet ((go_at_call 45; exact qcall2 (order_q _ _)))
          go_wp2
          go_ret
          exact ⟨ret_int (K2.out hlt).symm, by first | exact drew_on hq.out ⟨_, rfl⟩ | exact drew_on (drew_on hq.out ⟨_, rfl⟩) ⟨_, rfl⟩⟩

theorem compare_any (A B : Option Addr) (ca cb : Nat) (xs ys : List Nat) (w : World) (h : Rd w A ca xs) (h' : Rd w B cb ys) :
    Calls Try.prog 22 #[.slice A xs.length ca, .slice B ys.length cb] w fun e w' => e = .returned (.int .i64 (cmp (val xs) (val ys))) ∧ ∃ n, w' = w.drewN n := by
  by_cases heq : (ofv (val xs)).length = (ofv (val ys)).length
  · exact compare_same A B ca cb xs ys w h h' heq
  · exact compare_diff A B ca cb xs ys w h h' heq
end Go.Proofs.Ytmmlfmjelhninaa
