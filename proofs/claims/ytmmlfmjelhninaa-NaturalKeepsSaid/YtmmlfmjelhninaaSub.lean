/-
  Contract of natural.Sub: the canonical list of the difference, or false.
-/
import Derived.Test.YtmmlfmjelhninaaEq
namespace Go.Proofs.Ytmmlfmjelhninaa
open Go.RowKit
set_option linter.unusedVariables false

/-- As 'Gives', with true beside it. -/
def GivesT (w : World) (v : Nat) (e : Ending) (w' : World) : Prop := ∃ R c, e = .returned (.tuple #[.slice R (ofv v).length c, .bool true]) ∧ Own w' w.heap.size R c (ofv v) ∧ Below w.heap.size w w'
/-- No number, and false. -/
def GivesF (w : World) (e : Ending) (w' : World) : Prop := e = .returned (.tuple #[.slice none 0 0, .bool false]) ∧ Below w.heap.size w w'

theorem givesT_row {w w' : World} {v n g : Nat} {zs : List Nat} (hr : Row w' g zs) (hg : w.heap.size ≤ g) (hz : okl zs) (hb : Below w.heap.size w w') (hv : val zs = v) (hn : zs.length = n) (hm : n ≤ 9223372036854775807) :
    GivesT w v (.returned (.tuple #[.slice (some ⟨g, 0, none⟩) (ofv (val zs)).length n, .bool true])) w' := by
  subst hv hn
  exact ⟨_, _, rfl, (Own.of_row hr hz hg hm).sig, hb⟩

theorem cmp_nonneg {a b : Nat} (h : b ≤ a) : 0 ≤ cmp a b := by
  unfold cmp; rw [if_neg (by omega)]; split <;> omega

theorem sub_no (A B : Option Addr) (ca cb : Nat) (xs ys : List Nat) (w : World) (h : Rd w A ca xs) (h' : Rd w B cb ys) (hv : val xs < val ys) :
    Calls Try.prog 24 #[.slice A xs.length ca, .slice B ys.length cb] w (GivesF w) := by
  have C := compare_any A B ca cb xs ys w h h'
  rw [cmp_lt hv] at C
  have HC := Lib.hid C
  have hc := h.capLe
  clear C h h' hv
  go_enter Try.func24, Try.ntmps24
  go_wp2_with fail
  refine HC.out.mono ?_
  rintro e w' ⟨rfl, n, rfl⟩
  go_wp2
  go_ret2
  exact ⟨rfl, below_drewN _ _ _⟩

def SubInv (w0 : World) (w : World) (us vs : List Nat) (k bn : Nat) (wr : World) : Prop :=
  ∃ zs, Row wr w0.heap.size zs ∧ zs.length = us.length ∧ okl zs ∧ val (zs.take k) + val (vs.take k) = val (us.take k) + bn * pw k ∧ Below w0.heap.size w0 wr

theorem sub_step {w0 w wr : World} {us vs zs : List Nat} {k bn d b' : Nat} (hk : k < us.length) (hd : d < 4294967296) (hr : Row wr w0.heap.size zs) (hzl : zs.length = us.length) (hz : okl zs)
    (he : val (zs.take k) + val (vs.take k) = val (us.take k) + bn * pw k) (hb : Below w0.heap.size w0 wr) (hdd : d + lim vs k + bn = lim us k + 4294967296 * b') (z : Int) (hzz : z = (d : Nat)) :
    SubInv w0 w us vs (k + 1) b' (wr.setCell ⟨w0.heap.size, k, none⟩ (.int .u32 z)) := by
  subst hzz
  refine ⟨zs.set k d, hr.set_ _ _, by simpa using hzl, okl_set hz hd _, ?_, hb.setCell (Nat.le_refl _) _⟩
  rw [val_take_set (by omega), val_take_succ hk, val_take_succ' vs k, pw_succ]
  generalize lim us k = x at *
  generalize lim vs k = y at *
  grind

theorem wrap_low {x y b : Nat} (hx : x < 4294967296) (hy : y < 4294967296) (hb : b ≤ 1) (hlt : x < y) : IntKind.u64.wrap (IntKind.u64.wrap ((x : Int) - y) - b) = ((18446744073709551616 + x - y - b : Nat) : Int) := by
  rw [IntKind.wrap_u64, IntKind.wrap_u64]; omega
theorem wrap_one : IntKind.u64.wrap (-1) = 18446744073709551615 := by rw [IntKind.wrap_u64]; decide

set_option maxHeartbeats 2000000 in
theorem sub_yes (A B : Option Addr) (ca cb : Nat) (xs ys : List Nat) (w : World) (h : Rd w A ca xs) (h' : Rd w B cb ys) (hn : xs.length ≤ 70368744177663) (hv : val ys ≤ val xs) :
    Calls Try.prog 24 #[.slice A xs.length ca, .slice B ys.length cb] w (GivesT w (val xs - val ys)) := by
  have C := compare_any A B ca cb xs ys w h h'
  have hc0 := cmp_nonneg hv
  have hc1 := h.capLe
  have hc2 := h'.capLe
  have n1 := len_ofv_le h.ok
  have hn1 : (ofv (val xs)).length ≤ 70368744177663 := by omega
  have hx := val_ofv (val xs)
  have hy := val_ofv (val ys)
  have P0 := Lib.hid h
  have Q0 := Lib.hid h'
  have hl : (ofv (val ys)).length ≤ (ofv (val xs)).length := by
    rcases Nat.lt_or_ge (ofv (val xs)).length (ofv (val ys)).length with hlt | hge
    · have := lt_of_len_lt hlt; omega
    · exact hge
  have P := Lib.hid h.sig
  have Q := Lib.hid h'.sig
  have l1 := h.sig.len
  have l2 := h'.sig.len
  generalize hus : ofv (val xs) = us at *
  generalize hvs : ofv (val ys) = vs at *
  have HU := Lib.hid hus
  have HV := Lib.hid hvs
  have EX := Lib.hid hx
  have EY := Lib.hid hy
  have HN := Lib.hid hv
  generalize cmp (val xs) (val ys) = cc at *
  have HC := Lib.hid C
  clear C h h' hus hvs hx hy hv n1
  go_enter Try.func24, Try.ntmps24
  go_wp2_with fail
  refine HC.out.mono ?_
  rintro e w0 ⟨rfl, hq⟩
  have hb0 : Below w.heap.size w w0 := by obtain ⟨n, rfl⟩ := hq; exact below_drewN _ _ _
  have hs0 : w0.heap.size = w.heap.size := by obtain ⟨n, rfl⟩ := hq; rfl
  have HB0 := Lib.hid hb0
  have HS0 := Lib.hid hs0
  clear hq hb0 hs0
  go_wp2_with fail
  refine (sig_n (P0.out.below HB0.out) rfl).mono ?_
  rintro e w' ⟨rfl, rfl⟩
  rw [HU.out]
  go_wp2_with fail
  refine (sig_n (Q0.out.below HB0.out) rfl).mono ?_
  rintro e w' ⟨rfl, rfl⟩
  rw [HV.out]
  have X := Lib.hid (P.out.below HB0.out)
  have Y := Lib.hid (Q.out.below HB0.out)
  go_wp2_with (at_make; refine make_row rfl _ _ rfl _ _ us.length rfl rfl rfl rfl (by omega) ?_)
  intro w1 hrow hbel
  go_wp2
  go_loopw [7, 24] (fun b i wr => ∃ k bn : Nat, k ≤ us.length ∧ i = .int .i64 k ∧ b = .int .u64 bn ∧ bn ≤ 1 ∧ SubInv w0 w us vs k bn wr) (fun _ i _ => us.length - (intOf i).toNat)
  case atStart => exact ⟨0, 0, Nat.zero_le _, rfl, rfl, by omega, _, hrow, by simp, okl_replicate _, by simp [val_nil], hbel⟩
  case round =>
    clear hrow hbel
    obtain ⟨k, bn, hk, rfl, rfl, hbn, inv⟩ := hrel
    obtain ⟨zs, hrow, hzl, hzo, heq, hbel⟩ := inv
    have HE := Lib.hid heq
    have HZ := Lib.hid hzl
    have HR := Lib.hid hrow
    have HB := Lib.hid hbel
    clear heq hzl hrow
    by_cases hlt : k < us.length
    · have X1 := X.out.keep (Nat.le_refl _) hbel
      have Y1 := Y.out.keep (Nat.le_refl _) hbel
      obtain ⟨b, o, hA, hb, hc⟩ := X1.at_ hlt
      have c1 := hc k hlt
      have hfz := HR.out.frozen k
      have hcw := HR.out.cell (i := k) (by have := HZ.out; omega)
      have b1 := lim_lt X1.ok k
      have b2 := lim_lt Y1.ok k
      have L := Lib.hid (limbAt_n Y1 rfl k (by omega))
      have step := Lib.hid (fun d b' hd => sub_step (w := w) (d := d) (b' := b') hlt hd HR.out HZ.out hzo HE.out hbel)
      subst hA
      clear hc hbel X1 Y1
      have hcase : (lim vs k + bn ≤ lim us k) ∨ (lim us k < lim vs k) ∨ (lim us k = lim vs k ∧ bn = 1) := by omega
      rcases hcase with hge | hlt2 | ⟨heq2, rfl⟩
      · go_wp2_with fail
        refine L.out.mono ?_
        rintro e w' ⟨rfl, rfl⟩
        go_wp2
        go_roundw
        case rel => exact ⟨k + 1, 0, by omega, by go_num, by congr 1; omega, by omega, step.out (lim us k - lim vs k - bn) 0 (by omega) (by omega) _ (by omega)⟩
        case measure => simp [intOf]; omega
      · go_wp2_with fail
        refine L.out.mono ?_
        rintro e w' ⟨rfl, rfl⟩
        go_wp2
        go_roundw
        case rel =>
          rw [wrap_low b1 b2 hbn hlt2]
          exact ⟨k + 1, 1, by omega, by go_num, by congr 1; omega, by omega, step.out (4294967296 + lim us k - lim vs k - bn) 1 (by omega) (by omega) _ (by omega)⟩
        case measure => simp [intOf]; omega
      · go_wp2_with fail
        refine L.out.mono ?_
        rintro e w' ⟨rfl, rfl⟩
        go_wp2
        go_roundw
        case rel =>
          rw [wrap_one]
          exact ⟨k + 1, 1, by omega, by go_num, by first | rfl | (congr 1; omega), by omega, step.out 4294967295 1 (by omega) (by omega) _ (by omega)⟩
        case measure => simp [intOf]; omega
    · obtain rfl : k = us.length := by omega
      have hE := HE.out
      have hZ := HZ.out
      have okv : okl vs := Y.out.ok
      have t1 : zs.take us.length = zs := List.take_of_length_le (by omega)
      have t2 : vs.take us.length = vs := List.take_of_length_le hl
      have t3 : us.take us.length = us := List.take_of_length_le (Nat.le_refl _)
      rw [t1, t2, t3] at hE
      have hb0 : bn = 0 := by
        have hlt1 := val_lt hzo
        rw [hZ] at hlt1
        have e1 := EX.out
        have e2 := EY.out
        have e3 := HN.out
        rcases Nat.eq_zero_or_pos bn with h0 | h0
        · exact h0
        · obtain rfl : bn = 1 := by omega
          have hlt2 := val_lt X.out.ok
          omega
      subst hb0
      have hv2 : val zs = val xs - val ys := by
        have e1 := EX.out
        have e2 := EY.out
        omega
      have ow := Own.of_row (lo := w0.heap.size) HR.out hzo (Nat.le_refl _) (by omega)
      have rd := ow.rd
      rw [hZ] at rd
      have S := Lib.hid (sig_n rd hZ)
      have FIN := Lib.hid (givesT_row (w := w) HR.out (by rw [HS0.out]; exact Nat.le_refl _) hzo (HB0.out.trans (HB.out.mono (by rw [HS0.out]; exact Nat.le_refl _))) hv2 hZ (by omega))
      clear hbel hk hlt hE hZ okv t1 t2 t3 hv2 ow rd
      go_wp2_with fail
      refine S.out.mono ?_
      rintro e w' ⟨rfl, rfl⟩
      go_wp2
      go_ret2
      exact FIN.out

theorem sub_yes_n {A B : Option Addr} {ca cb n m : Nat} {xs ys : List Nat} {w : World} (h : Rd w A ca xs) (h' : Rd w B cb ys) (hn : xs.length = n) (hm : ys.length = m) (hl : n ≤ 70368744177663) (hv : val ys ≤ val xs) :
    Calls Try.prog 24 #[.slice A n ca, .slice B m cb] w (GivesT w (val xs - val ys)) := by
  subst hn hm; exact sub_yes A B ca cb xs ys w h h' hl hv
end Go.Proofs.Ytmmlfmjelhninaa
