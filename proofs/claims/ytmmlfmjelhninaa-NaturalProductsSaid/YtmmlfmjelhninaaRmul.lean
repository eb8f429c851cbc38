/-
  Contract of the reference's Mul.
-/
import Derived.Test.YtmmlfmjelhninaaMul
import Derived.Test.YtmmlfmjelhninaaRsum
namespace Go.Proofs.Ytmmlfmjelhninaa
open Go.RowKit
set_option linter.unusedVariables false

theorem ap_start {w : World} {g o x : Nat} {zs vs : List Nat} (hr : Row w g zs) (hz : okl zs) : ApInv w g o zs vs x 0 0 w :=
  ⟨zs, hr, rfl, hz, fun _ _ => rfl, by simp [val_nil], World.grownBy.refl _ _⟩

set_option maxHeartbeats 4000000 in
theorem rmul_any (A B : Option Addr) (ca cb : Nat) (us vs : List Nat) (w : World) (h : Rd w A ca us) (h' : Rd w B cb vs) (hn : us.length + vs.length ≤ 70368744177664) :
    Calls Try.prog 31 #[.slice A us.length ca, .slice B vs.length cb] w (Gives w (val us * val vs)) := by
  have hc1 := h.capLe
  have hc2 := h'.capLe
  have l1 := h.len
  have l2 := h'.len
  have X := Lib.hid h
  have Y := Lib.hid h'
  clear h h'
  go_enter Try.func31, Try.ntmps31
  go_wp2_with (at_make; refine make_row rfl _ _ rfl _ _ (us.length + vs.length) rfl rfl (by omega) (by omega) (by omega) ?_)
  intro w1 hrow hbel
  go_wp2
  go_loopw [6] (fun i wr => ∃ k : Nat, k ≤ us.length ∧ i = .int .i64 k ∧ MuInv w us vs k wr) (fun i _ => us.length - (intOf i).toNat)
  case atStart => exact ⟨0, Nat.zero_le _, rfl, _, hrow, by simp, okl_replicate _, fun j _ => lim_replicate _ _, by rw [val_replicate]; simp [val_nil], hbel⟩
  case round =>
    clear hrow hbel
    obtain ⟨k, hk, rfl, inv⟩ := hrel
    obtain ⟨zs, hrow, hzl, hzo, hj, heq, hbel⟩ := inv
    have HE := Lib.hid heq
    have HZ := Lib.hid hzl
    have HR := Lib.hid hrow
    have HB := Lib.hid hbel
    have HJ := Lib.hid hj
    have HO := Lib.hid hzo
    clear heq hzl hrow hj hbel hzo
    by_cases hlt : k < us.length
    · have X1 := Lib.hid (X.out.keep (Nat.le_refl _) HB.out)
      have Y1 := Lib.hid (Y.out.keep (Nat.le_refl _) HB.out)
      obtain ⟨b, o, hA, hb, hc⟩ := X1.out.at_ hlt
      have c1 := hc k hlt
      have b1 := lim_lt X1.out.ok k
      have hb' : b < w.heap.size := X.out.old b o (by omega) hA
      have NE : Hid (∀ b' o', 0 < cb → B = some ⟨b', o', none⟩ → some b' ≠ some w.heap.size) := by
        intro b' o' h0 hB e
        have := Y.out.old b' o' h0 hB
        have e' : b' = w.heap.size := by simpa using e
        omega
      subst hA
      clear hc
      obtain ⟨wo, rfl⟩ : ∃ wo : World, wo = wr := ⟨_, rfl⟩
      go_wp2
      go_loopw [7, 8] (fun cy j wi => ∃ m cn : Nat, m ≤ vs.length ∧ j = .int .i64 m ∧ cy = .int .u64 cn ∧ cn ≤ 4294967295 ∧ ApInv wo w.heap.size k zs vs (lim us k) m cn wi) (fun _ j _ => vs.length - (intOf j).toNat)
      case atStart => exact ⟨0, 0, Nat.zero_le _, rfl, rfl, by omega, ap_start HR.out HO.out⟩
      case round =>
        obtain ⟨m, cn, hm, rfl, rfl, hcn, inv⟩ := hrel
        have INV := Lib.hid inv
        by_cases hlt2 : m < vs.length
        · obtain ⟨ys, hyr, hyl, hyo, hyj, hye, hyg⟩ := inv
          have Y2 := Y1.out.grown hyg NE.out
          obtain ⟨b2, o2, hB, hb2, hcell⟩ := Y2.at_ hlt2
          have c2 := hcell m hlt2
          have c3 : wr.cell? ⟨b, o + k, none⟩ = some (.int .u32 ((lim us k : Nat) : Int)) := (hyg.cell c1 (fun e => absurd (show b = w.heap.size by simpa using e) (by omega)))
          have hfz := hyr.frozen (k + m)
          have hcw := hyr.cell (i := k + m) (by have := HZ.out; omega)
          have b3 := lim_lt Y2.ok m
          have b4 := lim_lt hyo (k + m)
          have step := Lib.hid (fun nq => ap_step (x := lim us k) (wr := wr.drewN nq) hlt2 (hyr.drewN nq) hyl hyo hyj hye (grown_trans hyg (grown_below (below_drewN _ _ _))) (by have := HZ.out; omega))
          have hp := mul_lt b1 b3
          have hpe : ((lim us k : Nat) : Int) * ((lim vs m : Nat) : Int) = ((lim us k * lim vs m : Nat) : Int) := by simp
          subst hB
          clear hcell hyr hyl hyj hye hyg Y2 INV
          generalize lim us k * lim vs m = p at *
          generalize lim ys (k + m) = y at *
          go_wp2
          go_quiet (fail)
          go_wp2
          go_roundw
          case rel => exact ⟨m + 1, (cn + (p + y)) / 4294967296, by omega, by go_num, by first | rfl | (congr 1; omega), by omega, step.out _ _ (by omega)⟩
          case measure => simp [intOf]; omega
        · obtain rfl : m = vs.length := by omega
          have ST := Lib.hid (mu_step hlt HZ.out HJ.out HE.out HB.out (by omega) inv)
          obtain ⟨ys2, hr2, hyl2, _⟩ := inv
          have hfz := hr2.frozen (k + vs.length)
          have hcw := hr2.cell (i := k + vs.length) (by have := HZ.out; omega)
          clear hr2 hyl2 INV hm hlt2
          go_wp2
          go_roundw
          case rel => exact ⟨k + 1, by omega, by go_num, ST.out _ (by first | rfl | omega)⟩
          case measure => simp [intOf]; omega
    · obtain rfl : k = us.length := by omega
      have hZ := HZ.out
      have hv2 : val zs = val us * val vs := by
        have e := HE.out
        rw [List.take_of_length_le (Nat.le_refl _)] at e
        exact e
      have ow := Own.of_row (lo := w.heap.size) HR.out HO.out (Nat.le_refl _) (by omega)
      have rd := ow.rd
      rw [hZ] at rd
      have S := rtrim_n rd hZ (by omega)
      rw [hv2] at S
      have HS := Lib.hid S
      clear S hk hlt hZ hv2 ow rd
      go_wp2_with fail
      refine HS.out.mono ?_
      rintro e w2 ⟨R, c, rfl, ho, hb⟩
      have FIN : Hid (Gives w (val us * val vs) (.returned (.slice R (ofv (val us * val vs)).length c)) w2) :=
        ⟨R, c, rfl, ho.mono HB.out.size, HB.out.trans (hb.mono HB.out.size)⟩
      clear ho hb
      go_wp2
      go_ret
      exact FIN.out
theorem rmul_n {A B : Option Addr} {ca cb n m : Nat} {xs ys : List Nat} {w : World} (h : Rd w A ca xs) (h' : Rd w B cb ys) (hn : xs.length = n) (hm : ys.length = m) (hl : n + m ≤ 70368744177664) :
    Calls Try.prog 31 #[.slice A n ca, .slice B m cb] w (Gives w (val xs * val ys)) := by
  subst hn hm; exact rmul_any A B ca cb xs ys w h h' hl
end Go.Proofs.Ytmmlfmjelhninaa
