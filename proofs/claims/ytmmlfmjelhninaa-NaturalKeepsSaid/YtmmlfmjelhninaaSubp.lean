/-
  Contracts of natural.subtractProduct and natural.addBack.
-/
import Derived.Test.YtmmlfmjelhninaaEst
namespace Go.Proofs.Ytmmlfmjelhninaa
open Go.RowKit
set_option linter.unusedVariables false

/-- x times vs subtracted from a part of a row; c is still to be subtracted above. -/
def SpInv (w : World) (g o : Nat) (zs vs : List Nat) (x k c : Nat) (wr : World) : Prop :=
  ∃ ys, Row wr g ys ∧ ys.length = zs.length ∧ okl ys ∧ (∀ j, j < o ∨ o + k ≤ j → lim ys j = lim zs j) ∧ val ys + x * val (vs.take k) * pw o = val zs + c * pw (o + k) ∧ w.grownBy wr (some g)
def SpPost (w : World) (g o : Nat) (zs vs : List Nat) (x : Nat) (e : Ending) (w' : World) : Prop :=
  ∃ c, e = .returned (.int .u64 ((c : Nat) : Int)) ∧ c < 4294967296 ∧ SpInv w g o zs vs x vs.length c w'

theorem sp_step {w wr : World} {g o x k c d c' : Nat} {zs ys vs : List Nat} (hk : k < vs.length) (hd : d < 4294967296) (hr : Row wr g ys) (hyl : ys.length = zs.length) (hy : okl ys) (hj : ∀ j, j < o ∨ o + k ≤ j → lim ys j = lim zs j)
    (he : val ys + x * val (vs.take k) * pw o = val zs + c * pw (o + k)) (hg : w.grownBy wr (some g)) (hok : o + k < zs.length) (hdd : d + (c + x * lim vs k) = lim ys (o + k) + 4294967296 * c') (z : Int) (hz : z = ((d : Nat) : Int)) :
    SpInv w g o zs vs x (k + 1) c' (wr.setCell ⟨g, o + k, none⟩ (.int .u32 z)) := by
  subst hz
  refine ⟨ys.set (o + k) d, hr.set_ _ _, by simpa using hyl, okl_set hy hd _, ?_, ?_, grown_trans hg (grown_set _ _ _ _)⟩
  · intro j hj'
    rw [lim_set_other (by omega)]
    exact hj j (by omega)
  · have e1 := val_set (v := d) (show o + k < ys.length by omega)
    have p1 : pw (o + (k + 1)) = 4294967296 * (pw o * pw k) := by rw [← Nat.add_assoc, pw_succ, pw_add]
    rw [pw_add] at he e1
    rw [val_take_succ hk, p1]
    clear p1 hr hy hj hg hok
    generalize lim ys (o + k) = y at *
    generalize lim vs k = v at *
    generalize val (ys.set (o + k) d) = V' at *
    generalize val ys = V at *
    generalize val zs = Z at *
    generalize val (vs.take k) = U at *
    generalize pw o = po at *
    generalize pw k = pk at *
    grind

set_option maxHeartbeats 2000000 in
theorem sp_any (g o c : Nat) (zs vs : List Nat) (B : Option Addr) (cb x n : Nat) (w : World) (hr : Row w g zs) (hz : okl zs) (hvn : vs.length = n) (hon : o + n ≤ zs.length) (hc : n ≤ c) (hm : zs.length ≤ 70368744177664) (h' : Rd w B cb vs) (hne : ∀ b' o', 0 < cb → B = some ⟨b', o', none⟩ → some b' ≠ some g) (hx : x < 4294967296) :
    Calls Try.prog 63 #[.slice (some ⟨g, o, none⟩) n c, .slice B n cb, .int .u32 (x : Int)] w (SpPost w g o zs vs x) := by
  subst hvn
  have Y := Lib.hid h'
  have NE := Lib.hid hne
  have HR0 := Lib.hid hr
  have HZ0 := Lib.hid hz
  have hl := h'.len
  have hcb := h'.capLe
  clear hr hz h' hne
  go_enter Try.func63, Try.ntmps63
  go_wp2
  go_loopw [7, 13] (fun cy i wr => ∃ k cn : Nat, k ≤ vs.length ∧ i = .int .i64 k ∧ cy = .int .u64 cn ∧ cn ≤ 4294967295 ∧ SpInv w g o zs vs x k cn wr) (fun _ i _ => vs.length - (intOf i).toNat)
  case atStart => exact ⟨0, 0, Nat.zero_le _, rfl, rfl, by omega, zs, HR0.out, rfl, HZ0.out, fun j _ => rfl, by simp [val_nil], World.grownBy.refl _ _⟩
  case round =>
    obtain ⟨k, cn, hk, rfl, rfl, hcn, inv⟩ := hrel
    have INV := Lib.hid inv
    by_cases hlt : k < vs.length
    · obtain ⟨ys, hrow, hyl, hyo, hj, heq, hgr⟩ := inv
      have Y1 := Y.out.grown hgr NE.out
      obtain ⟨b, o', hB, hb, hcell⟩ := Y1.at_ hlt
      have c1 := hcell k hlt
      have hfz := hrow.frozen (o + k)
      have hcw := hrow.cell (i := o + k) (by omega)
      have b1 := lim_lt Y1.ok k
      have b2 := lim_lt hyo (o + k)
      have step := Lib.hid (fun d c' hd => sp_step (x := x) (d := d) (c' := c') hlt hd hrow hyl hyo hj heq hgr (by omega))
      have hp := mul_lt hx b1
      have hpe : (x : Int) * ((lim vs k : Nat) : Int) = ((x * lim vs k : Nat) : Int) := by simp
      subst hB
      clear hcell hrow hyl hj heq hgr Y1 INV
      generalize x * lim vs k = p at *
      generalize lim ys (o + k) = y at *
      rcases Nat.lt_or_ge y ((cn + p) % 4294967296) with hsm | hge
      · go_wp2
        go_roundw
        case rel => exact ⟨k + 1, (cn + p) / 4294967296 + 1, by omega, by go_num, by first | rfl | (congr 1; omega), by omega, step.out (4294967296 + y - (cn + p) % 4294967296) ((cn + p) / 4294967296 + 1) (by omega) (by omega) _ (by omega)⟩
        case measure => simp [intOf]; omega
      · go_wp2
        go_roundw
        case rel => exact ⟨k + 1, (cn + p) / 4294967296, by omega, by go_num, by first | rfl | (congr 1; omega), by omega, step.out (y - (cn + p) % 4294967296) ((cn + p) / 4294967296) (by omega) (by omega) _ (by omega)⟩
        case measure => simp [intOf]; omega
    · obtain rfl : k = vs.length := by omega
      have FIN : Hid (SpPost w g o zs vs x (.returned (.int .u64 (cn : Int))) wr) := ⟨cn, rfl, by omega, inv⟩
      clear inv INV
      go_wp2
      go_ret
      exact FIN.out

/-- vs added to a part of a row; c is the carry. -/
def AbInv (w : World) (g o : Nat) (zs vs : List Nat) (k c : Nat) (wr : World) : Prop :=
  ∃ ys, Row wr g ys ∧ ys.length = zs.length ∧ okl ys ∧ (∀ j, j < o ∨ o + k ≤ j → lim ys j = lim zs j) ∧ val ys + c * pw (o + k) = val zs + val (vs.take k) * pw o ∧ w.grownBy wr (some g)
def AbPost (w : World) (g o : Nat) (zs vs : List Nat) (e : Ending) (w' : World) : Prop :=
  e = .returned (.tuple #[]) ∧ ∃ c, AbInv w g o zs vs vs.length c w'

theorem ab_step {w wr : World} {g o k c : Nat} {zs ys vs : List Nat} (hk : k < vs.length) (hr : Row wr g ys) (hyl : ys.length = zs.length) (hy : okl ys) (hj : ∀ j, j < o ∨ o + k ≤ j → lim ys j = lim zs j)
    (he : val ys + c * pw (o + k) = val zs + val (vs.take k) * pw o) (hg : w.grownBy wr (some g)) (hok : o + k < zs.length) (z : Int) (hz : z = ((c + (lim ys (o + k) + lim vs k)) % 4294967296 : Nat)) :
    AbInv w g o zs vs (k + 1) ((c + (lim ys (o + k) + lim vs k)) / 4294967296) (wr.setCell ⟨g, o + k, none⟩ (.int .u32 z)) := by
  subst hz
  refine ⟨ys.set (o + k) ((c + (lim ys (o + k) + lim vs k)) % 4294967296), hr.set_ _ _, by simpa using hyl, okl_set hy (by omega) _, ?_, ?_, grown_trans hg (grown_set _ _ _ _)⟩
  · intro j hj'
    rw [lim_set_other (by omega)]
    exact hj j (by omega)
  · have e1 := val_set (v := (c + (lim ys (o + k) + lim vs k)) % 4294967296) (show o + k < ys.length by omega)
    have e2 := Nat.div_add_mod (c + (lim ys (o + k) + lim vs k)) 4294967296
    have p1 : pw (o + (k + 1)) = 4294967296 * (pw o * pw k) := by rw [← Nat.add_assoc, pw_succ, pw_add]
    rw [pw_add] at he e1
    rw [val_take_succ hk, p1]
    clear p1 hr hy hj hg hok
    generalize (c + (lim ys (o + k) + lim vs k)) / 4294967296 = q at *
    generalize (c + (lim ys (o + k) + lim vs k)) % 4294967296 = r at *
    generalize lim ys (o + k) = y at *
    generalize lim vs k = v at *
    generalize val (ys.set (o + k) r) = V' at *
    generalize val ys = V at *
    generalize val zs = Z at *
    generalize val (vs.take k) = U at *
    generalize pw o = po at *
    generalize pw k = pk at *
    grind

set_option maxHeartbeats 2000000 in
theorem ab_any (g o c : Nat) (zs vs : List Nat) (B : Option Addr) (cb n : Nat) (w : World) (hr : Row w g zs) (hz : okl zs) (hvn : vs.length = n) (hon : o + n ≤ zs.length) (hc : n ≤ c) (hm : zs.length ≤ 70368744177664) (h' : Rd w B cb vs) (hne : ∀ b' o', 0 < cb → B = some ⟨b', o', none⟩ → some b' ≠ some g) :
    Calls Try.prog 64 #[.slice (some ⟨g, o, none⟩) n c, .slice B n cb] w (AbPost w g o zs vs) := by
  subst hvn
  have Y := Lib.hid h'
  have NE := Lib.hid hne
  have HR0 := Lib.hid hr
  have HZ0 := Lib.hid hz
  have hl := h'.len
  have hcb := h'.capLe
  clear hr hz h' hne
  go_enter Try.func64, Try.ntmps64
  go_wp2
  go_loopw [4, 9] (fun cy i wr => ∃ k cn : Nat, k ≤ vs.length ∧ i = .int .i64 k ∧ cy = .int .u64 cn ∧ cn ≤ 1 ∧ AbInv w g o zs vs k cn wr) (fun _ i _ => vs.length - (intOf i).toNat)
  case atStart => exact ⟨0, 0, Nat.zero_le _, rfl, rfl, by omega, zs, HR0.out, rfl, HZ0.out, fun j _ => rfl, by simp [val_nil], World.grownBy.refl _ _⟩
  case round =>
    obtain ⟨k, cn, hk, rfl, rfl, hcn, inv⟩ := hrel
    have INV := Lib.hid inv
    by_cases hlt : k < vs.length
    · obtain ⟨ys, hrow, hyl, hyo, hj, heq, hgr⟩ := inv
      have Y1 := Y.out.grown hgr NE.out
      obtain ⟨b, o', hB, hb, hcell⟩ := Y1.at_ hlt
      have c1 := hcell k hlt
      have hfz := hrow.frozen (o + k)
      have hcw := hrow.cell (i := o + k) (by omega)
      have b1 := lim_lt Y1.ok k
      have b2 := lim_lt hyo (o + k)
      have step := Lib.hid (ab_step hlt hrow hyl hyo hj heq hgr (by omega))
      subst hB
      clear hcell hrow hyl hj heq hgr Y1 INV
      generalize lim ys (o + k) = y at *
      go_wp2
      go_roundw
      case rel => exact ⟨k + 1, (cn + (y + lim vs k)) / 4294967296, by omega, by go_num, by first | rfl | (congr 1; omega), by omega, step.out _ (by omega)⟩
      case measure => simp [intOf]; omega
    · obtain rfl : k = vs.length := by omega
      have FIN : Hid (AbPost w g o zs vs (.returned (.tuple #[])) wr) := ⟨rfl, cn, inv⟩
      clear inv INV
      go_wp2
      go_end0
      exact FIN.out
end Go.Proofs.Ytmmlfmjelhninaa
