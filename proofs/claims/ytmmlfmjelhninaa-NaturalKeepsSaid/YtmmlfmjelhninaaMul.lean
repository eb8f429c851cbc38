/-
  Contracts of natural.addProduct and natural.Mul.
-/
import Derived.Test.YtmmlfmjelhninaaAwake
namespace Go.Proofs.Ytmmlfmjelhninaa
open Go.RowKit
set_option linter.unusedVariables false

theorem val_set {zs : List Nat} {k v : Nat} (h : k < zs.length) : val (zs.set k v) + lim zs k * pw k = val zs + v * pw k := by
  have e1 := val_split (zs.set k v) (k + 1) (by rw [List.length_set]; exact h)
  have e2 := val_split zs (k + 1) h
  rw [val_take_set h, List.drop_set_of_lt (by omega)] at e1
  rw [val_take_succ h] at e2
  omega
theorem mul_lt {x v : Nat} (hx : x < 4294967296) (hv : v < 4294967296) : x * v ≤ 18446744065119617025 :=
  Nat.mul_le_mul (show x ≤ 4294967295 by omega) (show v ≤ 4294967295 by omega)

/-- x times vs added to a part of a row. -/
def ApInv (w : World) (g o : Nat) (zs vs : List Nat) (x k c : Nat) (wr : World) : Prop :=
  ∃ ys, Row wr g ys ∧ ys.length = zs.length ∧ okl ys ∧ (∀ j, o + k ≤ j → lim ys j = lim zs j) ∧ val ys + c * pw (o + k) = val zs + x * val (vs.take k) * pw o ∧ w.grownBy wr (some g)
def ApPost (w : World) (g o : Nat) (zs vs : List Nat) (x : Nat) (e : Ending) (w' : World) : Prop :=
  ∃ c, e = .returned (.int .u32 ((c : Nat) : Int)) ∧ c < 4294967296 ∧ ApInv w g o zs vs x vs.length c w'

theorem ap_step {w wr : World} {g o x k c : Nat} {zs ys vs : List Nat} (hk : k < vs.length) (hr : Row wr g ys) (hyl : ys.length = zs.length) (hy : okl ys) (hj : ∀ j, o + k ≤ j → lim ys j = lim zs j)
    (he : val ys + c * pw (o + k) = val zs + x * val (vs.take k) * pw o) (hg : w.grownBy wr (some g)) (hok : o + k < zs.length) (z : Int) (hz : z = ((c + (x * lim vs k + lim ys (o + k))) % 4294967296 : Nat)) :
    ApInv w g o zs vs x (k + 1) ((c + (x * lim vs k + lim ys (o + k))) / 4294967296) (wr.setCell ⟨g, o + k, none⟩ (.int .u32 z)) := by
  subst hz
  refine ⟨ys.set (o + k) ((c + (x * lim vs k + lim ys (o + k))) % 4294967296), hr.set_ _ _, by simpa using hyl, okl_set hy (by omega) _, ?_, ?_, grown_trans hg (grown_set _ _ _ _)⟩
  · intro j hj'
    rw [lim_set_other (by omega)]
    exact hj j (by omega)
  · have e1 := val_set (v := (c + (x * lim vs k + lim ys (o + k))) % 4294967296) (show o + k < ys.length by omega)
    have e2 := Nat.div_add_mod (c + (x * lim vs k + lim ys (o + k))) 4294967296
    have p1 : pw (o + (k + 1)) = 4294967296 * (pw o * pw k) := by rw [← Nat.add_assoc, pw_succ, pw_add]
    rw [pw_add] at he e1
    rw [val_take_succ hk, p1]
    clear p1 hr hy hj hg hok
    generalize (c + (x * lim vs k + lim ys (o + k))) / 4294967296 = q at *
    generalize (c + (x * lim vs k + lim ys (o + k))) % 4294967296 = r at *
    generalize lim ys (o + k) = y at *
    generalize lim vs k = v at *
    generalize val (ys.set (o + k) r) = V' at *
    generalize val ys = V at *
    generalize val zs = Z at *
    generalize val (vs.take k) = U at *
    generalize pw o = po at *
    generalize pw k = pk at *
    grind

set_option maxHeartbeats 1000000 in
theorem ap_any (g o c : Nat) (zs vs : List Nat) (B : Option Addr) (cb x : Nat) (w : World) (hr : Row w g zs) (hz : okl zs) (hon : o + vs.length ≤ zs.length) (hc : vs.length ≤ c) (hm : zs.length ≤ 70368744177664) (h' : Rd w B cb vs) (hne : ∀ b' o', 0 < cb → B = some ⟨b', o', none⟩ → some b' ≠ some g) (hx : x < 4294967296) :
    Calls Try.prog 50 #[.slice (some ⟨g, o, none⟩) vs.length c, .slice B vs.length cb, .int .u32 (x : Int)] w (ApPost w g o zs vs x) := by
  have Y := Lib.hid h'
  have NE := Lib.hid hne
  have HR0 := Lib.hid hr
  have HZ0 := Lib.hid hz
  have hl := h'.len
  have hcb := h'.capLe
  clear hr hz h' hne
  go_enter Try.func50, Try.ntmps50
  go_wp2
  go_loopw [7, 11] (fun cy i wr => ∃ k cn : Nat, k ≤ vs.length ∧ i = .int .i64 k ∧ cy = .int .u64 cn ∧ cn ≤ 4294967295 ∧ ApInv w g o zs vs x k cn wr) (fun _ i _ => vs.length - (intOf i).toNat)
  case atStart => exact ⟨0, 0, Nat.zero_le _, rfl, rfl, by omega, zs, HR0.out, rfl, HZ0.out, fun j _ => rfl, by simp [val_nil], World.grownBy.refl _ _⟩
  case round =>
    obtain ⟨k, cn, hk, rfl, rfl, hcn, inv⟩ := hrel
    have INV := Lib.hid inv
    by_cases hlt : k < vs.length
    · obtain ⟨ys, hrow, hyl, hyo, hj, heq, hgr⟩ := inv
      have Y1 := Y.out.grown hgr NE.out
      obtain ⟨b, o', hB, hb, hcell⟩ := Y1.at_ hlt
      have c1 := hcell k hlt
      have hfz := hrow.frozen (o + k)
      have hcw := hrow.cell (i := o + k) (by omega)
      have b1 := lim_lt Y1.ok k
      have b2 := lim_lt hyo (o + k)
      have step := Lib.hid (fun nq => ap_step (x := x) (wr := wr.drewN nq) hlt (hrow.drewN nq) hyl hyo hj heq (grown_trans hgr (grown_below (below_drewN _ _ _))) (by omega))
      have hp := mul_lt hx b1
      have hpe : (x : Int) * ((lim vs k : Nat) : Int) = ((x * lim vs k : Nat) : Int) := by simp
      subst hB
      clear hcell hrow hyl hj heq hgr Y1 INV
      generalize x * lim vs k = p at *
      generalize lim ys (o + k) = y at *
      go_wp2
      go_quiet (fail)
      go_wp2
      go_roundw
      case rel => exact ⟨k + 1, (cn + (p + y)) / 4294967296, by omega, by go_num, by first | rfl | (congr 1; omega), by omega, step.out _ _ (by omega)⟩
      case measure => simp [intOf]; omega
    · obtain rfl : k = vs.length := by omega
      have FIN : Hid (ApPost w g o zs vs x (.returned (.int .u32 (cn : Int))) wr) := ⟨cn, rfl, by omega, inv⟩
      clear inv INV
      go_wp2
      go_ret
      exact FIN.out

def MuInv (w : World) (us vs : List Nat) (k : Nat) (wr : World) : Prop :=
  ∃ zs, Row wr w.heap.size zs ∧ zs.length = us.length + vs.length ∧ okl zs ∧ (∀ j, k + vs.length ≤ j → lim zs j = 0) ∧ val zs = val (us.take k) * val vs ∧ Below w.heap.size w wr

theorem mu_step {w w' : World} {us vs zs : List Nat} {k c : Nat} (hk : k < us.length) (hzl : zs.length = us.length + vs.length) (hj : ∀ j, k + vs.length ≤ j → lim zs j = 0)
    (he : val zs = val (us.take k) * val vs) {wr : World} (hb : Below w.heap.size w wr) (hc : c < 4294967296) (hp : ApInv wr w.heap.size k zs vs (lim us k) vs.length c w') (z : Int) (hz : z = (c : Int)) :
    MuInv w us vs (k + 1) (w'.setCell ⟨w.heap.size, k + vs.length, none⟩ (.int .u32 z)) := by
  subst hz
  obtain ⟨ys, hr, hyl, hyo, hyj, hye, hg⟩ := hp
  refine ⟨ys.set (k + vs.length) c, hr.set_ _ _, by rw [List.length_set]; omega, okl_set hyo hc _, ?_, ?_, (hb.trans (below_of_grown hg (Nat.le_refl _) hb.size)).setCell (Nat.le_refl _) _⟩
  · intro j h
    rw [lim_set_other (by omega), hyj j (by omega)]
    exact hj j (by omega)
  · have e1 := val_set (v := c) (show k + vs.length < ys.length by omega)
    rw [hyj _ (Nat.le_refl _), hj _ (Nat.le_refl _)] at e1
    rw [val_take_succ hk, Nat.add_mul, ← he]
    rw [List.take_of_length_le (Nat.le_refl _)] at hye
    have e2 : lim us k * pw k * val vs = lim us k * val vs * pw k := by rw [Nat.mul_assoc, Nat.mul_comm (pw k), ← Nat.mul_assoc]
    omega

set_option maxHeartbeats 2000000 in
theorem mul_any (A B : Option Addr) (ca cb : Nat) (xs ys : List Nat) (w : World) (h : Rd w A ca xs) (h' : Rd w B cb ys) (hn : xs.length + ys.length ≤ 70368744177664) :
    Calls Try.prog 30 #[.slice A xs.length ca, .slice B ys.length cb] w (Gives w (val xs * val ys)) := by
  have S1 := Lib.hid (sig_any A ca xs w h)
  have S2 := Lib.hid (sig_any B cb ys w h')
  have hc1 := h.capLe
  have hc2 := h'.capLe
  have n1 := len_ofv_le h.ok
  have n2 := len_ofv_le h'.ok
  have hn1 : (ofv (val xs)).length + (ofv (val ys)).length ≤ 70368744177664 := by omega
  have X := Lib.hid h.sig
  have Y := Lib.hid h'.sig
  have hx := Lib.hid (val_ofv (val xs))
  have hy := Lib.hid (val_ofv (val ys))
  have l1 := h.sig.len
  have l2 := h'.sig.len
  clear h h' n1 n2 hn
  generalize hva : val xs = va at *
  generalize hvb : val ys = vb at *
  generalize hus : ofv va = us at *
  generalize hvs : ofv vb = vs at *
  have HU := Lib.hid hus
  have HV := Lib.hid hvs
  clear hva hvb hus hvs
  go_enter Try.func30, Try.ntmps30
  go_wp2_with fail
  refine S1.out.mono ?_
  rintro e w' ⟨rfl, rfl⟩
  go_wp2_with fail
  refine S2.out.mono ?_
  rintro e w' ⟨rfl, rfl⟩
  go_wp2_with (at_make; refine make_row rfl _ _ rfl _ _ (us.length + vs.length) rfl rfl (by omega) (by omega) (by omega) ?_)
  intro w1 hrow hbel
  go_wp2
  go_loopw [20] (fun i wr => ∃ k : Nat, k ≤ us.length ∧ i = .int .i64 k ∧ MuInv w us vs k wr) (fun i _ => us.length - (intOf i).toNat)
  case atStart => exact ⟨0, Nat.zero_le _, rfl, _, hrow, by simp, okl_replicate _, fun j _ => lim_replicate _ _, by rw [val_replicate]; simp [val_nil], hbel⟩
  case round =>
    clear hrow hbel
    obtain ⟨k, hk, rfl, inv⟩ := hrel
    obtain ⟨zs, hrow, hzl, hzo, hj, heq, hbel⟩ := inv
    have HE := Lib.hid heq
    have HZ := Lib.hid hzl
    have HR := Lib.hid hrow
    have HB := Lib.hid hbel
    have HJ := Lib.hid hj
    clear heq hzl hrow hj
    by_cases hlt : k < us.length
    · have X1 := X.out.keep (Nat.le_refl _) hbel
      have Y1 := Lib.hid (Y.out.keep (Nat.le_refl _) hbel)
      obtain ⟨b, o, hA, hb, hc⟩ := X1.at_ hlt
      have c1 := hc k hlt
      have b1 := lim_lt X1.ok k
      have NE : Hid (∀ b' o', 0 < cb → B = some ⟨b', o', none⟩ → some b' ≠ some w.heap.size) := by
        intro b' o' h0 hB e
        have := Y.out.old b' o' h0 hB
        have e' : b' = w.heap.size := by simpa using e
        omega
      subst hA
      clear hc hbel X1
      go_wp2_with fail
      refine (ap_any w.heap.size k _ zs vs B cb (lim us k) wr HR.out hzo (by have := HZ.out; omega) (by omega) (by have := HZ.out; omega) Y1.out NE.out b1).mono ?_
      rintro e w2 ⟨c, rfl, hc32, inv2⟩
      have ST := Lib.hid (mu_step hlt HZ.out HJ.out HE.out HB.out hc32 inv2)
      obtain ⟨ys2, hr2, hyl2, _⟩ := inv2
      have hfz := hr2.frozen (k + vs.length)
      have hcw := hr2.cell (i := k + vs.length) (by have := HZ.out; omega)
      clear hr2 hyl2
      go_wp2
      go_roundw
      case rel => exact ⟨k + 1, by omega, by go_num, ST.out _ rfl⟩
      case measure => simp [intOf]; omega
    · obtain rfl : k = us.length := by omega
      have hZ := HZ.out
      have hv2 : val zs = va * vb := by
        have e := HE.out
        rw [List.take_of_length_le (Nat.le_refl _), hx.out, hy.out] at e
        exact e
      have ow := Own.of_row (lo := w.heap.size) HR.out hzo (Nat.le_refl _) (by omega)
      have rd := ow.rd
      rw [hZ] at rd
      have S := Lib.hid (sig_n rd hZ)
      have FIN := Lib.hid (gives_row HR.out (Nat.le_refl _) hzo HB.out hv2 hZ (by omega))
      clear hbel hk hlt hZ hv2 ow rd
      go_wp2_with fail
      refine S.out.mono ?_
      rintro e w' ⟨rfl, rfl⟩
      go_wp2
      go_ret
      exact FIN.out
theorem mul_n {A B : Option Addr} {ca cb n m : Nat} {xs ys : List Nat} {w : World} (h : Rd w A ca xs) (h' : Rd w B cb ys) (hn : xs.length = n) (hm : ys.length = m) (hl : n + m ≤ 70368744177664) :
    Calls Try.prog 30 #[.slice A n ca, .slice B m cb] w (Gives w (val xs * val ys)) := by
  subst hn hm; exact mul_any A B ca cb xs ys w h h' hl
end Go.Proofs.Ytmmlfmjelhninaa
