/-
  The whole contract of natural.DivMod.
-/
import Derived.Test.YtmmlfmjelhninaaDlong
namespace Go.Proofs.Ytmmlfmjelhninaa
open Go.RowKit
set_option linter.unusedVariables false

set_option maxHeartbeats 1000000 in
theorem dm_long (A B : Option Addr) (ca cb : Nat) (xs ys : List Nat) (w : World) (h : Rd w A ca xs) (h' : Rd w B cb ys) (hn : xs.length ≤ 70368744177663) (h1 : 2 ≤ (ofv (val ys)).length) (hle : (ofv (val ys)).length ≤ (ofv (val xs)).length) (h2 : 2 < (ofv (val xs)).length) :
    Calls Try.prog 28 #[.slice A xs.length ca, .slice B ys.length cb] w (Gives2 w (val xs / val ys) (val xs % val ys)) := by
  have S1 := Lib.hid (sig_any A ca xs w h)
  have S2 := Lib.hid (sig_any B cb ys w h')
  have hc := h.capLe
  have hc' := h'.capLe
  have hn1 : (ofv (val xs)).length ≤ 70368744177663 := by have := len_ofv_le h.ok; omega
  have hy0 : val ys ≠ 0 := fun e => by rw [e, ofv_zero] at h1; simp at h1
  have L := long_any A B ca cb _ _ w h.sig h'.sig h1 hle hn1 (ofv_last hy0)
  have V1 := Lib.hid (val_ofv (val xs))
  have V2 := Lib.hid (val_ofv (val ys))
  have l1 := h.sig.len
  have l2 := h'.sig.len
  have HL := Lib.hid L
  clear h h' L hy0
  generalize val xs = va at *
  generalize val ys = vb at *
  generalize hu : ofv va = us at *
  generalize hv : ofv vb = vs at *
  have HU := Lib.hid hu
  have HV := Lib.hid hv
  clear hu hv
  go_enter Try.func28, Try.ntmps28
  go_wp2_with fail
  refine S1.out.mono ?_
  rintro e w' ⟨rfl, rfl⟩
  go_wp2_with fail
  refine S2.out.mono ?_
  rintro e w' ⟨rfl, rfl⟩
  go_wp2_with fail
  refine HL.out.mono ?_
  rintro e w1 ⟨g, g', zs, rs, rfl, hg, hg', hr1, hzl, hzo, hzv, hr2, hrl, hro, hrv, hb⟩
  rw [V1.out, V2.out] at hzv hrv
  have ow1 := Own.of_row (lo := w.heap.size) hr1 hzo hg (by omega)
  have ow2 := Own.of_row (lo := w.heap.size) hr2 hro hg' (by omega)
  rw [hzl] at ow1
  rw [hrl] at ow2
  have T1 := Lib.hid (sig_n ow1.rd hzl)
  have T2 := Lib.hid (sig_n ow2.rd hrl)
  have FIN : Hid (Gives2 w (va / vb) (va % vb) (.returned (.tuple #[.slice (some ⟨g, 0, none⟩) (ofv (val zs)).length (us.length - vs.length + 1), .slice (some ⟨g', 0, none⟩) (ofv (val rs)).length vs.length, .bool true])) w1) := by
    have p1 := ow1.sig
    have p2 := ow2.sig
    rw [hzv] at p1 ⊢
    rw [hrv] at p2 ⊢
    exact ⟨_, _, _, _, rfl, p1, p2, hb⟩
  clear hr1 hzl hzo hzv hr2 hrl hro hrv hb ow1 ow2
  go_wp2_with fail
  refine T1.out.mono ?_
  rintro e w' ⟨rfl, rfl⟩
  go_wp2_with fail
  refine T2.out.mono ?_
  rintro e w' ⟨rfl, rfl⟩
  go_wp2
  go_ret3
  exact FIN.out

theorem dm_any (A B : Option Addr) (ca cb : Nat) (xs ys : List Nat) (w : World) (h : Rd w A ca xs) (h' : Rd w B cb ys) (hn : xs.length ≤ 70368744177663) (hv : 0 < val ys) :
    Calls Try.prog 28 #[.slice A xs.length ca, .slice B ys.length cb] w (Gives2 w (val xs / val ys) (val xs % val ys)) := by
  have hp := len_pos hv
  rcases Nat.lt_or_ge (ofv (val xs)).length (ofv (val ys)).length with h1 | h1
  · exact dm_less A B ca cb xs ys w h h' hn hv h1
  · rcases Nat.lt_or_ge 2 (ofv (val xs)).length with h2 | h2
    · rcases Nat.lt_or_ge (ofv (val ys)).length 2 with h3 | h3
      · exact dm_limb A B ca cb xs ys w h h' hn (by omega) h2
      · exact dm_long A B ca cb xs ys w h h' hn h3 h1 h2
    · exact dm_short A B ca cb xs ys w h h' hv h1 h2
theorem dm_n {A B : Option Addr} {ca cb n m : Nat} {xs ys : List Nat} {w : World} (h : Rd w A ca xs) (h' : Rd w B cb ys) (hn : xs.length = n) (hm : ys.length = m) (hl : n ≤ 70368744177663) (hv : 0 < val ys) :
    Calls Try.prog 28 #[.slice A n ca, .slice B m cb] w (Gives2 w (val xs / val ys) (val xs % val ys)) := by
  subst hn hm; exact dm_any A B ca cb xs ys w h h' hl hv
end Go.Proofs.Ytmmlfmjelhninaa
