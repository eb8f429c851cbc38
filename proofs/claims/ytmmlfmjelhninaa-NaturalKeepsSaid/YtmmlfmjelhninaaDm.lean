/-
  Contract of natural.DivMod where it is not long division: divisor 0, dividend shorter, two limbs, divisor of one limb.
-/
import Derived.Test.YtmmlfmjelhninaaDivl
import Derived.RegionTactic
import Derived.Deep.RegionWith
namespace Go.Proofs.Ytmmlfmjelhninaa
open Go.RowKit
set_option linter.unusedVariables false

/-- Quotient, remainder and true. -/
def Gives2 (w : World) (q r : Nat) (e : Ending) (w' : World) : Prop :=
  ∃ R c R' c', e = .returned (.tuple #[.slice R (ofv q).length c, .slice R' (ofv r).length c', .bool true]) ∧ Own w' w.heap.size R c (ofv q) ∧ Own w' w.heap.size R' c' (ofv r) ∧ Below w.heap.size w w'
/-- No numbers, and false. -/
def GivesF2 (w : World) (e : Ending) (w' : World) : Prop := e = .returned (.tuple #[.slice none 0 0, .slice none 0 0, .bool false]) ∧ Below w.heap.size w w'

theorem dm_zero (A B : Option Addr) (ca cb : Nat) (xs ys : List Nat) (w : World) (h : Rd w A ca xs) (h' : Rd w B cb ys) (hv : val ys = 0) :
    Calls Try.prog 28 #[.slice A xs.length ca, .slice B ys.length cb] w (GivesF2 w) := by
  have S1 := Lib.hid (sig_any A ca xs w h)
  have S2 := sig_any B cb ys w h'
  rw [hv, ofv_zero] at S2
  have H2 := Lib.hid S2
  have hl := h.sig.len
  have hc := h.capLe
  clear S2 h h' hv
  generalize (ofv (val xs)).length = m at *
  go_enter Try.func28, Try.ntmps28
  go_wp2_with fail
  refine S1.out.mono ?_
  rintro e w' ⟨rfl, rfl⟩
  go_wp2_with fail
  refine H2.out.mono ?_
  rintro e w' ⟨rfl, rfl⟩
  go_wp2
  go_ret3
  exact ⟨rfl, Below.refl _ _⟩

theorem len_pos {v : Nat} (h : 0 < v) : 0 < (ofv v).length := List.length_pos_iff.2 (fun e => by have := ofv_eq_nil.1 e; omega)

theorem dm_less (A B : Option Addr) (ca cb : Nat) (xs ys : List Nat) (w : World) (h : Rd w A ca xs) (h' : Rd w B cb ys) (hn : xs.length ≤ 70368744177663) (hv : 0 < val ys) (hlt : (ofv (val xs)).length < (ofv (val ys)).length) :
    Calls Try.prog 28 #[.slice A xs.length ca, .slice B ys.length cb] w (Gives2 w (val xs / val ys) (val xs % val ys)) := by
  have S1 := Lib.hid (sig_any A ca xs w h)
  have S2 := Lib.hid (sig_any B cb ys w h')
  have X := Lib.hid h.sig
  have l1 := h.sig.len
  have l2 := h'.sig.len
  have hc := h.capLe
  have hc' := h'.capLe
  have hp := len_pos hv
  have hn1 : (ofv (val xs)).length ≤ 70368744177663 := by have := len_ofv_le h.ok; omega
  have hlt' := lt_of_len_lt hlt
  have e1 : val xs / val ys = 0 := Nat.div_eq_of_lt hlt'
  have e2 : val xs % val ys = val xs := Nat.mod_eq_of_lt hlt'
  rw [e1, e2]
  have T := trim_n h.sig rfl (by omega)
  rw [val_ofv] at T
  have HT := Lib.hid T
  clear h h' hv hlt' e1 e2 T
  generalize hm1 : (ofv (val xs)).length = m1 at *
  generalize (ofv (val ys)).length = m2 at *
  have HM := Lib.hid hm1
  clear hm1
  go_enter Try.func28, Try.ntmps28
  go_wp2_with fail
  refine S1.out.mono ?_
  rintro e w' ⟨rfl, rfl⟩
  go_wp2_with fail
  refine S2.out.mono ?_
  rintro e w' ⟨rfl, rfl⟩
  go_wp2_with fail
  refine HT.out.mono ?_
  rintro e w' ⟨R, c, rfl, ho, hb⟩
  have FIN : Hid (Gives2 w 0 (val xs) (.returned (.tuple #[.slice none 0 0, .slice R (ofv (val xs)).length c, .bool true])) w') :=
    ⟨none, 0, R, c, by rw [ofv_zero]; rfl, by rw [ofv_zero]; exact Own.nil _ _ _, ho, hb⟩
  clear ho hb
  go_wp2
  go_ret3
  exact FIN.out

theorem from_q {a b : Nat} {w : World} (h : a ≤ 18446744073709551615) :
    Calls Try.prog 16 #[.int .u64 (IntKind.u64.wrap ((a : Int) / (b : Int)))] w (Gives w (a / b)) := by
  have hq : a / b ≤ a := Nat.div_le_self _ _
  refine from_z ?_ (by omega)
  rw [IntKind.wrap_u64, ← Int.natCast_ediv]
  generalize a / b = q at *
  omega
theorem from_t {a b : Nat} {w : World} (h : a ≤ 18446744073709551615) :
    Calls Try.prog 16 #[.int .u64 ((a : Int).tmod (b : Int))] w (Gives w (a % b)) := by
  have hq : a % b ≤ a := Nat.mod_le _ _
  exact from_z (by rw [Int.tmod_eq_emod_of_nonneg (by omega)]; simp) (by omega)
theorem from_r {a b : Nat} {w : World} (h : a ≤ 18446744073709551615) :
    Calls Try.prog 16 #[.int .u64 ((a : Int) % (b : Int))] w (Gives w (a % b)) := by
  have hq : a % b ≤ a := Nat.mod_le _ _
  exact from_z (by simp) (by omega)

set_option maxHeartbeats 1000000 in
theorem dm_short (A B : Option Addr) (ca cb : Nat) (xs ys : List Nat) (w : World) (h : Rd w A ca xs) (h' : Rd w B cb ys) (hv : 0 < val ys) (hle : (ofv (val ys)).length ≤ (ofv (val xs)).length) (h2 : (ofv (val xs)).length ≤ 2) :
    Calls Try.prog 28 #[.slice A xs.length ca, .slice B ys.length cb] w (Gives2 w (val xs / val ys) (val xs % val ys)) := by
  have S1 := Lib.hid (sig_any A ca xs w h)
  have S2 := Lib.hid (sig_any B cb ys w h')
  have X := Lib.hid h.sig
  have Y := Lib.hid h'.sig
  have l1 := h.sig.len
  have l2 := h'.sig.len
  have hc := h.capLe
  have hc' := h'.capLe
  have hp := len_pos hv
  have b1 := val_two (okl_ofv (val xs)) h2
  have b2 := val_two (okl_ofv (val ys)) (by omega)
  rw [val_ofv] at b1 b2
  have b1' : val xs ≤ 18446744073709551615 := by omega
  have b2' : val ys ≤ 18446744073709551615 := by omega
  have V1 := Lib.hid (val_ofv (val xs))
  have V2 := Lib.hid (val_ofv (val ys))
  have q1 : val xs / val ys ≤ 18446744073709551615 := Nat.le_trans (Nat.div_le_self _ _) b1'
  have q2 : val xs % val ys ≤ 18446744073709551615 := Nat.le_trans (Nat.mod_le _ _) b1'
  clear h h' b1 b2
  generalize hu : ofv (val xs) = us at *
  generalize hw : ofv (val ys) = vs at *
  have HU := Lib.hid hu
  have HW := Lib.hid hw
  generalize val xs = va at *
  generalize val ys = vb at *
  clear hu hw
  go_enter Try.func28, Try.ntmps28
  go_wp2_with fail
  refine S1.out.mono ?_
  rintro e w' ⟨rfl, rfl⟩
  go_wp2_with fail
  refine S2.out.mono ?_
  rintro e w' ⟨rfl, rfl⟩
  go_wp2_with fail
  refine (window_small X.out rfl h2).mono ?_
  rw [V1.out]
  rintro e w1 ⟨rfl, hq⟩
  have B1 : Hid (Below w.heap.size w w1) := by obtain ⟨n, rfl⟩ := hq; exact below_drewN _ _ _
  have Z1 : Hid (w1.heap.size = w.heap.size) := by obtain ⟨n, rfl⟩ := hq; exact rfl
  clear hq
  go_wp2_with fail
  refine (window_small (Y.out.below B1.out) rfl (by omega)).mono ?_
  rw [V2.out]
  rintro e w2 ⟨rfl, hq⟩
  have B2 : Hid (Below w1.heap.size w1 w2) := by obtain ⟨n, rfl⟩ := hq; exact below_drewN _ _ _
  have Z2 : Hid (w2.heap.size = w1.heap.size) := by obtain ⟨n, rfl⟩ := hq; exact rfl
  clear hq
  go_wp2_with fail
  go_region_with ((go_at_call 16; first | ((with_reducible refine (from_q b1').mono ?_); rintro e wq ⟨Rq, cq, rfl, hoq, hbq⟩) | ((with_reducible refine (from_t b1').mono ?_); rintro e wr ⟨Rr, cr, rfl, hor, hbr⟩) | ((with_reducible refine (from_r b1').mono ?_); rintro e wr ⟨Rr, cr, rfl, hor, hbr⟩)))
  all_goals
    have FIN : Hid (Gives2 w (va / vb) (va % vb) (.returned (.tuple #[.slice Rq (ofv (va / vb)).length cq, .slice Rr (ofv (va % vb)).length cr, .bool true])) wr) := by
      have z1 := Z1.out
      have z2 := Z2.out
      have hbq' : Below w2.heap.size w2 wq := (below_drewN w2.heap.size w2 1).trans hbq
      have hs := hbq'.size
      exact ⟨Rq, cq, Rr, cr, rfl, (hoq.below hbr).mono (by show w.heap.size ≤ w2.heap.size; omega), hor.mono (by omega), B1.out.trans ((B2.out.mono (by omega)).trans ((hbq'.mono (by omega)).trans (hbr.mono (by omega))))⟩
    clear hoq hbq hor hbr
    go_wp2
    go_ret3
    exact FIN.out

set_option maxHeartbeats 1000000 in
theorem dm_limb (A B : Option Addr) (ca cb : Nat) (xs ys : List Nat) (w : World) (h : Rd w A ca xs) (h' : Rd w B cb ys) (hn : xs.length ≤ 70368744177663) (h1 : (ofv (val ys)).length = 1) (h2 : 2 < (ofv (val xs)).length) :
    Calls Try.prog 28 #[.slice A xs.length ca, .slice B ys.length cb] w (Gives2 w (val xs / val ys) (val xs % val ys)) := by
  have S1 := Lib.hid (sig_any A ca xs w h)
  have S2 := sig_any B cb ys w h'
  have X := h.sig
  have Y := h'.sig
  have l1 := h.sig.len
  have l2 := h'.sig.len
  have hc := h.capLe
  have hc' := h'.capLe
  have hn1 : (ofv (val xs)).length ≤ 70368744177663 := by have := len_ofv_le h.ok; omega
  have V1 := val_ofv (val xs)
  obtain ⟨d, hd⟩ : ∃ d, ofv (val ys) = [d] := by
    match ofv (val ys), h1 with
    | [d], _ => exact ⟨d, rfl⟩
  have hvd : val ys = d := by rw [← val_ofv (val ys), hd, val_cons, val_nil]; omega
  have hd1 : d < 4294967296 := by have := okl_ofv (val ys) d (by rw [hd]; simp); omega
  have hd0 : 0 < d := by
    rcases Nat.eq_zero_or_pos d with e | e
    · rw [hvd, e, ofv_zero] at h1; simp at h1
    · exact e
  rw [hd] at S2 Y l2
  obtain ⟨b, o, rfl, _, hcell⟩ := Y.at_ (k := 0) (by simp)
  have c1 := hcell 0 (by simp)
  rw [lim_cons_zero, Nat.add_zero] at c1
  have H2 := Lib.hid S2
  have e0 : ([d] : List Nat).length = 1 := rfl
  rw [hvd]
  have L := divl_n X rfl d hn1 hd0 hd1
  have HX := Lib.hid X
  have HV1 := Lib.hid V1
  have HL := Lib.hid L
  have hl2 : 1 ≤ cb := by simpa using l2
  clear h h' Y hcell S2 L hd h1 hvd V1 X l2
  generalize hu : ofv (val xs) = us at *
  have HU := Lib.hid hu
  generalize val xs = va at *
  clear hu e0
  go_enter Try.func28, Try.ntmps28
  go_wp2_with fail
  refine S1.out.mono ?_
  rintro e w' ⟨rfl, rfl⟩
  go_wp2_with fail
  refine H2.out.mono ?_
  rintro e w' ⟨rfl, rfl⟩
  go_wp2_with fail
  refine HL.out.mono ?_
  rintro e w1 ⟨g, g', zs, rfl, hg, hg', hr1, hzl, hzo, hzv, hr2, hb⟩
  rw [HV1.out] at hzv hr2
  have ow1 := Own.of_row (lo := w.heap.size) hr1 hzo hg (by omega)
  have okr : okl [va % d] := by
    intro x hx
    have := Nat.mod_lt va hd0
    simp only [List.mem_cons, List.not_mem_nil, or_false] at hx
    omega
  have ow2 := Own.of_row (lo := w.heap.size) hr2 okr hg' (by simp)
  rw [hzl] at ow1
  have vr : val [va % d] = va % d := by rw [val_cons, val_nil]; omega
  have T1 := Lib.hid (sig_n ow1.rd hzl)
  have T2 := Lib.hid (sig_n ow2.rd rfl)
  have FIN : Hid (Gives2 w (va / d) (va % d) (.returned (.tuple #[.slice (some ⟨g, 0, none⟩) (ofv (val zs)).length us.length, .slice (some ⟨g', 0, none⟩) (ofv (val [va % d])).length 1, .bool true])) w1) := by
    have p1 := ow1.sig
    have p2 := ow2.sig
    rw [hzv] at p1 ⊢
    rw [vr] at p2 ⊢
    exact ⟨_, _, _, _, rfl, p1, p2, hb⟩
  clear hr1 hzl hzo hzv hr2 hb ow1 okr ow2 vr
  go_wp2_with fail
  refine T1.out.mono ?_
  rintro e w' ⟨rfl, rfl⟩
  go_wp2_with fail
  refine T2.out.mono ?_
  rintro e w' ⟨rfl, rfl⟩
  go_wp2
  go_ret3
  exact FIN.out
end Go.Proofs.Ytmmlfmjelhninaa
