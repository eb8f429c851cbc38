/-
  Contracts of natural.ShiftLeft and natural.ShiftRight.
-/
import Derived.Test.YtmmlfmjelhninaaShift
namespace Go.Proofs.Ytmmlfmjelhninaa
open Go.RowKit
set_option linter.unusedVariables false

theorem shl_no (A : Option Addr) (cap : Nat) (xs : List Nat) (w : World) (n : Int) (hn : n < 0 ∨ 65536 < n) (hb : -9223372036854775808 ≤ n ∧ n ≤ 9223372036854775807) :
    Calls Try.prog 32 #[.slice A xs.length cap, .int .i64 n] w (GivesF w) := by
  rcases hn with h | h
  · go_enter Try.func32, Try.ntmps32
    go_wp2
    go_ret2
    exact ⟨rfl, Below.refl _ _⟩
  · have h0 : 0 ≤ n := by omega
    go_enter Try.func32, Try.ntmps32
    go_wp2
    go_ret2
    exact ⟨rfl, Below.refl _ _⟩
theorem shr_no (A : Option Addr) (cap : Nat) (xs : List Nat) (w : World) (n : Int) (hn : n < 0) (hb : -9223372036854775808 ≤ n) :
    Calls Try.prog 34 #[.slice A xs.length cap, .int .i64 n] w (GivesF w) := by
  go_enter Try.func34, Try.ntmps34
  go_wp2
  go_ret2
  exact ⟨rfl, Below.refl _ _⟩

theorem su_z {z : Int} {n : Nat} (hzn : z = (n : Int)) (g o c m : Nat) (zs vs : List Nat) (B : Option Addr) (cb : Nat) (w : World) (hr : Row w g zs) (hz : okl zs) (hmv : vs.length ≤ m) (hon : o + m ≤ zs.length) (hc : m ≤ c) (hm : zs.length ≤ 70368744177664) (h' : Rd w B cb vs)
    (hne : ∀ b' o', 0 < cb → B = some ⟨b', o', none⟩ → some b' ≠ some g) (hn : n < 32) (h0 : ∀ j, o ≤ j → j < o + vs.length → lim zs j = 0) :
    Calls Try.prog 51 #[.slice (some ⟨g, o, none⟩) m c, .slice B vs.length cb, .int .i64 z] w (SuPost w g o zs vs n) := by
  subst hzn; exact su_any g o c m n zs vs B cb w hr hz hmv hon hc hm h' hne hn h0
theorem sd_z {z : Int} {n : Nat} (hzn : z = (n : Int)) (g m c : Nat) (zs vs : List Nat) (B : Option Addr) (cb : Nat) (w : World) (hr : Row w g zs) (hz : okl zs) (hmv : vs.length = m) (hon : zs.length = m) (hc : m ≤ c) (hm : m ≤ 70368744177664) (h' : Rd w B cb vs)
    (hne : ∀ b' o', 0 < cb → B = some ⟨b', o', none⟩ → some b' ≠ some g) (hn : n < 32) :
    Calls Try.prog 52 #[.slice (some ⟨g, 0, none⟩) m c, .slice B m cb, .int .i64 z] w (SdPost w g vs n m) := by
  subst hzn; exact sd_any g m c n zs vs B cb w hr hz hmv hon hc hm h' hne hn

theorem sl_value {w w2 : World} {g f r m : Nat} {us : List Nat} {c : Nat} (hp : SuInv w g f (List.replicate (f + m + 1) 0) us r m c w2) (hm : us.length = m) (hc : c < 4294967296) (z : Int) (hz : z = (c : Int)) :
    ∃ ys, Row (w2.setCell ⟨g, f + m, none⟩ (.int .u32 z)) g ys ∧ ys.length = f + m + 1 ∧ okl ys ∧ val ys = val us * 2 ^ r * pw f := by
  subst hz
  obtain ⟨ys, hr, hl, ho, hj, he, hg⟩ := hp
  rw [List.length_replicate] at hl
  refine ⟨ys.set (f + m) c, hr.set_ _ _, by rw [List.length_set]; exact hl, okl_set ho hc _, ?_⟩
  have e := val_set (v := c) (show f + m < ys.length by omega)
  rw [hj _ (Nat.le_refl _), lim_replicate] at e
  rw [val_replicate, List.take_of_length_le (by omega)] at he
  omega

set_option maxHeartbeats 2000000 in
theorem shl_yes (A : Option Addr) (cap : Nat) (xs : List Nat) (w : World) (n : Nat) (h : Rd w A cap xs) (hn : n ≤ 65536) (hl : xs.length ≤ 70368744175000) :
    Calls Try.prog 32 #[.slice A xs.length cap, .int .i64 (n : Int)] w (GivesT w (val xs * 2 ^ n)) := by
  have S1 := Lib.hid (sig_any A cap xs w h)
  have hc := h.capLe
  have hle := len_ofv_le h.ok
  have hm : (ofv (val xs)).length ≤ 70368744175000 := by omega
  have X := Lib.hid h.sig
  have l1 := h.sig.len
  have HV := Lib.hid (val_ofv (val xs))
  have E2 := Lib.hid (two_pow_split n)
  clear h hle
  generalize val xs = v at *
  generalize hu : ofv v = us at *
  have HU := Lib.hid hu
  clear hu
  go_enter Try.func32, Try.ntmps32
  go_wp2_with fail
  refine S1.out.mono ?_
  rintro e w' ⟨rfl, rfl⟩
  go_wp2_with (at_make; refine make_row rfl _ _ rfl _ _ (n / 32 + us.length + 1) rfl rfl (by omega) (by omega) (by omega) ?_)
  intro w1 hrow hbel
  have HR := Lib.hid hrow
  have HB := Lib.hid hbel
  clear hrow hbel
  go_wp2_with fail
  have NE : Hid (∀ b' o', 0 < cap → A = some ⟨b', o', none⟩ → some b' ≠ some w.heap.size) := by
    intro b' o' h0 hA e
    have := X.out.old b' o' h0 hA
    have e' : b' = w.heap.size := by simpa using e
    omega
  refine (su_z (z := (n : Int) % 32) (n := n % 32) (by omega) w.heap.size (n / 32) _ _ _ us A cap w1 HR.out (okl_replicate _) (by omega) (by simp; omega) (by omega) (by simp; omega) (X.out.below HB.out) NE.out (by omega) (fun j _ _ => lim_replicate _ _)).mono ?_
  rintro e w2 ⟨c, rfl, hc32, hcp, inv⟩
  have hgr : w1.grownBy w2 (some w.heap.size) := by obtain ⟨_, _, _, _, _, _, hg⟩ := inv; exact hg
  have ST := Lib.hid (fun z hz => sl_value inv rfl hc32 z hz)
  have HB2 : Hid (Below w.heap.size w w2) := HB.out.trans (below_of_grown hgr (Nat.le_refl _) HB.out.size)
  have hfz : w2.frozen? ⟨w.heap.size, n / 32 + us.length, none⟩ = false := by obtain ⟨ys, h1, _⟩ := inv; exact h1.frozen _
  have hcw : ∃ v, w2.cell? ⟨w.heap.size, n / 32 + us.length, none⟩ = some (.int .u32 v) := by
    obtain ⟨ys, h1, h2, _⟩ := inv
    exact ⟨_, h1.cell (by rw [h2, List.length_replicate]; omega)⟩
  obtain ⟨ov, hov⟩ := hcw
  clear inv hgr hcp
  go_wp2_with fail
  obtain ⟨ys, hr, hyl, hyo, hyv⟩ := ST.out _ rfl
  have hv2 : val ys = v * 2 ^ n := by
    rw [hyv, E2.out, HV.out, Nat.mul_assoc, Nat.mul_comm (pw (n / 32))]
  have ow := Own.of_row (lo := w.heap.size) hr hyo (Nat.le_refl _) (by omega)
  have rd := ow.rd
  rw [hyl] at rd
  refine (sig_n rd hyl).mono ?_
  rintro e w' ⟨rfl, rfl⟩
  have FIN := Lib.hid (givesT_row hr (Nat.le_refl _) hyo (HB2.out.setCell (Nat.le_refl _) _) hv2 hyl (by omega))
  clear hr hyl hyo hyv hv2 ow rd
  go_wp2
  go_ret2
  exact FIN.out
theorem shl_n {A : Option Addr} {cap m : Nat} {xs : List Nat} {w : World} (h : Rd w A cap xs) (hm : xs.length = m) (n : Nat) {z : Int} (hz : z = (n : Int)) (hn : n ≤ 65536) (hl : m ≤ 70368744175000) :
    Calls Try.prog 32 #[.slice A m cap, .int .i64 z] w (GivesT w (val xs * 2 ^ n)) := by
  subst hm hz; exact shl_yes A cap xs w n h hn hl

set_option maxHeartbeats 2000000 in
theorem shr_yes (A : Option Addr) (cap : Nat) (xs : List Nat) (w : World) (n : Nat) (h : Rd w A cap xs) (hn : n ≤ 9223372036854775807) (hl : xs.length ≤ 70368744175000) :
    Calls Try.prog 34 #[.slice A xs.length cap, .int .i64 (n : Int)] w (GivesT w (val xs / 2 ^ n)) := by
  have S1 := Lib.hid (sig_any A cap xs w h)
  have hc := h.capLe
  have hle := len_ofv_le h.ok
  have hm : (ofv (val xs)).length ≤ 70368744175000 := by omega
  have X := Lib.hid h.sig
  have l1 := h.sig.len
  have HV := Lib.hid (val_ofv (val xs))
  have E2 := Lib.hid (two_pow_split n)
  have HL := Lib.hid (lt_pw_len (val xs))
  clear h hle
  generalize val xs = v at *
  generalize hu : ofv v = us at *
  have HU := Lib.hid hu
  clear hu
  rcases Nat.lt_or_ge (n / 32) us.length with hlt | hge
  · obtain ⟨b, o, rfl, hb, _⟩ := X.out.at_ hlt
    have V1 : Hid (val (us.drop (n / 32)) / 2 ^ (n % 32) = v / 2 ^ n) := by
      show _ = _
      rw [E2.out, ← Nat.div_div_eq_div_mul, ← HV.out, val_div_pw X.out.ok]
    go_enter Try.func34, Try.ntmps34
    go_wp2_with fail
    refine S1.out.mono ?_
    rintro e w' ⟨rfl, rfl⟩
    go_wp2_with (at_make; refine make_row rfl _ _ rfl _ _ (us.length - n / 32) rfl rfl (by omega) (by omega) (by omega) ?_)
    intro w1 hrow hbel
    have HR := Lib.hid hrow
    have HB := Lib.hid hbel
    clear hrow hbel
    go_wp2_with fail
    have Y := Lib.hid ((X.out.below HB.out).drop (m := n / 32) (by omega))
    have NE : Hid (∀ b' o', 0 < cap - n / 32 → some (⟨b, o + n / 32, none⟩ : Addr) = some ⟨b', o', none⟩ → some b' ≠ some w.heap.size) := by
      intro b' o' h0 hA e
      have e' : b' = w.heap.size := by simpa using e
      have e2 : b = b' := by simpa using congrArg (fun a : Option Addr => a.map (·.block)) hA
      omega
    refine (sd_z (z := (n : Int) % 32) (n := n % 32) (by omega) w.heap.size (us.length - n / 32) _ _ (us.drop (n / 32)) _ _ w1 HR.out (okl_replicate _) (by simp) (by simp) (by omega) (by omega) Y.out NE.out (by omega)).mono ?_
    rintro e w2 ⟨rfl, ys, hr, hyl, hyo, hyv, hgr⟩
    have HB2 : Hid (Below w.heap.size w w2) := HB.out.trans (below_of_grown hgr (Nat.le_refl _) HB.out.size)
    have hv2 : val ys = v / 2 ^ n := by
      rw [List.take_of_length_le (by omega), V1.out] at hyv
      rw [hyv]
      apply Nat.mod_eq_of_lt
      rw [← V1.out]
      have b1 := val_lt (okl_drop X.out.ok (n / 32))
      rw [List.length_drop] at b1
      exact Nat.lt_of_le_of_lt (Nat.div_le_self _ _) b1
    have ow := Own.of_row (lo := w.heap.size) hr hyo (Nat.le_refl _) (by omega)
    have rd := ow.rd
    rw [hyl] at rd
    have S := Lib.hid (sig_n rd hyl)
    have FIN := Lib.hid (givesT_row hr (Nat.le_refl _) hyo HB2.out hv2 hyl (by omega))
    clear hr hyl hyo hyv hv2 ow rd hgr
    go_wp2_with fail
    refine S.out.mono ?_
    rintro e w' ⟨rfl, rfl⟩
    go_wp2
    go_ret2
    exact FIN.out
  · have V0 : v / 2 ^ n = 0 := by
      apply Nat.div_eq_of_lt
      have h1 := HL.out
      have h2 := pw_le hge
      have h3 := E2.out
      have h4 : pw (n / 32) ≤ pw (n / 32) * 2 ^ (n % 32) := Nat.le_mul_of_pos_right _ (Nat.pow_pos (by omega))
      omega
    rw [V0]
    have FIN : Hid (GivesT w 0 (.returned (.tuple #[.slice none 0 0, .bool true])) w) :=
      ⟨none, 0, by rw [ofv_zero]; rfl, by rw [ofv_zero]; exact Own.nil _ _ _, Below.refl _ _⟩
    clear V0
    go_enter Try.func34, Try.ntmps34
    go_wp2_with fail
    refine S1.out.mono ?_
    rintro e w' ⟨rfl, rfl⟩
    go_wp2
    go_ret2
    exact FIN.out
theorem shr_n {A : Option Addr} {cap m : Nat} {xs : List Nat} {w : World} (h : Rd w A cap xs) (hm : xs.length = m) (n : Nat) {z : Int} (hz : z = (n : Int)) (hn : n ≤ 9223372036854775807) (hl : m ≤ 70368744175000) :
    Calls Try.prog 34 #[.slice A m cap, .int .i64 z] w (GivesT w (val xs / 2 ^ n)) := by
  subst hm hz; exact shr_yes A cap xs w n h hn hl
end Go.Proofs.Ytmmlfmjelhninaa
