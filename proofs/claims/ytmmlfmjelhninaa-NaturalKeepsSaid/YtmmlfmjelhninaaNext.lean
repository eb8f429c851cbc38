/-
  Contract of natural.nextDigit.
-/
import Derived.Test.YtmmlfmjelhninaaSubp
namespace Go.Proofs.Ytmmlfmjelhninaa
open Go.RowKit
set_option linter.unusedVariables false

/-- The value of n limbs from limb o on. -/
def win (zs : List Nat) (o n : Nat) : Nat := val ((zs.drop o).take n)
theorem win_split (zs : List Nat) {o n : Nat} (h : o + n ≤ zs.length) : val zs = val (zs.take o) + pw o * (win zs o n + pw n * val (zs.drop (o + n))) := by
  have e1 := val_split zs o (by omega)
  have e2 := val_split (zs.drop o) n (by rw [List.length_drop]; omega)
  rw [List.drop_drop] at e2
  rw [e1, e2]; rfl
theorem win_eq {zs ys : List Nat} {o n : Nat} (hl : ys.length = zs.length) (h : o + n ≤ zs.length) (hj : ∀ j, j < o ∨ o + n ≤ j → lim ys j = lim zs j) : val ys + pw o * win zs o n = val zs + pw o * win ys o n := by
  have e1 := win_split zs h
  have e2 := win_split ys (o := o) (n := n) (by omega)
  have t : ys.take o = zs.take o := by
    apply lim_ext
    · simp [hl]
    · intro i hi
      rw [List.length_take] at hi
      rw [lim_take (by omega), lim_take (by omega)]
      exact hj i (by omega)
  have d : ys.drop (o + n) = zs.drop (o + n) := by
    apply lim_ext
    · simp [hl]
    · intro i _
      rw [lim_drop, lim_drop]
      exact hj _ (by omega)
  rw [t, d] at e2
  rw [Nat.mul_add] at e1 e2
  omega
theorem win_succ {zs : List Nat} {o n : Nat} (h : o + n < zs.length) : win zs o (n + 1) = win zs o n + lim zs (o + n) * pw n := by
  unfold win
  rw [val_take_succ (by rw [List.length_drop]; omega), lim_drop]
theorem winn_lt {zs : List Nat} (hz : okl zs) {o n : Nat} (h : o + n ≤ zs.length) : win zs o n < pw n := by
  have := val_lt (okl_take (okl_drop hz o) n)
  rwa [List.length_take, List.length_drop, Nat.min_eq_left (by omega)] at this
theorem rd_win {w : World} {g o n c : Nat} {zs : List Nat} (hr : Row w g zs) (hz : okl zs) (h : o + n ≤ zs.length) (hc : n ≤ c) (hm : c ≤ 9223372036854775807) : Rd w (some ⟨g, o, none⟩) c ((zs.drop o).take n) ∧ ((zs.drop o).take n).length = n := by
  have hl : ((zs.drop o).take n).length = n := by rw [List.length_take, List.length_drop]; omega
  refine ⟨(Own.part (lo := 0) hr (okl_take (okl_drop hz o) n) (Nat.zero_le _) (by omega) hm (fun i hi => ?_)).rd, hl⟩
  rw [hl] at hi
  exact ⟨by omega, by rw [lim_take hi, lim_drop]⟩

/-- The digit is right: nothing is left to subtract. -/
theorem nd_right {W D d c t wz wy P : Nat} (hW : W = wz + t * P) (he : wy + d * D = wz + c * P) (hq : W / D ≤ d) (hle : c ≤ t) (hD : 0 < D) (hDP : D < P) : d = W / D ∧ wy = W % D := by
  obtain ⟨s, rfl⟩ : ∃ s, t = c + s := ⟨t - c, by omega⟩
  rw [Nat.add_mul] at hW
  have h1 : d ≤ W / D := by rw [Nat.le_div_iff_mul_le hD]; omega
  have hd : d = W / D := by omega
  have hdm := Nat.div_add_mod W D
  have hml := Nat.mod_lt W hD
  rw [Nat.mul_comm, ← hd] at hdm
  refine ⟨hd, ?_⟩
  rcases Nat.eq_zero_or_pos s with h0 | h0
  · subst h0; omega
  · have := Nat.le_mul_of_pos_left P h0
    omega
/-- The digit was one too great: the divisor is added back. -/
theorem nd_back {W D d c t wz wy wk cy P : Nat} (hW : W = wz + t * P) (he : wy + d * D = wz + c * P) (hq : W / D ≤ d) (hd1 : d ≤ W / D + 1) (hlt : t < c) (hD : 0 < D) (hDP : D < P) (hy : wy < P) (hk : wk < P) (hb : wk + cy * P = wy + D) : d = W / D + 1 ∧ wk = W % D := by
  obtain ⟨s, rfl⟩ : ∃ s, c = t + 1 + s := ⟨c - t - 1, by omega⟩
  rw [Nat.add_mul, Nat.add_mul, Nat.one_mul] at he
  have hdm := Nat.div_add_mod W D
  have hml := Nat.mod_lt W hD
  have hd : d = W / D + 1 := by
    rcases Nat.lt_or_ge (W / D) d with h | h
    · omega
    · have e : d = W / D := by omega
      rw [Nat.mul_comm, ← e] at hdm
      have : 0 ≤ s * P := Nat.zero_le _
      omega
  refine ⟨hd, ?_⟩
  have e1 : d * D = W / D * D + D := by rw [hd, Nat.add_mul, Nat.one_mul]
  rw [Nat.mul_comm] at hdm
  have e2 : W % D + (1 + s) * P = wk + cy * P := by rw [Nat.add_mul, Nat.one_mul]; omega
  have e3 := congrArg (· % P) e2
  simp only [Nat.add_mul_mod_self_right] at e3
  rw [Nat.mod_eq_of_lt hk, Nat.mod_eq_of_lt (show W % D < P by omega)] at e3
  exact e3.symm

def NdPost (w : World) (g o n : Nat) (zs : List Nat) (D : Nat) (e : Ending) (w' : World) : Prop :=
  ∃ ys, e = .returned (.int .u32 ((win zs o (n + 1) / D : Nat) : Int)) ∧ Row w' g ys ∧ ys.length = zs.length ∧ okl ys ∧ (∀ j, j < o ∨ o + n ≤ j → lim ys j = lim zs j) ∧ win ys o n = win zs o (n + 1) % D ∧ w.grownBy w' (some g)

set_option maxHeartbeats 4000000 in
theorem nd_any (g o c n : Nat) (zs ds : List Nat) (B : Option Addr) (cb : Nat) (w : World) (hr : Row w g zs) (hz : okl zs) (hon : o + n < zs.length) (hc : n + 1 ≤ c) (hcm : c ≤ 9223372036854775807) (hm : zs.length ≤ 70368744177664) (h' : Rd w B cb ds) (hd : ds.length = n)
    (hne : ∀ b' o', 0 < cb → B = some ⟨b', o', none⟩ → some b' ≠ some g) (h2 : 2 ≤ n) (hh : 2147483648 ≤ lim ds (n - 1)) (hlt : win zs o (n + 1) < val ds * 4294967296) :
    Calls Try.prog 61 #[.slice (some ⟨g, o, none⟩) (n + 1) c, .slice B n cb] w (NdPost w g o n zs (val ds)) := by
  obtain ⟨rw1, rl1⟩ := rd_win hr hz (show o + (n + 1) ≤ zs.length by omega) hc hcm
  have ES := Lib.hid (es_any _ _ _ _ n _ ds w rw1 h' rl1 hd h2 hh hlt)
  have hl := h'.len
  have hcb := h'.capLe
  have hDP : val ds < pw n := by rw [← hd]; exact val_lt h'.ok
  have hD0 : 0 < val ds := by
    rcases Nat.eq_zero_or_pos (val ds) with h0 | h0
    · rw [h0] at hlt; omega
    · exact h0
  have hW := Lib.hid (win_succ hon)
  have Y := Lib.hid h'
  have NE := Lib.hid hne
  have HR := Lib.hid hr
  have HZ := Lib.hid hz
  have HD := Lib.hid hd
  have HDP := Lib.hid hDP
  have HD0 := Lib.hid hD0
  have cell := hr.cell hon
  have lt := lim_lt hz (o + n)
  have hcbn : n ≤ cb := by omega
  clear hr hz h' hd hne hDP hD0 hh hlt rw1 rl1 hl
  generalize lim zs (o + n) = t at *
  go_enter Try.func61, Try.ntmps61
  go_wp2_with fail
  refine ES.out.mono ?_
  rintro e w1 ⟨d, rfl, hq1, hq2, hd32, hq⟩
  have B1 : Hid (Below w.heap.size w w1) := below_q hq
  have cell1 : w1.cell? ⟨g, o + n, none⟩ = some (.int .u32 (t : Int)) := by obtain ⟨q, rfl⟩ := hq; exact cell
  have R1 : Hid (∀ q, Row (w1.drewN q) g zs) := by obtain ⟨q, rfl⟩ := hq; exact fun q' => HR.out
  clear hq cell
  go_wp2
  go_quiet (fail)
  go_wp2_with fail
  refine (sp_any g o c zs ds B cb d n _ (R1.out _) HZ.out HD.out (by omega) (by omega) hm ((Y.out.below B1.out).below (below_drewN _ _ _)) NE.out hd32).mono ?_
  rintro e w2 ⟨cn, rfl, hcn, ys, hyr, hyl, hyo, hyj, hye, hyg⟩
  rw [HD.out] at hyj hye
  rw [List.take_of_length_le (by have := HD.out; omega)] at hye
  have we := win_eq hyl (show o + n ≤ zs.length by omega) hyj
  have wk : win ys o n + d * val ds = win zs o n + cn * pw n := by
    rw [pw_add] at hye
    have p0 := pw_pos o
    have e1 : pw o * (win ys o n + d * val ds) = pw o * (win zs o n + cn * pw n) := by
      rw [Nat.mul_add, Nat.mul_add]
      have e2 : pw o * (d * val ds) = d * val ds * pw o := Nat.mul_comm _ _
      have e3 : pw o * (cn * pw n) = cn * (pw o * pw n) := by rw [← Nat.mul_assoc, Nat.mul_comm (pw o) cn, Nat.mul_assoc]
      omega
    exact Nat.eq_of_mul_eq_mul_left p0 e1
  have hg2 : w.grownBy w2 (some g) := grown_trans (grown_below B1.out) (grown_trans (grown_below (below_drewN _ _ _)) hyg)
  have WK := Lib.hid wk
  have HYR := Lib.hid hyr
  have HYL := Lib.hid hyl
  have HYO := Lib.hid hyo
  have HYJ := Lib.hid hyj
  have HG2 := Lib.hid hg2
  clear wk hyr hyl hyo hyj hye hyg we hg2
  rcases Nat.lt_or_ge t cn with hsm | hge
  · go_wp2_with fail
    refine (ab_any g o c ys ds B cb n _ HYR.out HYO.out HD.out (by have := HYL.out; omega) (by omega) (by have := HYL.out; omega) (Y.out.grown HG2.out NE.out) NE.out).mono ?_
    rintro e w3 ⟨rfl, cy, ks, hkr, hkl, hko, hkj, hke, hkg⟩
    rw [HD.out] at hkj hke
    rw [List.take_of_length_le (by have := HD.out; omega)] at hke
    have hkl' : ks.length = zs.length := by rw [hkl, HYL.out]
    have we := win_eq hkl (show o + n ≤ ys.length by have := HYL.out; omega) hkj
    have wk2 : win ks o n + cy * pw n = win ys o n + val ds := by
      rw [pw_add] at hke
      have p0 := pw_pos o
      have e1 : pw o * (win ks o n + cy * pw n) = pw o * (win ys o n + val ds) := by
        rw [Nat.mul_add, Nat.mul_add]
        have e2 : pw o * (cy * pw n) = cy * (pw o * pw n) := by rw [← Nat.mul_assoc, Nat.mul_comm (pw o) cy, Nat.mul_assoc]
        have e3 : pw o * val ds = val ds * pw o := Nat.mul_comm _ _
        omega
      exact Nat.eq_of_mul_eq_mul_left p0 e1
    obtain ⟨r1, r2⟩ := nd_back hW.out WK.out hq1 hq2 hsm HD0.out HDP.out (winn_lt HYO.out (by have := HYL.out; omega)) (winn_lt hko (by omega)) wk2
    have FIN : Hid (∀ v, v = Ending.returned (.int .u32 ((win zs o (n + 1) / val ds : Nat) : Int)) → NdPost w g o n zs (val ds) v w3) := by
      rintro v rfl
      refine ⟨ks, rfl, hkr, hkl', hko, fun j hj => ?_, r2, grown_trans HG2.out hkg⟩
      rw [hkj j hj]; exact HYJ.out j hj
    have R1' := Lib.hid r1
    have hd1 : 1 ≤ d := by rw [r1]; exact Nat.le_add_left 1 _
    clear hkr hkl hko hkj hke hkg hkl' we wk2 r2 r1
    go_wp2
    go_ret
    exact FIN.out _ (ret_int (by have h := R1'.out; generalize win zs o (n + 1) / val ds = q at *; omega))
  · obtain ⟨r1, r2⟩ := nd_right hW.out WK.out hq1 hge HD0.out HDP.out
    have FIN : Hid (NdPost w g o n zs (val ds) (.returned (.int .u32 (d : Int))) w2) := by
      rw [r1]
      exact ⟨ys, rfl, HYR.out, HYL.out, HYO.out, HYJ.out, r2, HG2.out⟩
    clear r1 r2
    go_wp2
    go_ret
    exact FIN.out
end Go.Proofs.Ytmmlfmjelhninaa
