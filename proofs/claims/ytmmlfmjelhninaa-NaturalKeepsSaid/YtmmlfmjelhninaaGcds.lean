/-
  Contracts of natural.gcdOfWords and natural.workingPair, and of natural.GCD for numbers of at most two limbs.
-/
import Derived.Test.YtmmlfmjelhninaaDm
namespace Go.Proofs.Ytmmlfmjelhninaa
open Go.RowKit
set_option linter.unusedVariables false

theorem gcd_words (u v : Nat) (w : World) (hu : u ≤ 18446744073709551615) (hv : v ≤ 18446744073709551615) :
    Calls Try.prog 58 #[.int .u64 (u : Int), .int .u64 (v : Int)] w fun e w' => e = .returned (.int .u64 ((Nat.gcd u v : Nat) : Int)) ∧ ∃ n, w' = w.drewN n := by
  go_enter Try.func58, Try.ntmps58
  go_wp2
  go_loopw [0, 1] (fun a b wr => ∃ x y : Nat, a = .int .u64 x ∧ b = .int .u64 y ∧ x ≤ 18446744073709551615 ∧ y ≤ 18446744073709551615 ∧ Hid (Nat.gcd x y = Nat.gcd u v) ∧ Hid (∃ q, wr = w.drewN q)) (fun _ b _ => (intOf b).toNat)
  case atStart => exact ⟨u, v, rfl, rfl, hu, hv, rfl, 0, rfl⟩
  case round =>
    obtain ⟨x, y, rfl, rfl, hx, hy, hg, hq⟩ := hrel
    by_cases h0 : y = 0
    · subst h0
      have e : x = Nat.gcd u v := by rw [← hg.out, Nat.gcd_zero_right]
      have E := Lib.hid e
      clear e
      go_wp2
      go_ret
      exact ⟨ret_int (by rw [← E.out]), hq.out⟩
    · have hb : ((y : Int) != 0) = true := by rw [bne_iff_ne]; omega
      have hy1 : 1 ≤ y := by omega
      have hr : x % y ≤ 18446744073709551615 := Nat.le_trans (Nat.mod_le _ _) hx
      have hlt : x % y < y := Nat.mod_lt _ hy1
      have HG : Hid (Nat.gcd y (x % y) = Nat.gcd u v) := by
        show _ = _
        rw [← hg.out, Nat.gcd_comm x y, Nat.gcd_rec y x, Nat.gcd_comm]
      have HM : Hid ((x : Int).tmod (y : Int) = ((x % y : Nat) : Int)) := by
        show _ = _
        rw [Int.tmod_eq_emod_of_nonneg (by omega)]; simp
      have HM2 : Hid ((x : Int) % (y : Int) = ((x % y : Nat) : Int)) := by
        show _ = _
        simp
      clear h0
      generalize hr' : x % y = r at *
      have HR := Lib.hid hr'
      clear hr'
      go_wp2
      go_quiet (fail)
      go_wp2
      go_roundw
      case rel => exact ⟨y, r, rfl, by first | rw [HM.out] | rw [HM2.out], hy, hr, HG, drew_on hq.out ⟨_, rfl⟩⟩
      case measure => simp only [intOf]; first | rw [HM.out] | rw [HM2.out]; omega

/-- Two rows of one length, the greater number first. -/
def WpPost (w : World) (mx mn : Nat) (e : Ending) (w' : World) : Prop :=
  ∃ g1 g2 ys, e = .returned (.tuple #[.slice (some ⟨g1, 0, none⟩) (ofv mx).length (ofv mx).length, .slice (some ⟨g2, 0, none⟩) (ofv mx).length (ofv mx).length]) ∧
    w.heap.size ≤ g1 ∧ g1 < g2 ∧ Row w' g1 (ofv mx) ∧ Row w' g2 ys ∧ ys.length = (ofv mx).length ∧ okl ys ∧ val ys = mn ∧ Below w.heap.size w w'

theorem wp_pad {w' : World} {g n : Nat} {vs : List Nat} (hr : Row w' g (vs ++ List.replicate (n - vs.length) 0)) (hl : vs.length ≤ n) (ho : okl vs) :
    ∃ ys, Row w' g ys ∧ ys.length = n ∧ okl ys ∧ val ys = val vs := by
  refine ⟨_, hr, ?_, ?_, ?_⟩
  · simp; omega
  · exact okl_append ho (okl_replicate _)
  · rw [val_append, val_replicate]; omega

set_option maxHeartbeats 2000000 in
theorem wp_any (A B : Option Addr) (ca cb : Nat) (xs ys : List Nat) (w : World) (h : Rd w A ca xs) (h' : Rd w B cb ys) (hn : xs.length ≤ 70368744177663) (hn' : ys.length ≤ 70368744177663) :
    Calls Try.prog 54 #[.slice A xs.length ca, .slice B ys.length cb] w (WpPost w (max (val xs) (val ys)) (min (val xs) (val ys))) := by
  have C := compare_any A B ca cb xs ys w h h'
  have H1 := Lib.hid h
  have H2 := Lib.hid h'
  have hc1 := h.capLe
  have hc2 := h'.capLe
  have hl1 := h.len
  have hl2 := h'.len
  have k1 := len_ofv_le h.ok
  have k2 := len_ofv_le h'.ok
  rcases Nat.lt_or_ge (val xs) (val ys) with hlt | hge
  · rw [cmp_lt hlt] at C
    have HC := Lib.hid C
    have hmm : Hid (max (val xs) (val ys) = val ys ∧ min (val xs) (val ys) = val xs) := ⟨by omega, by omega⟩
    have hle : (ofv (val xs)).length ≤ (ofv (val ys)).length := by
      rcases Nat.lt_or_ge (ofv (val ys)).length (ofv (val xs)).length with h1 | h1
      · have := lt_of_len_lt h1; omega
      · exact h1
    clear C hlt h h'
    rw [hmm.out.1, hmm.out.2]
    clear hmm
    go_enter Try.func54, Try.ntmps54
    go_wp2_with fail
    refine HC.out.mono ?_
    rintro e w0 ⟨rfl, hq⟩
    have B0 : Hid (Below w.heap.size w w0) := by obtain ⟨n, rfl⟩ := hq; exact below_drewN _ _ _
    have Z0 : Hid (w0.heap.size = w.heap.size) := by obtain ⟨n, rfl⟩ := hq; exact rfl
    clear hq
    go_wp2_with fail
    refine (trim_row_n (H2.out.below B0.out) rfl (by omega)).mono ?_
    rintro e w1 ⟨g1, rfl, hg1, hr1, hb1⟩
    have R1 := Lib.hid hr1
    have B1 := Lib.hid hb1
    have G1 := Lib.hid hg1
    clear hr1 hb1 hg1
    have hn3 : (ofv (val ys)).length ≤ 70368744177664 := by omega
    have X := Lib.hid ((H1.out.below B0.out).below B1.out)
    have ok1 := Lib.hid (okl_ofv (val xs))
    have vv1 := Lib.hid (val_ofv (val xs))
    generalize hu : ofv (val ys) = us at *
    generalize hv : ofv (val xs) = vs at *
    have HU := Lib.hid hu
    have HV := Lib.hid hv
    clear hu hv
    go_wp2_with (at_make; refine make_row rfl _ _ rfl _ _ us.length rfl rfl rfl rfl hn3 ?_)
    intro w2 hr2 hb2
    have R2 := Lib.hid hr2
    have B2 := Lib.hid hb2
    clear hr2 hb2
    go_wp2_with fail
    refine (sig_n (X.out.below B2.out) rfl).mono ?_
    rw [HV.out]
    rintro e w' ⟨rfl, rfl⟩
    have X2 := (X.out.below B2.out).sig
    rw [HV.out] at X2
    have HX2 := Lib.hid X2
    clear X2
    go_wp2_with (with_reducible refine copy_row rfl (.tmp 17) (.tmp 19) rfl w1.heap.size 0 us.length us.length rfl (List.replicate us.length 0) R2.out (by simp) _ vs.length _ vs rfl HX2.out rfl hle ?_)
    intro w3 hr3 hgr3
    obtain ⟨yl, hy1, hy2, hy3, hy4⟩ := wp_pad hr3 hle ok1.out
    have FIN : Hid (WpPost w (val ys) (val xs) (.returned (.tuple #[.slice (some ⟨g1, 0, none⟩) us.length us.length, .slice (some ⟨w1.heap.size, 0, none⟩) us.length us.length])) w3) := by
      have z0 := Z0.out
      have s1 := B1.out.size
      have lt1 := R1.out.lt
      have u1 := HU.out
      refine ⟨g1, w1.heap.size, yl, by rw [u1], by have := G1.out; omega, lt1, ?_, hy1, by rw [u1]; exact hy2, hy3, by rw [hy4]; exact vv1.out, ?_⟩
      · rw [u1]
        exact (R1.out.below B2.out lt1).grown hgr3 (fun e => by cases e; omega)
      · exact B0.out.trans ((B1.out.mono (by omega)).trans ((B2.out.mono (by omega)).trans (below_of_grown hgr3 (by omega) (by have := B2.out.size; omega))))
    clear hr3 hgr3 hy1 hy2 hy3 hy4
    go_wp2
    go_ret2
    exact FIN.out
  · have hc0 := cmp_nonneg hge
    have hmm : Hid (max (val xs) (val ys) = val xs ∧ min (val xs) (val ys) = val ys) := ⟨by omega, by omega⟩
    have hle : (ofv (val ys)).length ≤ (ofv (val xs)).length := by
      rcases Nat.lt_or_ge (ofv (val xs)).length (ofv (val ys)).length with h1 | h1
      · have := lt_of_len_lt h1; omega
      · exact h1
    generalize cmp (val xs) (val ys) = cc at *
    have HC := Lib.hid C
    clear C hge h h'
    rw [hmm.out.1, hmm.out.2]
    clear hmm
    go_enter Try.func54, Try.ntmps54
    go_wp2_with fail
    refine HC.out.mono ?_
    rintro e w0 ⟨rfl, hq⟩
    have B0 : Hid (Below w.heap.size w w0) := by obtain ⟨n, rfl⟩ := hq; exact below_drewN _ _ _
    have Z0 : Hid (w0.heap.size = w.heap.size) := by obtain ⟨n, rfl⟩ := hq; exact rfl
    clear hq
    go_wp2_with fail
    refine (trim_row_n (H1.out.below B0.out) rfl (by omega)).mono ?_
    rintro e w1 ⟨g1, rfl, hg1, hr1, hb1⟩
    have R1 := Lib.hid hr1
    have B1 := Lib.hid hb1
    have G1 := Lib.hid hg1
    clear hr1 hb1 hg1
    have hn3 : (ofv (val xs)).length ≤ 70368744177664 := by omega
    have X := Lib.hid ((H2.out.below B0.out).below B1.out)
    have ok1 := Lib.hid (okl_ofv (val ys))
    have vv1 := Lib.hid (val_ofv (val ys))
    generalize hu : ofv (val xs) = us at *
    generalize hv : ofv (val ys) = vs at *
    have HU := Lib.hid hu
    have HV := Lib.hid hv
    clear hu hv
    go_wp2_with (at_make; refine make_row rfl _ _ rfl _ _ us.length rfl rfl rfl rfl hn3 ?_)
    intro w2 hr2 hb2
    have R2 := Lib.hid hr2
    have B2 := Lib.hid hb2
    clear hr2 hb2
    go_wp2_with fail
    refine (sig_n (X.out.below B2.out) rfl).mono ?_
    rw [HV.out]
    rintro e w' ⟨rfl, rfl⟩
    have X2 := (X.out.below B2.out).sig
    rw [HV.out] at X2
    have HX2 := Lib.hid X2
    clear X2
    go_wp2_with (with_reducible refine copy_row rfl (.tmp 17) (.tmp 19) rfl w1.heap.size 0 us.length us.length rfl (List.replicate us.length 0) R2.out (by simp) _ vs.length _ vs rfl HX2.out rfl hle ?_)
    intro w3 hr3 hgr3
    obtain ⟨yl, hy1, hy2, hy3, hy4⟩ := wp_pad hr3 hle ok1.out
    have FIN : Hid (WpPost w (val xs) (val ys) (.returned (.tuple #[.slice (some ⟨g1, 0, none⟩) us.length us.length, .slice (some ⟨w1.heap.size, 0, none⟩) us.length us.length])) w3) := by
      have z0 := Z0.out
      have s1 := B1.out.size
      have lt1 := R1.out.lt
      have u1 := HU.out
      refine ⟨g1, w1.heap.size, yl, by rw [u1], by have := G1.out; omega, lt1, ?_, hy1, by rw [u1]; exact hy2, hy3, by rw [hy4]; exact vv1.out, ?_⟩
      · rw [u1]
        exact (R1.out.below B2.out lt1).grown hgr3 (fun e => by cases e; omega)
      · exact B0.out.trans ((B1.out.mono (by omega)).trans ((B2.out.mono (by omega)).trans (below_of_grown hgr3 (by omega) (by have := B2.out.size; omega))))
    clear hr3 hgr3 hy1 hy2 hy3 hy4
    go_wp2
    go_ret2
    exact FIN.out

theorem gcd_max_min (a b : Nat) : Nat.gcd (max a b) (min a b) = Nat.gcd a b := by
  rcases Nat.le_total a b with h | h
  · rw [Nat.max_eq_right h, Nat.min_eq_left h, Nat.gcd_comm]
  · rw [Nat.max_eq_left h, Nat.min_eq_right h]

set_option maxHeartbeats 1000000 in
theorem gcd_short (A B : Option Addr) (ca cb : Nat) (xs ys : List Nat) (w : World) (h : Rd w A ca xs) (h' : Rd w B cb ys) (hn : xs.length ≤ 70368744177663) (hn' : ys.length ≤ 70368744177663) (h2 : (ofv (max (val xs) (val ys))).length ≤ 2) :
    Calls Try.prog 38 #[.slice A xs.length ca, .slice B ys.length cb] w (Gives w (Nat.gcd (val xs) (val ys))) := by
  have W := Lib.hid (wp_any A B ca cb xs ys w h h' hn hn')
  have hmax := val_two (okl_ofv (max (val xs) (val ys))) h2
  rw [val_ofv] at hmax
  have e := gcd_max_min (val xs) (val ys)
  rw [← e]
  have hmin : min (val xs) (val ys) ≤ max (val xs) (val ys) := by omega
  clear e h h'
  generalize max (val xs) (val ys) = mx at *
  generalize min (val xs) (val ys) = mn at *
  have b1 : mx ≤ 18446744073709551615 := by omega
  have b2 : mn ≤ 18446744073709551615 := by omega
  have bg : Nat.gcd mx mn < 18446744073709551616 := by
    rcases Nat.eq_zero_or_pos mx with e | e
    · rw [e, Nat.gcd_zero_left]; omega
    · have := Nat.le_of_dvd e (Nat.gcd_dvd_left mx mn); omega
  have F := Lib.hid (fun w => from_z (w := w) (z := ((Nat.gcd mx mn : Nat) : Int)) rfl bg)
  have okx := Lib.hid (okl_ofv mx)
  have vx := Lib.hid (val_ofv mx)
  clear hmax bg
  generalize hu : ofv mx = us at *
  have HU := Lib.hid hu
  clear hu
  go_enter Try.func38, Try.ntmps38
  go_wp2_with fail
  refine W.out.mono ?_
  rintro e w1 ⟨g1, g2, yl, rfl, hg1, hg12, hr1, hr2, hyl, hyo, hyv, hb⟩
  rw [HU.out] at hr1 hyl ⊢
  have X := Own.of_row (lo := w.heap.size) hr1 okx.out hg1 (by omega)
  have Y := Own.of_row (lo := w.heap.size) hr2 hyo (by omega) (by omega)
  rw [hyl] at Y
  have W1 := Lib.hid (window_small X.rd rfl h2)
  have HY := Lib.hid Y.rd
  have HYV := Lib.hid hyv
  have HYL := Lib.hid hyl
  have HB := Lib.hid hb
  clear X Y hr1 hr2 hyl hyv hb
  go_wp2
  refine wp_loop_rounds 1 ?_
  rw [rounds_succ]
  go_wp2_with fail
  refine W1.out.mono ?_
  rw [vx.out]
  rintro e w2 ⟨rfl, hq⟩
  have B2 : Hid (Below w1.heap.size w1 w2) := by obtain ⟨n, rfl⟩ := hq; exact below_drewN _ _ _
  clear hq
  go_wp2_with fail
  refine (window_small (HY.out.below B2.out) HYL.out h2).mono ?_
  rw [HYV.out]
  rintro e w3 ⟨rfl, hq⟩
  have B3 : Hid (Below w2.heap.size w2 w3) := by obtain ⟨n, rfl⟩ := hq; exact below_drewN _ _ _
  clear hq
  go_wp2_with fail
  refine (gcd_words mx mn _ b1 b2).mono ?_
  rintro e w4 ⟨rfl, hq⟩
  have B4 : Hid (Below w3.heap.size w3 w4) := by obtain ⟨n, rfl⟩ := hq; exact below_drewN _ _ _
  clear hq
  go_wp2_with fail
  refine (F.out _).mono ?_
  rintro e w5 ⟨R, c, rfl, ho, hb5⟩
  have FIN : Hid (Gives w (Nat.gcd mx mn) (.returned (.slice R (ofv (Nat.gcd mx mn)).length c)) w5) := by
    have s1 := HB.out.size
    have s2 := B2.out.size
    have s3 := B3.out.size
    have s4 := B4.out.size
    exact ⟨R, c, rfl, ho.mono (by omega), HB.out.trans ((B2.out.mono (by omega)).trans ((B3.out.mono (by omega)).trans ((B4.out.mono (by omega)).trans (hb5.mono (by omega)))))⟩
  clear ho hb5
  go_wp2
  go_ret
  exact FIN.out
end Go.Proofs.Ytmmlfmjelhninaa
