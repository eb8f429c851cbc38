/-
  Contract of natural.GCD.
-/
import Derived.Test.YtmmlfmjelhninaaEucl
import Derived.Test.YtmmlfmjelhninaaRgcd
namespace Go.Proofs.Ytmmlfmjelhninaa
open Go.RowKit
set_option linter.unusedVariables false

/-- The two rows that hold the working numbers, n limbs of each. -/
def GcInv (w : World) (N p q n X Y : Nat) (wr : World) : Prop :=
  ∃ zs ws, Row wr p zs ∧ Row wr q ws ∧ zs.length = N ∧ ws.length = N ∧ okl zs ∧ okl ws ∧ val (zs.take n) = X ∧ val (ws.take n) = Y ∧ p ≠ q ∧ w.heap.size ≤ p ∧ w.heap.size ≤ q ∧ Below w.heap.size w wr

theorem val_take_small {xs : List Nat} {k : Nat} (h : val xs < pw k) : val (xs.take k) = val xs := by
  rcases Nat.lt_or_ge k xs.length with h1 | h1
  · have e := val_split xs k (by omega)
    rcases Nat.eq_zero_or_pos (val (xs.drop k)) with h0 | h0
    · rw [h0] at e; omega
    · have : pw k * 1 ≤ pw k * val (xs.drop k) := Nat.mul_le_mul_left _ h0
      omega
  · rw [List.take_of_length_le h1]
theorem GcInv.less {w wr : World} {N p q n X Y : Nat} (h : GcInv w N p q n X Y wr) (hle : Y ≤ X) (hn : n ≤ N) : (ofv X).length ≤ n ∧ GcInv w N p q (ofv X).length X Y wr := by
  obtain ⟨zs, ws, h1, h2, h3, h4, h5, h6, h7, h8, h9⟩ := h
  have l1 := len_ofv_le (okl_take h5 n)
  rw [h7, List.length_take] at l1
  have hX := lt_pw_len X
  refine ⟨by omega, zs, ws, h1, h2, h3, h4, h5, h6, ?_, ?_, h9⟩
  · have e : zs.take (ofv X).length = (zs.take n).take (ofv X).length := by rw [List.take_take, Nat.min_eq_left (by omega)]
    rw [e, val_take_small (by rw [h7]; exact hX), h7]
  · have e : ws.take (ofv X).length = (ws.take n).take (ofv X).length := by rw [List.take_take, Nat.min_eq_left (by omega)]
    rw [e, val_take_small (by rw [h8]; omega), h8]
theorem GcInv.rds {w wr : World} {N p q n X Y : Nat} (h : GcInv w N p q n X Y wr) (hn : n ≤ N) (hN : N ≤ 9223372036854775807) :
    ∃ us vs, us.length = n ∧ vs.length = n ∧ val us = X ∧ val vs = Y ∧ Rd wr (some ⟨p, 0, none⟩) N us ∧ Rd wr (some ⟨q, 0, none⟩) N vs := by
  obtain ⟨zs, ws, h1, h2, h3, h4, h5, h6, h7, h8, h9⟩ := h
  exact ⟨zs.take n, ws.take n, by rw [List.length_take]; omega, by rw [List.length_take]; omega, h7, h8, rd_part h1 h5 (by omega) hn hN, rd_part h2 h6 (by omega) hn hN⟩
theorem GcInv.below {w wr wr' : World} {N p q n X Y : Nat} (h : GcInv w N p q n X Y wr) (hb : Below wr.heap.size wr wr') : GcInv w N p q n X Y wr' := by
  obtain ⟨zs, ws, h1, h2, h3, h4, h5, h6, h7, h8, h9, h10, h11, h12⟩ := h
  exact ⟨zs, ws, h1.below hb h1.lt, h2.below hb h2.lt, h3, h4, h5, h6, h7, h8, h9, h10, h11, h12.trans (hb.mono h12.size)⟩

theorem gc_euclid {w wr w' : World} {N p q n X Y cx cy : Nat} (hn0 : 0 < n) (hn : n ≤ N) (hN : N ≤ 70368744177663) (h : GcInv w N p q n X Y wr) (hle : Y ≤ X) (hY : 0 < Y) :
    Calls Try.prog 56 #[.slice (some ⟨p, 0, none⟩) n N, .slice (some ⟨q, 0, none⟩) n N] wr fun e w' => e = .returned (.tuple #[.slice (some ⟨q, 0, none⟩) n N, .slice (some ⟨p, 0, none⟩) n N]) ∧
      ∃ X' Y', GcInv w N q p n X' Y' w' ∧ Y' ≤ X' ∧ X' + Y' < X + Y ∧ Nat.gcd X' Y' = Nat.gcd X Y := by
  obtain ⟨zs, ws, h1, h2, h3, h4, h5, h6, h7, h8, h9, h10, h11, h12⟩ := h
  refine (euclid_any wr p q n N N w.heap.size zs ws h1 h2 h5 h6 h9 (by omega) (by omega) (by omega) (by omega) (by omega) (by omega) (by omega) h10 h11 (by rw [h8]; exact hY) hn0 (by rw [h7, h8]; exact hle)).mono ?_
  rintro e w2 ⟨rfl, us, r1, r2, l1, o1, v1, b1⟩
  have hm := Nat.mod_lt X hY
  rw [h7, h8] at v1
  refine ⟨rfl, Y, X % Y, ⟨ws, us, r2, r1, h4, by omega, h6, o1, h8, v1, h9.symm, h11, h10, h12.trans b1⟩, by omega, by omega, ?_⟩
  rw [Nat.gcd_comm Y, ← Nat.gcd_rec, Nat.gcd_comm]

theorem gc_apply {w wr w' : World} {N p q n X Y : Nat} {a b c d : Int} (hn : n ≤ N) (hN : N ≤ 70368744177663) (h : GcInv w N p q n X Y wr) (G : StepGood (X : Int) (Y : Int) a b c d) (hb : b ≠ 0) :
    Calls Try.prog 57 #[.agg #[.int .i64 a, .int .i64 b, .int .i64 c, .int .i64 d], .slice (some ⟨p, 0, none⟩) n N, .slice (some ⟨q, 0, none⟩) n N] wr fun e w' => e = .returned (.tuple #[]) ∧
      ∃ X' Y', GcInv w N p q n X' Y' w' ∧ Y' ≤ X' ∧ X' + Y' < X + Y ∧ Nat.gcd X' Y' = Nat.gcd X Y := by
  obtain ⟨zs, ws, h1, h2, h3, h4, h5, h6, h7, h8, h9, h10, h11, h12⟩ := h
  refine (apply_any wr p q n N N w.heap.size zs ws a b c d h1 h2 h5 h6 h9 (by omega) (by omega) (by omega) h10 h11 (by rw [h7, h8]; exact G)).mono ?_
  rintro e w2 ⟨rfl, us, vs, r1, r2, l1, l2, o1, o2, v1, v2, b1⟩
  rw [h7, h8] at v1 v2
  obtain ⟨_, _, ⟨t1, t2, t3, t4⟩, gd⟩ := G
  rw [← v1, ← v2] at gd t2 t4
  refine ⟨rfl, _, _, ⟨us, vs, r1, r2, by omega, by omega, o1, o2, rfl, rfl, h9, h10, h11, h12.trans b1⟩, by omega, ?_, ?_⟩
  · rcases gd with h | h
    · exact absurd h hb
    · omega
  · exact t4

set_option maxHeartbeats 8000000 in
theorem gcd_any (A B : Option Addr) (ca cb : Nat) (xs ys : List Nat) (w : World) (h : Rd w A ca xs) (h' : Rd w B cb ys) (hn : xs.length ≤ 70368744177663) (hn' : ys.length ≤ 70368744177663) :
    Calls Try.prog 38 #[.slice A xs.length ca, .slice B ys.length cb] w (Gives w (Nat.gcd (val xs) (val ys))) := by
  have W := Lib.hid (wp_any A B ca cb xs ys w h h' hn hn')
  have lx := len_ofv_le h.ok
  have ly := len_ofv_le h'.ok
  have e := gcd_max_min (val xs) (val ys)
  rw [← e]
  have hmin : min (val xs) (val ys) ≤ max (val xs) (val ys) := by omega
  have hN0 : (ofv (max (val xs) (val ys))).length ≤ 70368744177663 := by
    rcases Nat.le_total (val xs) (val ys) with h1 | h1
    · rw [Nat.max_eq_right h1]; omega
    · rw [Nat.max_eq_left h1]; omega
  clear e h h' lx ly
  generalize max (val xs) (val ys) = mx at *
  generalize min (val xs) (val ys) = mn at *
  have okx := Lib.hid (okl_ofv mx)
  have vx := Lib.hid (val_ofv mx)
  generalize hG : Nat.gcd mx mn = G at *
  have HG := Lib.hid hG
  clear hG
  generalize hNN : (ofv mx).length = N at *
  have HN := Lib.hid hNN
  clear hNN
  go_enter Try.func38, Try.ntmps38
  go_wp2_with fail
  refine W.out.mono ?_
  rintro e w1 ⟨g1, g2, yl, rfl, hg1, hg12, hr1, hr2, hyl, hyo, hyv, hb⟩
  have I0 : Hid (GcInv w N g1 g2 (ofv mx).length mx mn w1) := by
    refine ⟨ofv mx, yl, hr1, hr2, HN.out, by rw [hyl]; exact HN.out, okx.out, hyo, ?_, ?_, by omega, hg1, by omega, hb⟩
    · rw [List.take_length]; exact vx.out
    · rw [← hyl, List.take_length]; exact hyv
  have L0 := Lib.hid hmin
  clear hr1 hr2 hyl hyo hyv hb W
  rw [HN.out]
  have E0 : Hid (.slice (some ⟨g1, 0, none⟩) N N = (.slice (some ⟨g1, 0, none⟩) (ofv mx).length N : Value)) := by show _ = _; rw [HN.out]
  have E1 : Hid (.slice (some ⟨g2, 0, none⟩) N N = (.slice (some ⟨g2, 0, none⟩) (ofv mx).length N : Value)) := by show _ = _; rw [HN.out]
  have hNle : (ofv mx).length ≤ N := by rw [HN.out]; exact Nat.le_refl _
  go_wp2
  go_loopw [5, 6] (fun x y wr => ∃ p q X Y : Nat, x = .slice (some ⟨p, 0, none⟩) (ofv X).length N ∧ y = .slice (some ⟨q, 0, none⟩) (ofv X).length N ∧ (ofv X).length ≤ N ∧ Hid (Y ≤ X) ∧ Hid (Nat.gcd X Y = G) ∧ Hid (GcInv w N p q (ofv X).length X Y wr)) (fun x y wr => rdv wr x + rdv wr y)
  case atStart => exact ⟨g1, g2, mx, mn, E0.out, E1.out, hNle, L0.out, HG.out, I0.out⟩
  case round =>
    clear E0 E1 I0 L0 hmin
    obtain ⟨p, q, X, Y, rfl, rfl, hl, hle, hg, inv⟩ := hrel
    obtain ⟨us, vs, ul, vl, uv, vv, ru, rv⟩ := inv.out.rds hl (by omega)
    have RU := Lib.hid ru
    have RV := Lib.hid rv
    have UV := Lib.hid uv
    have VV := Lib.hid vv
    have BW : Hid (Below w.heap.size w wr) := by obtain ⟨zs, ws, _, _, _, _, _, _, _, _, _, _, _, b⟩ := inv.out; exact b
    have OU : Hid (Own wr w.heap.size (some ⟨p, 0, none⟩) N (ofv X)) := by
      obtain ⟨zs, ws, h1, h2, h3, h4, h5, h6, h7, h8, h9, h10, h11, h12⟩ := inv.out
      have e : zs.take (ofv X).length = ofv X := by
        have := take_len_ofv (okl_take h5 (ofv X).length)
        rw [h7, List.take_take, Nat.min_self] at this
        exact this
      have := Own.part (lo := w.heap.size) (xs := ofv X) (cap := N) (o := 0) h1 (okl_ofv X) h10 hl (by omega) (fun i hi => by
        rw [Nat.zero_add, ← e]
        exact ⟨by omega, (lim_take hi).symm⟩)
      exact this
    clear ru rv uv vv
    rcases Nat.lt_or_ge 2 (ofv X).length with h2 | h2
    · rcases Nat.eq_zero_or_pos Y with h0 | h0
      · have hg' := hg.out
        have HS := sig_n RV.out vl
        have e0 : (ofv (val vs)).length = 0 := by rw [VV.out, h0, ofv_zero]; rfl
        rw [e0] at HS
        have HHS := Lib.hid HS
        rw [h0, Nat.gcd_zero_right] at hg'
        have FIN : Hid (Gives w G (.returned (.slice (some ⟨p, 0, none⟩) (ofv X).length N)) wr) := by
          rw [← hg']; exact ⟨_, N, rfl, OU.out, BW.out⟩
        clear hg' HS e0
        go_wp2_with fail
        refine HHS.out.mono ?_
        rintro e w' ⟨rfl, rfl⟩
        go_wp2
        go_ret
        exact FIN.out
      · have hpos := len_pos h0
        have HS := sig_n RV.out vl
        rw [VV.out] at HS
        have HHS := Lib.hid HS
        have X64 : 18446744073709551616 ≤ X := by
          have := pw_le_of_len h2
          have e : pw 2 = 18446744073709551616 := by rw [pw_succ, pw_succ, pw_zero]
          omega
        have HX64 := Lib.hid X64
        clear HS X64
        go_wp2_with fail
        refine HHS.out.mono ?_
        rintro e w' ⟨rfl, rfl⟩
        go_wp2_with fail
        refine (findStep_n RU.out RV.out ul vl (by omega) (by rw [UV.out]; exact HX64.out) (by rw [UV.out, VV.out]; exact hle.out)).mono ?_
        rw [UV.out, VV.out]
        rintro e w2 ⟨a, b, c, d, rfl, good, hb⟩
        have GOOD := Lib.hid good
        have I2 := Lib.hid (inv.out.below hb)
        clear good hb
        have M1 : Hid (rdv wr (.slice (some ⟨p, 0, none⟩) (ofv X).length N) + rdv wr (.slice (some ⟨q, 0, none⟩) (ofv X).length N) = X + Y) := by
          show _ = _
          rw [rdv_rd RU.out ul, rdv_rd RV.out vl, UV.out, VV.out]
        have HY0 := Lib.hid h0
        clear h0 hpos RU RV UV VV ul vl
        by_cases hb0 : b = 0
        · subst hb0
          go_wp2_with fail
          generalize hw3 : w2.alloc _ = w3
          have I3 : Hid (GcInv w N p q (ofv X).length X Y w3) := by rw [← hw3]; exact I2.out.below ((Below.refl _ _).alloc (Nat.le_refl _) _)
          clear hw3 I2
          refine (gc_euclid (w' := w3) (cx := N) (cy := N) (by omega) hl hN0 I3.out hle.out HY0.out).mono ?_
          rintro e w4 ⟨rfl, X', Y', ni, nle, nlt, ng⟩
          obtain ⟨hn1, J⟩ := ni.less nle hl
          obtain ⟨us', vs', ul', vl', uv', vv', ru', rv'⟩ := ni.rds hl (by omega)
          have HS2 := sig_n ru' ul'
          rw [uv'] at HS2
          have HHS2 := Lib.hid HS2
          have HJ := Lib.hid J
          have NLE := Lib.hid nle
          have NLT := Lib.hid nlt
          have NG : Hid (Nat.gcd X' Y' = G) := by show _ = _; rw [ng]; exact hg.out
          have hn2 : (ofv X').length ≤ N := by omega
          have M2 : Hid (∀ w', w' = w4 → rdv w' (.slice (some ⟨q, 0, none⟩) (ofv X').length N) + rdv w' (.slice (some ⟨p, 0, none⟩) (ofv X').length N) = X' + Y') := by
            rintro w' rfl
            obtain ⟨us2, vs2, ul2, vl2, uv2, vv2, ru2, rv2⟩ := J.rds hn2 (by omega)
            rw [rdv_rd ru2 ul2, rdv_rd rv2 vl2, uv2, vv2]
          clear HS2 J nle nlt ng ru' rv' uv' vv' ni
          go_wp2_with fail
          refine HHS2.out.mono ?_
          rintro e w5 ⟨rfl, rfl⟩
          go_wp2
          go_roundw
          case rel => exact ⟨q, p, X', Y', rfl, rfl, hn2, NLE.out, NG.out, HJ.out⟩
          case measure =>
            rw [M2.out _ rfl, M1.out]
            exact NLT.out
        · have hb1 : (b == 0) = false := by simpa using hb0
          go_wp2_with fail
          generalize hw3 : w2.alloc _ = w3
          have I3 : Hid (GcInv w N p q (ofv X).length X Y w3) := by rw [← hw3]; exact I2.out.below ((Below.refl _ _).alloc (Nat.le_refl _) _)
          clear hw3 I2
          refine (gc_apply (w' := w3) hl hN0 I3.out GOOD.out hb0).mono ?_
          rintro e w4 ⟨rfl, X', Y', ni, nle, nlt, ng⟩
          obtain ⟨hn1, J⟩ := ni.less nle hl
          obtain ⟨us', vs', ul', vl', uv', vv', ru', rv'⟩ := ni.rds hl (by omega)
          have HS2 := sig_n ru' ul'
          rw [uv'] at HS2
          have HHS2 := Lib.hid HS2
          have HJ := Lib.hid J
          have NLE := Lib.hid nle
          have NLT := Lib.hid nlt
          have NG : Hid (Nat.gcd X' Y' = G) := by show _ = _; rw [ng]; exact hg.out
          have hn2 : (ofv X').length ≤ N := by omega
          have M2 : Hid (∀ w', w' = w4 → rdv w' (.slice (some ⟨p, 0, none⟩) (ofv X').length N) + rdv w' (.slice (some ⟨q, 0, none⟩) (ofv X').length N) = X' + Y') := by
            rintro w' rfl
            obtain ⟨us2, vs2, ul2, vl2, uv2, vv2, ru2, rv2⟩ := J.rds hn2 (by omega)
            rw [rdv_rd ru2 ul2, rdv_rd rv2 vl2, uv2, vv2]
          clear HS2 J nle nlt ng ru' rv' uv' vv' ni
          go_wp2_with fail
          refine HHS2.out.mono ?_
          rintro e w5 ⟨rfl, rfl⟩
          go_wp2
          go_roundw
          case rel => exact ⟨p, q, X', Y', rfl, rfl, hn2, NLE.out, NG.out, HJ.out⟩
          case measure =>
            rw [M2.out _ rfl, M1.out]
            exact NLT.out
    · have bX : X < 18446744073709551616 := by
        have := val_two (okl_ofv X) h2
        rwa [val_ofv] at this
      have b1 : X ≤ 18446744073709551615 := by omega
      have b2 : Y ≤ 18446744073709551615 := by have := hle.out; omega
      have bg : Nat.gcd X Y < 18446744073709551616 := by
        rcases Nat.eq_zero_or_pos X with e | e
        · rw [e, Nat.gcd_zero_left]; omega
        · have := Nat.le_of_dvd e (Nat.gcd_dvd_left X Y); omega
      have F := Lib.hid (fun w => from_z (w := w) (z := ((Nat.gcd X Y : Nat) : Int)) rfl bg)
      clear bg inv OU
      go_wp2_with fail
      refine (window_small RU.out ul h2).mono ?_
      rw [UV.out]
      rintro e w2 ⟨rfl, hq⟩
      have hb := below_q hq
      have B2 : Hid (Below w.heap.size w w2) := BW.out.trans (hb.mono BW.out.size)
      have RV2 := Lib.hid (RV.out.below hb)
      clear hq hb
      go_wp2_with fail
      refine (window_small RV2.out vl h2).mono ?_
      rw [VV.out]
      rintro e w3 ⟨rfl, hq⟩
      have hb := below_q hq
      have B3 : Hid (Below w.heap.size w w3) := B2.out.trans (hb.mono B2.out.size)
      clear hq hb B2
      go_wp2_with fail
      refine (gcd_words X Y _ b1 b2).mono ?_
      rintro e w4 ⟨rfl, hq⟩
      have hb := below_q hq
      have B4 : Hid (Below w.heap.size w w4) := B3.out.trans (hb.mono B3.out.size)
      clear hq hb B3
      go_wp2_with fail
      refine (F.out _).mono ?_
      rw [hg.out]
      rintro e w5 ⟨R, c, rfl, ho, hb5⟩
      have FIN : Hid (Gives w G (.returned (.slice R (ofv G).length c)) w5) := ⟨R, c, rfl, ho.mono B4.out.size, B4.out.trans (hb5.mono B4.out.size)⟩
      clear ho hb5
      go_wp2
      go_ret
      exact FIN.out
theorem gcd_n {A B : Option Addr} {ca cb n m : Nat} {xs ys : List Nat} {w : World} (h : Rd w A ca xs) (h' : Rd w B cb ys) (hn : xs.length = n) (hm : ys.length = m) (hl : n ≤ 70368744177663) (hl' : m ≤ 70368744177663) :
    Calls Try.prog 38 #[.slice A n ca, .slice B m cb] w (Gives w (Nat.gcd (val xs) (val ys))) := by
  subst hn hm; exact gcd_any A B ca cb xs ys w h h' hl hl'
end Go.Proofs.Ytmmlfmjelhninaa
