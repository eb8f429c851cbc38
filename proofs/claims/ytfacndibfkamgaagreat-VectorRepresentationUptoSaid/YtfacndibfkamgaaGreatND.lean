/-
  Knuth, Est, Subp, Next, Long, Dlong, Dmany.
-/
import Derived.Test.YtfacndibfkamgaaGreatNA
import Derived.Test.YtfacndibfkamgaaGreatNB
/-
  Plain facts: the digit of long division is estimated from the leading limbs, at most one too great.
-/
namespace Go.Proofs.YtfacndibfkamgaaGreat
set_option linter.unusedVariables false

section
variable {D R P high next dl top r2 rl : Nat}

theorem es_first (hD : D = (high * 4294967296 + next) * P + dl) (hR : R = (top * 4294967296 + r2) * P + rl) (hP : 0 < P) (hnext : next < 4294967296) (hdl : dl < P) (hr2 : r2 < 4294967296) (hrl : rl < P)
    (hh : 2147483648 ≤ high) (hlt : R < D * 4294967296) : R / D ≤ top / high ∧ top / high ≤ 4294967297 ∧ R / D ≤ 4294967295 := by
  have hD0 : 0 < D := by
    have := Nat.mul_le_mul_right P (show 1 ≤ high * 4294967296 + next by omega)
    omega
  have hq : R / D * D ≤ R := Nat.div_mul_le_self R D
  refine ⟨?_, ?_, ?_⟩
  · rw [Nat.le_div_iff_mul_le (by omega)]
    generalize R / D = q at *
    have h1 : q * high * 4294967296 * P ≤ q * D := by
      rw [hD]
      have : q * ((high * 4294967296 + next) * P + dl) = q * high * 4294967296 * P + (q * next * P + q * dl) := by grind
      omega
    have h2 : q * high * 4294967296 * P < (top * 4294967296 + r2 + 1) * P := by
      rw [Nat.add_mul _ 1 P]; omega
    have h3 := Nat.lt_of_mul_lt_mul_right h2
    omega
  · have h1 : top * 4294967296 * P < (high + 1) * 4294967296 * 4294967296 * P := by
      have e1 : top * 4294967296 * P ≤ R := by rw [hR, Nat.add_mul]; omega
      have e2 : D < (high + 1) * 4294967296 * P := by
        have := Nat.mul_le_mul_right P (show high * 4294967296 + next + 1 ≤ (high + 1) * 4294967296 by omega)
        rw [Nat.add_mul _ 1 P] at this
        omega
      have e3 : (high + 1) * 4294967296 * P * 4294967296 = (high + 1) * 4294967296 * 4294967296 * P := by grind
      omega
    have h2 := Nat.lt_of_mul_lt_mul_right h1
    have h3 : top / high < 4294967298 := by rw [Nat.div_lt_iff_lt_mul (by omega)]; omega
    omega
  · have : R / D < 4294967296 := by rw [Nat.div_lt_iff_lt_mul hD0, Nat.mul_comm]; exact hlt
    omega

theorem es_down (hD : D = (high * 4294967296 + next) * P + dl) (hR : R = (top * 4294967296 + r2) * P + rl) (hP : 0 < P) (hrl : rl < P) {dg lf : Nat} (hi : dg * high + lf = top) (hgt : lf * 4294967296 + r2 < dg * next) (hq : R / D ≤ dg) :
    R / D ≤ dg - 1 := by
  rcases Nat.lt_or_ge (R / D) dg with h | h
  · omega
  · exfalso
    have he : R / D = dg := by omega
    have h1 : R / D * D ≤ R := Nat.div_mul_le_self R D
    rw [he] at h1
    have h2 : (top * 4294967296 + r2 + 1) * P ≤ dg * D := by
      have e : dg * D = (dg * high * 4294967296 + dg * next) * P + dg * dl := by rw [hD]; grind
      have := Nat.mul_le_mul_right P (show top * 4294967296 + r2 + 1 ≤ dg * high * 4294967296 + dg * next by omega)
      omega
    rw [Nat.add_mul _ 1 P] at h2
    omega

theorem es_exit (hD : D = (high * 4294967296 + next) * P + dl) (hR : R = (top * 4294967296 + r2) * P + rl) (hP : 0 < P) (hdl : dl < P) (hh : 1 ≤ high) {dg lf : Nat} (hi : dg * high + lf = top) (hle : dg * next ≤ lf * 4294967296 + r2) (hdg : dg ≤ 4294967296) :
    dg ≤ R / D + 1 := by
  have hD0 : 4294967296 * P ≤ D := by
    have := Nat.mul_le_mul_right P (show 4294967296 ≤ high * 4294967296 + next by omega)
    omega
  have h1 : dg * D ≤ R + D := by
    have e : dg * D = (dg * high * 4294967296 + dg * next) * P + dg * dl := by rw [hD]; grind
    have h2 := Nat.mul_le_mul_right P (show dg * high * 4294967296 + dg * next ≤ top * 4294967296 + r2 by omega)
    have h3 : dg * dl ≤ 4294967296 * P := Nat.mul_le_mul hdg (Nat.le_of_lt hdl)
    omega
  have hDp : 0 < D := by omega
  rcases Nat.eq_zero_or_pos dg with h0 | h0
  · rw [h0]; exact Nat.zero_le _
  · have h4 : (dg - 1) * D ≤ R := by
      have : dg * D = (dg - 1) * D + D := by
        conv => lhs; rw [show dg = (dg - 1) + 1 from by omega]
        rw [Nat.add_mul, Nat.one_mul]
      omega
    have h5 := (Nat.le_div_iff_mul_le hDp).2 h4
    generalize R / D = q at *
    clear hD hR
    omega

theorem es_break (hD : D = (high * 4294967296 + next) * P + dl) (hR : R = (top * 4294967296 + r2) * P + rl) (hP : 0 < P) (hnext : next < 4294967296) (hdl : dl < P) (hh : 1 ≤ high) {dg lf : Nat} (hi : dg * high + lf = top) (hlf : 4294967296 ≤ lf) (hdg : dg ≤ 4294967296) :
    dg ≤ R / D := by
  have hDp : 0 < D := by
    have := Nat.mul_le_mul_right P (show 1 ≤ high * 4294967296 + next by omega)
    omega
  rw [Nat.le_div_iff_mul_le hDp]
  have e : dg * D = (dg * high * 4294967296) * P + dg * (next * P + dl) := by rw [hD]; grind
  have h1 : next * P + dl ≤ 4294967296 * P := by
    have := Nat.mul_le_mul_right P (show next + 1 ≤ 4294967296 by omega)
    rw [Nat.add_mul, Nat.one_mul] at this
    omega
  have h2 : dg * (next * P + dl) ≤ 4294967296 * (4294967296 * P) := Nat.mul_le_mul hdg h1
  have h3 : 4294967296 * (4294967296 * P) = (4294967296 * 4294967296) * P := by rw [Nat.mul_assoc]
  have h4 := Nat.mul_le_mul_right P (show dg * high * 4294967296 + 4294967296 * 4294967296 ≤ top * 4294967296 + r2 by omega)
  rw [Nat.add_mul] at h4
  omega
end

/-- The leading limbs of a list. -/
theorem val_lead {xs : List Nat} (h : okl xs) {n : Nat} (hn : xs.length = n) (h2 : 2 ≤ n) :
    ∃ rl, val xs = (lim xs (n - 1) * 4294967296 + lim xs (n - 2)) * pw (n - 2) + rl ∧ rl < pw (n - 2) := by
  refine ⟨val (xs.take (n - 2)), ?_, ?_⟩
  · have e1 := val_take_succ (xs := xs) (k := n - 1) (by omega)
    have e2 := val_take_succ (xs := xs) (k := n - 2) (by omega)
    rw [show n - 1 + 1 = n from by omega, List.take_of_length_le (by omega)] at e1
    rw [show n - 2 + 1 = n - 1 from by omega] at e2
    have e3 : pw (n - 1) = 4294967296 * pw (n - 2) := by rw [← pw_succ]; congr 1; omega
    rw [e3] at e1
    rw [e1, e2, Nat.add_mul]
    grind
  · have := val_lt (okl_take h (n - 2))
    rwa [List.length_take, Nat.min_eq_left (by omega)] at this
theorem val_lead3 {xs : List Nat} (h : okl xs) {n : Nat} (hn : xs.length = n + 1) (h2 : 2 ≤ n) :
    ∃ rl, val xs = ((lim xs n * 4294967296 + lim xs (n - 1)) * 4294967296 + lim xs (n - 2)) * pw (n - 2) + rl ∧ rl < pw (n - 2) := by
  refine ⟨val (xs.take (n - 2)), ?_, ?_⟩
  · have e0 := val_take_succ (xs := xs) (k := n) (by omega)
    have e1 := val_take_succ (xs := xs) (k := n - 1) (by omega)
    have e2 := val_take_succ (xs := xs) (k := n - 2) (by omega)
    rw [List.take_of_length_le (by omega)] at e0
    rw [show n - 1 + 1 = n from by omega] at e1
    rw [show n - 2 + 1 = n - 1 from by omega] at e2
    have e3 : pw (n - 1) = 4294967296 * pw (n - 2) := by rw [← pw_succ]; congr 1; omega
    have e4 : pw n = 4294967296 * (4294967296 * pw (n - 2)) := by rw [← e3, ← pw_succ]; congr 1; omega
    rw [e0, e1, e2, e3, e4]
    grind
  · have := val_lt (okl_take h (n - 2))
    rwa [List.length_take, Nat.min_eq_left (by omega)] at this
end Go.Proofs.YtfacndibfkamgaaGreat

/-
  Contract of natural.estimateDigit.
-/
namespace Go.Proofs.YtfacndibfkamgaaGreat
open Go.RowKit
set_option linter.unusedVariables false

/-- The digit, or one more. -/
def EsPost (w : World) (q : Nat) (e : Ending) (w' : World) : Prop :=
  ∃ d, e = .returned (.int .u32 ((d : Nat) : Int)) ∧ q ≤ d ∧ d ≤ q + 1 ∧ d < 4294967296 ∧ ∃ n, w' = w.drewN n

set_option maxHeartbeats 4000000 in
theorem es_any (A B : Option Addr) (ca cb n : Nat) (rs ds : List Nat) (w : World) (h : Rd w A ca rs) (h' : Rd w B cb ds) (hr : rs.length = n + 1) (hd : ds.length = n) (h2 : 2 ≤ n) (hh : 2147483648 ≤ lim ds (n - 1)) (hlt : val rs < val ds * 4294967296) :
    Calls Tryz.prog 186 #[.slice A (n + 1) ca, .slice B n cb] w (EsPost w (val rs / val ds)) := by
  obtain ⟨rl, hR, hrl⟩ := val_lead3 h.ok hr h2
  obtain ⟨dl, hD, hdl⟩ := val_lead h'.ok hd h2
  have b1 := lim_lt h.ok n
  have b2 := lim_lt h.ok (n - 1)
  have b3 := lim_lt h.ok (n - 2)
  have b4 := lim_lt h'.ok (n - 1)
  have b5 := lim_lt h'.ok (n - 2)
  have hP := pw_pos (n - 2)
  obtain ⟨b, o, rfl, _, hc⟩ := h.at_ (k := 0) (by omega)
  obtain ⟨b', o', rfl, _, hc'⟩ := h'.at_ (k := 0) (by omega)
  have c1 := hc n (by omega)
  have c2 := hc (n - 1) (by omega)
  have c3 := hc (n - 2) (by omega)
  have c4 := hc' (n - 1) (by omega)
  have c5 := hc' (n - 2) (by omega)
  have hl1 : n + 1 ≤ ca := by have := h.len; omega
  have hl2 : n ≤ cb := by have := h'.len; omega
  have hm1 := h.capLe
  have hm2 := h'.capLe
  clear h h' hc hc' hr hd
  generalize lim rs n = u1 at *
  generalize lim rs (n - 1) = u0 at *
  generalize lim rs (n - 2) = r2 at *
  generalize lim ds (n - 1) = high at *
  generalize lim ds (n - 2) = next at *
  generalize val rs = R at *
  generalize val ds = D at *
  generalize pw (n - 2) = P at *
  have F1 := Lib.hid (es_first hD hR hP b5 hdl b3 hrl hh hlt)
  have F2 := Lib.hid (fun dg lf hi hgt hq => @es_down D R P high next dl (u1 * 4294967296 + u0) r2 rl hD hR hP hrl dg lf hi hgt hq)
  have F3 := Lib.hid (fun dg lf hi hle hdg => @es_exit D R P high next dl (u1 * 4294967296 + u0) r2 rl hD hR hP hdl (by omega) dg lf hi hle hdg)
  have F4 := Lib.hid (fun dg lf hi hlf hdg => @es_break D R P high next dl (u1 * 4294967296 + u0) r2 rl hD hR hP b5 hdl (by omega) dg lf hi hlf hdg)
  clear hR hrl hD hdl hlt hP
  generalize R / D = q at *
  have eor := or64' b2 b1
  have etop : u0 + 4294967296 * u1 = u1 * 4294967296 + u0 := by omega
  rw [etop] at eor
  have bt : u1 * 4294967296 + u0 ≤ 18446744073709551615 := by omega
  clear etop
  have hdm := Nat.div_add_mod (u1 * 4294967296 + u0) high
  have hml := Nat.mod_lt (u1 * 4294967296 + u0) (show 0 < high by omega)
  generalize htop : u1 * 4294967296 + u0 = top at *
  have HT := Lib.hid htop
  clear htop
  have G1 : Hid (IntKind.u64.wrap ((top : Int) / (high : Int)) = ((top / high : Nat) : Int)) := by
    show _ = _
    have hq : top / high ≤ top := Nat.div_le_self _ _
    rw [IntKind.wrap_u64, ← Int.natCast_ediv]
    generalize top / high = q at *
    omega
  have G2 : Hid ((top : Int).tmod (high : Int) = ((top % high : Nat) : Int)) := by
    show _ = _
    rw [Int.tmod_eq_emod_of_nonneg (by omega)]; simp
  have G3 : Hid ((top : Int) % (high : Int) = ((top % high : Nat) : Int)) := by
    show _ = _
    simp
  have F1a := F1.out.1
  have F1b := F1.out.2.1
  have F1c := F1.out.2.2
  clear F1
  generalize top / high = d0 at *
  generalize top % high = l0 at *
  have HDM : Hid (d0 * high + l0 = top) := by show _ = _; rw [Nat.mul_comm]; exact hdm
  clear hdm
  go_enter Tryz.func186, Tryz.ntmps186
  go_wp2
  go_quiet (fail)
  go_wp2
  go_quiet (fail)
  go_wp2
  go_quiet (fail)
  go_wp2
  rw [G1.out, G3.out]
  clear G1 G2 G3
  generalize hW : ((w.drewN _).drewN _).drewN _ = w3
  have HQ : Hid (∃ q, w3 = w.drewN q) := by subst hW; exact drew_on (drew_on ⟨_, rfl⟩ ⟨_, rfl⟩) ⟨_, rfl⟩
  have c3' : w3.cell? ⟨b, o + (n - 2), none⟩ = some (.int .u32 (r2 : Int)) := by subst hW; exact c3
  clear hW c1 c2 c3 c4 c5 eor
  go_loop [9, 10] (fun a b => ∃ dg lf : Nat, a = .int .u64 dg ∧ b = .int .u64 lf ∧ Hid (dg * high + lf = top) ∧ q ≤ dg ∧ lf ≤ 4294967295 ∧ dg ≤ 4294967297) (fun a _ => (intOf a).toNat)
  case atStart => exact ⟨d0, l0, rfl, rfl, HDM.out, F1a, by omega, F1b⟩
  case round =>
    clear HDM F1a F1b hml
    obtain ⟨dg, lf, rfl, rfl, hi, hq, hlf, hdg⟩ := hrel
    have hmul : dg * high = (dg - 1) * high + high ∨ dg = 0 := by
      rcases Nat.eq_zero_or_pos dg with h0 | h0
      · exact .inr h0
      · left
        conv => lhs; rw [show dg = (dg - 1) + 1 from by omega]
        rw [Nat.add_mul, Nat.one_mul]
    rcases Nat.lt_or_ge dg 4294967296 with hsm | hbig
    · have hb : ((dg : Int) / 4294967296 != 0) = false := by
        have : (dg : Int) / 4294967296 = 0 := by omega
        rw [this]; rfl
      have hp : dg * next ≤ 18446744065119617025 := mul_lt hsm b5
      have hpe : (dg : Int) * (next : Int) = ((dg * next : Nat) : Int) := by simp
      have eor := or64' b3 (show lf < 4294967296 by omega)
      rcases Nat.lt_or_ge (r2 + 4294967296 * lf) (dg * next) with hgt | hle
      · have hq' := F2.out dg lf hi.out (by omega) hq
        have hdp : 1 ≤ dg := by
          rcases Nat.eq_zero_or_pos dg with h0 | h0
          · rw [h0] at hgt; simp at hgt
          · exact h0
        have hi' : Hid ((dg - 1) * high + (lf + high) = top) := by
          have := hi.out
          show _ = _
          omega
        have hpos : dg * next ≤ 18446744065119617025 := hp
        clear hmul
        generalize dg * next = p at *
        rcases Nat.lt_or_ge (lf + high) 4294967296 with hsm2 | hbig2
        · have hb2 : (((lf : Int) + (high : Int)) / 4294967296 != 0) = false := by
            have : ((lf : Int) + (high : Int)) / 4294967296 = 0 := by omega
            rw [this]; rfl
          go_wp2
          go_round
          case rel => exact ⟨dg - 1, lf + high, by first | rfl | (congr 1; omega), by first | rfl | (congr 1; omega), hi', hq', by omega, by omega⟩
          case measure => simp [intOf]; omega
        · have hb2 : (((lf : Int) + (high : Int)) / 4294967296 != 0) = true := by
            rw [bne_iff_ne]; omega
          have F := F4.out (dg - 1) (lf + high) hi'.out hbig2 (by omega)
          have FIN : Hid (∀ v, v = Ending.returned (.int .u32 ((dg - 1 : Nat) : Int)) → EsPost w q v w3) := by
            rintro v rfl
            exact ⟨dg - 1, rfl, hq', by omega, by omega, HQ.out⟩
          go_wp2
          go_ret
          exact FIN.out _ (ret_int (by omega))
      · have F := F3.out dg lf hi.out (by omega) (by omega)
        have FIN : Hid (∀ v, v = Ending.returned (.int .u32 ((dg : Nat) : Int)) → EsPost w q v w3) := by
          rintro v rfl
          exact ⟨dg, rfl, hq, by omega, by omega, HQ.out⟩
        clear hmul
        generalize dg * next = p at *
        go_wp2
        go_ret
        exact FIN.out _ (ret_int (by omega))
    · have hb : ((dg : Int) / 4294967296 != 0) = true := by rw [bne_iff_ne]; omega
      have hi' : Hid ((dg - 1) * high + (lf + high) = top) := by
        have := hi.out
        show _ = _
        omega
      have hq' : q ≤ dg - 1 := by omega
      clear hmul
      rcases Nat.lt_or_ge (lf + high) 4294967296 with hsm2 | hbig2
      · have hb2 : (((lf : Int) + (high : Int)) / 4294967296 != 0) = false := by
          have : ((lf : Int) + (high : Int)) / 4294967296 = 0 := by omega
          rw [this]; rfl
        go_wp2
        go_round
        case rel => exact ⟨dg - 1, lf + high, by first | rfl | (congr 1; omega), by first | rfl | (congr 1; omega), hi', hq', by omega, by omega⟩
        case measure => simp [intOf]; omega
      · have hb2 : (((lf : Int) + (high : Int)) / 4294967296 != 0) = true := by
          rw [bne_iff_ne]; omega
        have F := F4.out (dg - 1) (lf + high) hi'.out hbig2 (by omega)
        have FIN : Hid (∀ v, v = Ending.returned (.int .u32 ((dg - 1 : Nat) : Int)) → EsPost w q v w3) := by
          rintro v rfl
          exact ⟨dg - 1, rfl, hq', by omega, by omega, HQ.out⟩
        go_wp2
        go_ret
        exact FIN.out _ (ret_int (by omega))
end Go.Proofs.YtfacndibfkamgaaGreat

/-
  Contracts of natural.subtractProduct and natural.addBack.
-/
namespace Go.Proofs.YtfacndibfkamgaaGreat
open Go.RowKit
set_option linter.unusedVariables false

/-- x times vs subtracted from a part of a row; c is still to be subtracted above. -/
def SpInv (w : World) (g o : Nat) (zs vs : List Nat) (x k c : Nat) (wr : World) : Prop :=
  ∃ ys, Row wr g ys ∧ ys.length = zs.length ∧ okl ys ∧ (∀ j, j < o ∨ o + k ≤ j → lim ys j = lim zs j) ∧ val ys + x * val (vs.take k) * pw o = val zs + c * pw (o + k) ∧ w.grownBy wr (some g)
def SpPost (w : World) (g o : Nat) (zs vs : List Nat) (x : Nat) (e : Ending) (w' : World) : Prop :=
  ∃ c, e = .returned (.int .u64 ((c : Nat) : Int)) ∧ c < 4294967296 ∧ SpInv w g o zs vs x vs.length c w'

theorem sp_step {w wr : World} {g o x k c d c' : Nat} {zs ys vs : List Nat} (hk : k < vs.length) (hd : d < 4294967296) (hr : Row wr g ys) (hyl : ys.length = zs.length) (hy : okl ys) (hj : ∀ j, j < o ∨ o + k ≤ j → lim ys j = lim zs j)
    (he : val ys + x * val (vs.take k) * pw o = val zs + c * pw (o + k)) (hg : w.grownBy wr (some g)) (hok : o + k < zs.length) (hdd : d + (c + x * lim vs k) = lim ys (o + k) + 4294967296 * c') (z : Int) (hz : z = ((d : Nat) : Int)) :
    SpInv w g o zs vs x (k + 1) c' (wr.setCell ⟨g, o + k, none⟩ (.int .u32 z)) := by
  subst hz
  refine ⟨ys.set (o + k) d, hr.set_ _ _, by simpa using hyl, okl_set hy hd _, ?_, ?_, grown_trans hg (grown_set _ _ _ _)⟩
  · intro j hj'
    rw [lim_set_other (by omega)]
    exact hj j (by omega)
  · have e1 := val_set (v := d) (show o + k < ys.length by omega)
    have p1 : pw (o + (k + 1)) = 4294967296 * (pw o * pw k) := by rw [← Nat.add_assoc, pw_succ, pw_add]
    rw [pw_add] at he e1
    rw [val_take_succ hk, p1]
    clear p1 hr hy hj hg hok
    generalize lim ys (o + k) = y at *
    generalize lim vs k = v at *
    generalize val (ys.set (o + k) d) = V' at *
    generalize val ys = V at *
    generalize val zs = Z at *
    generalize val (vs.take k) = U at *
    generalize pw o = po at *
    generalize pw k = pk at *
    grind

set_option maxHeartbeats 2000000 in
theorem sp_any (g o c : Nat) (zs vs : List Nat) (B : Option Addr) (cb x n : Nat) (w : World) (hr : Row w g zs) (hz : okl zs) (hvn : vs.length = n) (hon : o + n ≤ zs.length) (hc : n ≤ c) (hm : zs.length ≤ 70368744177664) (h' : Rd w B cb vs) (hne : ∀ b' o', 0 < cb → B = some ⟨b', o', none⟩ → some b' ≠ some g) (hx : x < 4294967296) :
    Calls Tryz.prog 187 #[.slice (some ⟨g, o, none⟩) n c, .slice B n cb, .int .u32 (x : Int)] w (SpPost w g o zs vs x) := by
  subst hvn
  have Y := Lib.hid h'
  have NE := Lib.hid hne
  have HR0 := Lib.hid hr
  have HZ0 := Lib.hid hz
  have hl := h'.len
  have hcb := h'.capLe
  clear hr hz h' hne
  go_enter Tryz.func187, Tryz.ntmps187
  go_wp2
  go_loopw [7, 13] (fun cy i wr => ∃ k cn : Nat, k ≤ vs.length ∧ i = .int .i64 k ∧ cy = .int .u64 cn ∧ cn ≤ 4294967295 ∧ SpInv w g o zs vs x k cn wr) (fun _ i _ => vs.length - (intOf i).toNat)
  case atStart => exact ⟨0, 0, Nat.zero_le _, rfl, rfl, by omega, zs, HR0.out, rfl, HZ0.out, fun j _ => rfl, by simp [val_nil], World.grownBy.refl _ _⟩
  case round =>
    obtain ⟨k, cn, hk, rfl, rfl, hcn, inv⟩ := hrel
    have INV := Lib.hid inv
    by_cases hlt : k < vs.length
    · obtain ⟨ys, hrow, hyl, hyo, hj, heq, hgr⟩ := inv
      have Y1 := Y.out.grown hgr NE.out
      obtain ⟨b, o', hB, hb, hcell⟩ := Y1.at_ hlt
      have c1 := hcell k hlt
      have hfz := hrow.frozen (o + k)
      have hcw := hrow.cell (i := o + k) (by omega)
      have b1 := lim_lt Y1.ok k
      have b2 := lim_lt hyo (o + k)
      have step := Lib.hid (fun d c' hd => sp_step (x := x) (d := d) (c' := c') hlt hd hrow hyl hyo hj heq hgr (by omega))
      have hp := mul_lt hx b1
      have hpe : (x : Int) * ((lim vs k : Nat) : Int) = ((x * lim vs k : Nat) : Int) := by simp
      subst hB
      clear hcell hrow hyl hj heq hgr Y1 INV
      generalize x * lim vs k = p at *
      generalize lim ys (o + k) = y at *
      rcases Nat.lt_or_ge y ((cn + p) % 4294967296) with hsm | hge
      · go_wp2
        go_roundw
        case rel => exact ⟨k + 1, (cn + p) / 4294967296 + 1, by omega, by go_num, by first | rfl | (congr 1; omega), by omega, step.out (4294967296 + y - (cn + p) % 4294967296) ((cn + p) / 4294967296 + 1) (by omega) (by omega) _ (by omega)⟩
        case measure => simp [intOf]; omega
      · go_wp2
        go_roundw
        case rel => exact ⟨k + 1, (cn + p) / 4294967296, by omega, by go_num, by first | rfl | (congr 1; omega), by omega, step.out (y - (cn + p) % 4294967296) ((cn + p) / 4294967296) (by omega) (by omega) _ (by omega)⟩
        case measure => simp [intOf]; omega
    · obtain rfl : k = vs.length := by omega
      have FIN : Hid (SpPost w g o zs vs x (.returned (.int .u64 (cn : Int))) wr) := ⟨cn, rfl, by omega, inv⟩
      clear inv INV
      go_wp2
      go_ret
      exact FIN.out

/-- vs added to a part of a row; c is the carry. -/
def AbInv (w : World) (g o : Nat) (zs vs : List Nat) (k c : Nat) (wr : World) : Prop :=
  ∃ ys, Row wr g ys ∧ ys.length = zs.length ∧ okl ys ∧ (∀ j, j < o ∨ o + k ≤ j → lim ys j = lim zs j) ∧ val ys + c * pw (o + k) = val zs + val (vs.take k) * pw o ∧ w.grownBy wr (some g)
def AbPost (w : World) (g o : Nat) (zs vs : List Nat) (e : Ending) (w' : World) : Prop :=
  e = .returned (.tuple #[]) ∧ ∃ c, AbInv w g o zs vs vs.length c w'

theorem ab_step {w wr : World} {g o k c : Nat} {zs ys vs : List Nat} (hk : k < vs.length) (hr : Row wr g ys) (hyl : ys.length = zs.length) (hy : okl ys) (hj : ∀ j, j < o ∨ o + k ≤ j → lim ys j = lim zs j)
    (he : val ys + c * pw (o + k) = val zs + val (vs.take k) * pw o) (hg : w.grownBy wr (some g)) (hok : o + k < zs.length) (z : Int) (hz : z = ((c + (lim ys (o + k) + lim vs k)) % 4294967296 : Nat)) :
    AbInv w g o zs vs (k + 1) ((c + (lim ys (o + k) + lim vs k)) / 4294967296) (wr.setCell ⟨g, o + k, none⟩ (.int .u32 z)) := by
  subst hz
  refine ⟨ys.set (o + k) ((c + (lim ys (o + k) + lim vs k)) % 4294967296), hr.set_ _ _, by simpa using hyl, okl_set hy (by omega) _, ?_, ?_, grown_trans hg (grown_set _ _ _ _)⟩
  · intro j hj'
    rw [lim_set_other (by omega)]
    exact hj j (by omega)
  · have e1 := val_set (v := (c + (lim ys (o + k) + lim vs k)) % 4294967296) (show o + k < ys.length by omega)
    have e2 := Nat.div_add_mod (c + (lim ys (o + k) + lim vs k)) 4294967296
    have p1 : pw (o + (k + 1)) = 4294967296 * (pw o * pw k) := by rw [← Nat.add_assoc, pw_succ, pw_add]
    rw [pw_add] at he e1
    rw [val_take_succ hk, p1]
    clear p1 hr hy hj hg hok
    generalize (c + (lim ys (o + k) + lim vs k)) / 4294967296 = q at *
    generalize (c + (lim ys (o + k) + lim vs k)) % 4294967296 = r at *
    generalize lim ys (o + k) = y at *
    generalize lim vs k = v at *
    generalize val (ys.set (o + k) r) = V' at *
    generalize val ys = V at *
    generalize val zs = Z at *
    generalize val (vs.take k) = U at *
    generalize pw o = po at *
    generalize pw k = pk at *
    grind

set_option maxHeartbeats 2000000 in
theorem ab_any (g o c : Nat) (zs vs : List Nat) (B : Option Addr) (cb n : Nat) (w : World) (hr : Row w g zs) (hz : okl zs) (hvn : vs.length = n) (hon : o + n ≤ zs.length) (hc : n ≤ c) (hm : zs.length ≤ 70368744177664) (h' : Rd w B cb vs) (hne : ∀ b' o', 0 < cb → B = some ⟨b', o', none⟩ → some b' ≠ some g) :
    Calls Tryz.prog 188 #[.slice (some ⟨g, o, none⟩) n c, .slice B n cb] w (AbPost w g o zs vs) := by
  subst hvn
  have Y := Lib.hid h'
  have NE := Lib.hid hne
  have HR0 := Lib.hid hr
  have HZ0 := Lib.hid hz
  have hl := h'.len
  have hcb := h'.capLe
  clear hr hz h' hne
  go_enter Tryz.func188, Tryz.ntmps188
  go_wp2
  go_loopw [4, 9] (fun cy i wr => ∃ k cn : Nat, k ≤ vs.length ∧ i = .int .i64 k ∧ cy = .int .u64 cn ∧ cn ≤ 1 ∧ AbInv w g o zs vs k cn wr) (fun _ i _ => vs.length - (intOf i).toNat)
  case atStart => exact ⟨0, 0, Nat.zero_le _, rfl, rfl, by omega, zs, HR0.out, rfl, HZ0.out, fun j _ => rfl, by simp [val_nil], World.grownBy.refl _ _⟩
  case round =>
    obtain ⟨k, cn, hk, rfl, rfl, hcn, inv⟩ := hrel
    have INV := Lib.hid inv
    by_cases hlt : k < vs.length
    · obtain ⟨ys, hrow, hyl, hyo, hj, heq, hgr⟩ := inv
      have Y1 := Y.out.grown hgr NE.out
      obtain ⟨b, o', hB, hb, hcell⟩ := Y1.at_ hlt
      have c1 := hcell k hlt
      have hfz := hrow.frozen (o + k)
      have hcw := hrow.cell (i := o + k) (by omega)
      have b1 := lim_lt Y1.ok k
      have b2 := lim_lt hyo (o + k)
      have step := Lib.hid (ab_step hlt hrow hyl hyo hj heq hgr (by omega))
      subst hB
      clear hcell hrow hyl hj heq hgr Y1 INV
      generalize lim ys (o + k) = y at *
      go_wp2
      go_roundw
      case rel => exact ⟨k + 1, (cn + (y + lim vs k)) / 4294967296, by omega, by go_num, by first | rfl | (congr 1; omega), by omega, step.out _ (by omega)⟩
      case measure => simp [intOf]; omega
    · obtain rfl : k = vs.length := by omega
      have FIN : Hid (AbPost w g o zs vs (.returned (.tuple #[])) wr) := ⟨rfl, cn, inv⟩
      clear inv INV
      go_wp2
      go_end0
      exact FIN.out
end Go.Proofs.YtfacndibfkamgaaGreat

/-
  Contract of natural.nextDigit.
-/
namespace Go.Proofs.YtfacndibfkamgaaGreat
open Go.RowKit
set_option linter.unusedVariables false

/-- The value of n limbs from limb o on. -/
def win (zs : List Nat) (o n : Nat) : Nat := val ((zs.drop o).take n)
theorem win_split (zs : List Nat) {o n : Nat} (h : o + n ≤ zs.length) : val zs = val (zs.take o) + pw o * (win zs o n + pw n * val (zs.drop (o + n))) := by
  have e1 := val_split zs o (by omega)
  have e2 := val_split (zs.drop o) n (by rw [List.length_drop]; omega)
  rw [List.drop_drop] at e2
  rw [e1, e2]; rfl
theorem win_eq {zs ys : List Nat} {o n : Nat} (hl : ys.length = zs.length) (h : o + n ≤ zs.length) (hj : ∀ j, j < o ∨ o + n ≤ j → lim ys j = lim zs j) : val ys + pw o * win zs o n = val zs + pw o * win ys o n := by
  have e1 := win_split zs h
  have e2 := win_split ys (o := o) (n := n) (by omega)
  have t : ys.take o = zs.take o := by
    apply lim_ext
    · simp [hl]
    · intro i hi
      rw [List.length_take] at hi
      rw [lim_take (by omega), lim_take (by omega)]
      exact hj i (by omega)
  have d : ys.drop (o + n) = zs.drop (o + n) := by
    apply lim_ext
    · simp [hl]
    · intro i _
      rw [lim_drop, lim_drop]
      exact hj _ (by omega)
  rw [t, d] at e2
  rw [Nat.mul_add] at e1 e2
  omega
theorem win_succ {zs : List Nat} {o n : Nat} (h : o + n < zs.length) : win zs o (n + 1) = win zs o n + lim zs (o + n) * pw n := by
  unfold win
  rw [val_take_succ (by rw [List.length_drop]; omega), lim_drop]
theorem winn_lt {zs : List Nat} (hz : okl zs) {o n : Nat} (h : o + n ≤ zs.length) : win zs o n < pw n := by
  have := val_lt (okl_take (okl_drop hz o) n)
  rwa [List.length_take, List.length_drop, Nat.min_eq_left (by omega)] at this
theorem rd_win {w : World} {g o n c : Nat} {zs : List Nat} (hr : Row w g zs) (hz : okl zs) (h : o + n ≤ zs.length) (hc : n ≤ c) (hm : c ≤ 9223372036854775807) : Rd w (some ⟨g, o, none⟩) c ((zs.drop o).take n) ∧ ((zs.drop o).take n).length = n := by
  have hl : ((zs.drop o).take n).length = n := by rw [List.length_take, List.length_drop]; omega
  refine ⟨(Own.part (lo := 0) hr (okl_take (okl_drop hz o) n) (Nat.zero_le _) (by omega) hm (fun i hi => ?_)).rd, hl⟩
  rw [hl] at hi
  exact ⟨by omega, by rw [lim_take hi, lim_drop]⟩

/-- The digit is right: nothing is left to subtract. -/
theorem nd_right {W D d c t wz wy P : Nat} (hW : W = wz + t * P) (he : wy + d * D = wz + c * P) (hq : W / D ≤ d) (hle : c ≤ t) (hD : 0 < D) (hDP : D < P) : d = W / D ∧ wy = W % D := by
  obtain ⟨s, rfl⟩ : ∃ s, t = c + s := ⟨t - c, by omega⟩
  rw [Nat.add_mul] at hW
  have h1 : d ≤ W / D := by rw [Nat.le_div_iff_mul_le hD]; omega
  have hd : d = W / D := by omega
  have hdm := Nat.div_add_mod W D
  have hml := Nat.mod_lt W hD
  rw [Nat.mul_comm, ← hd] at hdm
  refine ⟨hd, ?_⟩
  rcases Nat.eq_zero_or_pos s with h0 | h0
  · subst h0; omega
  · have := Nat.le_mul_of_pos_left P h0
    omega
/-- The digit was one too great: the divisor is added back. -/
theorem nd_back {W D d c t wz wy wk cy P : Nat} (hW : W = wz + t * P) (he : wy + d * D = wz + c * P) (hq : W / D ≤ d) (hd1 : d ≤ W / D + 1) (hlt : t < c) (hD : 0 < D) (hDP : D < P) (hy : wy < P) (hk : wk < P) (hb : wk + cy * P = wy + D) : d = W / D + 1 ∧ wk = W % D := by
  obtain ⟨s, rfl⟩ : ∃ s, c = t + 1 + s := ⟨c - t - 1, by omega⟩
  rw [Nat.add_mul, Nat.add_mul, Nat.one_mul] at he
  have hdm := Nat.div_add_mod W D
  have hml := Nat.mod_lt W hD
  have hd : d = W / D + 1 := by
    rcases Nat.lt_or_ge (W / D) d with h | h
    · omega
    · have e : d = W / D := by omega
      rw [Nat.mul_comm, ← e] at hdm
      have : 0 ≤ s * P := Nat.zero_le _
      omega
  refine ⟨hd, ?_⟩
  have e1 : d * D = W / D * D + D := by rw [hd, Nat.add_mul, Nat.one_mul]
  rw [Nat.mul_comm] at hdm
  have e2 : W % D + (1 + s) * P = wk + cy * P := by rw [Nat.add_mul, Nat.one_mul]; omega
  have e3 := congrArg (· % P) e2
  simp only [Nat.add_mul_mod_self_right] at e3
  rw [Nat.mod_eq_of_lt hk, Nat.mod_eq_of_lt (show W % D < P by omega)] at e3
  exact e3.symm

def NdPost (w : World) (g o n : Nat) (zs : List Nat) (D : Nat) (e : Ending) (w' : World) : Prop :=
  ∃ ys, e = .returned (.int .u32 ((win zs o (n + 1) / D : Nat) : Int)) ∧ Row w' g ys ∧ ys.length = zs.length ∧ okl ys ∧ (∀ j, j < o ∨ o + n ≤ j → lim ys j = lim zs j) ∧ win ys o n = win zs o (n + 1) % D ∧ w.grownBy w' (some g)

set_option maxHeartbeats 4000000 in
theorem nd_any (g o c n : Nat) (zs ds : List Nat) (B : Option Addr) (cb : Nat) (w : World) (hr : Row w g zs) (hz : okl zs) (hon : o + n < zs.length) (hc : n + 1 ≤ c) (hcm : c ≤ 9223372036854775807) (hm : zs.length ≤ 70368744177664) (h' : Rd w B cb ds) (hd : ds.length = n)
    (hne : ∀ b' o', 0 < cb → B = some ⟨b', o', none⟩ → some b' ≠ some g) (h2 : 2 ≤ n) (hh : 2147483648 ≤ lim ds (n - 1)) (hlt : win zs o (n + 1) < val ds * 4294967296) :
    Calls Tryz.prog 174 #[.slice (some ⟨g, o, none⟩) (n + 1) c, .slice B n cb] w (NdPost w g o n zs (val ds)) := by
  obtain ⟨rw1, rl1⟩ := rd_win hr hz (show o + (n + 1) ≤ zs.length by omega) hc hcm
  have ES := Lib.hid (es_any _ _ _ _ n _ ds w rw1 h' rl1 hd h2 hh hlt)
  have hl := h'.len
  have hcb := h'.capLe
  have hDP : val ds < pw n := by rw [← hd]; exact val_lt h'.ok
  have hD0 : 0 < val ds := by
    rcases Nat.eq_zero_or_pos (val ds) with h0 | h0
    · rw [h0] at hlt; omega
    · exact h0
  have hW := Lib.hid (win_succ hon)
  have Y := Lib.hid h'
  have NE := Lib.hid hne
  have HR := Lib.hid hr
  have HZ := Lib.hid hz
  have HD := Lib.hid hd
  have HDP := Lib.hid hDP
  have HD0 := Lib.hid hD0
  have cell := hr.cell hon
  have lt := lim_lt hz (o + n)
  have hcbn : n ≤ cb := by omega
  clear hr hz h' hd hne hDP hD0 hh hlt rw1 rl1 hl
  generalize lim zs (o + n) = t at *
  go_enter Tryz.func174, Tryz.ntmps174
  go_wp2_with fail
  refine ES.out.mono ?_
  rintro e w1 ⟨d, rfl, hq1, hq2, hd32, hq⟩
  have B1 : Hid (Below w.heap.size w w1) := below_q hq
  have cell1 : w1.cell? ⟨g, o + n, none⟩ = some (.int .u32 (t : Int)) := by obtain ⟨q, rfl⟩ := hq; exact cell
  have R1 : Hid (∀ q, Row (w1.drewN q) g zs) := by obtain ⟨q, rfl⟩ := hq; exact fun q' => HR.out
  clear hq cell
  go_wp2
  go_quiet (fail)
  go_wp2_with fail
  refine (sp_any g o c zs ds B cb d n _ (R1.out _) HZ.out HD.out (by omega) (by omega) hm ((Y.out.below B1.out).below (below_drewN _ _ _)) NE.out hd32).mono ?_
  rintro e w2 ⟨cn, rfl, hcn, ys, hyr, hyl, hyo, hyj, hye, hyg⟩
  rw [HD.out] at hyj hye
  rw [List.take_of_length_le (by have := HD.out; omega)] at hye
  have we := win_eq hyl (show o + n ≤ zs.length by omega) hyj
  have wk : win ys o n + d * val ds = win zs o n + cn * pw n := by
    rw [pw_add] at hye
    have p0 := pw_pos o
    have e1 : pw o * (win ys o n + d * val ds) = pw o * (win zs o n + cn * pw n) := by
      rw [Nat.mul_add, Nat.mul_add]
      have e2 : pw o * (d * val ds) = d * val ds * pw o := Nat.mul_comm _ _
      have e3 : pw o * (cn * pw n) = cn * (pw o * pw n) := by rw [← Nat.mul_assoc, Nat.mul_comm (pw o) cn, Nat.mul_assoc]
      omega
    exact Nat.eq_of_mul_eq_mul_left p0 e1
  have hg2 : w.grownBy w2 (some g) := grown_trans (grown_below B1.out) (grown_trans (grown_below (below_drewN _ _ _)) hyg)
  have WK := Lib.hid wk
  have HYR := Lib.hid hyr
  have HYL := Lib.hid hyl
  have HYO := Lib.hid hyo
  have HYJ := Lib.hid hyj
  have HG2 := Lib.hid hg2
  clear wk hyr hyl hyo hyj hye hyg we hg2
  rcases Nat.lt_or_ge t cn with hsm | hge
  · go_wp2_with fail
    refine (ab_any g o c ys ds B cb n _ HYR.out HYO.out HD.out (by have := HYL.out; omega) (by omega) (by have := HYL.out; omega) (Y.out.grown HG2.out NE.out) NE.out).mono ?_
    rintro e w3 ⟨rfl, cy, ks, hkr, hkl, hko, hkj, hke, hkg⟩
    rw [HD.out] at hkj hke
    rw [List.take_of_length_le (by have := HD.out; omega)] at hke
    have hkl' : ks.length = zs.length := by rw [hkl, HYL.out]
    have we := win_eq hkl (show o + n ≤ ys.length by have := HYL.out; omega) hkj
    have wk2 : win ks o n + cy * pw n = win ys o n + val ds := by
      rw [pw_add] at hke
      have p0 := pw_pos o
      have e1 : pw o * (win ks o n + cy * pw n) = pw o * (win ys o n + val ds) := by
        rw [Nat.mul_add, Nat.mul_add]
        have e2 : pw o * (cy * pw n) = cy * (pw o * pw n) := by rw [← Nat.mul_assoc, Nat.mul_comm (pw o) cy, Nat.mul_assoc]
        have e3 : pw o * val ds = val ds * pw o := Nat.mul_comm _ _
        omega
      exact Nat.eq_of_mul_eq_mul_left p0 e1
    obtain ⟨r1, r2⟩ := nd_back hW.out WK.out hq1 hq2 hsm HD0.out HDP.out (winn_lt HYO.out (by have := HYL.out; omega)) (winn_lt hko (by omega)) wk2
    have FIN : Hid (∀ v, v = Ending.returned (.int .u32 ((win zs o (n + 1) / val ds : Nat) : Int)) → NdPost w g o n zs (val ds) v w3) := by
      rintro v rfl
      refine ⟨ks, rfl, hkr, hkl', hko, fun j hj => ?_, r2, grown_trans HG2.out hkg⟩
      rw [hkj j hj]; exact HYJ.out j hj
    have R1' := Lib.hid r1
    have hd1 : 1 ≤ d := by rw [r1]; exact Nat.le_add_left 1 _
    clear hkr hkl hko hkj hke hkg hkl' we wk2 r2 r1
    go_wp2
    go_ret
    exact FIN.out _ (ret_int (by have h := R1'.out; generalize win zs o (n + 1) / val ds = q at *; omega))
  · obtain ⟨r1, r2⟩ := nd_right hW.out WK.out hq1 hge HD0.out HDP.out
    have FIN : Hid (NdPost w g o n zs (val ds) (.returned (.int .u32 (d : Int))) w2) := by
      rw [r1]
      exact ⟨ys, rfl, HYR.out, HYL.out, HYO.out, HYJ.out, r2, HG2.out⟩
    clear r1 r2
    go_wp2
    go_ret
    exact FIN.out
end Go.Proofs.YtfacndibfkamgaaGreat

/-
  Contract of natural.divideLong.
-/
namespace Go.Proofs.YtfacndibfkamgaaGreat
open Go.RowKit
set_option linter.unusedVariables false

theorem nd_n {g o c n m : Nat} {zs ds : List Nat} {B : Option Addr} {cb : Nat} {w : World} (hm1 : m = n + 1) (hr : Row w g zs) (hz : okl zs) (hon : o + n < zs.length) (hc : n + 1 ≤ c) (hcm : c ≤ 9223372036854775807) (hm : zs.length ≤ 70368744177664) (h' : Rd w B cb ds) (hd : ds.length = n)
    (hne : ∀ b' o', 0 < cb → B = some ⟨b', o', none⟩ → some b' ≠ some g) (h2 : 2 ≤ n) (hh : 2147483648 ≤ lim ds (n - 1)) (hlt : win zs o (n + 1) < val ds * 4294967296) :
    Calls Tryz.prog 174 #[.slice (some ⟨g, o, none⟩) m c, .slice B n cb] w (NdPost w g o n zs (val ds)) := by
  subst hm1; exact nd_any g o c n zs ds B cb w hr hz hon hc hcm hm h' hd hne h2 hh hlt

/-- The shift by the leading zeros of the highest limb. -/
theorem norm_facts {vs : List Nat} (hv : okl vs) {n : Nat} (hn : vs.length = n) (h2 : 2 ≤ n) (ht : lim vs (n - 1) ≠ 0) :
    32 - nbits (lim vs (n - 1)) < 32 ∧ val vs * 2 ^ (32 - nbits (lim vs (n - 1))) < pw n ∧ 2147483648 * pw (n - 1) ≤ val vs * 2 ^ (32 - nbits (lim vs (n - 1))) := by
  have e := val_take_succ (xs := vs) (k := n - 1) (by omega)
  rw [show n - 1 + 1 = n from by omega, List.take_of_length_le (by omega)] at e
  have hb := val_lt (okl_take hv (n - 1))
  rw [List.length_take, Nat.min_eq_left (by omega)] at hb
  have hl := lim_lt hv (n - 1)
  generalize lim vs (n - 1) = t at *
  generalize val (vs.take (n - 1)) = r at *
  have h1 := nbits_lt t
  have h2' := nbits_ge ht
  have h3 : nbits t ≠ 0 := fun h => ht (nbits_eq_zero.1 h)
  have h4 : nbits t ≤ 32 := nbits_le (by have : (2 : Nat) ^ 32 = 4294967296 := rfl; omega)
  have hp := pw_pos (n - 1)
  have e3 : pw n = 4294967296 * pw (n - 1) := by rw [← pw_succ]; congr 1; omega
  have e32 : (2 : Nat) ^ nbits t * 2 ^ (32 - nbits t) = 4294967296 := by rw [← Nat.pow_add, show nbits t + (32 - nbits t) = 32 from by omega]
  have e31 : (2 : Nat) ^ (nbits t - 1) * 2 ^ (32 - nbits t) = 2147483648 := by rw [← Nat.pow_add, show nbits t - 1 + (32 - nbits t) = 31 from by omega]
  refine ⟨by omega, ?_, ?_⟩
  · have h5 : val vs + 1 ≤ 2 ^ nbits t * pw (n - 1) := by
      have := Nat.mul_le_mul_right (pw (n - 1)) (show t + 1 ≤ 2 ^ nbits t from h1)
      rw [Nat.add_mul, Nat.one_mul] at this
      omega
    have h6 := Nat.mul_le_mul_right (2 ^ (32 - nbits t)) h5
    have h7 : 2 ^ nbits t * pw (n - 1) * 2 ^ (32 - nbits t) = pw n := by rw [e3, ← e32]; grind
    have h8 : 0 < 2 ^ (32 - nbits t) := Nat.pow_pos (by omega)
    rw [Nat.add_mul, Nat.one_mul, h7] at h6
    omega
  · have h5 : 2 ^ (nbits t - 1) * pw (n - 1) ≤ val vs := by
      have := Nat.mul_le_mul_right (pw (n - 1)) h2'
      omega
    have h6 := Nat.mul_le_mul_right (2 ^ (32 - nbits t)) h5
    have h7 : 2 ^ (nbits t - 1) * pw (n - 1) * 2 ^ (32 - nbits t) = 2147483648 * pw (n - 1) := by rw [← e31]; grind
    omega
/-- The highest limb of the shifted divisor. -/
theorem norm_top {ds : List Nat} (hd : okl ds) {n : Nat} (hn : ds.length = n) (h2 : 2 ≤ n) (h : 2147483648 * pw (n - 1) ≤ val ds) : 2147483648 ≤ lim ds (n - 1) := by
  have e := val_take_succ (xs := ds) (k := n - 1) (by omega)
  rw [show n - 1 + 1 = n from by omega, List.take_of_length_le (by omega)] at e
  have hb := val_lt (okl_take hd (n - 1))
  rw [List.length_take, Nat.min_eq_left (by omega)] at hb
  generalize lim ds (n - 1) = t at *
  have h1 : 2147483648 * pw (n - 1) < (t + 1) * pw (n - 1) := by rw [Nat.add_mul, Nat.one_mul]; omega
  have := Nat.lt_of_mul_lt_mul_right h1
  omega

/-- One step of long division: the window's digit. -/
theorem lg_step {zs ys qs : List Nat} {n at_ A D : Nat} (hz : okl zs) (hyl : ys.length = zs.length) (hon : at_ + n < zs.length) (hj : ∀ j, j < at_ ∨ at_ + n ≤ j → lim ys j = lim zs j)
    (hwin : win ys at_ n = win zs at_ (n + 1) % D) (hD : 0 < D) (hA : A = val qs * D + val (zs.take (at_ + 1 + n))) (hq : at_ < qs.length) (hq0 : lim qs at_ = 0) :
    A = val (qs.set at_ (win zs at_ (n + 1) / D)) * D + val (ys.take (at_ + n)) ∧ val (ys.take (at_ + n)) < D * pw at_ := by
  have split : ∀ (l : List Nat) k, at_ + k ≤ l.length → val (l.take (at_ + k)) = val (l.take at_) + pw at_ * win l at_ k := by
    intro l k hk
    have := win_split (l.take (at_ + k)) (o := at_) (n := k) (by rw [List.length_take]; omega)
    rw [this]
    have e1 : (l.take (at_ + k)).take at_ = l.take at_ := by rw [List.take_take, Nat.min_eq_left (by omega)]
    have e2 : win (l.take (at_ + k)) at_ k = win l at_ k := by
      unfold win
      rw [List.drop_take, List.take_take, show at_ + k - at_ = k from by omega, Nat.min_self]
    have e3 : (l.take (at_ + k)).drop (at_ + k) = [] := by
      apply List.drop_eq_nil_of_le
      rw [List.length_take]; omega
    rw [e1, e2, e3, val_nil]
    simp
  have s1 := split zs (n + 1) (by omega)
  have s2 := split ys n (by omega)
  rw [show at_ + (n + 1) = at_ + 1 + n from by omega] at s1
  have t : ys.take at_ = zs.take at_ := by
    apply lim_ext
    · simp [hyl]
    · intro i hi
      rw [List.length_take] at hi
      rw [lim_take (by omega), lim_take (by omega)]
      exact hj i (by omega)
  rw [t, hwin] at s2
  have hb := val_lt (okl_take hz at_)
  rw [List.length_take, Nat.min_eq_left (by omega)] at hb
  have hdm := Nat.div_add_mod (win zs at_ (n + 1)) D
  have hml := Nat.mod_lt (win zs at_ (n + 1)) hD
  have vs := val_set (zs := qs) (v := win zs at_ (n + 1) / D) hq
  rw [hq0] at vs
  generalize val (qs.set at_ (win zs at_ (n + 1) / D)) = Q' at *
  generalize win zs at_ (n + 1) / D = q at *
  generalize win zs at_ (n + 1) % D = r at *
  generalize win zs at_ (n + 1) = W at *
  generalize val (zs.take at_) = L at *
  generalize val qs = Q at *
  generalize pw at_ = P at *
  refine ⟨?_, ?_⟩
  · rw [hA, s1, s2]
    have : Q' = Q + q * P := by omega
    rw [this, ← hdm]
    grind
  · rw [s2]
    have h1 := Nat.mul_le_mul_left P (show r + 1 ≤ D from hml)
    rw [Nat.mul_add, Nat.mul_one] at h1
    rw [Nat.mul_comm D]
    omega
/-- The window is less than the divisor times 2^32. -/
theorem lg_win {zs : List Nat} {n at_ D : Nat} (hon : at_ + n < zs.length) (h : val (zs.take (at_ + 1 + n)) < D * pw (at_ + 1)) : win zs at_ (n + 1) < D * 4294967296 := by
  have := win_split (zs.take (at_ + 1 + n)) (o := at_) (n := n + 1) (by rw [List.length_take]; omega)
  have e2 : win (zs.take (at_ + 1 + n)) at_ (n + 1) = win zs at_ (n + 1) := by
    unfold win
    rw [List.drop_take, List.take_take, show at_ + 1 + n - at_ = n + 1 from by omega, Nat.min_self]
  rw [e2] at this
  rw [pw_succ] at h
  have h1 : pw at_ * win zs at_ (n + 1) < pw at_ * (D * 4294967296) := by
    have e3 : pw at_ * (D * 4294967296) = D * (4294967296 * pw at_) := by grind
    rw [e3]
    rw [Nat.mul_add] at this
    omega
  exact Nat.lt_of_mul_lt_mul_left h1
end Go.Proofs.YtfacndibfkamgaaGreat

/-
  The walk of natural.divideLong, and the whole contract of natural.DivMod.
-/
namespace Go.Proofs.YtfacndibfkamgaaGreat
open Go.RowKit
set_option linter.unusedVariables false

def LgInv (w : World) (gd gz gq : Nat) (ds : List Nat) (A n la m : Nat) (wr : World) : Prop :=
  ∃ zs qs, Row wr gz zs ∧ zs.length = la + 1 ∧ okl zs ∧ Row wr gq qs ∧ qs.length = la - n + 1 ∧ okl qs ∧ Row wr gd ds ∧ Below w.heap.size w wr ∧
    A = val qs * val ds + val (zs.take (m + n)) ∧ val (zs.take (m + n)) < val ds * pw m ∧ (∀ j, j < m → lim qs j = 0)
def DlgPost (w : World) (us vs : List Nat) (e : Ending) (w' : World) : Prop :=
  ∃ gq gr qs rs, e = .returned (.tuple #[.slice (some ⟨gq, 0, none⟩) (us.length - vs.length + 1) (us.length - vs.length + 1), .slice (some ⟨gr, 0, none⟩) vs.length vs.length]) ∧
    w.heap.size ≤ gq ∧ w.heap.size ≤ gr ∧ Row w' gq qs ∧ qs.length = us.length - vs.length + 1 ∧ okl qs ∧ val qs = val us / val vs ∧ Row w' gr rs ∧ rs.length = vs.length ∧ okl rs ∧ val rs = val us % val vs ∧ Below w.heap.size w w'

theorem su_zero {w w2 : World} {g n s c : Nat} {vs : List Nat} (hp : SuInv w g 0 (List.replicate n 0) vs s vs.length c w2) (hn : vs.length = n) (hlt : val vs * 2 ^ s < pw n) :
    ∃ ds, Row w2 g ds ∧ ds.length = n ∧ okl ds ∧ val ds = val vs * 2 ^ s ∧ w.grownBy w2 (some g) := by
  obtain ⟨ys, hr, hl, ho, hj, he, hg⟩ := hp
  rw [List.length_replicate] at hl
  rw [val_replicate, List.take_of_length_le (Nat.le_refl _), pw_zero, hn] at he
  have hc : c = 0 := by
    rcases Nat.eq_zero_or_pos c with h0 | h0
    · exact h0
    · have := Nat.le_mul_of_pos_left (pw n) h0
      rw [Nat.zero_add] at he
      omega
  subst hc
  exact ⟨ys, hr, hl, ho, by rw [Nat.zero_add] at he; omega, hg⟩

theorem lg_start {us : List Nat} {s n la V : Nat} (hu : okl us) (hla : us.length = la) (hn2 : 2 ≤ n) (hle : n ≤ la) (hs : s < 32) (hV : 2147483648 * pw (n - 1) ≤ V) : val us * 2 ^ s < V * pw (la - n + 1) := by
  have h1 := val_lt hu
  rw [hla] at h1
  have h2 : 2 ^ s ≤ 2147483648 := by
    have := Nat.pow_le_pow_right (n := 2) (by omega) (show s ≤ 31 by omega)
    have e : (2 : Nat) ^ 31 = 2147483648 := rfl
    omega
  have h3 : val us * 2 ^ s ≤ val us * 2147483648 := Nat.mul_le_mul_left _ h2
  have h4 := Nat.mul_le_mul_right (pw (la - n + 1)) hV
  rw [Nat.mul_assoc, ← pw_add, show n - 1 + (la - n + 1) = la from by omega] at h4
  omega
theorem lg_end {us vs : List Nat} {s Q R : Nat} (hA : val us * 2 ^ s = Q * (val vs * 2 ^ s) + R) (hlt : R < val vs * 2 ^ s) : Q = val us / val vs ∧ R / 2 ^ s = val us % val vs := by
  have hp : 0 < 2 ^ s := Nat.pow_pos (by omega)
  have hv : 0 < val vs := by
    rcases Nat.eq_zero_or_pos (val vs) with h0 | h0
    · rw [h0] at hlt; omega
    · exact h0
  have h1 : val us = Q * val vs + R / 2 ^ s := by
    have := congrArg (· / 2 ^ s) hA
    rw [Nat.mul_div_cancel _ hp, ← Nat.mul_assoc, Nat.mul_comm (Q * val vs), Nat.mul_add_div hp] at this
    exact this
  have h2 : R / 2 ^ s < val vs := by rw [Nat.div_lt_iff_lt_mul hp]; exact hlt
  refine ⟨?_, ?_⟩
  · rw [h1, Nat.mul_comm, Nat.mul_add_div hv, Nat.div_eq_of_lt h2]; omega
  · rw [h1, Nat.mul_comm, Nat.mul_add_mod, Nat.mod_eq_of_lt h2]

theorem su_n {n g o c m k : Nat} {zs vs : List Nat} {B : Option Addr} {cb : Nat} {w : World} (hvk : vs.length = k) (hr : Row w g zs) (hz : okl zs) (hmv : k ≤ m) (hon : o + m ≤ zs.length) (hc : m ≤ c) (hm : zs.length ≤ 70368744177664) (h' : Rd w B cb vs)
    (hne : ∀ b' o', 0 < cb → B = some ⟨b', o', none⟩ → some b' ≠ some g) (hn : n < 32) (h0 : ∀ j, o ≤ j → j < o + k → lim zs j = 0) :
    Calls Tryz.prog 173 #[.slice (some ⟨g, o, none⟩) m c, .slice B k cb, .int .i64 (n : Int)] w (SuPost w g o zs vs n) := by
  subst hvk; exact su_any g o c m n zs vs B cb w hr hz hmv hon hc hm h' hne hn h0
theorem sd_n {n g m c : Nat} {zs vs : List Nat} {B : Option Addr} {cb : Nat} {w : World} (hr : Row w g zs) (hz : okl zs) (hmv : vs.length = m) (hon : zs.length = m) (hc : m ≤ c) (hm : m ≤ 70368744177664) (h' : Rd w B cb vs)
    (hne : ∀ b' o', 0 < cb → B = some ⟨b', o', none⟩ → some b' ≠ some g) (hn : n < 32) :
    Calls Tryz.prog 175 #[.slice (some ⟨g, 0, none⟩) m c, .slice B m cb, .int .i64 (n : Int)] w (SdPost w g vs n m) :=
  sd_any g m c n zs vs B cb w hr hz hmv hon hc hm h' hne hn
/-- A slice that lies below block g. -/
theorem ne_of_lt {w : World} {A : Option Addr} {cap g : Nat} {xs : List Nat} (h : Rd w A cap xs) (hg : w.heap.size ≤ g) : ∀ b' o', 0 < cap → A = some ⟨b', o', none⟩ → some b' ≠ some g := by
  intro b' o' h0 hA e
  have := h.old b' o' h0 hA
  have e' : b' = g := by simpa using e
  omega
theorem ne_of_ne {b o g : Nat} {cap : Nat} (h : b ≠ g) : ∀ b' o', 0 < cap → some (⟨b, o, none⟩ : Addr) = some ⟨b', o', none⟩ → some b' ≠ some g := by
  intro b' o' _ hA e
  have e' : b' = g := by simpa using e
  have e2 : b = b' := by simpa using congrArg (fun a : Option Addr => a.map (·.block)) hA
  omega

set_option maxHeartbeats 8000000 in
theorem long_any (A B : Option Addr) (ca cb : Nat) (us vs : List Nat) (w : World) (h : Rd w A ca us) (h' : Rd w B cb vs) (h2 : 2 ≤ vs.length) (hle : vs.length ≤ us.length) (hn : us.length ≤ 70368744177663) (ht : lim vs (vs.length - 1) ≠ 0) :
    Calls Tryz.prog 142 #[.slice A us.length ca, .slice B vs.length cb] w (DlgPost w us vs) := by
  obtain ⟨n, hvn⟩ : ∃ n, n = vs.length := ⟨_, rfl⟩
  obtain ⟨la, hla⟩ : ∃ la, la = us.length := ⟨_, rfl⟩
  obtain ⟨f1, f2, f3⟩ := norm_facts h'.ok hvn.symm (by omega) (by rw [hvn]; exact ht)
  obtain ⟨b, o, rfl, hb, hc⟩ := h'.at_ (k := n - 1) (by omega)
  have c1 := hc (n - 1) (by omega)
  have l1 := lim_lt h'.ok (n - 1)
  have L := Lib.hid (fun w => lead32_any (lim vs (n - 1)) w l1)
  have hl1 := h.len
  have hl2 := h'.len
  have hm1 := h.capLe
  have hm2 := h'.capLe
  rw [← hvn] at h2 hle hl2 ht ⊢
  rw [← hla] at hle hn hl1 ⊢
  have X := Lib.hid h
  have Y := Lib.hid h'
  have HVN := Lib.hid hvn
  have HLA := Lib.hid hla
  clear h h' hc hvn hla ht
  generalize lim vs (n - 1) = t at *
  generalize 32 - nbits t = s at *
  have F2 := Lib.hid f2
  have F3 := Lib.hid f3
  clear f2 f3
  go_enter Tryz.func142, Tryz.ntmps142
  go_wp2_with fail
  refine (L.out _).mono ?_
  rintro e w' ⟨rfl, rfl⟩
  go_wp2_with (at_make; refine make_row rfl _ _ rfl _ _ n rfl rfl rfl rfl (by omega) ?_)
  intro w1 hrow hbel
  have R1 := Lib.hid hrow
  have B1 := Lib.hid hbel
  clear hrow hbel
  go_wp2_with fail
  refine (su_n HVN.out.symm R1.out (okl_replicate _) (Nat.le_refl _) (by simp) (Nat.le_refl _) (by simp; omega) (Y.out.below B1.out) (ne_of_lt Y.out (Nat.le_refl _)) f1 (fun j _ _ => lim_replicate _ _)).mono ?_
  rintro e w2 ⟨cc, rfl, _, _, inv⟩
  obtain ⟨ds, hdr, hdl, hdo, hdv, hdg⟩ := su_zero inv HVN.out.symm F2.out
  have B2 : Hid (Below w.heap.size w w2) := B1.out.trans (below_of_grown hdg (Nat.le_refl _) B1.out.size)
  have DR := Lib.hid hdr
  have DL := Lib.hid hdl
  have DO := Lib.hid hdo
  have DV := Lib.hid hdv
  clear inv hdr hdl hdo hdv hdg R1 B1
  go_wp2_with (at_make; refine make_row rfl _ _ rfl _ _ (la + 1) rfl rfl (by omega) (by omega) (by omega) ?_)
  intro w3 hrow hbel
  have ZR := Lib.hid hrow
  have B3 := Lib.hid hbel
  clear hrow hbel
  go_wp2_with fail
  refine (su_n HLA.out.symm ZR.out (okl_replicate _) (by omega) (by simp) (by omega) (by simp; omega) ((X.out.below B2.out).below B3.out) (ne_of_lt (X.out.below B2.out) (Nat.le_refl _)) f1 (fun j _ _ => lim_replicate _ _)).mono ?_
  rintro e w4 ⟨c2, rfl, hc2, _, inv⟩
  obtain ⟨yz, hzr, hzl, hzo, hzj, hze, hzg⟩ := inv
  rw [List.length_replicate] at hzl
  rw [val_replicate, List.take_of_length_le (Nat.le_refl _), pw_zero] at hze
  have hzj' := hzj us.length (by omega)
  rw [lim_replicate] at hzj'
  have hsz2 := B2.out.size
  have gdlt := DR.out.lt
  have ZV : Hid (val (yz.set la c2) = val us * 2 ^ s) := by
    show _ = _
    have e := val_set (zs := yz) (k := la) (v := c2) (by omega)
    rw [HLA.out, hzj'] at e
    rw [HLA.out]
    rw [Nat.zero_add] at hze
    omega
  have DR4 : Hid (Row w4 w.heap.size ds) := (DR.out.below B3.out gdlt).grown hzg (fun e => absurd (show w.heap.size = w2.heap.size by simpa using e) (by omega))
  have ZR4 := Lib.hid hzr
  have ZL4 := Lib.hid hzl
  have ZO4 := Lib.hid hzo
  have B4 : Hid (Below w.heap.size w w4) := B2.out.trans ((B3.out.mono hsz2).trans (below_of_grown hzg hsz2 (by have := B3.out.size; omega)))
  have hfz := hzr.frozen la
  have hcw := hzr.cell (i := la) (by omega)
  clear hzr hzl hzo hzj hze hzg hzj' DR ZR B3
  have hgz : w.heap.size < w2.heap.size := gdlt
  clear gdlt
  go_wp2_with (at_make; refine make_row rfl _ _ rfl _ _ (la - n + 1) rfl rfl (by omega) (by omega) (by omega) ?_)
  intro w5 hrow hbel
  have hfin : LgInv w w.heap.size w2.heap.size w4.heap.size ds (val us * 2 ^ s) n la (la - n + 1) w5 := by
    have zr5 := ZR4.out.set_ la c2
    have dr5 := DR4.out.far (p := ⟨w2.heap.size, la, none⟩) (by show w.heap.size ≠ w2.heap.size; omega) (.int .u32 (c2 : Int))
    have b5 := B4.out.setCell (p := ⟨w2.heap.size, la, none⟩) (by show w.heap.size ≤ w2.heap.size; omega) (.int .u32 (c2 : Int))
    have full : (yz.set la c2).take (la - n + 1 + n) = yz.set la c2 := List.take_of_length_le (by rw [List.length_set]; have := ZL4.out; omega)
    refine ⟨yz.set la c2, List.replicate (la - n + 1) 0, zr5.below hbel (by simpa using zr5.lt), by simpa using ZL4.out, okl_set ZO4.out hc2 _, by simpa using hrow, by simp, okl_replicate _, dr5.below hbel (by simpa using dr5.lt), b5.trans (hbel.mono (by have := b5.size; simpa using this)), ?_, ?_, fun j _ => lim_replicate _ _⟩
    · rw [val_replicate, full, ZV.out]; omega
    · rw [full, ZV.out, DV.out]
      exact lg_start X.out.ok HLA.out.symm (by omega) hle f1 F3.out
  have FI := Lib.hid hfin
  have hgq : w2.heap.size < w4.heap.size := ZR4.out.lt
  clear hfin hrow hbel ZV DR4 ZR4 ZL4 ZO4 B4 hfz hcw
  generalize hgd : w.heap.size = gd at *
  generalize hgz' : w2.heap.size = gz at *
  generalize hgq' : w4.heap.size = gq at *
  go_wp2
  go_loopw [47] (fun i wr => ∃ k : Nat, k ≤ la - n + 1 ∧ i = .int .i64 k ∧ LgInv w gd gz gq ds (val us * 2 ^ s) n la (la - n + 1 - k) wr) (fun i _ => la - n + 1 - (intOf i).toNat)
  case atStart => exact ⟨0, Nat.zero_le _, rfl, FI.out⟩
  case round =>
    obtain ⟨k, hk, rfl, inv⟩ := hrel
    obtain ⟨zs, qs, hzr, hzl, hzo, hqr, hql, hqo, hdr, hbel, hA, hlt', hq0⟩ := inv
    by_cases hlt : k < la - n + 1
    · obtain ⟨at_, hat⟩ : ∃ at_, at_ = la - n - k := ⟨_, rfl⟩
      have ek : la - n + 1 - k = at_ + 1 := by omega
      rw [ek] at hA hlt' hq0
      have hon : at_ + n < zs.length := by omega
      have hw := lg_win hon hlt'
      have dtop := norm_top DO.out DL.out h2 (by rw [DV.out]; exact F3.out)
      have N := Lib.hid (fun (w' : World) (hr : Row w' gz zs) (hd : Rd w' (some ⟨gd, 0, none⟩) n ds) m hm => nd_n (m := m) (c := la + 1 - at_) hm hr hzo hon (by omega) (by omega) (by omega) hd DL.out (ne_of_ne (by omega)) h2 dtop hw)
      have hD0 : 0 < val ds := by
        rcases Nat.eq_zero_or_pos (val ds) with h0 | h0
        · rw [h0] at hlt'; omega
        · exact h0
      have HA := Lib.hid hA
      have HQ0 := Lib.hid hq0
      have HZ := Lib.hid hzr
      have HZL := Lib.hid hzl
      have HZO := Lib.hid hzo
      have HQ := Lib.hid hqr
      have HQL := Lib.hid hql
      have HQO := Lib.hid hqo
      have HDR := Lib.hid hdr
      have HB := Lib.hid hbel
      have HON := Lib.hid hon
      have HW := Lib.hid hw
      have HD0 := Lib.hid hD0
      have HEK := Lib.hid ek
      have hat1 : at_ + n ≤ la := by omega
      subst hat
      clear hA hq0 hzr hzl hzo hqr hql hqo hdr hbel hon hw hD0 dtop hlt' ek
      go_wp2_with fail
      refine (N.out wr HZ.out (rd_row HDR.out DO.out DL.out (by omega)) _ (by omega)).mono ?_
      rintro e w6 ⟨ys, rfl, hyr, hyl, hyo, hyj, hyw, hyg⟩
      have QR6 := HQ.out.grown hyg (fun e => absurd (show gq = gz by simpa using e) (by omega))
      have DR6 := HDR.out.grown hyg (fun e => absurd (show gd = gz by simpa using e) (by omega))
      have hfz := QR6.frozen (la - n - k)
      have hcw := QR6.cell (i := la - n - k) (by have := HQL.out; omega)
      obtain ⟨st1, st2⟩ := lg_step (qs := qs) HZO.out hyl HON.out hyj hyw HD0.out HA.out (by have := HQL.out; omega) (HQ0.out _ (by omega))
      have q32 : win zs (la - n - k) (n + 1) / val ds < 4294967296 := by
        rw [Nat.div_lt_iff_lt_mul HD0.out, Nat.mul_comm]; exact HW.out
      have NX : Hid (LgInv w gd gz gq ds (val us * 2 ^ s) n la (la - n + 1 - (k + 1)) (w6.setCell ⟨gq, la - n - k, none⟩ (.int .u32 ((win zs (la - n - k) (n + 1) / val ds : Nat) : Int)))) := by
        have ek : la - n + 1 - (k + 1) = la - n - k := by omega
        rw [ek]
        refine ⟨ys, qs.set (la - n - k) (win zs (la - n - k) (n + 1) / val ds), hyr.far (by show gz ≠ gq; omega) _, by rw [hyl]; exact HZL.out, hyo, QR6.set_ _ _, by simpa using HQL.out, okl_set HQO.out q32 _, DR6.far (by show gd ≠ gq; omega) _, ?_, st1, st2, ?_⟩
        · exact (HB.out.trans (below_of_grown hyg (by omega) HB.out.size)).setCell (by show w.heap.size ≤ gq; omega) _
        · intro j hj
          rw [lim_set_other (by omega)]
          exact HQ0.out j (by omega)
      clear hyr hyl hyo hyj hyw hyg QR6 DR6 st1 st2
      generalize win zs (la - n - k) (n + 1) / val ds = qd at *
      go_wp2
      go_roundw
      case rel => exact ⟨k + 1, by omega, by go_num, NX.out⟩
      case measure => simp [intOf]; omega
    · obtain rfl : k = la - n + 1 := by omega
      rw [Nat.sub_self, Nat.zero_add, pw_zero, Nat.mul_one] at *
      rw [DV.out] at hA hlt'
      obtain ⟨e1, e2⟩ := lg_end hA hlt'
      have HE1 := Lib.hid e1
      have HE2 := Lib.hid e2
      have HZ := Lib.hid hzr
      have HZL := Lib.hid hzl
      have HZO := Lib.hid hzo
      have HQ := Lib.hid hqr
      have HQL := Lib.hid hql
      have HQO := Lib.hid hqo
      have HB := Lib.hid hbel
      clear hA hq0 hzr hzl hzo hqr hql hqo hdr hbel hlt' e1 e2
      go_wp2_with (at_make; refine make_row rfl _ _ rfl _ _ n rfl rfl rfl rfl (by omega) ?_)
      intro w7 hrow hbel
      have RR := Lib.hid hrow
      have B7 := Lib.hid hbel
      clear hrow hbel
      go_wp2_with fail
      have Z7 := HZ.out.below B7.out HZ.out.lt
      have zlt := HZ.out.lt
      have qlt := HQ.out.lt
      obtain ⟨zrd, zlen⟩ := rd_win (o := 0) (n := n) (c := la + 1) Z7 HZO.out (by have := HZL.out; omega) (by omega) (by omega)
      refine (sd_n RR.out (okl_replicate _) zlen (by simp) (Nat.le_refl _) (by omega) zrd (ne_of_ne (by omega)) f1).mono ?_
      rintro e w8 ⟨rfl, rs, hr, hrl, hro, hrv, hrg⟩
      have FIN : Hid (DlgPost w us vs (.returned (.tuple #[.slice (some ⟨gq, 0, none⟩) (la - n + 1) (la - n + 1), .slice (some ⟨wr.heap.size, 0, none⟩) n n])) w8) := by
        have hv : val rs = val us % val vs := by
          rw [List.take_of_length_le (by omega), List.drop_zero] at hrv
          rw [hrv, HE2.out]
          apply Nat.mod_eq_of_lt
          have h1 := val_lt Y.out.ok
          have h2 : 0 < val vs := by
            rcases Nat.eq_zero_or_pos (val vs) with h0 | h0
            · have := F3.out
              rw [h0, Nat.zero_mul] at this
              have := pw_pos (n - 1)
              omega
            · exact h0
          have h3 := Nat.mod_lt (val us) h2
          have h4 := HVN.out
          rw [← h4] at h1
          omega
        refine ⟨gq, wr.heap.size, qs, rs, by rw [← HLA.out, ← HVN.out], by omega, HB.out.size, ?_, by rw [← HLA.out, ← HVN.out]; exact HQL.out, HQO.out, HE1.out, hr, by rw [← HVN.out]; exact hrl, hro, hv, ?_⟩
        · exact (HQ.out.below B7.out qlt).grown hrg (fun e => absurd (show gq = wr.heap.size by simpa using e) (by omega))
        · have s1 := HB.out.size
          exact HB.out.trans ((B7.out.mono s1).trans (below_of_grown hrg s1 (by have := B7.out.size; omega)))
      clear hr hrl hro hrv hrg Z7 zrd zlen zlt qlt
      go_wp2
      go_ret2
      exact FIN.out
end Go.Proofs.YtfacndibfkamgaaGreat

/-
  The whole contract of natural.DivMod.
-/
namespace Go.Proofs.YtfacndibfkamgaaGreat
open Go.RowKit
set_option linter.unusedVariables false

set_option maxHeartbeats 1000000 in
theorem dm_long (A B : Option Addr) (ca cb : Nat) (xs ys : List Nat) (w : World) (h : Rd w A ca xs) (h' : Rd w B cb ys) (hn : xs.length ≤ 70368744177663) (h1 : 2 ≤ (ofv (val ys)).length) (hle : (ofv (val ys)).length ≤ (ofv (val xs)).length) (h2 : 2 < (ofv (val xs)).length) :
    Calls Tryz.prog 104 #[.slice A xs.length ca, .slice B ys.length cb] w (Gives2 w (val xs / val ys) (val xs % val ys)) := by
  have S1 := Lib.hid (sig_any A ca xs w h)
  have S2 := Lib.hid (sig_any B cb ys w h')
  have hc := h.capLe
  have hc' := h'.capLe
  have hn1 : (ofv (val xs)).length ≤ 70368744177663 := by have := len_ofv_le h.ok; omega
  have hy0 : val ys ≠ 0 := fun e => by rw [e, ofv_zero] at h1; simp at h1
  have L := long_any A B ca cb _ _ w h.sig h'.sig h1 hle hn1 (ofv_last hy0)
  have V1 := Lib.hid (val_ofv (val xs))
  have V2 := Lib.hid (val_ofv (val ys))
  have l1 := h.sig.len
  have l2 := h'.sig.len
  have HL := Lib.hid L
  clear h h' L hy0
  generalize val xs = va at *
  generalize val ys = vb at *
  generalize hu : ofv va = us at *
  generalize hv : ofv vb = vs at *
  have HU := Lib.hid hu
  have HV := Lib.hid hv
  clear hu hv
  go_enter Tryz.func104, Tryz.ntmps104
  go_wp2_with fail
  refine S1.out.mono ?_
  rintro e w' ⟨rfl, rfl⟩
  go_wp2_with fail
  refine S2.out.mono ?_
  rintro e w' ⟨rfl, rfl⟩
  go_wp2_with fail
  refine HL.out.mono ?_
  rintro e w1 ⟨g, g', zs, rs, rfl, hg, hg', hr1, hzl, hzo, hzv, hr2, hrl, hro, hrv, hb⟩
  rw [V1.out, V2.out] at hzv hrv
  have ow1 := Own.of_row (lo := w.heap.size) hr1 hzo hg (by omega)
  have ow2 := Own.of_row (lo := w.heap.size) hr2 hro hg' (by omega)
  rw [hzl] at ow1
  rw [hrl] at ow2
  have T1 := Lib.hid (sig_n ow1.rd hzl)
  have T2 := Lib.hid (sig_n ow2.rd hrl)
  have FIN : Hid (Gives2 w (va / vb) (va % vb) (.returned (.tuple #[.slice (some ⟨g, 0, none⟩) (ofv (val zs)).length (us.length - vs.length + 1), .slice (some ⟨g', 0, none⟩) (ofv (val rs)).length vs.length, .bool true])) w1) := by
    have p1 := ow1.sig
    have p2 := ow2.sig
    rw [hzv] at p1 ⊢
    rw [hrv] at p2 ⊢
    exact ⟨_, _, _, _, rfl, p1, p2, hb⟩
  clear hr1 hzl hzo hzv hr2 hrl hro hrv hb ow1 ow2
  go_wp2_with fail
  refine T1.out.mono ?_
  rintro e w' ⟨rfl, rfl⟩
  go_wp2_with fail
  refine T2.out.mono ?_
  rintro e w' ⟨rfl, rfl⟩
  go_wp2
  go_ret3
  exact FIN.out

theorem dm_any (A B : Option Addr) (ca cb : Nat) (xs ys : List Nat) (w : World) (h : Rd w A ca xs) (h' : Rd w B cb ys) (hn : xs.length ≤ 70368744177663) (hv : 0 < val ys) :
    Calls Tryz.prog 104 #[.slice A xs.length ca, .slice B ys.length cb] w (Gives2 w (val xs / val ys) (val xs % val ys)) := by
  have hp := len_pos hv
  rcases Nat.lt_or_ge (ofv (val xs)).length (ofv (val ys)).length with h1 | h1
  · exact dm_less A B ca cb xs ys w h h' hn hv h1
  · rcases Nat.lt_or_ge 2 (ofv (val xs)).length with h2 | h2
    · rcases Nat.lt_or_ge (ofv (val ys)).length 2 with h3 | h3
      · exact dm_limb A B ca cb xs ys w h h' hn (by omega) h2
      · exact dm_long A B ca cb xs ys w h h' hn h3 h1 h2
    · exact dm_short A B ca cb xs ys w h h' hv h1 h2
theorem dm_n {A B : Option Addr} {ca cb n m : Nat} {xs ys : List Nat} {w : World} (h : Rd w A ca xs) (h' : Rd w B cb ys) (hn : xs.length = n) (hm : ys.length = m) (hl : n ≤ 70368744177663) (hv : 0 < val ys) :
    Calls Tryz.prog 104 #[.slice A n ca, .slice B m cb] w (Gives2 w (val xs / val ys) (val xs % val ys)) := by
  subst hn hm; exact dm_any A B ca cb xs ys w h h' hl hv
end Go.Proofs.YtfacndibfkamgaaGreat
