/-
  Contract of natural.estimateDigit.
-/
import Derived.Test.YtmmlfmjelhninaaShifts
import Derived.Test.YtmmlfmjelhninaaKnuth
namespace Go.Proofs.Ytmmlfmjelhninaa
open Go.RowKit
set_option linter.unusedVariables false

/-- The digit, or one more. -/
def EsPost (w : World) (q : Nat) (e : Ending) (w' : World) : Prop :=
  ∃ d, e = .returned (.int .u32 ((d : Nat) : Int)) ∧ q ≤ d ∧ d ≤ q + 1 ∧ d < 4294967296 ∧ ∃ n, w' = w.drewN n

set_option maxHeartbeats 4000000 in
theorem es_any (A B : Option Addr) (ca cb n : Nat) (rs ds : List Nat) (w : World) (h : Rd w A ca rs) (h' : Rd w B cb ds) (hr : rs.length = n + 1) (hd : ds.length = n) (h2 : 2 ≤ n) (hh : 2147483648 ≤ lim ds (n - 1)) (hlt : val rs < val ds * 4294967296) :
    Calls Try.prog 62 #[.slice A (n + 1) ca, .slice B n cb] w (EsPost w (val rs / val ds)) := by
  obtain ⟨rl, hR, hrl⟩ := val_lead3 h.ok hr h2
  obtain ⟨dl, hD, hdl⟩ := val_lead h'.ok hd h2
  have b1 := lim_lt h.ok n
  have b2 := lim_lt h.ok (n - 1)
  have b3 := lim_lt h.ok (n - 2)
  have b4 := lim_lt h'.ok (n - 1)
  have b5 := lim_lt h'.ok (n - 2)
  have hP := pw_pos (n - 2)
  obtain ⟨b, o, rfl, _, hc⟩ := h.at_ (k := 0) (by omega)
  obtain ⟨b', o', rfl, _, hc'⟩ := h'.at_ (k := 0) (by omega)
  have c1 := hc n (by omega)
  have c2 := hc (n - 1) (by omega)
  have c3 := hc (n - 2) (by omega)
  have c4 := hc' (n - 1) (by omega)
  have c5 := hc' (n - 2) (by omega)
  have hl1 : n + 1 ≤ ca := by have := h.len; omega
  have hl2 : n ≤ cb := by have := h'.len; omega
  have hm1 := h.capLe
  have hm2 := h'.capLe
  clear h h' hc hc' hr hd
  generalize lim rs n = u1 at *
  generalize lim rs (n - 1) = u0 at *
  generalize lim rs (n - 2) = r2 at *
  generalize lim ds (n - 1) = high at *
  generalize lim ds (n - 2) = next at *
  generalize val rs = R at *
  generalize val ds = D at *
  generalize pw (n - 2) = P at *
  have F1 := Lib.hid (es_first hD hR hP b5 hdl b3 hrl hh hlt)
  have F2 := Lib.hid (fun dg lf hi hgt hq => @es_down D R P high next dl (u1 * 4294967296 + u0) r2 rl hD hR hP hrl dg lf hi hgt hq)
  have F3 := Lib.hid (fun dg lf hi hle hdg => @es_exit D R P high next dl (u1 * 4294967296 + u0) r2 rl hD hR hP hdl (by omega) dg lf hi hle hdg)
  have F4 := Lib.hid (fun dg lf hi hlf hdg => @es_break D R P high next dl (u1 * 4294967296 + u0) r2 rl hD hR hP b5 hdl (by omega) dg lf hi hlf hdg)
  clear hR hrl hD hdl hlt hP
  generalize R / D = q at *
  have eor := or64' b2 b1
  have etop : u0 + 4294967296 * u1 = u1 * 4294967296 + u0 := by omega
  rw [etop] at eor
  have bt : u1 * 4294967296 + u0 ≤ 18446744073709551615 := by omega
  clear etop
  have hdm := Nat.div_add_mod (u1 * 4294967296 + u0) high
  have hml := Nat.mod_lt (u1 * 4294967296 + u0) (show 0 < high by omega)
  generalize htop : u1 * 4294967296 + u0 = top at *
  have HT := Lib.hid htop
  clear htop
  have G1 : Hid (IntKind.u64.wrap ((top : Int) / (high : Int)) = ((top / high : Nat) : Int)) := by
    show _ = _
    have hq : top / high ≤ top := Nat.div_le_self _ _
    rw [IntKind.wrap_u64, ← Int.natCast_ediv]
    generalize top / high = q at *
    omega
  have G2 : Hid ((top : Int).tmod (high : Int) = ((top % high : Nat) : Int)) := by
    show _ = _
    rw [Int.tmod_eq_emod_of_nonneg (by omega)]; simp
  have G3 : Hid ((top : Int) % (high : Int) = ((top % high : Nat) : Int)) := by
    show _ = _
    simp
  have F1a := F1.out.1
  have F1b := F1.out.2.1
  have F1c := F1.out.2.2
  clear F1
  generalize top / high = d0 at *
  generalize top % high = l0 at *
  have HDM : Hid (d0 * high + l0 = top) := by show _ = _; rw [Nat.mul_comm]; exact hdm
  clear hdm
  go_enter Try.func62, Try.ntmps62
  go_wp2
  go_quiet (fail)
  go_wp2
  go_quiet (fail)
  go_wp2
  go_quiet (fail)
  go_wp2
  rw [G1.out, G3.out]
  clear G1 G2 G3
  generalize hW : ((w.drewN _).drewN _).drewN _ = w3
  have HQ : Hid (∃ q, w3 = w.drewN q) := by subst hW; exact drew_on (drew_on ⟨_, rfl⟩ ⟨_, rfl⟩) ⟨_, rfl⟩
  have c3' : w3.cell? ⟨b, o + (n - 2), none⟩ = some (.int .u32 (r2 : Int)) := by subst hW; exact c3
  clear hW c1 c2 c3 c4 c5 eor
  go_loop [9, 10] (fun a b => ∃ dg lf : Nat, a = .int .u64 dg ∧ b = .int .u64 lf ∧ Hid (dg * high + lf = top) ∧ q ≤ dg ∧ lf ≤ 4294967295 ∧ dg ≤ 4294967297) (fun a _ => (intOf a).toNat)
  case atStart => exact ⟨d0, l0, rfl, rfl, HDM.out, F1a, by omega, F1b⟩
  case round =>
    clear HDM F1a F1b hml
    obtain ⟨dg, lf, rfl, rfl, hi, hq, hlf, hdg⟩ := hrel
    have hmul : dg * high = (dg - 1) * high + high ∨ dg = 0 := by
      rcases Nat.eq_zero_or_pos dg with h0 | h0
      · exact .inr h0
      · left
        conv => lhs; rw [show dg = (dg - 1) + 1 from by omega]
        rw [Nat.add_mul, Nat.one_mul]
    rcases Nat.lt_or_ge dg 4294967296 with hsm | hbig
    · have hb : ((dg : Int) / 4294967296 != 0) = false := by
        have : (dg : Int) / 4294967296 = 0 := by omega
        rw [this]; rfl
      have hp : dg * next ≤ 18446744065119617025 := mul_lt hsm b5
      have hpe : (dg : Int) * (next : Int) = ((dg * next : Nat) : Int) := by simp
      have eor := or64' b3 (show lf < 4294967296 by omega)
      rcases Nat.lt_or_ge (r2 + 4294967296 * lf) (dg * next) with hgt | hle
      · have hq' := F2.out dg lf hi.out (by omega) hq
        have hdp : 1 ≤ dg := by
          rcases Nat.eq_zero_or_pos dg with h0 | h0
          · rw [h0] at hgt; simp at hgt
          · exact h0
        have hi' : Hid ((dg - 1) * high + (lf + high) = top) := by
          have := hi.out
          show _ = _
          omega
        have hpos : dg * next ≤ 18446744065119617025 := hp
        clear hmul
        generalize dg * next = p at *
        rcases Nat.lt_or_ge (lf + high) 4294967296 with hsm2 | hbig2
        · have hb2 : (((lf : Int) + (high : Int)) / 4294967296 != 0) = false := by
            have : ((lf : Int) + (high : Int)) / 4294967296 = 0 := by omega
            rw [this]; rfl
          go_wp2
          go_round
          case rel => exact ⟨dg - 1, lf + high, by first | rfl | (congr 1; omega), by first | rfl | (congr 1; omega), hi', hq', by omega, by omega⟩
          case measure => simp [intOf]; omega
        · have hb2 : (((lf : Int) + (high : Int)) / 4294967296 != 0) = true := by
            rw [bne_iff_ne]; omega
          have F := F4.out (dg - 1) (lf + high) hi'.out hbig2 (by omega)
          have FIN : Hid (∀ v, v = Ending.returned (.int .u32 ((dg - 1 : Nat) : Int)) → EsPost w q v w3) := by
            rintro v rfl
            exact ⟨dg - 1, rfl, hq', by omega, by omega, HQ.out⟩
          go_wp2
          go_ret
          exact FIN.out _ (ret_int (by omega))
      · have F := F3.out dg lf hi.out (by omega) (by omega)
        have FIN : Hid (∀ v, v = Ending.returned (.int .u32 ((dg : Nat) : Int)) → EsPost w q v w3) := by
          rintro v rfl
          exact ⟨dg, rfl, hq, by omega, by omega, HQ.out⟩
        clear hmul
        generalize dg * next = p at *
        go_wp2
        go_ret
        exact FIN.out _ (ret_int (by omega))
    · have hb : ((dg : Int) / 4294967296 != 0) = true := by rw [bne_iff_ne]; omega
      have hi' : Hid ((dg - 1) * high + (lf + high) = top) := by
        have := hi.out
        show _ = _
        omega
      have hq' : q ≤ dg - 1 := by omega
      clear hmul
      rcases Nat.lt_or_ge (lf + high) 4294967296 with hsm2 | hbig2
      · have hb2 : (((lf : Int) + (high : Int)) / 4294967296 != 0) = false := by
          have : ((lf : Int) + (high : Int)) / 4294967296 = 0 := by omega
          rw [this]; rfl
        go_wp2
        go_round
        case rel => exact ⟨dg - 1, lf + high, by first | rfl | (congr 1; omega), by first | rfl | (congr 1; omega), hi', hq', by omega, by omega⟩
        case measure => simp [intOf]; omega
      · have hb2 : (((lf : Int) + (high : Int)) / 4294967296 != 0) = true := by
          rw [bne_iff_ne]; omega
        have F := F4.out (dg - 1) (lf + high) hi'.out hbig2 (by omega)
        have FIN : Hid (∀ v, v = Ending.returned (.int .u32 ((dg - 1 : Nat) : Int)) → EsPost w q v w3) := by
          rintro v rfl
          exact ⟨dg - 1, rfl, hq', by omega, by omega, HQ.out⟩
        go_wp2
        go_ret
        exact FIN.out _ (ret_int (by omega))
end Go.Proofs.Ytmmlfmjelhninaa
