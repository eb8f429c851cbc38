/-
  Contract of the reference's ShiftRight.
-/
import Derived.Test.YtmmlfmjelhninaaRshift
namespace Go.Proofs.Ytmmlfmjelhninaa
open Go.RowKit
set_option linter.unusedVariables false

/-- The lowest k binary digits of V have been set. -/
def BsInv (w : World) (g m V k : Nat) (wr : World) : Prop :=
  ∃ zs, Row wr g zs ∧ zs.length = m ∧ okl zs ∧ val zs = V % 2 ^ k ∧ Below w.heap.size w wr

theorem bs_zero {w wr : World} {g m V k : Nat} (h : BsInv w g m V k wr) (hb : bitOf V k = 0) : BsInv w g m V (k + 1) wr := by
  obtain ⟨zs, h1, h2, h3, h4, h5⟩ := h
  exact ⟨zs, h1, h2, h3, by rw [mod_two_pow_succ, hb, h4]; omega, h5⟩
theorem bs_one {w wr : World} {g m V k : Nat} {zs : List Nat} (h1 : Row wr g zs) (h2 : zs.length = m) (h3 : okl zs) (h4 : val zs = V % 2 ^ k) (h5 : Below w.heap.size w wr) (hg : w.heap.size ≤ g) (hk : k / 32 < m) (hb : bitOf V k = 1) (z : Int) (hz : z = ((lim zs (k / 32) ||| 2 ^ (k % 32) : Nat) : Int)) :
    BsInv w g m V (k + 1) (wr.setCell ⟨g, k / 32, none⟩ (.int .u32 z)) := by
  subst hz
  have hlt : val zs < 2 ^ k := by rw [h4]; exact Nat.mod_lt _ (Nat.pow_pos (by omega))
  obtain ⟨s1, s2⟩ := set_bit h3 (i := k) (by omega) (bitOf_small hlt)
  exact ⟨_, h1.set_ _ _, by rw [List.length_set]; exact h2, okl_set h3 s1 _, by rw [s2, mod_two_pow_succ, hb, h4]; omega, h5.setCell hg _⟩

set_option maxHeartbeats 4000000 in
theorem rshr_yes (A : Option Addr) (cap : Nat) (xs : List Nat) (w : World) (n : Nat) (h : Rd w A cap xs) (hn : n ≤ 9223372036854775807) (hl : xs.length ≤ 35184372089900) :
    Calls Try.prog 35 #[.slice A xs.length cap, .int .i64 (n : Int)] w (GivesT w (val xs / 2 ^ n)) := by
  have S1 := Lib.hid (rtrim_any A cap xs w h (by omega))
  have hc := h.capLe
  have hle := len_ofv_le h.ok
  have hm : (ofv (val xs)).length ≤ 35184372089900 := by omega
  have HV := Lib.hid (val_ofv (val xs))
  have E2 := Lib.hid (two_pow_split n)
  have HL := Lib.hid (lt_pw_len (val xs))
  have OK := Lib.hid (okl_ofv (val xs))
  clear h hle
  generalize val xs = v at *
  generalize hu : ofv v = us at *
  have HU := Lib.hid hu
  clear hu
  rcases Nat.lt_or_ge (n / 32) us.length with hlt | hge
  · have V1 : Hid (val (us.drop (n / 32)) / 2 ^ (n % 32) = v / 2 ^ n) := by
      show _ = _
      rw [E2.out, ← Nat.div_div_eq_div_mul, ← HV.out, val_div_pw OK.out]
    go_enter Try.func35, Try.ntmps35
    go_wp2_with fail
    refine S1.out.mono ?_
    rintro e w1 ⟨R, c, rfl, ho, hb⟩
    rw [HU.out] at ho ⊢
    have HB := Lib.hid hb
    have rd := ho.rd
    obtain ⟨b, o, rfl, _, _⟩ := rd.at_ hlt
    have hcl := rd.len
    have hcl2 := rd.capLe
    have Y := Lib.hid (rd.drop (m := n / 32) (by omega))
    clear ho hb rd
    go_wp2_with (at_make; refine make_row rfl _ _ rfl _ _ (us.length - n / 32) rfl rfl (by omega) (by omega) (by omega) ?_)
    intro w2 hrow hbel
    have HB2 : Hid (Below w.heap.size w w2) := HB.out.trans (hbel.mono HB.out.size)
    have hsz := HB.out.size
    have hg2 : w1.heap.size < w2.heap.size := hrow.lt
    have Y2 := Lib.hid (Y.out.below hbel)
    have HR := Lib.hid hrow
    have HBL := Lib.hid hbel
    clear hrow hbel
    have VB : Hid (v / 2 ^ n < 2 ^ (32 * (us.length - n / 32))) := by
      show _ < _
      rw [← V1.out, two_pow_32]
      have b1 := val_lt (okl_drop OK.out (n / 32))
      rw [List.length_drop] at b1
      exact Nat.lt_of_le_of_lt (Nat.div_le_self _ _) b1
    go_wp2
    go_loopw [7] (fun i wr => ∃ k : Nat, k ≤ 32 * (us.length - n / 32) ∧ i = .int .i64 k ∧ BsInv w w1.heap.size (us.length - n / 32) (v / 2 ^ n) k wr ∧ Hid (w2.grownBy wr (some w1.heap.size))) (fun i _ => 32 * (us.length - n / 32) - (intOf i).toNat)
    case atStart => exact ⟨0, Nat.zero_le _, rfl, ⟨_, HR.out, by simp, okl_replicate _, by rw [val_replicate, Nat.pow_zero, Nat.mod_one], HB2.out⟩, World.grownBy.refl _ _⟩
    case round =>
      obtain ⟨k, hk, rfl, inv, hgr⟩ := hrel
      by_cases hk2 : k < 32 * (us.length - n / 32)
      · have Y3 := Lib.hid (Y2.out.grown hgr.out (fun b' o' h0 hA e => by
          have e1 : b = b' := by simpa using congrArg (fun a : Option Addr => a.map (·.block)) hA
          have e2 : b' = w1.heap.size := by simpa using e
          have := Y.out.old b (o + n / 32) (by omega) rfl
          omega))
        have hbits : bitOf (val (us.drop (n / 32))) (k + n % 32) = bitOf (v / 2 ^ n) k := by rw [bitOf_shift, V1.out]
        have BL := Lib.hid (bitOf_lt (v / 2 ^ n) k)
        have HBITS := Lib.hid hbits
        obtain ⟨zs, hzr, hzl, hzo, hzv, hzb⟩ := inv
        have ZR := Lib.hid hzr
        have ZL := Lib.hid hzl
        have ZO := Lib.hid hzo
        have ZV := Lib.hid hzv
        have ZB := Lib.hid hzb
        have hfz := hzr.frozen (k / 32)
        have hcw := hzr.cell (i := k / 32) (by omega)
        have lz := lim_lt hzo (k / 32)
        clear hbits hzr hzl hzo hzv hzb
        rcases (show bitOf (v / 2 ^ n) k = 0 ∨ bitOf (v / 2 ^ n) k = 1 by have := BL.out; omega) with h0 | h1
        · have NX : Hid (BsInv w w1.heap.size (us.length - n / 32) (v / 2 ^ n) (k + 1) wr) := bs_zero ⟨zs, ZR.out, ZL.out, ZO.out, ZV.out, ZB.out⟩ h0
          have H0 := Lib.hid h0
          clear h0
          go_wp2_with fail
          refine (bit_e Y3.out (by simp) (k + n % 32) (by omega) (by omega)).mono ?_
          rw [HBITS.out, H0.out]
          rintro e w' ⟨rfl, rfl⟩
          go_wp2
          go_roundw
          case rel => exact ⟨k + 1, by omega, by go_num, NX.out, hgr⟩
          case measure => simp [intOf]; omega
        · have st := bs_one ZR.out ZL.out ZO.out ZV.out ZB.out (by omega) (show k / 32 < us.length - n / 32 by omega) h1
          have ST := Lib.hid st
          have H1 := Lib.hid h1
          have s1 : 2 ^ (k % 32) ≤ 2147483648 := by
            have := Nat.pow_le_pow_right (n := 2) (by omega) (show k % 32 ≤ 31 by omega)
            have e : (2 : Nat) ^ 31 = 2147483648 := rfl
            omega
          have e32 : bits .or .u32 ((lim zs (k / 32) : Nat) : Int) ((2 ^ (k % 32) : Nat) : Int) = ((lim zs (k / 32) ||| 2 ^ (k % 32) : Nat) : Int) := u32_or_nat _ _ lz (by omega)
          have e33 : Hid ((2 : Int) ^ (k % 32) % 4294967296 = ((2 ^ (k % 32) : Nat) : Int)) := by
            have e : (2 : Int) ^ (k % 32) = ((2 ^ (k % 32) : Nat) : Int) := by simp
            show _ = _
            rw [e]
            clear e e32
            generalize 2 ^ (k % 32) = T at s1 ⊢
            omega
          clear st h1
          go_wp2_with fail
          refine (bit_e Y3.out (by simp) (k + n % 32) (by omega) (by omega)).mono ?_
          rw [HBITS.out, H1.out]
          rintro e w' ⟨rfl, rfl⟩
          go_wp2
          go_roundw
          case rel =>
            refine ⟨k + 1, by omega, by go_num, ST.out _ (by rw [e33.out]; exact e32), grown_trans hgr.out (grown_set _ _ _ _)⟩
          case measure => simp [intOf]; omega
      · obtain rfl : k = 32 * (us.length - n / 32) := by omega
        obtain ⟨zs, hzr, hzl, hzo, hzv, hzb⟩ := inv
        rw [Nat.mod_eq_of_lt VB.out] at hzv
        have rd := (Own.of_row (lo := w.heap.size) hzr hzo (by omega) (by omega)).rd
        rw [hzl] at rd
        have S := rtrim_n rd hzl (by omega)
        rw [hzv] at S
        have HS := Lib.hid S
        have HZB := Lib.hid hzb
        clear S rd hzr hzl hzo hzv hzb hk hk2
        go_wp2_with fail
        refine HS.out.mono ?_
        rintro e w4 ⟨R, c4, rfl, ho, hb⟩
        have FIN : Hid (GivesT w (v / 2 ^ n) (.returned (.tuple #[.slice R (ofv (v / 2 ^ n)).length c4, .bool true])) w4) :=
          ⟨R, c4, rfl, ho.mono HZB.out.size, HZB.out.trans (hb.mono HZB.out.size)⟩
        clear ho hb
        go_wp2
        go_ret2
        exact FIN.out
  · have V0 : v / 2 ^ n = 0 := by
      apply Nat.div_eq_of_lt
      have h1 := HL.out
      have h2 := pw_le hge
      have h3 := E2.out
      have h4 : pw (n / 32) ≤ pw (n / 32) * 2 ^ (n % 32) := Nat.le_mul_of_pos_right _ (Nat.pow_pos (by omega))
      omega
    rw [V0]
    clear V0
    go_enter Try.func35, Try.ntmps35
    go_wp2_with fail
    refine S1.out.mono ?_
    rintro e w1 ⟨R, c, rfl, ho, hb⟩
    rw [HU.out]
    have hcl := ho.rd.len
    rw [HU.out] at hcl
    have HB := Lib.hid hb
    have FIN : Hid (GivesT w 0 (.returned (.tuple #[.slice (some ⟨w1.heap.size, 0, none⟩) 0 0, .bool true])) (w1.alloc (.cells #[] 42))) :=
      ⟨_, _, by rw [ofv_zero]; rfl, by rw [ofv_zero]; exact Own.nil _ _ _, hb.alloc hb.size _⟩
    clear ho hb
    go_wp2
    go_ret2
    exact FIN.out
theorem rshr_n {A : Option Addr} {cap m : Nat} {xs : List Nat} {w : World} (h : Rd w A cap xs) (hm : xs.length = m) (n : Nat) {z : Int} (hz : z = (n : Int)) (hn : n ≤ 9223372036854775807) (hl : m ≤ 35184372089900) :
    Calls Try.prog 35 #[.slice A m cap, .int .i64 z] w (GivesT w (val xs / 2 ^ n)) := by
  subst hm hz; exact rshr_yes A cap xs w n h hn hl
theorem rshl_n {A : Option Addr} {cap m : Nat} {xs : List Nat} {w : World} (h : Rd w A cap xs) (hm : xs.length = m) (n : Nat) {z : Int} (hz : z = (n : Int)) (hn : n ≤ 65536) (hl : m ≤ 35184372087808) :
    Calls Try.prog 33 #[.slice A m cap, .int .i64 z] w (GivesT w (val xs * 2 ^ n)) := by
  subst hm hz; exact rshl_yes A cap xs w n h hn hl
end Go.Proofs.Ytmmlfmjelhninaa
