/-
  The walk of natural.divideLong, and the whole contract of natural.DivMod.
-/
import Derived.Test.YtmmlfmjelhninaaLong
namespace Go.Proofs.Ytmmlfmjelhninaa
open Go.RowKit
set_option linter.unusedVariables false

def LgInv (w : World) (gd gz gq : Nat) (ds : List Nat) (A n la m : Nat) (wr : World) : Prop :=
  ∃ zs qs, Row wr gz zs ∧ zs.length = la + 1 ∧ okl zs ∧ Row wr gq qs ∧ qs.length = la - n + 1 ∧ okl qs ∧ Row wr gd ds ∧ Below w.heap.size w wr ∧
    A = val qs * val ds + val (zs.take (m + n)) ∧ val (zs.take (m + n)) < val ds * pw m ∧ (∀ j, j < m → lim qs j = 0)
def DlgPost (w : World) (us vs : List Nat) (e : Ending) (w' : World) : Prop :=
  ∃ gq gr qs rs, e = .returned (.tuple #[.slice (some ⟨gq, 0, none⟩) (us.length - vs.length + 1) (us.length - vs.length + 1), .slice (some ⟨gr, 0, none⟩) vs.length vs.length]) ∧
    w.heap.size ≤ gq ∧ w.heap.size ≤ gr ∧ Row w' gq qs ∧ qs.length = us.length - vs.length + 1 ∧ okl qs ∧ val qs = val us / val vs ∧ Row w' gr rs ∧ rs.length = vs.length ∧ okl rs ∧ val rs = val us % val vs ∧ Below w.heap.size w w'

theorem su_zero {w w2 : World} {g n s c : Nat} {vs : List Nat} (hp : SuInv w g 0 (List.replicate n 0) vs s vs.length c w2) (hn : vs.length = n) (hlt : val vs * 2 ^ s < pw n) :
    ∃ ds, Row w2 g ds ∧ ds.length = n ∧ okl ds ∧ val ds = val vs * 2 ^ s ∧ w.grownBy w2 (some g) := by
  obtain ⟨ys, hr, hl, ho, hj, he, hg⟩ := hp
  rw [List.length_replicate] at hl
  rw [val_replicate, List.take_of_length_le (Nat.le_refl _), pw_zero, hn] at he
  have hc : c = 0 := by
    rcases Nat.eq_zero_or_pos c with h0 | h0
    · exact h0
    · have := Nat.le_mul_of_pos_left (pw n) h0
      rw [Nat.zero_add] at he
      omega
  subst hc
  exact ⟨ys, hr, hl, ho, by rw [Nat.zero_add] at he; omega, hg⟩

theorem lg_start {us : List Nat} {s n la V : Nat} (hu : okl us) (hla : us.length = la) (hn2 : 2 ≤ n) (hle : n ≤ la) (hs : s < 32) (hV : 2147483648 * pw (n - 1) ≤ V) : val us * 2 ^ s < V * pw (la - n + 1) := by
  have h1 := val_lt hu
  rw [hla] at h1
  have h2 : 2 ^ s ≤ 2147483648 := by
    have := Nat.pow_le_pow_right (n := 2) (by omega) (show s ≤ 31 by omega)
    have e : (2 : Nat) ^ 31 = 2147483648 := rfl
    omega
  have h3 : val us * 2 ^ s ≤ val us * 2147483648 := Nat.mul_le_mul_left _ h2
  have h4 := Nat.mul_le_mul_right (pw (la - n + 1)) hV
  rw [Nat.mul_assoc, ← pw_add, show n - 1 + (la - n + 1) = la from by omega] at h4
  omega
theorem lg_end {us vs : List Nat} {s Q R : Nat} (hA : val us * 2 ^ s = Q * (val vs * 2 ^ s) + R) (hlt : R < val vs * 2 ^ s) : Q = val us / val vs ∧ R / 2 ^ s = val us % val vs := by
  have hp : 0 < 2 ^ s := Nat.pow_pos (by omega)
  have hv : 0 < val vs := by
    rcases Nat.eq_zero_or_pos (val vs) with h0 | h0
    · rw [h0] at hlt; omega
    · exact h0
  have h1 : val us = Q * val vs + R / 2 ^ s := by
    have := congrArg (· / 2 ^ s) hA
    rw [Nat.mul_div_cancel _ hp, ← Nat.mul_assoc, Nat.mul_comm (Q * val vs), Nat.mul_add_div hp] at this
    exact this
  have h2 : R / 2 ^ s < val vs := by rw [Nat.div_lt_iff_lt_mul hp]; exact hlt
  refine ⟨?_, ?_⟩
  · rw [h1, Nat.mul_comm, Nat.mul_add_div hv, Nat.div_eq_of_lt h2]; omega
  · rw [h1, Nat.mul_comm, Nat.mul_add_mod, Nat.mod_eq_of_lt h2]

theorem su_n {n g o c m k : Nat} {zs vs : List Nat} {B : Option Addr} {cb : Nat} {w : World} (hvk : vs.length = k) (hr : Row w g zs) (hz : okl zs) (hmv : k ≤ m) (hon : o + m ≤ zs.length) (hc : m ≤ c) (hm : zs.length ≤ 70368744177664) (h' : Rd w B cb vs)
    (hne : ∀ b' o', 0 < cb → B = some ⟨b', o', none⟩ → some b' ≠ some g) (hn : n < 32) (h0 : ∀ j, o ≤ j → j < o + k → lim zs j = 0) :
    Calls Try.prog 51 #[.slice (some ⟨g, o, none⟩) m c, .slice B k cb, .int .i64 (n : Int)] w (SuPost w g o zs vs n) := by
  subst hvk; exact su_any g o c m n zs vs B cb w hr hz hmv hon hc hm h' hne hn h0
theorem sd_n {n g m c : Nat} {zs vs : List Nat} {B : Option Addr} {cb : Nat} {w : World} (hr : Row w g zs) (hz : okl zs) (hmv : vs.length = m) (hon : zs.length = m) (hc : m ≤ c) (hm : m ≤ 70368744177664) (h' : Rd w B cb vs)
    (hne : ∀ b' o', 0 < cb → B = some ⟨b', o', none⟩ → some b' ≠ some g) (hn : n < 32) :
    Calls Try.prog 52 #[.slice (some ⟨g, 0, none⟩) m c, .slice B m cb, .int .i64 (n : Int)] w (SdPost w g vs n m) :=
  sd_any g m c n zs vs B cb w hr hz hmv hon hc hm h' hne hn
/-- A slice that lies below block g. -/
theorem ne_of_lt {w : World} {A : Option Addr} {cap g : Nat} {xs : List Nat} (h : Rd w A cap xs) (hg : w.heap.size ≤ g) : ∀ b' o', 0 < cap → A = some ⟨b', o', none⟩ → some b' ≠ some g := by
  intro b' o' h0 hA e
  have := h.old b' o' h0 hA
  have e' : b' = g := by simpa using e
  omega
theorem ne_of_ne {b o g : Nat} {cap : Nat} (h : b ≠ g) : ∀ b' o', 0 < cap → some (⟨b, o, none⟩ : Addr) = some ⟨b', o', none⟩ → some b' ≠ some g := by
  intro b' o' _ hA e
  have e' : b' = g := by simpa using e
  have e2 : b = b' := by simpa using congrArg (fun a : Option Addr => a.map (·.block)) hA
  omega

set_option maxHeartbeats 8000000 in
theorem long_any (A B : Option Addr) (ca cb : Nat) (us vs : List Nat) (w : World) (h : Rd w A ca us) (h' : Rd w B cb vs) (h2 : 2 ≤ vs.length) (hle : vs.length ≤ us.length) (hn : us.length ≤ 70368744177663) (ht : lim vs (vs.length - 1) ≠ 0) :
    Calls Try.prog 48 #[.slice A us.length ca, .slice B vs.length cb] w (DlgPost w us vs) := by
  obtain ⟨n, hvn⟩ : ∃ n, n = vs.length := ⟨_, rfl⟩
  obtain ⟨la, hla⟩ : ∃ la, la = us.length := ⟨_, rfl⟩
  obtain ⟨f1, f2, f3⟩ := norm_facts h'.ok hvn.symm (by omega) (by rw [hvn]; exact ht)
  obtain ⟨b, o, rfl, hb, hc⟩ := h'.at_ (k := n - 1) (by omega)
  have c1 := hc (n - 1) (by omega)
  have l1 := lim_lt h'.ok (n - 1)
  have L := Lib.hid (fun w => lead32_any (lim vs (n - 1)) w l1)
  have hl1 := h.len
  have hl2 := h'.len
  have hm1 := h.capLe
  have hm2 := h'.capLe
  rw [← hvn] at h2 hle hl2 ht ⊢
  rw [← hla] at hle hn hl1 ⊢
  have X := Lib.hid h
  have Y := Lib.hid h'
  have HVN := Lib.hid hvn
  have HLA := Lib.hid hla
  clear h h' hc hvn hla ht
  generalize lim vs (n - 1) = t at *
  generalize 32 - nbits t = s at *
  have F2 := Lib.hid f2
  have F3 := Lib.hid f3
  clear f2 f3
  go_enter Try.func48, Try.ntmps48
  go_wp2_with fail
  refine (L.out _).mono ?_
  rintro e w' ⟨rfl, rfl⟩
  go_wp2_with (at_make; refine make_row rfl _ _ rfl _ _ n rfl rfl rfl rfl (by omega) ?_)
  intro w1 hrow hbel
  have R1 := Lib.hid hrow
  have B1 := Lib.hid hbel
  clear hrow hbel
  go_wp2_with fail
  refine (su_n HVN.out.symm R1.out (okl_replicate _) (Nat.le_refl _) (by simp) (Nat.le_refl _) (by simp; omega) (Y.out.below B1.out) (ne_of_lt Y.out (Nat.le_refl _)) f1 (fun j _ _ => lim_replicate _ _)).mono ?_
  rintro e w2 ⟨cc, rfl, _, _, inv⟩
  obtain ⟨ds, hdr, hdl, hdo, hdv, hdg⟩ := su_zero inv HVN.out.symm F2.out
  have B2 : Hid (Below w.heap.size w w2) := B1.out.trans (below_of_grown hdg (Nat.le_refl _) B1.out.size)
  have DR := Lib.hid hdr
  have DL := Lib.hid hdl
  have DO := Lib.hid hdo
  have DV := Lib.hid hdv
  clear inv hdr hdl hdo hdv hdg R1 B1
  go_wp2_with (at_make; refine make_row rfl _ _ rfl _ _ (la + 1) rfl rfl (by omega) (by omega) (by omega) ?_)
  intro w3 hrow hbel
  have ZR := Lib.hid hrow
  have B3 := Lib.hid hbel
  clear hrow hbel
  go_wp2_with fail
  refine (su_n HLA.out.symm ZR.out (okl_replicate _) (by omega) (by simp) (by omega) (by simp; omega) ((X.out.below B2.out).below B3.out) (ne_of_lt (X.out.below B2.out) (Nat.le_refl _)) f1 (fun j _ _ => lim_replicate _ _)).mono ?_
  rintro e w4 ⟨c2, rfl, hc2, _, inv⟩
  obtain ⟨yz, hzr, hzl, hzo, hzj, hze, hzg⟩ := inv
  rw [List.length_replicate] at hzl
  rw [val_replicate, List.take_of_length_le (Nat.le_refl _), pw_zero] at hze
  have hzj' := hzj us.length (by omega)
  rw [lim_replicate] at hzj'
  have hsz2 := B2.out.size
  have gdlt := DR.out.lt
  have ZV : Hid (val (yz.set la c2) = val us * 2 ^ s) := by
    show _ = _
    have e := val_set (zs := yz) (k := la) (v := c2) (by omega)
    rw [HLA.out, hzj'] at e
    rw [HLA.out]
    rw [Nat.zero_add] at hze
    omega
  have DR4 : Hid (Row w4 w.heap.size ds) := (DR.out.below B3.out gdlt).grown hzg (fun e => absurd (show w.heap.size = w2.heap.size by simpa using e) (by omega))
  have ZR4 := Lib.hid hzr
  have ZL4 := Lib.hid hzl
  have ZO4 := Lib.hid hzo
  have B4 : Hid (Below w.heap.size w w4) := B2.out.trans ((B3.out.mono hsz2).trans (below_of_grown hzg hsz2 (by have := B3.out.size; omega)))
  have hfz := hzr.frozen la
  have hcw := hzr.cell (i := la) (by omega)
  clear hzr hzl hzo hzj hze hzg hzj' DR ZR B3
  have hgz : w.heap.size < w2.heap.size := gdlt
  clear gdlt
  go_wp2_with (at_make; refine make_row rfl _ _ rfl _ _ (la - n + 1) rfl rfl (by omega) (by omega) (by omega) ?_)
  intro w5 hrow hbel
  have hfin : LgInv w w.heap.size w2.heap.size w4.heap.size ds (val us * 2 ^ s) n la (la - n + 1) w5 := by
    have zr5 := ZR4.out.set_ la c2
    have dr5 := DR4.out.far (p := ⟨w2.heap.size, la, none⟩) (by show w.heap.size ≠ w2.heap.size; omega) (.int .u32 (c2 : Int))
    have b5 := B4.out.setCell (p := ⟨w2.heap.size, la, none⟩) (by show w.heap.size ≤ w2.heap.size; omega) (.int .u32 (c2 : Int))
    have full : (yz.set la c2).take (la - n + 1 + n) = yz.set la c2 := List.take_of_length_le (by rw [List.length_set]; have := ZL4.out; omega)
    refine ⟨yz.set la c2, List.replicate (la - n + 1) 0, zr5.below hbel (by simpa using zr5.lt), by simpa using ZL4.out, okl_set ZO4.out hc2 _, by simpa using hrow, by simp, okl_replicate _, dr5.below hbel (by simpa using dr5.lt), b5.trans (hbel.mono (by have := b5.size; simpa using this)), ?_, ?_, fun j _ => lim_replicate _ _⟩
    · rw [val_replicate, full, ZV.out]; omega
    · rw [full, ZV.out, DV.out]
      exact lg_start X.out.ok HLA.out.symm (by omega) hle f1 F3.out
  have FI := Lib.hid hfin
  have hgq : w2.heap.size < w4.heap.size := ZR4.out.lt
  clear hfin hrow hbel ZV DR4 ZR4 ZL4 ZO4 B4 hfz hcw
  generalize hgd : w.heap.size = gd at *
  generalize hgz' : w2.heap.size = gz at *
  generalize hgq' : w4.heap.size = gq at *
  go_wp2
  go_loopw [47] (fun i wr => ∃ k : Nat, k ≤ la - n + 1 ∧ i = .int .i64 k ∧ LgInv w gd gz gq ds (val us * 2 ^ s) n la (la - n + 1 - k) wr) (fun i _ => la - n + 1 - (intOf i).toNat)
  case atStart => exact ⟨0, Nat.zero_le _, rfl, FI.out⟩
  case round =>
    obtain ⟨k, hk, rfl, inv⟩ := hrel
    obtain ⟨zs, qs, hzr, hzl, hzo, hqr, hql, hqo, hdr, hbel, hA, hlt', hq0⟩ := inv
    by_cases hlt : k < la - n + 1
    · obtain ⟨at_, hat⟩ : ∃ at_, at_ = la - n - k := ⟨_, rfl⟩
      have ek : la - n + 1 - k = at_ + 1 := by omega
      rw [ek] at hA hlt' hq0
      have hon : at_ + n < zs.length := by omega
      have hw := lg_win hon hlt'
      have dtop := norm_top DO.out DL.out h2 (by rw [DV.out]; exact F3.out)
      have N := Lib.hid (fun (w' : World) (hr : Row w' gz zs) (hd : Rd w' (some ⟨gd, 0, none⟩) n ds) m hm => nd_n (m := m) (c := la + 1 - at_) hm hr hzo hon (by omega) (by omega) (by omega) hd DL.out (ne_of_ne (by omega)) h2 dtop hw)
      have hD0 : 0 < val ds := by
        rcases Nat.eq_zero_or_pos (val ds) with h0 | h0
        · rw [h0] at hlt'; omega
        · exact h0
      have HA := Lib.hid hA
      have HQ0 := Lib.hid hq0
      have HZ := Lib.hid hzr
      have HZL := Lib.hid hzl
      have HZO := Lib.hid hzo
      have HQ := Lib.hid hqr
      have HQL := Lib.hid hql
      have HQO := Lib.hid hqo
      have HDR := Lib.hid hdr
      have HB := Lib.hid hbel
      have HON := Lib.hid hon
      have HW := Lib.hid hw
      have HD0 := Lib.hid hD0
      have HEK := Lib.hid ek
      have hat1 : at_ + n ≤ la := by omega
      subst hat
      clear hA hq0 hzr hzl hzo hqr hql hqo hdr hbel hon hw hD0 dtop hlt' ek
      go_wp2_with fail
      refine (N.out wr HZ.out (rd_row HDR.out DO.out DL.out (by omega)) _ (by omega)).mono ?_
      rintro e w6 ⟨ys, rfl, hyr, hyl, hyo, hyj, hyw, hyg⟩
      have QR6 := HQ.out.grown hyg (fun e => absurd (show gq = gz by simpa using e) (by omega))
      have DR6 := HDR.out.grown hyg (fun e => absurd (show gd = gz by simpa using e) (by omega))
      have hfz := QR6.frozen (la - n - k)
      have hcw := QR6.cell (i := la - n - k) (by have := HQL.out; omega)
      obtain ⟨st1, st2⟩ := lg_step (qs := qs) HZO.out hyl HON.out hyj hyw HD0.out HA.out (by have := HQL.out; omega) (HQ0.out _ (by omega))
      have q32 : win zs (la - n - k) (n + 1) / val ds < 4294967296 := by
        rw [Nat.div_lt_iff_lt_mul HD0.out, Nat.mul_comm]; exact HW.out
      have NX : Hid (LgInv w gd gz gq ds (val us * 2 ^ s) n la (la - n + 1 - (k + 1)) (w6.setCell ⟨gq, la - n - k, none⟩ (.int .u32 ((win zs (la - n - k) (n + 1) / val ds : Nat) : Int)))) := by
        have ek : la - n + 1 - (k + 1) = la - n - k := by omega
        rw [ek]
        refine ⟨ys, qs.set (la - n - k) (win zs (la - n - k) (n + 1) / val ds), hyr.far (by show gz ≠ gq; omega) _, by rw [hyl]; exact HZL.out, hyo, QR6.set_ _ _, by simpa using HQL.out, okl_set HQO.out q32 _, DR6.far (by show gd ≠ gq; omega) _, ?_, st1, st2, ?_⟩
        · exact (HB.out.trans (below_of_grown hyg (by omega) HB.out.size)).setCell (by show w.heap.size ≤ gq; omega) _
        · intro j hj
          rw [lim_set_other (by omega)]
          exact HQ0.out j (by omega)
      clear hyr hyl hyo hyj hyw hyg QR6 DR6 st1 st2
      generalize win zs (la - n - k) (n + 1) / val ds = qd at *
      go_wp2
      go_roundw
      case rel => exact ⟨k + 1, by omega, by go_num, NX.out⟩
      case measure => simp [intOf]; omega
    · obtain rfl : k = la - n + 1 := by omega
      rw [Nat.sub_self, Nat.zero_add, pw_zero, Nat.mul_one] at *
      rw [DV.out] at hA hlt'
      obtain ⟨e1, e2⟩ := lg_end hA hlt'
      have HE1 := Lib.hid e1
      have HE2 := Lib.hid e2
      have HZ := Lib.hid hzr
      have HZL := Lib.hid hzl
      have HZO := Lib.hid hzo
      have HQ := Lib.hid hqr
      have HQL := Lib.hid hql
      have HQO := Lib.hid hqo
      have HB := Lib.hid hbel
      clear hA hq0 hzr hzl hzo hqr hql hqo hdr hbel hlt' e1 e2
      go_wp2_with (at_make; refine make_row rfl _ _ rfl _ _ n rfl rfl rfl rfl (by omega) ?_)
      intro w7 hrow hbel
      have RR := Lib.hid hrow
      have B7 := Lib.hid hbel
      clear hrow hbel
      go_wp2_with fail
      have Z7 := HZ.out.below B7.out HZ.out.lt
      have zlt := HZ.out.lt
      have qlt := HQ.out.lt
      obtain ⟨zrd, zlen⟩ := rd_win (o := 0) (n := n) (c := la + 1) Z7 HZO.out (by have := HZL.out; omega) (by omega) (by omega)
      refine (sd_n RR.out (okl_replicate _) zlen (by simp) (Nat.le_refl _) (by omega) zrd (ne_of_ne (by omega)) f1).mono ?_
      rintro e w8 ⟨rfl, rs, hr, hrl, hro, hrv, hrg⟩
      have FIN : Hid (DlgPost w us vs (.returned (.tuple #[.slice (some ⟨gq, 0, none⟩) (la - n + 1) (la - n + 1), .slice (some ⟨wr.heap.size, 0, none⟩) n n])) w8) := by
        have hv : val rs = val us % val vs := by
          rw [List.take_of_length_le (by omega), List.drop_zero] at hrv
          rw [hrv, HE2.out]
          apply Nat.mod_eq_of_lt
          have h1 := val_lt Y.out.ok
          have h2 : 0 < val vs := by
            rcases Nat.eq_zero_or_pos (val vs) with h0 | h0
            · have := F3.out
              rw [h0, Nat.zero_mul] at this
              have := pw_pos (n - 1)
              omega
            · exact h0
          have h3 := Nat.mod_lt (val us) h2
          have h4 := HVN.out
          rw [← h4] at h1
          omega
        refine ⟨gq, wr.heap.size, qs, rs, by rw [← HLA.out, ← HVN.out], by omega, HB.out.size, ?_, by rw [← HLA.out, ← HVN.out]; exact HQL.out, HQO.out, HE1.out, hr, by rw [← HVN.out]; exact hrl, hro, hv, ?_⟩
        · exact (HQ.out.below B7.out qlt).grown hrg (fun e => absurd (show gq = wr.heap.size by simpa using e) (by omega))
        · have s1 := HB.out.size
          exact HB.out.trans ((B7.out.mono s1).trans (below_of_grown hrg s1 (by have := B7.out.size; omega)))
      clear hr hrl hro hrv hrg Z7 zrd zlen zlt qlt
      go_wp2
      go_ret2
      exact FIN.out
end Go.Proofs.Ytmmlfmjelhninaa
