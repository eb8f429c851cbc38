/-
  Contracts of the reference's Add and Sub.
-/
import Derived.Test.YtmmlfmjelhninaaRcmp
namespace Go.Proofs.Ytmmlfmjelhninaa
open Go.RowKit
set_option linter.unusedVariables false

theorem radd_step {w wr : World} {us vs zs : List Nat} {k cn m : Nat} (hk : k < m) (hu : okl us) (hv : okl vs) (hcn : cn ≤ 1) (hr : Row wr w.heap.size zs) (hzl : zs.length = m) (hz : okl zs)
    (he : val (zs.take k) + cn * pw k = val (us.take k) + val (vs.take k)) (hb : Below w.heap.size w wr) (z : Int) (hzz : z = ((cn + lim us k + lim vs k) % 4294967296 : Nat)) :
    ∃ zs', Row (wr.setCell ⟨w.heap.size, k, none⟩ (.int .u32 z)) w.heap.size zs' ∧ zs'.length = m ∧ okl zs' ∧ val (zs'.take (k + 1)) + ((cn + lim us k + lim vs k) / 4294967296) * pw (k + 1) = val (us.take (k + 1)) + val (vs.take (k + 1)) ∧ Below w.heap.size w (wr.setCell ⟨w.heap.size, k, none⟩ (.int .u32 z)) := by
  subst hzz
  refine ⟨zs.set k ((cn + lim us k + lim vs k) % 4294967296), hr.set_ _ _, by simpa using hzl, okl_set hz (by omega) _, ?_, hb.setCell (Nat.le_refl _) _⟩
  rw [val_take_set (by omega), val_take_succ' us k, val_take_succ' vs k, pw_succ]
  have e := Nat.div_add_mod (cn + lim us k + lim vs k) 4294967296
  generalize (cn + lim us k + lim vs k) / 4294967296 = q at *
  generalize (cn + lim us k + lim vs k) % 4294967296 = r at *
  grind
def RaInv (w : World) (us vs : List Nat) (m k cn : Nat) (wr : World) : Prop :=
  ∃ zs, Row wr w.heap.size zs ∧ zs.length = m ∧ okl zs ∧ val (zs.take k) + cn * pw k = val (us.take k) + val (vs.take k) ∧ Below w.heap.size w wr

set_option maxHeartbeats 2000000 in
theorem radd_any (A B : Option Addr) (ca cb : Nat) (us vs : List Nat) (w : World) (h : Rd w A ca us) (h' : Rd w B cb vs) (hn : us.length ≤ 70368744177663) (hn' : vs.length ≤ 70368744177663) :
    Calls Try.prog 27 #[.slice A us.length ca, .slice B vs.length cb] w (Gives w (val us + val vs)) := by
  have X := Lib.hid h
  have Y := Lib.hid h'
  have hc1 := h.capLe
  have hc2 := h'.capLe
  have hl1 := h.len
  have hl2 := h'.len
  clear h h'
  rcases Nat.lt_or_ge us.length vs.length with hlt | hge
  · have hm1 : us.length ≤ vs.length := by omega
    have hm2 : vs.length ≤ vs.length := Nat.le_refl _
    go_enter Try.func27, Try.ntmps27
    go_wp2_with (at_make; refine make_row rfl _ _ rfl _ _ (vs.length + 1) rfl rfl (by omega) (by omega) (by omega) ?_)
    intro w1 hrow hbel
    go_wp2
    go_loopw [6, 7] (fun c i wr => ∃ k cn : Nat, k ≤ vs.length + 1 ∧ i = .int .i64 k ∧ c = .int .u64 cn ∧ cn ≤ 1 ∧ RaInv w us vs (vs.length + 1) k cn wr) (fun _ i _ => vs.length + 1 - (intOf i).toNat)
    case atStart => exact ⟨0, 0, Nat.zero_le _, rfl, rfl, by omega, _, hrow, by simp, okl_replicate _, by simp [val_nil], hbel⟩
    case round =>
      clear hrow hbel
      obtain ⟨k, cn, hk, rfl, rfl, hcn, inv⟩ := hrel
      obtain ⟨zs, hrow, hzl, hzo, heq, hbel⟩ := inv
      have HE := Lib.hid heq
      have HZ := Lib.hid hzl
      have HR := Lib.hid hrow
      have HB := Lib.hid hbel
      clear heq hzl hrow
      by_cases hlt : k < vs.length + 1
      · have X1 := X.out.keep (Nat.le_refl _) hbel
        have Y1 := Y.out.keep (Nat.le_refl _) hbel
        have hfz := HR.out.frozen k
        have hcw := HR.out.cell (i := k) (by have := HZ.out; omega)
        have b1 := lim_lt X1.ok k
        have b2 := lim_lt Y1.ok k
        have step := Lib.hid (radd_step hlt X1.ok Y1.ok hcn HR.out HZ.out hzo HE.out hbel)
        have cases4 : (k < us.length ∧ k < vs.length) ∨ (k < us.length ∧ vs.length ≤ k) ∨ (us.length ≤ k ∧ k < vs.length) ∨ (us.length ≤ k ∧ vs.length ≤ k) := by omega
        rcases cases4 with ⟨h1, h2⟩ | ⟨h1, h2⟩ | ⟨h1, h2⟩ | ⟨h1, h2⟩
        · obtain ⟨b, o, hA, hb, hc⟩ := X1.at_ h1
          have c1 := hc k h1
          obtain ⟨b', o', hB, hb', hc'⟩ := Y1.at_ h2
          have c2 := hc' k h2
          subst hA hB
          clear hc hc' hbel X1 Y1
          go_wp2
          go_roundw
          case rel => exact ⟨k + 1, (cn + lim us k + lim vs k) / 4294967296, by omega, by go_num, by first | rfl | (congr 1; omega), by omega, step.out _ (by omega)⟩
          case measure => simp [intOf]; omega
        · exact absurd h1 (by omega)
        · obtain ⟨b', o', hB, hb', hc'⟩ := Y1.at_ h2
          have c2 := hc' k h2
          have hz0 := lim_out h1
          rw [hz0] at step
          subst hB
          clear hc' hbel X1 Y1 hz0
          go_wp2
          go_roundw
          case rel => exact ⟨k + 1, (cn + 0 + lim vs k) / 4294967296, by omega, by go_num, by first | rfl | (congr 1; omega), by omega, step.out _ (by omega)⟩
          case measure => simp [intOf]; omega
        · have hz0 := lim_out h1
          have hz1 := lim_out h2
          rw [hz0, hz1] at step
          clear hbel X1 Y1 hz0 hz1
          go_wp2
          go_roundw
          case rel => exact ⟨k + 1, (cn + 0 + 0) / 4294967296, by omega, by go_num, by first | rfl | (congr 1; omega), by omega, step.out _ (by omega)⟩
          case measure => simp [intOf]; omega
      · obtain rfl : k = vs.length + 1 := by omega
        have hZ := HZ.out
        have hv2 : val zs = val us + val vs := by
          have e := HE.out
          rw [List.take_of_length_le (by omega), List.take_of_length_le (by omega), List.take_of_length_le (by omega)] at e
          have hlt1 := val_lt X.out.ok
          have hlt2 := val_lt Y.out.ok
          have p1 := pw_le hm1
          have p2 := pw_le hm2
          rw [pw_succ] at e
          have pp := pw_pos vs.length
          rcases Nat.eq_zero_or_pos cn with h0 | h0
          · rw [h0] at e; omega
          · obtain rfl : cn = 1 := by omega
            omega
        have ow := Own.of_row (lo := w.heap.size) HR.out hzo (Nat.le_refl _) (by omega)
        have rd := ow.rd
        rw [hZ] at rd
        have S := rtrim_n rd hZ (by omega)
        rw [hv2] at S
        have HS := Lib.hid S
        clear S rd ow hv2 hZ hbel hk hlt
        go_wp2_with fail
        refine HS.out.mono ?_
        rintro e w2 ⟨R, c, rfl, ho, hb⟩
        have FIN : Hid (Gives w (val us + val vs) (.returned (.slice R (ofv (val us + val vs)).length c)) w2) :=
          ⟨R, c, rfl, ho.mono HB.out.size, HB.out.trans (hb.mono HB.out.size)⟩
        clear ho hb
        go_wp2
        go_ret
        exact FIN.out
  · have hm1 : us.length ≤ us.length := Nat.le_refl _
    have hm2 : vs.length ≤ us.length := by omega
    go_enter Try.func27, Try.ntmps27
    go_wp2_with (at_make; refine make_row rfl _ _ rfl _ _ (us.length + 1) rfl rfl (by omega) (by omega) (by omega) ?_)
    intro w1 hrow hbel
    go_wp2
    go_loopw [6, 7] (fun c i wr => ∃ k cn : Nat, k ≤ us.length + 1 ∧ i = .int .i64 k ∧ c = .int .u64 cn ∧ cn ≤ 1 ∧ RaInv w us vs (us.length + 1) k cn wr) (fun _ i _ => us.length + 1 - (intOf i).toNat)
    case atStart => exact ⟨0, 0, Nat.zero_le _, rfl, rfl, by omega, _, hrow, by simp, okl_replicate _, by simp [val_nil], hbel⟩
    case round =>
      clear hrow hbel
      obtain ⟨k, cn, hk, rfl, rfl, hcn, inv⟩ := hrel
      obtain ⟨zs, hrow, hzl, hzo, heq, hbel⟩ := inv
      have HE := Lib.hid heq
      have HZ := Lib.hid hzl
      have HR := Lib.hid hrow
      have HB := Lib.hid hbel
      clear heq hzl hrow
      by_cases hlt : k < us.length + 1
      · have X1 := X.out.keep (Nat.le_refl _) hbel
        have Y1 := Y.out.keep (Nat.le_refl _) hbel
        have hfz := HR.out.frozen k
        have hcw := HR.out.cell (i := k) (by have := HZ.out; omega)
        have b1 := lim_lt X1.ok k
        have b2 := lim_lt Y1.ok k
        have step := Lib.hid (radd_step hlt X1.ok Y1.ok hcn HR.out HZ.out hzo HE.out hbel)
        have cases4 : (k < us.length ∧ k < vs.length) ∨ (k < us.length ∧ vs.length ≤ k) ∨ (us.length ≤ k ∧ k < vs.length) ∨ (us.length ≤ k ∧ vs.length ≤ k) := by omega
        rcases cases4 with ⟨h1, h2⟩ | ⟨h1, h2⟩ | ⟨h1, h2⟩ | ⟨h1, h2⟩
        · obtain ⟨b, o, hA, hb, hc⟩ := X1.at_ h1
          have c1 := hc k h1
          obtain ⟨b', o', hB, hb', hc'⟩ := Y1.at_ h2
          have c2 := hc' k h2
          subst hA hB
          clear hc hc' hbel X1 Y1
          go_wp2
          go_roundw
          case rel => exact ⟨k + 1, (cn + lim us k + lim vs k) / 4294967296, by omega, by go_num, by first | rfl | (congr 1; omega), by omega, step.out _ (by omega)⟩
          case measure => simp [intOf]; omega
        · obtain ⟨b, o, hA, hb, hc⟩ := X1.at_ h1
          have c1 := hc k h1
          have hz0 := lim_out h2
          rw [hz0] at step
          subst hA
          clear hc hbel X1 Y1 hz0
          go_wp2
          go_roundw
          case rel => exact ⟨k + 1, (cn + lim us k + 0) / 4294967296, by omega, by go_num, by first | rfl | (congr 1; omega), by omega, step.out _ (by omega)⟩
          case measure => simp [intOf]; omega
        · exact absurd h2 (by omega)
        · have hz0 := lim_out h1
          have hz1 := lim_out h2
          rw [hz0, hz1] at step
          clear hbel X1 Y1 hz0 hz1
          go_wp2
          go_roundw
          case rel => exact ⟨k + 1, (cn + 0 + 0) / 4294967296, by omega, by go_num, by first | rfl | (congr 1; omega), by omega, step.out _ (by omega)⟩
          case measure => simp [intOf]; omega
      · obtain rfl : k = us.length + 1 := by omega
        have hZ := HZ.out
        have hv2 : val zs = val us + val vs := by
          have e := HE.out
          rw [List.take_of_length_le (by omega), List.take_of_length_le (by omega), List.take_of_length_le (by omega)] at e
          have hlt1 := val_lt X.out.ok
          have hlt2 := val_lt Y.out.ok
          have p1 := pw_le hm1
          have p2 := pw_le hm2
          rw [pw_succ] at e
          have pp := pw_pos us.length
          rcases Nat.eq_zero_or_pos cn with h0 | h0
          · rw [h0] at e; omega
          · obtain rfl : cn = 1 := by omega
            omega
        have ow := Own.of_row (lo := w.heap.size) HR.out hzo (Nat.le_refl _) (by omega)
        have rd := ow.rd
        rw [hZ] at rd
        have S := rtrim_n rd hZ (by omega)
        rw [hv2] at S
        have HS := Lib.hid S
        clear S rd ow hv2 hZ hbel hk hlt
        go_wp2_with fail
        refine HS.out.mono ?_
        rintro e w2 ⟨R, c, rfl, ho, hb⟩
        have FIN : Hid (Gives w (val us + val vs) (.returned (.slice R (ofv (val us + val vs)).length c)) w2) :=
          ⟨R, c, rfl, ho.mono HB.out.size, HB.out.trans (hb.mono HB.out.size)⟩
        clear ho hb
        go_wp2
        go_ret
        exact FIN.out

theorem radd_n {A B : Option Addr} {ca cb n m : Nat} {xs ys : List Nat} {w : World} (h : Rd w A ca xs) (h' : Rd w B cb ys) (hn : xs.length = n) (hm : ys.length = m) (hl : n ≤ 70368744177663) (hl' : m ≤ 70368744177663) :
    Calls Try.prog 27 #[.slice A n ca, .slice B m cb] w (Gives w (val xs + val ys)) := by
  subst hn hm; exact radd_any A B ca cb xs ys w h h' hl hl'

theorem rsub_no (A B : Option Addr) (ca cb : Nat) (xs ys : List Nat) (w : World) (h : Rd w A ca xs) (h' : Rd w B cb ys) (hn : xs.length ≤ 70368744177663) (hn' : ys.length ≤ 70368744177663) (hv : val xs < val ys) :
    Calls Try.prog 25 #[.slice A xs.length ca, .slice B ys.length cb] w (GivesF w) := by
  have C := rcompare_any A B ca cb xs ys w h h' (by omega) (by omega)
  rw [cmp_lt hv] at C
  have HC := Lib.hid C
  have hc := h.capLe
  clear C h h' hv
  go_enter Try.func25, Try.ntmps25
  go_wp2_with fail
  refine HC.out.mono ?_
  rintro e w' ⟨rfl, hb⟩
  have HB := Lib.hid hb
  clear hb
  go_wp2
  go_ret2
  exact ⟨rfl, HB.out⟩

set_option maxHeartbeats 4000000 in
theorem rsub_yes (A B : Option Addr) (ca cb : Nat) (xs ys : List Nat) (w : World) (h : Rd w A ca xs) (h' : Rd w B cb ys) (hn : xs.length ≤ 70368744177663) (hn' : ys.length ≤ 70368744177663) (hv : val ys ≤ val xs) :
    Calls Try.prog 25 #[.slice A xs.length ca, .slice B ys.length cb] w (GivesT w (val xs - val ys)) := by
  have C := rcompare_any A B ca cb xs ys w h h' (by omega) (by omega)
  have hc0 := cmp_nonneg hv
  have hc1 := h.capLe
  have hc2 := h'.capLe
  have hl1' := h.len
  have hl2' := h'.len
  have n1 := len_ofv_le h.ok
  have hn1 : (ofv (val xs)).length ≤ 70368744177663 := by omega
  have hx := Lib.hid (val_ofv (val xs))
  have hy := Lib.hid (val_ofv (val ys))
  have P0 := Lib.hid h
  have Q0 := Lib.hid h'
  have hl : (ofv (val ys)).length ≤ (ofv (val xs)).length := by
    rcases Nat.lt_or_ge (ofv (val xs)).length (ofv (val ys)).length with hlt | hge
    · have := lt_of_len_lt hlt; omega
    · exact hge
  have T1 := Lib.hid (fun w' (h : Rd w' A ca xs) => rtrim_any A ca xs w' h (by omega))
  have T2 := Lib.hid (fun w' (h : Rd w' B cb ys) => rtrim_any B cb ys w' h (by omega))
  have HN := Lib.hid hv
  generalize cmp (val xs) (val ys) = cc at *
  have HC := Lib.hid C
  clear C h h' hv n1
  generalize hva : val xs = va at *
  generalize hvb : val ys = vb at *
  generalize hus : ofv va = us at *
  generalize hvs : ofv vb = vs at *
  have HU := Lib.hid hus
  have HV := Lib.hid hvs
  clear hva hvb hus hvs
  go_enter Try.func25, Try.ntmps25
  go_wp2_with fail
  refine HC.out.mono ?_
  rintro e w0 ⟨rfl, hb0⟩
  have HB0 := Lib.hid hb0
  clear hb0
  go_wp2_with fail
  refine (T1.out _ (P0.out.below HB0.out)).mono ?_
  rintro e w1 ⟨R1, c1, rfl, ho1, hb1⟩
  rw [HU.out] at ho1 ⊢
  have O1 := Lib.hid ho1
  have HB1 := Lib.hid hb1
  clear ho1 hb1
  go_wp2_with fail
  refine (T2.out _ ((Q0.out.below HB0.out).below HB1.out)).mono ?_
  rintro e w2 ⟨R2, c2, rfl, ho2, hb2⟩
  rw [HV.out] at ho2 ⊢
  have X := Lib.hid (O1.out.rd.below hb2)
  have Y := Lib.hid ho2.rd
  have HB2 : Hid (Below w.heap.size w w2) := HB0.out.trans ((HB1.out.mono HB0.out.size).trans (hb2.mono (Nat.le_trans HB0.out.size HB1.out.size)))
  clear ho2 hb2 O1 HB0 HB1 P0 Q0
  have hm1 := X.out.len
  have hm2 := Y.out.len
  have hm3 := X.out.capLe
  have hm4 := Y.out.capLe
  go_wp2_with (at_make; refine make_row rfl _ _ rfl _ _ us.length rfl rfl rfl rfl (by omega) ?_)
  intro w3 hrow hbel
  go_wp2
  go_loopw [7, 8] (fun b i wr => ∃ k bn : Nat, k ≤ us.length ∧ i = .int .i64 k ∧ b = .int .u64 bn ∧ bn ≤ 1 ∧ SubInv w2 w us vs k bn wr) (fun _ i _ => us.length - (intOf i).toNat)
  case atStart => exact ⟨0, 0, Nat.zero_le _, rfl, rfl, by omega, _, hrow, by simp, okl_replicate _, by simp [val_nil], hbel⟩
  case round =>
    clear hrow hbel
    obtain ⟨k, bn, hk, rfl, rfl, hbn, inv⟩ := hrel
    obtain ⟨zs, hrow, hzl, hzo, heq, hbel⟩ := inv
    have HE := Lib.hid heq
    have HZ := Lib.hid hzl
    have HR := Lib.hid hrow
    have HB := Lib.hid hbel
    clear heq hzl hrow
    by_cases hlt : k < us.length
    · have X1 := X.out.keep (Nat.le_refl _) hbel
      have Y1 := Y.out.keep (Nat.le_refl _) hbel
      obtain ⟨b, o, hA, hb, hc⟩ := X1.at_ hlt
      have c1 := hc k hlt
      have hfz := HR.out.frozen k
      have hcw := HR.out.cell (i := k) (by have := HZ.out; omega)
      have b1 := lim_lt X1.ok k
      have b2 := lim_lt Y1.ok k
      have step := Lib.hid (fun d b' hd => sub_step (w := w) (d := d) (b' := b') hlt hd HR.out HZ.out hzo HE.out hbel)
      subst hA
      clear hc
      have cases4 : (k < vs.length ∧ lim us k < bn + lim vs k) ∨ (k < vs.length ∧ bn + lim vs k ≤ lim us k) ∨ (vs.length ≤ k ∧ lim us k < bn + lim vs k) ∨ (vs.length ≤ k ∧ bn + lim vs k ≤ lim us k) := by omega
      rcases cases4 with ⟨h2, hxy⟩ | ⟨h2, hxy⟩ | ⟨h2, hxy⟩ | ⟨h2, hxy⟩
      · obtain ⟨b', o', hB, hb', hc'⟩ := Y1.at_ h2
        have c2 := hc' k h2
        subst hB
        clear hc' hbel X1 Y1
        go_wp2
        go_roundw
        case rel => exact ⟨k + 1, 1, by omega, by go_num, rfl, by omega, step.out (4294967296 + lim us k - lim vs k - bn) 1 (by omega) (by omega) _ (by omega)⟩
        case measure => simp [intOf]; omega
      · obtain ⟨b', o', hB, hb', hc'⟩ := Y1.at_ h2
        have c2 := hc' k h2
        subst hB
        clear hc' hbel X1 Y1
        go_wp2
        go_roundw
        case rel => exact ⟨k + 1, 0, by omega, by go_num, rfl, by omega, step.out (lim us k - lim vs k - bn) 0 (by omega) (by omega) _ (by omega)⟩
        case measure => simp [intOf]; omega
      · have hz0 := lim_out h2
        rw [hz0] at step hxy
        clear hbel X1 Y1 hz0
        go_wp2
        go_roundw
        case rel => exact ⟨k + 1, 1, by omega, by go_num, rfl, by omega, step.out (4294967296 + lim us k - 0 - bn) 1 (by omega) (by omega) _ (by omega)⟩
        case measure => simp [intOf]; omega
      · have hz0 := lim_out h2
        rw [hz0] at step hxy
        clear hbel X1 Y1 hz0
        go_wp2
        go_roundw
        case rel => exact ⟨k + 1, 0, by omega, by go_num, rfl, by omega, step.out (lim us k - 0 - bn) 0 (by omega) (by omega) _ (by omega)⟩
        case measure => simp [intOf]; omega
    · obtain rfl : k = us.length := by omega
      have hE := HE.out
      have hZ := HZ.out
      have okv : okl vs := Y.out.ok
      have t1 : zs.take us.length = zs := List.take_of_length_le (by omega)
      have t2 : vs.take us.length = vs := List.take_of_length_le hl
      have t3 : us.take us.length = us := List.take_of_length_le (Nat.le_refl _)
      rw [t1, t2, t3] at hE
      have hb0 : bn = 0 := by
        have hlt1 := val_lt hzo
        rw [hZ] at hlt1
        have e1 := hx.out
        have e2 := hy.out
        have e3 := HN.out
        rcases Nat.eq_zero_or_pos bn with h0 | h0
        · exact h0
        · obtain rfl : bn = 1 := by omega
          have hlt2 := val_lt X.out.ok
          omega
      subst hb0
      have hv2 : val zs = va - vb := by
        have e1 := hx.out
        have e2 := hy.out
        omega
      have ow := Own.of_row (lo := w2.heap.size) HR.out hzo (Nat.le_refl _) (by omega)
      have rd := ow.rd
      rw [hZ] at rd
      have S := rtrim_n rd hZ (by omega)
      rw [hv2] at S
      have HS := Lib.hid S
      clear S hbel hk hlt hE hZ okv t1 t2 t3 hv2 ow rd
      go_wp2_with fail
      refine HS.out.mono ?_
      rintro e w4 ⟨R, c, rfl, ho, hb⟩
      have FIN : Hid (GivesT w (va - vb) (.returned (.tuple #[.slice R (ofv (va - vb)).length c, .bool true])) w4) := by
        have s1 := HB2.out.size
        have s2 := HB.out.size
        exact ⟨R, c, rfl, ho.mono (by omega), HB2.out.trans ((HB.out.mono s1).trans (hb.mono (by omega)))⟩
      clear ho hb
      go_wp2
      go_ret2
      exact FIN.out
theorem rsub_yes_n {A B : Option Addr} {ca cb n m : Nat} {xs ys : List Nat} {w : World} (h : Rd w A ca xs) (h' : Rd w B cb ys) (hn : xs.length = n) (hm : ys.length = m) (hl : n ≤ 70368744177663) (hl' : m ≤ 70368744177663) (hv : val ys ≤ val xs) :
    Calls Try.prog 25 #[.slice A n ca, .slice B m cb] w (GivesT w (val xs - val ys)) := by
  subst hn hm; exact rsub_yes A B ca cb xs ys w h h' hl hl' hv
end Go.Proofs.Ytmmlfmjelhninaa
