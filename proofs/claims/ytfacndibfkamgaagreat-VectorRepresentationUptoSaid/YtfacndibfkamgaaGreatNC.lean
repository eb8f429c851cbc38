/-
  Rcmp, Rsum, Rmul, Rbits, Bitset, Rdm, Rdml, Rdmt, Rgcd.
-/
import Derived.Test.YtfacndibfkamgaaGreatNB
import Derived.RegionTactic
import Derived.Deep.RegionWith
/-
  Contracts of the reference's Compare and Uint64.
-/
namespace Go.Proofs.YtfacndibfkamgaaGreat
open Go.RowKit
set_option linter.unusedVariables false

set_option maxHeartbeats 2000000 in
theorem rcompare_any (A B : Option Addr) (ca cb : Nat) (xs ys : List Nat) (w : World) (h : Rd w A ca xs) (h' : Rd w B cb ys) (hn : xs.length ≤ 70368744177664) (hn' : ys.length ≤ 70368744177664) :
    Calls Tryz.prog 180 #[.slice A xs.length ca, .slice B ys.length cb] w fun e w' => e = .returned (.int .i64 (cmp (val xs) (val ys))) ∧ Below w.heap.size w w' := by
  have S1 := Lib.hid (rtrim_any A ca xs w h hn)
  have Y0 := Lib.hid h'
  have hc1 := h.capLe
  have hc2 := h'.capLe
  have hl1 := h.len
  have k1 := len_ofv_le h.ok
  have k2 := len_ofv_le h'.ok
  clear h h'
  have K1 := Lib.hid (@lt_of_len_lt (val xs) (val ys))
  have K2 := Lib.hid (@lt_of_len_lt (val ys) (val xs))
  have Kt := Lib.hid (fun i h1 h2 h3 h4 => @val_lt_of_top (ofv (val xs)) (ofv (val ys)) (okl_ofv _) i h1 h2 h3 h4)
  have Ku := Lib.hid (fun i h1 h2 h3 h4 => @val_lt_of_top (ofv (val ys)) (ofv (val xs)) (okl_ofv _) i h1 h2 h3 h4)
  have Ke := Lib.hid (@ofv_inj (val xs) (val ys))
  have V1 := Lib.hid (val_ofv (val xs))
  have V2 := Lib.hid (val_ofv (val ys))
  have S2 := Lib.hid (fun w' (h : Rd w' B cb ys) => rtrim_any B cb ys w' h hn')
  generalize hva : val xs = va at *
  generalize hvb : val ys = vb at *
  generalize hu : ofv va = us at *
  generalize hv : ofv vb = vs at *
  have HVA := Lib.hid hva
  have HVB := Lib.hid hvb
  have HU := Lib.hid hu
  have HV := Lib.hid hv
  clear hva hvb hu hv
  go_enter Tryz.func180, Tryz.ntmps180
  go_wp2_with fail
  refine S1.out.mono ?_
  rintro e w1 ⟨R1, c1, rfl, ho1, hb1⟩
  rw [HU.out] at ho1 ⊢
  have O1 := Lib.hid ho1
  have B1 := Lib.hid hb1
  have Y1 := Lib.hid (Y0.out.below hb1)
  clear ho1 hb1
  go_wp2_with fail
  refine (S2.out _ Y1.out).mono ?_
  rintro e w2 ⟨R2, c2, rfl, ho2, hb2⟩
  rw [HV.out] at ho2 ⊢
  have X := Lib.hid (O1.out.rd.below hb2)
  have Y := Lib.hid ho2.rd
  have HB : Hid (Below w.heap.size w w2) := B1.out.trans (hb2.mono B1.out.size)
  clear ho2 hb2 O1 B1 Y1 S1 Y0
  have tri : us.length < vs.length ∨ vs.length < us.length ∨ us.length = vs.length := by omega
  rcases tri with hlt | hgt | heq
  · have hb : ((us.length : Int) != (vs.length : Int)) = true := by rw [bne_iff_ne]; omega
    have F := Lib.hid (cmp_lt (K1.out hlt))
    go_wp2
    go_ret
    exact ⟨ret_int F.out.symm, HB.out⟩
  · have hb : ((us.length : Int) != (vs.length : Int)) = true := by rw [bne_iff_ne]; omega
    have F := Lib.hid (cmp_gt (K2.out hgt))
    go_wp2
    go_ret
    exact ⟨ret_int F.out.symm, HB.out⟩
  · have hb : ((us.length : Int) != (vs.length : Int)) = false := by rw [heq]; simp
    have hm := X.out.len
    have hm2 := X.out.capLe
    have HEQ := Lib.hid heq
    have hge : us.length ≤ vs.length := by omega
    have hge2 : vs.length ≤ us.length := by omega
    clear heq
    go_wp2_with fail
    go_loopw [5] (fun i wr => ∃ z : Int, i = .int .i64 z ∧ -1 ≤ z ∧ z < us.length ∧ Hid (∀ j : Nat, z < j → j < us.length → lim us j = lim vs j) ∧ Hid (∃ q, wr = w2.drewN q)) (fun i _ => (intOf i + 1).toNat)
    case atStart => exact ⟨(us.length : Int) - 1, rfl, by omega, by omega, fun j h1 h2 => by omega, 0, rfl⟩
    case round =>
      obtain ⟨z, rfl, hz1, hz2, hz, hq⟩ := hrel
      by_cases h0 : z = -1
      · subst h0
        have F : Hid (cmp va vb = 0) := by
          refine cmp_eq (Ke.out ?_)
          apply lim_ext HEQ.out
          intro i hi
          exact hz.out i (by omega) hi
        have FB : Hid (Below w.heap.size w wr) := by
          have b := below_q hq.out
          exact HB.out.trans (b.mono HB.out.size)
        go_wp2
        go_ret
        exact ⟨ret_int F.out.symm, FB.out⟩
      · obtain ⟨k, rfl⟩ : ∃ k : Nat, z = (k : Int) := Int.eq_ofNat_of_zero_le (by omega)
        have hk : k < us.length := by omega
        obtain ⟨b, o, hA, hb1, hc1'⟩ := X.out.at_ hk
        obtain ⟨b', o', hB, hb2, hc2'⟩ := Y.out.at_ (k := k) (by omega)
        have d1 : wr.cell? ⟨b, o + k, none⟩ = some (.int .u32 ((lim us k : Nat) : Int)) := by
          obtain ⟨q, rfl⟩ := hq.out
          exact hc1' k hk
        have d2 : wr.cell? ⟨b', o' + k, none⟩ = some (.int .u32 ((lim vs k : Nat) : Int)) := by
          obtain ⟨q, rfl⟩ := hq.out
          exact hc2' k (by omega)
        have r1 := lim_lt X.out.ok k
        have r2 := lim_lt Y.out.ok k
        subst hA hB
        clear hc1' hc2' h0
        have top : Hid (∀ j, k < j → j < us.length → lim us j = lim vs j) := fun j h1 h2 => hz.out j (by omega) h2
        have tri : lim us k < lim vs k ∨ lim vs k < lim us k ∨ lim us k = lim vs k := by omega
        rcases tri with hlt | hgt | he
        · have F : Hid (cmp va vb = -1) := by
            have := Kt.out k hk HEQ.out top.out hlt
            rw [V1.out, V2.out] at this
            exact cmp_lt this
          clear hz top
          generalize lim us k = l1 at *
          generalize lim vs k = l2 at *
          have hd : decide (l1 < l2) = true := by simpa using hlt
          go_wp2
          go_quiet (fail)
          have FB : Hid (∀ q, Below w.heap.size w (wr.drewN q)) := by
            intro q
            have b := below_q (drew_on hq.out ⟨q, rfl⟩)
            exact HB.out.trans (b.mono HB.out.size)
          go_wp2
          go_ret
          exact ⟨ret_int F.out.symm, FB.out _⟩
        · have F : Hid (cmp va vb = 1) := by
            have := Ku.out k (by omega) HEQ.out.symm (fun j h1 h2 => (top.out j h1 (by omega)).symm) hgt
            rw [V1.out, V2.out] at this
            exact cmp_gt this
          clear hz top
          generalize lim us k = l1 at *
          generalize lim vs k = l2 at *
          have hd : decide (l1 < l2) = false := by simp; omega
          have hd2 : decide (l2 < l1) = true := by simpa using hgt
          have FB : Hid (∀ q r, Below w.heap.size w ((wr.drewN q).drewN r)) := by
            intro q r
            have b := below_q (drew_on (drew_on hq.out ⟨q, rfl⟩) ⟨r, rfl⟩)
            exact HB.out.trans (b.mono HB.out.size)
          go_wp2
          go_quiet (fail)
          go_wp2
          go_quiet (fail)
          go_wp2
          go_ret
          exact ⟨ret_int F.out.symm, by first | exact FB.out _ _ | exact FB.out _ 0⟩
        · have hz' : Hid (∀ j : Nat, (k : Int) - 1 < j → j < us.length → lim us j = lim vs j) := by
            intro j h1 h2
            by_cases ej : j = k
            · rw [ej]; exact he
            · exact hz.out j (by omega) h2
          have hd : decide (lim us k < lim vs k) = false := by simp; omega
          have hd2 : decide (lim vs k < lim us k) = false := by simp; omega
          have he1 : lim us k ≤ lim vs k := by omega
          have he2 : lim vs k ≤ lim us k := by omega
          clear hz top he
          generalize lim us k = l1 at *
          generalize lim vs k = l2 at *
          go_wp2
          go_quiet (fail)
          go_wp2
          go_quiet (fail)
          go_wp2
          go_roundw
          case rel => exact ⟨(k : Int) - 1, rfl, by omega, by omega, hz', by first | exact drew_on hq.out ⟨_, rfl⟩ | exact drew_on (drew_on hq.out ⟨_, rfl⟩) ⟨_, rfl⟩⟩
          case measure => simp [intOf]
theorem ruint64_no (A : Option Addr) (cap : Nat) (xs : List Nat) (w : World) (h : Rd w A cap xs) (hn : xs.length ≤ 70368744177664) (hv : 18446744073709551616 ≤ val xs) :
    Calls Tryz.prog 176 #[.slice A xs.length cap] w fun e w' => e = .returned (.tuple #[.int .u64 0, .bool false]) ∧ Below w.heap.size w w' := by
  have S1 := Lib.hid (rtrim_any A cap xs w h hn)
  have l2 : ¬ (ofv (val xs)).length ≤ 2 := by
    intro hl
    have h1 := lt_pw_len (val xs)
    have h2 := pw_le hl
    have h3 : pw 2 = 18446744073709551616 := by rw [pw_succ, pw_succ, pw_zero]
    omega
  have hc := h.capLe
  have hl := h.sig.len
  clear h hv
  generalize hva : val xs = va at *
  generalize hu : (ofv va).length = m at *
  have HU := Lib.hid hu
  clear hu hva
  go_enter Tryz.func176, Tryz.ntmps176
  go_wp2_with fail
  refine S1.out.mono ?_
  rintro e w1 ⟨R1, c1, rfl, ho1, hb1⟩
  rw [HU.out]
  have HB := Lib.hid hb1
  clear ho1 hb1
  go_wp2
  go_ret2
  exact ⟨rfl, HB.out⟩

set_option maxHeartbeats 1000000 in
theorem ruint64_yes (A : Option Addr) (cap : Nat) (xs : List Nat) (w : World) (h : Rd w A cap xs) (hn : xs.length ≤ 70368744177664) (hv : val xs < 18446744073709551616) :
    Calls Tryz.prog 176 #[.slice A xs.length cap] w fun e w' => e = .returned (.tuple #[.int .u64 ((val xs : Nat) : Int), .bool true]) ∧ Below w.heap.size w w' := by
  have S1 := Lib.hid (rtrim_any A cap xs w h hn)
  have l2 : (ofv (val xs)).length ≤ 2 := len_ofv_le_of_lt (by rw [pw_succ, pw_succ, pw_zero]; omega)
  have hc := h.capLe
  have hl := h.sig.len
  have ho := okl_ofv (val xs)
  have hV := Lib.hid (val_ofv (val xs))
  clear h hv
  generalize hva : val xs = va at *
  generalize hu : ofv va = us at *
  have HU := Lib.hid hu
  have HO := Lib.hid ho
  clear hu hva ho
  go_enter Tryz.func176, Tryz.ntmps176
  go_wp2_with fail
  refine S1.out.mono ?_
  rintro e w1 ⟨R1, c1, rfl, ho1, hb1⟩
  rw [HU.out] at ho1 ⊢
  have HB := Lib.hid hb1
  have X := Lib.hid ho1.rd
  clear ho1 hb1
  go_wp2
  go_loop [4, 5] (fun v i => ∃ (z : Int) (vn : Nat), i = .int .i64 z ∧ v = .int .u64 vn ∧ -1 ≤ z ∧ z < us.length ∧ Hid (vn = val (us.drop (z + 1).toNat))) (fun _ i => (intOf i + 1).toNat)
  case atStart => exact ⟨(us.length : Int) - 1, 0, rfl, rfl, by omega, by omega, by show 0 = _; rw [List.drop_of_length_le (by omega)]; rfl⟩
  case round =>
    obtain ⟨z, vn, rfl, rfl, hz1, hz2, hz⟩ := hrel
    by_cases h0 : z = -1
    · subst h0
      have e : vn = va := by
        have e1 := hz.out
        simp at e1
        rw [e1, hV.out]
      have E := Lib.hid e
      clear e
      go_wp2
      go_ret2
      exact ⟨by rw [E.out]; rfl, HB.out⟩
    · obtain ⟨k, rfl⟩ : ∃ k : Nat, z = (k : Int) := Int.eq_ofNat_of_zero_le (by omega)
      have hk : k < us.length := by omega
      obtain ⟨b, o, hA, hb1, hc1⟩ := X.out.at_ hk
      have c1 := hc1 k hk
      have b1 := lim_lt HO.out k
      have e1 : vn = val (us.drop (k + 1)) := by
        have := hz.out
        rwa [show ((k : Int) + 1).toNat = k + 1 from by omega] at this
      have b2 : vn < 4294967296 := by
        have h1 := val_lt (okl_drop HO.out (k + 1))
        rw [← e1] at h1
        have h2 : (us.drop (k + 1)).length ≤ 1 := by rw [List.length_drop]; omega
        have h3 := pw_le h2
        rw [pw_succ, pw_zero] at h3
        omega
      have E := or64' b1 b2
      have nx : Hid (lim us k + 4294967296 * vn = val (us.drop ((k : Int) - 1 + 1).toNat)) := by
        show _ = _
        rw [show ((k : Int) - 1 + 1).toNat = k from by omega, val_drop_succ, e1]
      subst hA
      clear hc1 h0 e1 hz
      generalize lim us k + 4294967296 * vn = nv at *
      go_wp2
      go_round
      case rel => exact ⟨(k : Int) - 1, nv, rfl, rfl, by omega, by omega, nx⟩
      case measure => simp [intOf]
end Go.Proofs.YtfacndibfkamgaaGreat

/-
  Contracts of the reference's Add and Sub.
-/
namespace Go.Proofs.YtfacndibfkamgaaGreat
open Go.RowKit
set_option linter.unusedVariables false

theorem radd_step {w wr : World} {us vs zs : List Nat} {k cn m : Nat} (hk : k < m) (hu : okl us) (hv : okl vs) (hcn : cn ≤ 1) (hr : Row wr w.heap.size zs) (hzl : zs.length = m) (hz : okl zs)
    (he : val (zs.take k) + cn * pw k = val (us.take k) + val (vs.take k)) (hb : Below w.heap.size w wr) (z : Int) (hzz : z = ((cn + lim us k + lim vs k) % 4294967296 : Nat)) :
    ∃ zs', Row (wr.setCell ⟨w.heap.size, k, none⟩ (.int .u32 z)) w.heap.size zs' ∧ zs'.length = m ∧ okl zs' ∧ val (zs'.take (k + 1)) + ((cn + lim us k + lim vs k) / 4294967296) * pw (k + 1) = val (us.take (k + 1)) + val (vs.take (k + 1)) ∧ Below w.heap.size w (wr.setCell ⟨w.heap.size, k, none⟩ (.int .u32 z)) := by
  subst hzz
  refine ⟨zs.set k ((cn + lim us k + lim vs k) % 4294967296), hr.set_ _ _, by simpa using hzl, okl_set hz (by omega) _, ?_, hb.setCell (Nat.le_refl _) _⟩
  rw [val_take_set (by omega), val_take_succ' us k, val_take_succ' vs k, pw_succ]
  have e := Nat.div_add_mod (cn + lim us k + lim vs k) 4294967296
  generalize (cn + lim us k + lim vs k) / 4294967296 = q at *
  generalize (cn + lim us k + lim vs k) % 4294967296 = r at *
  grind
def RaInv (w : World) (us vs : List Nat) (m k cn : Nat) (wr : World) : Prop :=
  ∃ zs, Row wr w.heap.size zs ∧ zs.length = m ∧ okl zs ∧ val (zs.take k) + cn * pw k = val (us.take k) + val (vs.take k) ∧ Below w.heap.size w wr

set_option maxHeartbeats 2000000 in
theorem radd_any (A B : Option Addr) (ca cb : Nat) (us vs : List Nat) (w : World) (h : Rd w A ca us) (h' : Rd w B cb vs) (hn : us.length ≤ 70368744177663) (hn' : vs.length ≤ 70368744177663) :
    Calls Tryz.prog 150 #[.slice A us.length ca, .slice B vs.length cb] w (Gives w (val us + val vs)) := by
  have X := Lib.hid h
  have Y := Lib.hid h'
  have hc1 := h.capLe
  have hc2 := h'.capLe
  have hl1 := h.len
  have hl2 := h'.len
  clear h h'
  rcases Nat.lt_or_ge us.length vs.length with hlt | hge
  · have hm1 : us.length ≤ vs.length := by omega
    have hm2 : vs.length ≤ vs.length := Nat.le_refl _
    go_enter Tryz.func150, Tryz.ntmps150
    go_wp2_with (at_make; refine make_row rfl _ _ rfl _ _ (vs.length + 1) rfl rfl (by omega) (by omega) (by omega) ?_)
    intro w1 hrow hbel
    go_wp2
    go_loopw [6, 7] (fun c i wr => ∃ k cn : Nat, k ≤ vs.length + 1 ∧ i = .int .i64 k ∧ c = .int .u64 cn ∧ cn ≤ 1 ∧ RaInv w us vs (vs.length + 1) k cn wr) (fun _ i _ => vs.length + 1 - (intOf i).toNat)
    case atStart => exact ⟨0, 0, Nat.zero_le _, rfl, rfl, by omega, _, hrow, by simp, okl_replicate _, by simp [val_nil], hbel⟩
    case round =>
      clear hrow hbel
      obtain ⟨k, cn, hk, rfl, rfl, hcn, inv⟩ := hrel
      obtain ⟨zs, hrow, hzl, hzo, heq, hbel⟩ := inv
      have HE := Lib.hid heq
      have HZ := Lib.hid hzl
      have HR := Lib.hid hrow
      have HB := Lib.hid hbel
      clear heq hzl hrow
      by_cases hlt : k < vs.length + 1
      · have X1 := X.out.keep (Nat.le_refl _) hbel
        have Y1 := Y.out.keep (Nat.le_refl _) hbel
        have hfz := HR.out.frozen k
        have hcw := HR.out.cell (i := k) (by have := HZ.out; omega)
        have b1 := lim_lt X1.ok k
        have b2 := lim_lt Y1.ok k
        have step := Lib.hid (radd_step hlt X1.ok Y1.ok hcn HR.out HZ.out hzo HE.out hbel)
        have cases4 : (k < us.length ∧ k < vs.length) ∨ (k < us.length ∧ vs.length ≤ k) ∨ (us.length ≤ k ∧ k < vs.length) ∨ (us.length ≤ k ∧ vs.length ≤ k) := by omega
        rcases cases4 with ⟨h1, h2⟩ | ⟨h1, h2⟩ | ⟨h1, h2⟩ | ⟨h1, h2⟩
        · obtain ⟨b, o, hA, hb, hc⟩ := X1.at_ h1
          have c1 := hc k h1
          obtain ⟨b', o', hB, hb', hc'⟩ := Y1.at_ h2
          have c2 := hc' k h2
          subst hA hB
          clear hc hc' hbel X1 Y1
          go_wp2
          go_roundw
          case rel => exact ⟨k + 1, (cn + lim us k + lim vs k) / 4294967296, by omega, by go_num, by first | rfl | (congr 1; omega), by omega, step.out _ (by omega)⟩
          case measure => simp [intOf]; omega
        · exact absurd h1 (by omega)
        · obtain ⟨b', o', hB, hb', hc'⟩ := Y1.at_ h2
          have c2 := hc' k h2
          have hz0 := lim_out h1
          rw [hz0] at step
          subst hB
          clear hc' hbel X1 Y1 hz0
          go_wp2
          go_roundw
          case rel => exact ⟨k + 1, (cn + 0 + lim vs k) / 4294967296, by omega, by go_num, by first | rfl | (congr 1; omega), by omega, step.out _ (by omega)⟩
          case measure => simp [intOf]; omega
        · have hz0 := lim_out h1
          have hz1 := lim_out h2
          rw [hz0, hz1] at step
          clear hbel X1 Y1 hz0 hz1
          go_wp2
          go_roundw
          case rel => exact ⟨k + 1, (cn + 0 + 0) / 4294967296, by omega, by go_num, by first | rfl | (congr 1; omega), by omega, step.out _ (by omega)⟩
          case measure => simp [intOf]; omega
      · obtain rfl : k = vs.length + 1 := by omega
        have hZ := HZ.out
        have hv2 : val zs = val us + val vs := by
          have e := HE.out
          rw [List.take_of_length_le (by omega), List.take_of_length_le (by omega), List.take_of_length_le (by omega)] at e
          have hlt1 := val_lt X.out.ok
          have hlt2 := val_lt Y.out.ok
          have p1 := pw_le hm1
          have p2 := pw_le hm2
          rw [pw_succ] at e
          have pp := pw_pos vs.length
          rcases Nat.eq_zero_or_pos cn with h0 | h0
          · rw [h0] at e; omega
          · obtain rfl : cn = 1 := by omega
            omega
        have ow := Own.of_row (lo := w.heap.size) HR.out hzo (Nat.le_refl _) (by omega)
        have rd := ow.rd
        rw [hZ] at rd
        have S := rtrim_n rd hZ (by omega)
        rw [hv2] at S
        have HS := Lib.hid S
        clear S rd ow hv2 hZ hbel hk hlt
        go_wp2_with fail
        refine HS.out.mono ?_
        rintro e w2 ⟨R, c, rfl, ho, hb⟩
        have FIN : Hid (Gives w (val us + val vs) (.returned (.slice R (ofv (val us + val vs)).length c)) w2) :=
          ⟨R, c, rfl, ho.mono HB.out.size, HB.out.trans (hb.mono HB.out.size)⟩
        clear ho hb
        go_wp2
        go_ret
        exact FIN.out
  · have hm1 : us.length ≤ us.length := Nat.le_refl _
    have hm2 : vs.length ≤ us.length := by omega
    go_enter Tryz.func150, Tryz.ntmps150
    go_wp2_with (at_make; refine make_row rfl _ _ rfl _ _ (us.length + 1) rfl rfl (by omega) (by omega) (by omega) ?_)
    intro w1 hrow hbel
    go_wp2
    go_loopw [6, 7] (fun c i wr => ∃ k cn : Nat, k ≤ us.length + 1 ∧ i = .int .i64 k ∧ c = .int .u64 cn ∧ cn ≤ 1 ∧ RaInv w us vs (us.length + 1) k cn wr) (fun _ i _ => us.length + 1 - (intOf i).toNat)
    case atStart => exact ⟨0, 0, Nat.zero_le _, rfl, rfl, by omega, _, hrow, by simp, okl_replicate _, by simp [val_nil], hbel⟩
    case round =>
      clear hrow hbel
      obtain ⟨k, cn, hk, rfl, rfl, hcn, inv⟩ := hrel
      obtain ⟨zs, hrow, hzl, hzo, heq, hbel⟩ := inv
      have HE := Lib.hid heq
      have HZ := Lib.hid hzl
      have HR := Lib.hid hrow
      have HB := Lib.hid hbel
      clear heq hzl hrow
      by_cases hlt : k < us.length + 1
      · have X1 := X.out.keep (Nat.le_refl _) hbel
        have Y1 := Y.out.keep (Nat.le_refl _) hbel
        have hfz := HR.out.frozen k
        have hcw := HR.out.cell (i := k) (by have := HZ.out; omega)
        have b1 := lim_lt X1.ok k
        have b2 := lim_lt Y1.ok k
        have step := Lib.hid (radd_step hlt X1.ok Y1.ok hcn HR.out HZ.out hzo HE.out hbel)
        have cases4 : (k < us.length ∧ k < vs.length) ∨ (k < us.length ∧ vs.length ≤ k) ∨ (us.length ≤ k ∧ k < vs.length) ∨ (us.length ≤ k ∧ vs.length ≤ k) := by omega
        rcases cases4 with ⟨h1, h2⟩ | ⟨h1, h2⟩ | ⟨h1, h2⟩ | ⟨h1, h2⟩
        · obtain ⟨b, o, hA, hb, hc⟩ := X1.at_ h1
          have c1 := hc k h1
          obtain ⟨b', o', hB, hb', hc'⟩ := Y1.at_ h2
          have c2 := hc' k h2
          subst hA hB
          clear hc hc' hbel X1 Y1
          go_wp2
          go_roundw
          case rel => exact ⟨k + 1, (cn + lim us k + lim vs k) / 4294967296, by omega, by go_num, by first | rfl | (congr 1; omega), by omega, step.out _ (by omega)⟩
          case measure => simp [intOf]; omega
        · obtain ⟨b, o, hA, hb, hc⟩ := X1.at_ h1
          have c1 := hc k h1
          have hz0 := lim_out h2
          rw [hz0] at step
          subst hA
          clear hc hbel X1 Y1 hz0
          go_wp2
          go_roundw
          case rel => exact ⟨k + 1, (cn + lim us k + 0) / 4294967296, by omega, by go_num, by first | rfl | (congr 1; omega), by omega, step.out _ (by omega)⟩
          case measure => simp [intOf]; omega
        · exact absurd h2 (by omega)
        · have hz0 := lim_out h1
          have hz1 := lim_out h2
          rw [hz0, hz1] at step
          clear hbel X1 Y1 hz0 hz1
          go_wp2
          go_roundw
          case rel => exact ⟨k + 1, (cn + 0 + 0) / 4294967296, by omega, by go_num, by first | rfl | (congr 1; omega), by omega, step.out _ (by omega)⟩
          case measure => simp [intOf]; omega
      · obtain rfl : k = us.length + 1 := by omega
        have hZ := HZ.out
        have hv2 : val zs = val us + val vs := by
          have e := HE.out
          rw [List.take_of_length_le (by omega), List.take_of_length_le (by omega), List.take_of_length_le (by omega)] at e
          have hlt1 := val_lt X.out.ok
          have hlt2 := val_lt Y.out.ok
          have p1 := pw_le hm1
          have p2 := pw_le hm2
          rw [pw_succ] at e
          have pp := pw_pos us.length
          rcases Nat.eq_zero_or_pos cn with h0 | h0
          · rw [h0] at e; omega
          · obtain rfl : cn = 1 := by omega
            omega
        have ow := Own.of_row (lo := w.heap.size) HR.out hzo (Nat.le_refl _) (by omega)
        have rd := ow.rd
        rw [hZ] at rd
        have S := rtrim_n rd hZ (by omega)
        rw [hv2] at S
        have HS := Lib.hid S
        clear S rd ow hv2 hZ hbel hk hlt
        go_wp2_with fail
        refine HS.out.mono ?_
        rintro e w2 ⟨R, c, rfl, ho, hb⟩
        have FIN : Hid (Gives w (val us + val vs) (.returned (.slice R (ofv (val us + val vs)).length c)) w2) :=
          ⟨R, c, rfl, ho.mono HB.out.size, HB.out.trans (hb.mono HB.out.size)⟩
        clear ho hb
        go_wp2
        go_ret
        exact FIN.out

theorem radd_n {A B : Option Addr} {ca cb n m : Nat} {xs ys : List Nat} {w : World} (h : Rd w A ca xs) (h' : Rd w B cb ys) (hn : xs.length = n) (hm : ys.length = m) (hl : n ≤ 70368744177663) (hl' : m ≤ 70368744177663) :
    Calls Tryz.prog 150 #[.slice A n ca, .slice B m cb] w (Gives w (val xs + val ys)) := by
  subst hn hm; exact radd_any A B ca cb xs ys w h h' hl hl'

theorem rsub_no (A B : Option Addr) (ca cb : Nat) (xs ys : List Nat) (w : World) (h : Rd w A ca xs) (h' : Rd w B cb ys) (hn : xs.length ≤ 70368744177663) (hn' : ys.length ≤ 70368744177663) (hv : val xs < val ys) :
    Calls Tryz.prog 151 #[.slice A xs.length ca, .slice B ys.length cb] w (GivesF w) := by
  have C := rcompare_any A B ca cb xs ys w h h' (by omega) (by omega)
  rw [cmp_lt hv] at C
  have HC := Lib.hid C
  have hc := h.capLe
  clear C h h' hv
  go_enter Tryz.func151, Tryz.ntmps151
  go_wp2_with fail
  refine HC.out.mono ?_
  rintro e w' ⟨rfl, hb⟩
  have HB := Lib.hid hb
  clear hb
  go_wp2
  go_ret2
  exact ⟨rfl, HB.out⟩

set_option maxHeartbeats 4000000 in
theorem rsub_yes (A B : Option Addr) (ca cb : Nat) (xs ys : List Nat) (w : World) (h : Rd w A ca xs) (h' : Rd w B cb ys) (hn : xs.length ≤ 70368744177663) (hn' : ys.length ≤ 70368744177663) (hv : val ys ≤ val xs) :
    Calls Tryz.prog 151 #[.slice A xs.length ca, .slice B ys.length cb] w (GivesT w (val xs - val ys)) := by
  have C := rcompare_any A B ca cb xs ys w h h' (by omega) (by omega)
  have hc0 := cmp_nonneg hv
  have hc1 := h.capLe
  have hc2 := h'.capLe
  have hl1' := h.len
  have hl2' := h'.len
  have n1 := len_ofv_le h.ok
  have hn1 : (ofv (val xs)).length ≤ 70368744177663 := by omega
  have hx := Lib.hid (val_ofv (val xs))
  have hy := Lib.hid (val_ofv (val ys))
  have P0 := Lib.hid h
  have Q0 := Lib.hid h'
  have hl : (ofv (val ys)).length ≤ (ofv (val xs)).length := by
    rcases Nat.lt_or_ge (ofv (val xs)).length (ofv (val ys)).length with hlt | hge
    · have := lt_of_len_lt hlt; omega
    · exact hge
  have T1 := Lib.hid (fun w' (h : Rd w' A ca xs) => rtrim_any A ca xs w' h (by omega))
  have T2 := Lib.hid (fun w' (h : Rd w' B cb ys) => rtrim_any B cb ys w' h (by omega))
  have HN := Lib.hid hv
  generalize cmp (val xs) (val ys) = cc at *
  have HC := Lib.hid C
  clear C h h' hv n1
  generalize hva : val xs = va at *
  generalize hvb : val ys = vb at *
  generalize hus : ofv va = us at *
  generalize hvs : ofv vb = vs at *
  have HU := Lib.hid hus
  have HV := Lib.hid hvs
  clear hva hvb hus hvs
  go_enter Tryz.func151, Tryz.ntmps151
  go_wp2_with fail
  refine HC.out.mono ?_
  rintro e w0 ⟨rfl, hb0⟩
  have HB0 := Lib.hid hb0
  clear hb0
  go_wp2_with fail
  refine (T1.out _ (P0.out.below HB0.out)).mono ?_
  rintro e w1 ⟨R1, c1, rfl, ho1, hb1⟩
  rw [HU.out] at ho1 ⊢
  have O1 := Lib.hid ho1
  have HB1 := Lib.hid hb1
  clear ho1 hb1
  go_wp2_with fail
  refine (T2.out _ ((Q0.out.below HB0.out).below HB1.out)).mono ?_
  rintro e w2 ⟨R2, c2, rfl, ho2, hb2⟩
  rw [HV.out] at ho2 ⊢
  have X := Lib.hid (O1.out.rd.below hb2)
  have Y := Lib.hid ho2.rd
  have HB2 : Hid (Below w.heap.size w w2) := HB0.out.trans ((HB1.out.mono HB0.out.size).trans (hb2.mono (Nat.le_trans HB0.out.size HB1.out.size)))
  clear ho2 hb2 O1 HB0 HB1 P0 Q0
  have hm1 := X.out.len
  have hm2 := Y.out.len
  have hm3 := X.out.capLe
  have hm4 := Y.out.capLe
  go_wp2_with (at_make; refine make_row rfl _ _ rfl _ _ us.length rfl rfl rfl rfl (by omega) ?_)
  intro w3 hrow hbel
  go_wp2
  go_loopw [7, 8] (fun b i wr => ∃ k bn : Nat, k ≤ us.length ∧ i = .int .i64 k ∧ b = .int .u64 bn ∧ bn ≤ 1 ∧ SubInv w2 w us vs k bn wr) (fun _ i _ => us.length - (intOf i).toNat)
  case atStart => exact ⟨0, 0, Nat.zero_le _, rfl, rfl, by omega, _, hrow, by simp, okl_replicate _, by simp [val_nil], hbel⟩
  case round =>
    clear hrow hbel
    obtain ⟨k, bn, hk, rfl, rfl, hbn, inv⟩ := hrel
    obtain ⟨zs, hrow, hzl, hzo, heq, hbel⟩ := inv
    have HE := Lib.hid heq
    have HZ := Lib.hid hzl
    have HR := Lib.hid hrow
    have HB := Lib.hid hbel
    clear heq hzl hrow
    by_cases hlt : k < us.length
    · have X1 := X.out.keep (Nat.le_refl _) hbel
      have Y1 := Y.out.keep (Nat.le_refl _) hbel
      obtain ⟨b, o, hA, hb, hc⟩ := X1.at_ hlt
      have c1 := hc k hlt
      have hfz := HR.out.frozen k
      have hcw := HR.out.cell (i := k) (by have := HZ.out; omega)
      have b1 := lim_lt X1.ok k
      have b2 := lim_lt Y1.ok k
      have step := Lib.hid (fun d b' hd => sub_step (w := w) (d := d) (b' := b') hlt hd HR.out HZ.out hzo HE.out hbel)
      subst hA
      clear hc
      have cases4 : (k < vs.length ∧ lim us k < bn + lim vs k) ∨ (k < vs.length ∧ bn + lim vs k ≤ lim us k) ∨ (vs.length ≤ k ∧ lim us k < bn + lim vs k) ∨ (vs.length ≤ k ∧ bn + lim vs k ≤ lim us k) := by omega
      rcases cases4 with ⟨h2, hxy⟩ | ⟨h2, hxy⟩ | ⟨h2, hxy⟩ | ⟨h2, hxy⟩
      · obtain ⟨b', o', hB, hb', hc'⟩ := Y1.at_ h2
        have c2 := hc' k h2
        subst hB
        clear hc' hbel X1 Y1
        go_wp2
        go_roundw
        case rel => exact ⟨k + 1, 1, by omega, by go_num, rfl, by omega, step.out (4294967296 + lim us k - lim vs k - bn) 1 (by omega) (by omega) _ (by omega)⟩
        case measure => simp [intOf]; omega
      · obtain ⟨b', o', hB, hb', hc'⟩ := Y1.at_ h2
        have c2 := hc' k h2
        subst hB
        clear hc' hbel X1 Y1
        go_wp2
        go_roundw
        case rel => exact ⟨k + 1, 0, by omega, by go_num, rfl, by omega, step.out (lim us k - lim vs k - bn) 0 (by omega) (by omega) _ (by omega)⟩
        case measure => simp [intOf]; omega
      · have hz0 := lim_out h2
        rw [hz0] at step hxy
        clear hbel X1 Y1 hz0
        go_wp2
        go_roundw
        case rel => exact ⟨k + 1, 1, by omega, by go_num, rfl, by omega, step.out (4294967296 + lim us k - 0 - bn) 1 (by omega) (by omega) _ (by omega)⟩
        case measure => simp [intOf]; omega
      · have hz0 := lim_out h2
        rw [hz0] at step hxy
        clear hbel X1 Y1 hz0
        go_wp2
        go_roundw
        case rel => exact ⟨k + 1, 0, by omega, by go_num, rfl, by omega, step.out (lim us k - 0 - bn) 0 (by omega) (by omega) _ (by omega)⟩
        case measure => simp [intOf]; omega
    · obtain rfl : k = us.length := by omega
      have hE := HE.out
      have hZ := HZ.out
      have okv : okl vs := Y.out.ok
      have t1 : zs.take us.length = zs := List.take_of_length_le (by omega)
      have t2 : vs.take us.length = vs := List.take_of_length_le hl
      have t3 : us.take us.length = us := List.take_of_length_le (Nat.le_refl _)
      rw [t1, t2, t3] at hE
      have hb0 : bn = 0 := by
        have hlt1 := val_lt hzo
        rw [hZ] at hlt1
        have e1 := hx.out
        have e2 := hy.out
        have e3 := HN.out
        rcases Nat.eq_zero_or_pos bn with h0 | h0
        · exact h0
        · obtain rfl : bn = 1 := by omega
          have hlt2 := val_lt X.out.ok
          omega
      subst hb0
      have hv2 : val zs = va - vb := by
        have e1 := hx.out
        have e2 := hy.out
        omega
      have ow := Own.of_row (lo := w2.heap.size) HR.out hzo (Nat.le_refl _) (by omega)
      have rd := ow.rd
      rw [hZ] at rd
      have S := rtrim_n rd hZ (by omega)
      rw [hv2] at S
      have HS := Lib.hid S
      clear S hbel hk hlt hE hZ okv t1 t2 t3 hv2 ow rd
      go_wp2_with fail
      refine HS.out.mono ?_
      rintro e w4 ⟨R, c, rfl, ho, hb⟩
      have FIN : Hid (GivesT w (va - vb) (.returned (.tuple #[.slice R (ofv (va - vb)).length c, .bool true])) w4) := by
        have s1 := HB2.out.size
        have s2 := HB.out.size
        exact ⟨R, c, rfl, ho.mono (by omega), HB2.out.trans ((HB.out.mono s1).trans (hb.mono (by omega)))⟩
      clear ho hb
      go_wp2
      go_ret2
      exact FIN.out
theorem rsub_yes_n {A B : Option Addr} {ca cb n m : Nat} {xs ys : List Nat} {w : World} (h : Rd w A ca xs) (h' : Rd w B cb ys) (hn : xs.length = n) (hm : ys.length = m) (hl : n ≤ 70368744177663) (hl' : m ≤ 70368744177663) (hv : val ys ≤ val xs) :
    Calls Tryz.prog 151 #[.slice A n ca, .slice B m cb] w (GivesT w (val xs - val ys)) := by
  subst hn hm; exact rsub_yes A B ca cb xs ys w h h' hl hl' hv
end Go.Proofs.YtfacndibfkamgaaGreat

/-
  Contract of the reference's Mul.
-/
namespace Go.Proofs.YtfacndibfkamgaaGreat
open Go.RowKit
set_option linter.unusedVariables false

theorem ap_start {w : World} {g o x : Nat} {zs vs : List Nat} (hr : Row w g zs) (hz : okl zs) : ApInv w g o zs vs x 0 0 w :=
  ⟨zs, hr, rfl, hz, fun _ _ => rfl, by simp [val_nil], World.grownBy.refl _ _⟩

set_option maxHeartbeats 4000000 in
theorem rmul_any (A B : Option Addr) (ca cb : Nat) (us vs : List Nat) (w : World) (h : Rd w A ca us) (h' : Rd w B cb vs) (hn : us.length + vs.length ≤ 70368744177664) :
    Calls Tryz.prog 162 #[.slice A us.length ca, .slice B vs.length cb] w (Gives w (val us * val vs)) := by
  have hc1 := h.capLe
  have hc2 := h'.capLe
  have l1 := h.len
  have l2 := h'.len
  have X := Lib.hid h
  have Y := Lib.hid h'
  clear h h'
  go_enter Tryz.func162, Tryz.ntmps162
  go_wp2_with (at_make; refine make_row rfl _ _ rfl _ _ (us.length + vs.length) rfl rfl (by omega) (by omega) (by omega) ?_)
  intro w1 hrow hbel
  go_wp2
  go_loopw [6] (fun i wr => ∃ k : Nat, k ≤ us.length ∧ i = .int .i64 k ∧ MuInv w us vs k wr) (fun i _ => us.length - (intOf i).toNat)
  case atStart => exact ⟨0, Nat.zero_le _, rfl, _, hrow, by simp, okl_replicate _, fun j _ => lim_replicate _ _, by rw [val_replicate]; simp [val_nil], hbel⟩
  case round =>
    clear hrow hbel
    obtain ⟨k, hk, rfl, inv⟩ := hrel
    obtain ⟨zs, hrow, hzl, hzo, hj, heq, hbel⟩ := inv
    have HE := Lib.hid heq
    have HZ := Lib.hid hzl
    have HR := Lib.hid hrow
    have HB := Lib.hid hbel
    have HJ := Lib.hid hj
    have HO := Lib.hid hzo
    clear heq hzl hrow hj hbel hzo
    by_cases hlt : k < us.length
    · have X1 := Lib.hid (X.out.keep (Nat.le_refl _) HB.out)
      have Y1 := Lib.hid (Y.out.keep (Nat.le_refl _) HB.out)
      obtain ⟨b, o, hA, hb, hc⟩ := X1.out.at_ hlt
      have c1 := hc k hlt
      have b1 := lim_lt X1.out.ok k
      have hb' : b < w.heap.size := X.out.old b o (by omega) hA
      have NE : Hid (∀ b' o', 0 < cb → B = some ⟨b', o', none⟩ → some b' ≠ some w.heap.size) := by
        intro b' o' h0 hB e
        have := Y.out.old b' o' h0 hB
        have e' : b' = w.heap.size := by simpa using e
        omega
      subst hA
      clear hc
      obtain ⟨wo, rfl⟩ : ∃ wo : World, wo = wr := ⟨_, rfl⟩
      go_wp2
      go_loopw [7, 8] (fun cy j wi => ∃ m cn : Nat, m ≤ vs.length ∧ j = .int .i64 m ∧ cy = .int .u64 cn ∧ cn ≤ 4294967295 ∧ ApInv wo w.heap.size k zs vs (lim us k) m cn wi) (fun _ j _ => vs.length - (intOf j).toNat)
      case atStart => exact ⟨0, 0, Nat.zero_le _, rfl, rfl, by omega, ap_start HR.out HO.out⟩
      case round =>
        obtain ⟨m, cn, hm, rfl, rfl, hcn, inv⟩ := hrel
        have INV := Lib.hid inv
        by_cases hlt2 : m < vs.length
        · obtain ⟨ys, hyr, hyl, hyo, hyj, hye, hyg⟩ := inv
          have Y2 := Y1.out.grown hyg NE.out
          obtain ⟨b2, o2, hB, hb2, hcell⟩ := Y2.at_ hlt2
          have c2 := hcell m hlt2
          have c3 : wr.cell? ⟨b, o + k, none⟩ = some (.int .u32 ((lim us k : Nat) : Int)) := (hyg.cell c1 (fun e => absurd (show b = w.heap.size by simpa using e) (by omega)))
          have hfz := hyr.frozen (k + m)
          have hcw := hyr.cell (i := k + m) (by have := HZ.out; omega)
          have b3 := lim_lt Y2.ok m
          have b4 := lim_lt hyo (k + m)
          have step := Lib.hid (fun nq => ap_step (x := lim us k) (wr := wr.drewN nq) hlt2 (hyr.drewN nq) hyl hyo hyj hye (grown_trans hyg (grown_below (below_drewN _ _ _))) (by have := HZ.out; omega))
          have hp := mul_lt b1 b3
          have hpe : ((lim us k : Nat) : Int) * ((lim vs m : Nat) : Int) = ((lim us k * lim vs m : Nat) : Int) := by simp
          subst hB
          clear hcell hyr hyl hyj hye hyg Y2 INV
          generalize lim us k * lim vs m = p at *
          generalize lim ys (k + m) = y at *
          go_wp2
          go_quiet (fail)
          go_wp2
          go_roundw
          case rel => exact ⟨m + 1, (cn + (p + y)) / 4294967296, by omega, by go_num, by first | rfl | (congr 1; omega), by omega, step.out _ _ (by omega)⟩
          case measure => simp [intOf]; omega
        · obtain rfl : m = vs.length := by omega
          have ST := Lib.hid (mu_step hlt HZ.out HJ.out HE.out HB.out (by omega) inv)
          obtain ⟨ys2, hr2, hyl2, _⟩ := inv
          have hfz := hr2.frozen (k + vs.length)
          have hcw := hr2.cell (i := k + vs.length) (by have := HZ.out; omega)
          clear hr2 hyl2 INV hm hlt2
          go_wp2
          go_roundw
          case rel => exact ⟨k + 1, by omega, by go_num, ST.out _ (by first | rfl | omega)⟩
          case measure => simp [intOf]; omega
    · obtain rfl : k = us.length := by omega
      have hZ := HZ.out
      have hv2 : val zs = val us * val vs := by
        have e := HE.out
        rw [List.take_of_length_le (Nat.le_refl _)] at e
        exact e
      have ow := Own.of_row (lo := w.heap.size) HR.out HO.out (Nat.le_refl _) (by omega)
      have rd := ow.rd
      rw [hZ] at rd
      have S := rtrim_n rd hZ (by omega)
      rw [hv2] at S
      have HS := Lib.hid S
      clear S hk hlt hZ hv2 ow rd
      go_wp2_with fail
      refine HS.out.mono ?_
      rintro e w2 ⟨R, c, rfl, ho, hb⟩
      have FIN : Hid (Gives w (val us * val vs) (.returned (.slice R (ofv (val us * val vs)).length c)) w2) :=
        ⟨R, c, rfl, ho.mono HB.out.size, HB.out.trans (hb.mono HB.out.size)⟩
      clear ho hb
      go_wp2
      go_ret
      exact FIN.out
theorem rmul_n {A B : Option Addr} {ca cb n m : Nat} {xs ys : List Nat} {w : World} (h : Rd w A ca xs) (h' : Rd w B cb ys) (hn : xs.length = n) (hm : ys.length = m) (hl : n + m ≤ 70368744177664) :
    Calls Tryz.prog 162 #[.slice A n ca, .slice B m cb] w (Gives w (val xs * val ys)) := by
  subst hn hm; exact rmul_any A B ca cb xs ys w h h' hl
end Go.Proofs.YtfacndibfkamgaaGreat

/-
  Contracts of the reference's Bits and bit.
-/
namespace Go.Proofs.YtfacndibfkamgaaGreat
open Go.RowKit
set_option linter.unusedVariables false

set_option maxHeartbeats 1000000 in
theorem rbits_any (A : Option Addr) (cap : Nat) (xs : List Nat) (w : World) (h : Rd w A cap xs) (hn : xs.length ≤ 70368744177664) :
    Calls Tryz.prog 177 #[.slice A xs.length cap] w fun e w' => e = .returned (.int .i64 ((nbits (val xs) : Nat) : Int)) ∧ Below w.heap.size w w' := by
  have S1 := Lib.hid (rtrim_any A cap xs w h hn)
  have hc := h.capLe
  have hle := len_ofv_le h.ok
  have hl := h.len
  clear h
  by_cases h0 : val xs = 0
  · rw [h0, nbits_zero]
    rw [h0] at S1
    go_enter Tryz.func177, Tryz.ntmps177
    go_wp2_with fail
    refine S1.out.mono ?_
    rintro e w1 ⟨R, c, rfl, ho, hb⟩
    rw [ofv_zero]
    have HB := Lib.hid hb
    clear ho hb
    go_wp2
    go_ret
    exact ⟨rfl, HB.out⟩
  · have hp := len_pos (show 0 < val xs by omega)
    have T := Lib.hid (nbits_top h0)
    have lt := lim_lt (okl_ofv (val xs)) ((ofv (val xs)).length - 1)
    have hm : (ofv (val xs)).length ≤ 70368744177664 := by omega
    have HNB : Hid (nbits (val xs) ≤ 32 * (ofv (val xs)).length) := nbits_len _
    clear h0 hle
    generalize val xs = v at *
    generalize hu : ofv v = us at *
    have HU := Lib.hid hu
    clear hu
    go_enter Tryz.func177, Tryz.ntmps177
    go_wp2_with fail
    refine S1.out.mono ?_
    rintro e w1 ⟨R, c, rfl, ho, hb⟩
    rw [HU.out] at ho ⊢
    have HB := Lib.hid hb
    have rd := ho.rd
    obtain ⟨b, o, rfl, _, hcell⟩ := rd.at_ (k := us.length - 1) (by omega)
    have c1 := hcell (us.length - 1) (by omega)
    have hbz : ((us.length : Int) == 0) = false := by rw [beq_eq_false_iff_ne]; omega
    have hcl := rd.len
    have hcl2 := rd.capLe
    clear ho hb rd hcell
    have lt' : lim us (us.length - 1) < 4294967296 := lt
    clear lt
    generalize lim us (us.length - 1) = t at *
    have TB := Lib.hid (nbits_le (v := t) (k := 32) (by have : (2 : Nat) ^ 32 = 4294967296 := rfl; omega))
    go_wp2
    go_loop [3, 4] (fun nv x => ∃ a r : Nat, nv = .int .i64 a ∧ x = .int .u32 r ∧ r < 4294967296 ∧ a ≤ 9000000000000000 ∧ Hid (a + nbits r = 32 * (us.length - 1) + nbits t)) (fun _ x => (intOf x).toNat)
    case atStart => exact ⟨32 * (us.length - 1), t, by congr 1; omega, rfl, lt', by omega, rfl⟩
    case round =>
      obtain ⟨a, r, rfl, rfl, hr, ha, hi⟩ := hrel
      by_cases h0 : r = 0
      · subst h0
        have F : Hid (a = nbits v) := by
          have e1 := hi.out
          rw [nbits_zero] at e1
          show _ = _
          rw [T.out]; omega
        go_wp2
        go_ret
        exact ⟨by rw [← F.out]; rfl, HB.out⟩
      · have hr1 : 1 ≤ r := by omega
        have hi' : Hid (a + 1 + nbits (r / 2) = 32 * (us.length - 1) + nbits t) := by
          have e1 := hi.out
          rw [nbits_pos h0] at e1
          show _ = _
          omega
        have ha' : a + 1 ≤ 9000000000000000 := by
          have e1 := hi'.out
          have e2 := TB.out
          omega
        clear h0
        go_wp2
        go_round
        case rel => exact ⟨a + 1, r / 2, by go_num, by first | rfl | (congr 1; omega), by omega, ha', hi'⟩
        case measure => simp [intOf]; omega
theorem rbits_n {A : Option Addr} {cap n : Nat} {xs : List Nat} {w : World} (h : Rd w A cap xs) (hn : xs.length = n) (hl : n ≤ 70368744177664) :
    Calls Tryz.prog 177 #[.slice A n cap] w fun e w' => e = .returned (.int .i64 ((nbits (val xs) : Nat) : Int)) ∧ Below w.heap.size w w' := by
  subst hn; exact rbits_any A cap xs w h hl

/-- Binary digit i. -/
def bitOf (v i : Nat) : Nat := v / 2 ^ i % 2
theorem bitOf_val {xs : List Nat} (h : okl xs) (i : Nat) : bitOf (val xs) i = lim xs (i / 32) / 2 ^ (i % 32) % 2 := by
  unfold bitOf
  rw [val_div_two_pow h, val_drop_succ]
  have e : (4294967296 : Nat) = 2 ^ (i % 32) * (2 ^ (31 - i % 32) * 2) := by
    rw [← Nat.pow_succ, ← Nat.pow_add, show i % 32 + (31 - i % 32 + 1) = 32 from by omega]
  have hp : 0 < 2 ^ (i % 32) := Nat.pow_pos (by omega)
  rw [e, Nat.mul_assoc, Nat.add_mul_div_left _ _ hp, Nat.mul_comm (2 ^ (31 - i % 32)), Nat.mul_assoc, Nat.add_mul_mod_self_left]
theorem bitOf_lt (v i : Nat) : bitOf v i < 2 := Nat.mod_lt _ (by omega)

set_option maxHeartbeats 1000000 in
theorem bit_any (A : Option Addr) (cap : Nat) (xs : List Nat) (w : World) (h : Rd w A cap xs) (i : Nat) (hi : i ≤ 9000000000000000000) :
    Calls Tryz.prog 178 #[.slice A xs.length cap, .int .i64 (i : Int)] w fun e w' => e = .returned (.int .u32 ((bitOf (val xs) i : Nat) : Int)) ∧ w = w' := by
  rw [bitOf_val h.ok]
  have hl := h.len
  have hc := h.capLe
  rcases Nat.lt_or_ge (i / 32) xs.length with hlt | hge
  · obtain ⟨b, o, rfl, _, hcell⟩ := h.at_ hlt
    have c1 := hcell (i / 32) hlt
    have b1 := lim_lt h.ok (i / 32)
    clear h hcell
    generalize lim xs (i / 32) = t at *
    go_enter Tryz.func178, Tryz.ntmps178
    go_wp2
    go_ret
    have e1 : (t : Int) / 2 ^ (i % 32) = ((t / 2 ^ (i % 32) : Nat) : Int) := by simp
    have e2 : t / 2 ^ (i % 32) < 4294967296 := Nat.lt_of_le_of_lt (Nat.div_le_self _ _) b1
    have e3 := u32_and_nat (t / 2 ^ (i % 32)) 1 e2 (by omega)
    rw [Nat.and_one_is_mod] at e3
    refine ⟨ret_int ?_, rfl⟩
    rw [e1]
    exact e3
  · rw [lim_out hge]
    clear h
    go_enter Tryz.func178, Tryz.ntmps178
    go_wp2
    go_ret
    exact ⟨by simp, rfl⟩
theorem bit_e {A : Option Addr} {cap n : Nat} {xs : List Nat} {w : World} (h : Rd w A cap xs) (hn : xs.length = n) (i : Nat) {z : Int} (hz : z = (i : Int)) (hi : i ≤ 9000000000000000000) :
    Calls Tryz.prog 178 #[.slice A n cap, .int .i64 z] w fun e w' => e = .returned (.int .u32 ((bitOf (val xs) i : Nat) : Int)) ∧ w = w' := by
  subst hn hz; exact bit_any A cap xs w h i hi
end Go.Proofs.YtfacndibfkamgaaGreat

/-
  Setting a binary digit.
-/
namespace Go.Proofs.YtfacndibfkamgaaGreat
open Go.RowKit
set_option linter.unusedVariables false

theorem or_bit {x k : Nat} (h : x / 2 ^ k % 2 = 0) : x ||| 2 ^ k = x + 2 ^ k := by
  have hp : 0 < 2 ^ k := Nat.pow_pos (by omega)
  have hlo : x % 2 ^ k < 2 ^ k := Nat.mod_lt _ hp
  have e1 := Nat.div_add_mod x (2 ^ k)
  have e2 := Nat.div_add_mod (x / 2 ^ k) 2
  rw [h] at e2
  have e3 : x = x % 2 ^ k + 2 ^ (k + 1) * (x / 2 ^ k / 2) := by
    rw [Nat.pow_succ, Nat.mul_assoc]
    have : 2 * (x / 2 ^ k / 2) = x / 2 ^ k := by omega
    rw [this]; omega
  generalize x % 2 ^ k = lo at *
  generalize x / 2 ^ k / 2 = hi at *
  have a1 : x = lo ||| 2 ^ (k + 1) * hi := by rw [or_low (by rw [Nat.pow_succ]; omega)]; exact e3
  have a2 : lo ||| 2 ^ k = lo + 2 ^ k := by
    have := or_low (a := lo) (b := 1) hlo
    rwa [Nat.mul_one] at this
  have a3 : (lo + 2 ^ k) ||| 2 ^ (k + 1) * hi = lo + 2 ^ k + 2 ^ (k + 1) * hi := or_low (by rw [Nat.pow_succ]; omega)
  rw [e3, ← or_low (show lo < 2 ^ (k + 1) by rw [Nat.pow_succ]; omega), Nat.or_assoc, Nat.or_comm (2 ^ (k + 1) * hi), ← Nat.or_assoc, a2, a3, or_low (by rw [Nat.pow_succ]; omega)]
  omega

theorem set_bit {zs : List Nat} (hz : okl zs) {i : Nat} (hi : i / 32 < zs.length) (h0 : bitOf (val zs) i = 0) :
    (lim zs (i / 32) ||| 2 ^ (i % 32)) < 4294967296 ∧ val (zs.set (i / 32) (lim zs (i / 32) ||| 2 ^ (i % 32))) = val zs + 2 ^ i := by
  rw [bitOf_val hz] at h0
  have e := or_bit h0
  have lt := lim_lt hz (i / 32)
  have h2 : 2 ^ (i % 32) < 2 ^ 32 := Nat.pow_lt_pow_right (by omega) (by omega)
  have e32 : (2 : Nat) ^ 32 = 4294967296 := rfl
  refine ⟨?_, ?_⟩
  · rw [← e32]
    exact Nat.or_lt_two_pow (by omega) h2
  · have := val_set (v := lim zs (i / 32) ||| 2 ^ (i % 32)) hi
    rw [e] at this ⊢
    rw [two_pow_split i, Nat.mul_comm]
    rw [Nat.add_mul] at this
    omega
theorem bitOf_small {v i : Nat} (h : v < 2 ^ i) : bitOf v i = 0 := by
  unfold bitOf; rw [Nat.div_eq_of_lt h]
theorem bitOf_multiple {q i : Nat} : bitOf (q * 2 ^ (i + 1)) i = 0 := by
  unfold bitOf
  rw [Nat.pow_succ, ← Nat.mul_assoc, Nat.mul_comm (q * 2 ^ i) 2, ← Nat.mul_assoc, Nat.mul_div_cancel _ (Nat.pow_pos (by omega)), Nat.mul_mod_right]
theorem mod_two_pow_succ (V i : Nat) : V % 2 ^ (i + 1) = V % 2 ^ i + 2 ^ i * bitOf V i := by
  unfold bitOf
  rw [Nat.pow_succ, Nat.mod_mul]
theorem bitOf_shift (V r i : Nat) : bitOf V (i + r) = bitOf (V / 2 ^ r) i := by
  unfold bitOf
  rw [Nat.add_comm, Nat.pow_add, Nat.div_div_eq_div_mul]
end Go.Proofs.YtfacndibfkamgaaGreat

/-
  Contract of the reference's DivMod.
-/
namespace Go.Proofs.YtfacndibfkamgaaGreat
open Go.RowKit
set_option linter.unusedVariables false

theorem dstep0 {U b D : Nat} (hD : 0 < D) (h : U % D + U % D + b < D) : (2 * U + b) / D = 2 * (U / D) ∧ (2 * U + b) % D = U % D + U % D + b := by
  have e := Nat.div_add_mod U D
  have e2 : 2 * U + b = (U % D + U % D + b) + D * (2 * (U / D)) := by rw [Nat.mul_left_comm]; omega
  constructor
  · rw [e2, Nat.add_mul_div_left _ _ hD, Nat.div_eq_of_lt h, Nat.zero_add]
  · rw [e2, Nat.add_mul_mod_self_left, Nat.mod_eq_of_lt h]
theorem dstep1 {U b D : Nat} (hD : 0 < D) (hb : b < 2) (h : D ≤ U % D + U % D + b) : (2 * U + b) / D = 2 * (U / D) + 1 ∧ (2 * U + b) % D = U % D + U % D + b - D := by
  have e := Nat.div_add_mod U D
  have m := Nat.mod_lt U hD
  have e2 : 2 * U + b = (U % D + U % D + b - D) + D * (2 * (U / D) + 1) := by rw [Nat.mul_add, Nat.mul_left_comm]; omega
  have lt : U % D + U % D + b - D < D := by omega
  constructor
  · rw [e2, Nat.add_mul_div_left _ _ hD, Nat.div_eq_of_lt lt, Nat.zero_add]
  · rw [e2, Nat.add_mul_mod_self_left, Nat.mod_eq_of_lt lt]
theorem half_up (V j : Nat) : V / 2 ^ j = 2 * (V / 2 ^ (j + 1)) + bitOf V j := by
  unfold bitOf
  rw [Nat.pow_succ, ← Nat.div_div_eq_div_mul]
  omega
/-- The binary digits of the quotient from k on have been set. -/
def DvInv (w2 : World) (g n V D k : Nat) (R : Option Addr) (c : Nat) (wr : World) : Prop :=
  ∃ zs, Row wr g zs ∧ zs.length = n ∧ okl zs ∧ val zs = V / 2 ^ k / D * 2 ^ k ∧ Own wr (g + 1) R c (ofv (V / 2 ^ k % D)) ∧ w2.grownBy wr (some g)

theorem dv_zero {w2 wr : World} {g n V D j c : Nat} {R : Option Addr} {zs : List Nat} (h1 : Row wr g zs) (h2 : zs.length = n) (h3 : okl zs) (h4 : val zs = V / 2 ^ (j + 1) / D * 2 ^ (j + 1)) (hD : 0 < D)
    (ho : Own wr (g + 1) R c (ofv (V / 2 ^ (j + 1) % D + V / 2 ^ (j + 1) % D + bitOf V j))) (hg : w2.grownBy wr (some g)) (hlt : V / 2 ^ (j + 1) % D + V / 2 ^ (j + 1) % D + bitOf V j < D) :
    (ofv (V / 2 ^ (j + 1) % D + V / 2 ^ (j + 1) % D + bitOf V j)).length = (ofv (V / 2 ^ j % D)).length ∧ DvInv w2 g n V D j R c wr := by
  obtain ⟨s1, s2⟩ := dstep0 hD hlt
  rw [← half_up] at s1 s2
  rw [s2]
  refine ⟨rfl, zs, h1, h2, h3, ?_, by rw [s2]; exact ho, hg⟩
  rw [h4, s1, Nat.pow_succ, Nat.mul_comm (2 ^ j) 2, ← Nat.mul_assoc, Nat.mul_comm _ 2]
theorem dv_one {w2 wr : World} {g n V D j c : Nat} {R : Option Addr} {zs : List Nat} (h1 : Row wr g zs) (h2 : zs.length = n) (h3 : okl zs) (h4 : val zs = V / 2 ^ (j + 1) / D * 2 ^ (j + 1)) (hD : 0 < D)
    (ho : Own wr (g + 1) R c (ofv (V / 2 ^ (j + 1) % D + V / 2 ^ (j + 1) % D + bitOf V j - D))) (hg : w2.grownBy wr (some g)) (hle : D ≤ V / 2 ^ (j + 1) % D + V / 2 ^ (j + 1) % D + bitOf V j) (hj : j / 32 < n) (z : Int) (hz : z = ((lim zs (j / 32) ||| 2 ^ (j % 32) : Nat) : Int)) :
    (ofv (V / 2 ^ (j + 1) % D + V / 2 ^ (j + 1) % D + bitOf V j - D)).length = (ofv (V / 2 ^ j % D)).length ∧ DvInv w2 g n V D j R c (wr.setCell ⟨g, j / 32, none⟩ (.int .u32 z)) := by
  subst hz
  obtain ⟨s1, s2⟩ := dstep1 hD (bitOf_lt V j) hle
  rw [← half_up] at s1 s2
  rw [s2]
  have hz0 : bitOf (val zs) j = 0 := by rw [h4]; exact bitOf_multiple
  obtain ⟨b1, b2⟩ := set_bit h3 (i := j) (by omega) hz0
  refine ⟨rfl, _, h1.set_ _ _, by rw [List.length_set]; exact h2, okl_set h3 b1 _, ?_, ?_, grown_trans hg (grown_set _ _ _ _)⟩
  · rw [b2, h4, s1, Nat.pow_succ, Nat.mul_comm (2 ^ j) 2, ← Nat.mul_assoc, Nat.mul_comm _ 2, Nat.add_mul, Nat.one_mul]
  · rw [s2]
    obtain ⟨o0, o1, o2, o3⟩ := ho
    refine ⟨o0, o1, o2, ?_⟩
    rcases o3 with o3 | ⟨b, o, cur, hA, hl, hr, hc⟩
    · exact .inl o3
    · exact .inr ⟨b, o, cur, hA, hl, (Below.heap_setCell _ _ _ _ (show b ≠ g by omega)).trans hr, hc⟩

theorem rfrom_n {v : Nat} {w : World} {z : Int} (hz : z = (v : Int)) (h : v ≤ 18446744073709551615) : Calls Tryz.prog 81 #[.int .u64 z] w (Gives w v) := by
  subst hz; exact rfrom_any v w (by omega)
theorem rfrom_q {a b : Nat} {w : World} (h : a ≤ 18446744073709551615) :
    Calls Tryz.prog 81 #[.int .u64 (IntKind.u64.wrap ((a : Int) / (b : Int)))] w (Gives w (a / b)) := by
  have hq : a / b ≤ a := Nat.div_le_self _ _
  refine rfrom_n ?_ (by omega)
  rw [IntKind.wrap_u64, ← Int.natCast_ediv]
  generalize a / b = q at *
  omega
theorem rfrom_t {a b : Nat} {w : World} (h : a ≤ 18446744073709551615) :
    Calls Tryz.prog 81 #[.int .u64 ((a : Int).tmod (b : Int))] w (Gives w (a % b)) := by
  have hq : a % b ≤ a := Nat.mod_le _ _
  exact rfrom_n (by rw [Int.tmod_eq_emod_of_nonneg (by omega)]; simp) (by omega)
theorem rfrom_r {a b : Nat} {w : World} (h : a ≤ 18446744073709551615) :
    Calls Tryz.prog 81 #[.int .u64 ((a : Int) % (b : Int))] w (Gives w (a % b)) := by
  have hq : a % b ≤ a := Nat.mod_le _ _
  exact rfrom_n (by simp) (by omega)

theorem rdm_zero (A B : Option Addr) (ca cb : Nat) (xs ys : List Nat) (w : World) (h' : Rd w B cb ys) (hn' : ys.length ≤ 70368744177664) (hv : val ys = 0) :
    Calls Tryz.prog 145 #[.slice A xs.length ca, .slice B ys.length cb] w (GivesF2 w) := by
  have S := rtrim_any B cb ys w h' hn'
  rw [hv] at S
  have HS := Lib.hid S
  have e0 : (ofv 0).length = 0 := by rw [ofv_zero]; rfl
  have H0 := Lib.hid e0
  clear S h' hv e0
  go_enter Tryz.func145, Tryz.ntmps145
  go_wp2_with fail
  refine HS.out.mono ?_
  rintro e w1 ⟨R, c, rfl, ho, hb⟩
  rw [H0.out]
  have FIN : Hid (GivesF2 w (.returned (.tuple #[.slice none 0 0, .slice none 0 0, .bool false])) w1) := ⟨rfl, hb⟩
  clear ho hb
  go_wp2
  go_ret3
  exact FIN.out

set_option maxHeartbeats 4000000 in
theorem rdm_short (A B : Option Addr) (ca cb : Nat) (xs ys : List Nat) (w : World) (h : Rd w A ca xs) (h' : Rd w B cb ys) (hn : xs.length ≤ 70368744177664) (hn' : ys.length ≤ 70368744177664) (hv : 0 < val ys) (h1 : val xs < 18446744073709551616) (h2 : val ys < 18446744073709551616) :
    Calls Tryz.prog 145 #[.slice A xs.length ca, .slice B ys.length cb] w (Gives2 w (val xs / val ys) (val xs % val ys)) := by
  have S := Lib.hid (rtrim_any B cb ys w h' hn')
  have X := Lib.hid h
  have hp := len_pos hv
  have hl := len_ofv_le h'.ok
  have V2 := Lib.hid (val_ofv (val ys))
  have b1 : val xs ≤ 18446744073709551615 := by omega
  clear h h'
  generalize hu : ofv (val ys) = vs at *
  have HU := Lib.hid hu
  clear hu
  go_enter Tryz.func145, Tryz.ntmps145
  go_wp2_with fail
  refine S.out.mono ?_
  rintro e w1 ⟨R, c, rfl, ho, hb⟩
  rw [HU.out] at ho ⊢
  have hcl := ho.rd.len
  have hcl2 := ho.rd.capLe
  have B1 := Lib.hid hb
  have X1 := Lib.hid (X.out.below hb)
  have Y1 := Lib.hid ho.rd
  clear ho hb
  go_wp2_with fail
  refine (ruint64_yes A ca xs _ X1.out hn h1).mono ?_
  rintro e w2 ⟨rfl, hb⟩
  have B2 : Hid (Below w.heap.size w w2) := B1.out.trans (hb.mono B1.out.size)
  have Y2 := Lib.hid (Y1.out.below hb)
  clear hb
  go_wp2_with fail
  refine (ruint64_yes R c vs _ Y2.out (by omega) (by rw [V2.out]; exact h2)).mono ?_
  rw [V2.out]
  rintro e w3 ⟨rfl, hb⟩
  have B3 : Hid (Below w.heap.size w w3) := B2.out.trans (hb.mono B2.out.size)
  clear hb X1 Y1 Y2 B1 B2
  generalize val xs = va at *
  generalize val ys = vb at *
  go_wp2_with fail
  go_region_with ((go_at_call 81; first | ((with_reducible refine (rfrom_q b1).mono ?_); rintro e wq ⟨Rq, cq, rfl, hoq, hbq⟩) | ((with_reducible refine (rfrom_t b1).mono ?_); rintro e wr ⟨Rr, cr, rfl, hor, hbr⟩) | ((with_reducible refine (rfrom_r b1).mono ?_); rintro e wr ⟨Rr, cr, rfl, hor, hbr⟩)))
  all_goals
    have FIN : Hid (Gives2 w (va / vb) (va % vb) (.returned (.tuple #[.slice Rq (ofv (va / vb)).length cq, .slice Rr (ofv (va % vb)).length cr, .bool true])) wr) := by
      have z3 := B3.out.size
      have hbq' : Below w3.heap.size w3 wq := (below_drewN w3.heap.size w3 1).trans hbq
      have hs := hbq'.size
      exact ⟨Rq, cq, Rr, cr, rfl, (hoq.below hbr).mono (by show w.heap.size ≤ w3.heap.size; omega), hor.mono (by omega), B3.out.trans ((hbq'.mono (by omega)).trans (hbr.mono (by omega)))⟩
    clear hoq hbq hor hbr
    go_wp2
    go_ret3
    exact FIN.out

theorem rsub_no_n {A B : Option Addr} {ca cb n m : Nat} {xs ys : List Nat} {w : World} (h : Rd w A ca xs) (h' : Rd w B cb ys) (hn : xs.length = n) (hm : ys.length = m) (hl : n ≤ 70368744177663) (hl' : m ≤ 70368744177663) (hv : val xs < val ys) :
    Calls Tryz.prog 151 #[.slice A n ca, .slice B m cb] w (GivesF w) := by
  subst hn hm; exact rsub_no A B ca cb xs ys w h h' hl hl' hv
theorem dv_below {w2 wr wr' : World} {g n V D k c : Nat} {R : Option Addr} (h : DvInv w2 g n V D k R c wr) (hb : Below wr.heap.size wr wr') : DvInv w2 g n V D k R c wr' := by
  obtain ⟨zs, h1, h2, h3, h4, h5, h6⟩ := h
  exact ⟨zs, h1.below hb h1.lt, h2, h3, h4, h5.below hb, grown_trans h6 (grown_below hb)⟩
end Go.Proofs.YtfacndibfkamgaaGreat

/-
  Contract of the reference's DivMod: a dividend of more than 64 bits.
-/
namespace Go.Proofs.YtfacndibfkamgaaGreat
open Go.RowKit
set_option linter.unusedVariables false

set_option maxHeartbeats 8000000 in
theorem rdm_long (A B : Option Addr) (ca cb : Nat) (xs ys : List Nat) (w : World) (h : Rd w A ca xs) (h' : Rd w B cb ys) (hn : xs.length ≤ 70368744177664) (hn' : ys.length ≤ 70368744177000) (hv : 0 < val ys) (h1 : 18446744073709551616 ≤ val xs) :
    Calls Tryz.prog 145 #[.slice A xs.length ca, .slice B ys.length cb] w (Gives2 w (val xs / val ys) (val xs % val ys)) := by
  have S := Lib.hid (rtrim_any B cb ys w h' (by omega))
  have X := Lib.hid h
  have hlx := h.len
  have hcx := h.capLe
  have hp := len_pos hv
  have hl := len_ofv_le h'.ok
  have HVD := Lib.hid (val_ofv (val ys))
  have hbits : nbits (val xs) ≤ 32 * xs.length := by have := nbits_len (val xs); have := len_ofv_le h.ok; omega
  have HLTV := Lib.hid (nbits_lt (val xs))
  have LD2 : (ofv (2 * val ys)).length ≤ (ofv (val ys)).length + 1 := len_ofv_le_of_lt (by
    have := lt_pw_len (val ys)
    rw [pw_succ]
    omega)
  have HD := Lib.hid hv
  clear h h' hv
  generalize hu : ofv (val ys) = vs at *
  have HU := Lib.hid hu
  clear hu
  generalize hD : val ys = D at *
  have HYD := Lib.hid hD
  generalize hV : val xs = V at *
  have HXV := Lib.hid hV
  clear hD hV
  go_enter Tryz.func145, Tryz.ntmps145
  go_wp2_with fail
  refine S.out.mono ?_
  rintro e w1 ⟨R, c, rfl, ho, hb⟩
  rw [HU.out] at ho ⊢
  have hcl := ho.rd.len
  have hcl2 := ho.rd.capLe
  have B1 := Lib.hid hb
  have X1 := Lib.hid (X.out.below hb)
  have Y1 := Lib.hid ho.rd
  clear ho hb
  go_wp2_with fail
  refine (ruint64_no A ca xs _ X1.out hn (by rw [HXV.out]; exact h1)).mono ?_
  rintro e w2 ⟨rfl, hb⟩
  have B2 : Hid (Below w.heap.size w w2) := B1.out.trans (hb.mono B1.out.size)
  have X2 := Lib.hid (X1.out.below hb)
  have Y2 := Lib.hid (Y1.out.below hb)
  clear hb
  have U2 : Hid (∃ z s, Calls Tryz.prog 176 #[.slice R vs.length c] w2 fun e w' => e = .returned (.tuple #[.int .u64 z, .bool s]) ∧ Below w2.heap.size w2 w') := by
    rcases Nat.lt_or_ge (val vs) 18446744073709551616 with hh | hh
    · exact ⟨_, _, ruint64_yes R c vs _ Y2.out (by omega) hh⟩
    · exact ⟨_, _, ruint64_no R c vs _ Y2.out (by omega) hh⟩
  obtain ⟨z2, s2, U2'⟩ := U2.out
  have U3 := Lib.hid U2'
  clear U2' U2
  go_wp2_with fail
  refine U3.out.mono ?_
  rintro e w3 ⟨rfl, hb⟩
  have B3 : Hid (Below w.heap.size w w3) := B2.out.trans (hb.mono B2.out.size)
  have X3 := Lib.hid (X2.out.below hb)
  have Y3 := Lib.hid (Y2.out.below hb)
  clear hb X1 Y1 Y2 X2 B1 B2
  go_wp2_with (at_make; refine make_row rfl _ _ rfl _ _ xs.length rfl rfl (by omega) (by omega) (by omega) ?_)
  intro w4 hrow hbel
  have B4 : Hid (Below w.heap.size w w4) := B3.out.trans (hbel.mono B3.out.size)
  have G3 := Lib.hid B3.out.size
  have X := Lib.hid (X3.out.below hbel)
  have Y := Lib.hid (Y3.out.below hbel)
  have NEX : Hid (∀ b o, 0 < ca → A = some ⟨b, o, none⟩ → some b ≠ some w3.heap.size) := by
    intro b o h0 hA e
    have := X3.out.old b o h0 hA
    have e' : b = w3.heap.size := by simpa using e
    omega
  have NE : Hid (∀ b o, 0 < c → R = some ⟨b, o, none⟩ → some b ≠ some w3.heap.size) := by
    intro b o h0 hA e
    have := Y3.out.old b o h0 hA
    have e' : b = w3.heap.size := by simpa using e
    omega
  have HR := Lib.hid hrow
  have GSZ := Lib.hid hrow.lt
  clear hrow hbel X3 Y3 B3
  go_wp2_with fail
  refine (rbits_n X.out rfl (by omega)).mono ?_
  rw [HXV.out]
  rintro e w5 ⟨rfl, hb⟩
  have X := Lib.hid (X.out.below hb)
  have Y := Lib.hid (Y.out.below hb)
  have HR := Lib.hid (HR.out.below hb GSZ.out)
  have B5 : Hid (Below w.heap.size w w5) := B4.out.trans (hb.mono B4.out.size)
  have GSZ := Lib.hid (Nat.lt_of_lt_of_le GSZ.out hb.size)
  clear hb B4
  generalize hg : w3.heap.size = g at *
  clear hg
  go_wp2
  go_loopw [5, 11] (fun r i wr => ∃ (k : Nat) (R : Option Addr) (c : Nat), k ≤ nbits V ∧ i = .int .i64 ((k : Int) - 1) ∧ r = .slice R (ofv (V / 2 ^ k % D)).length c ∧ DvInv w5 g xs.length V D k R c wr) (fun _ i _ => (intOf i + 1).toNat)
  case atStart =>
    have e0 : V / 2 ^ nbits V = 0 := Nat.div_eq_of_lt HLTV.out
    refine ⟨nbits V, none, 0, Nat.le_refl _, by first | rfl | (congr 1; omega), by rw [e0, Nat.zero_mod, ofv_zero]; rfl, _, HR.out, by simp, okl_replicate _, ?_, ?_, World.grownBy.refl _ _⟩
    · rw [val_replicate, e0, Nat.zero_div, Nat.zero_mul]
    · rw [e0, Nat.zero_mod, ofv_zero]; exact Own.nil _ _ _
  case round =>
    obtain ⟨k, R1, c1, hk, rfl, rfl, zs, hzr, hzl, hzo, hzv, how, hgr⟩ := hrel
    have ZR := Lib.hid hzr
    have ZL := Lib.hid hzl
    have ZO := Lib.hid hzo
    have ZV := Lib.hid hzv
    have OW := Lib.hid how
    have GR := Lib.hid hgr
    clear hzr hzl hzo hzv how hgr
    rcases Nat.eq_zero_or_pos k with hk0 | hk0
    · subst hk0
      have ow := Own.of_row (lo := w.heap.size) ZR.out ZO.out G3.out (by have := ZL.out; omega)
      have rd := ow.rd
      rw [ZL.out] at rd
      have S1 := rtrim_n rd ZL.out (by omega)
      have hv1 := ZV.out
      have OW1 := OW.out
      rw [Nat.pow_zero, Nat.div_one, Nat.mul_one] at hv1
      rw [Nat.pow_zero, Nat.div_one] at OW1 ⊢
      rw [hv1] at S1
      have HS1 := Lib.hid S1
      have LM := len_ofv_le_of_lt (Nat.lt_trans (Nat.mod_lt V HD.out) (lt_pw_len D))
      rw [HU.out] at LM
      have lm1 := OW1.rd.len
      have HO := Lib.hid OW1
      have BR : Hid (Below w.heap.size w wr) := B5.out.trans (below_of_grown GR.out G3.out B5.out.size)
      clear ow rd S1 hv1 OW1 OW GR ZR ZL ZO ZV
      go_wp2_with fail
      refine HS1.out.mono ?_
      rintro e w6 ⟨Q, cq, rfl, ho, hb⟩
      have HO2 := Lib.hid (HO.out.below hb)
      have BR2 : Hid (Below w.heap.size w w6) := BR.out.trans (hb.mono BR.out.size)
      have HQ := Lib.hid (ho.mono BR.out.size)
      clear ho hb HO
      have T2 := rtrim_n HO2.out.rd rfl (by omega)
      rw [val_ofv] at T2
      have HT2 := Lib.hid T2
      clear T2
      go_wp2_with fail
      refine HT2.out.mono ?_
      rintro e w7 ⟨Q2, cq2, rfl, ho, hb⟩
      have FIN : Hid (Gives2 w (V / D) (V % D) (.returned (.tuple #[.slice Q (ofv (V / D)).length cq, .slice Q2 (ofv (V % D)).length cq2, .bool true])) w7) :=
        ⟨Q, cq, Q2, cq2, rfl, HQ.out.below hb, ho.mono BR2.out.size, BR2.out.trans (hb.mono BR2.out.size)⟩
      clear ho hb
      go_wp2
      go_ret3
      exact FIN.out
    · obtain ⟨j, rfl⟩ : ∃ j, k = j + 1 := ⟨k - 1, by omega⟩
      have hj32 : j / 32 < xs.length := by omega
      have tl := Nat.mod_lt (V / 2 ^ (j + 1)) HD.out
      generalize hT : V / 2 ^ (j + 1) % D = T at *
      have HT := Lib.hid hT
      clear hT
      have LT := len_ofv_le_of_lt (Nat.lt_trans tl (lt_pw_len D))
      rw [HU.out] at LT
      have LT2 : (ofv (T + T)).length ≤ vs.length + 1 := Nat.le_trans (len_ofv_le_of_lt (Nat.lt_of_le_of_lt (show T + T ≤ 2 * D by omega) (lt_pw_len _))) LD2
      have LT3 : (ofv (T + T + 1)).length ≤ vs.length + 1 := Nat.le_trans (len_ofv_le_of_lt (Nat.lt_of_le_of_lt (show T + T + 1 ≤ 2 * D by omega) (lt_pw_len _))) LD2
      have ol := OW.out.rd.len
      have ol2 := OW.out.rd.capLe
      go_wp2_with fail
      refine (radd_n OW.out.rd OW.out.rd rfl rfl (by omega) (by omega)).mono ?_
      rw [val_ofv]
      rintro e wa ⟨R2, c2, rfl, ho, hb⟩
      have zlt := ZR.out.lt
      have ZR := Lib.hid (ZR.out.below hb ZR.out.lt)
      have GR := Lib.hid (grown_trans GR.out (grown_below hb))
      have OW := Lib.hid (ho.mono (show g + 1 ≤ wr.heap.size by omega))
      have LO : Hid (g < wa.heap.size) := ZR.out.lt
      clear ho hb
      have BL := Lib.hid (bitOf_lt V j)
      have BE := bit_e (X.out.grown GR.out NEX.out) rfl j rfl (by omega)
      rw [HXV.out] at BE
      rcases (show bitOf V j = 0 ∨ bitOf V j = 1 by have := BL.out; omega) with h0 | h0
      · rw [h0] at BE
        have HBIT := Lib.hid h0
        have HBE := Lib.hid BE
        clear BE h0
        go_wp2_with fail
        refine HBE.out.mono ?_
        rintro e wb ⟨rfl, rfl⟩
        rcases Nat.lt_or_ge (T + T) D with hlt | hge
        · have NX := dv_zero ZR.out ZL.out ZO.out ZV.out HD.out (by rw [HBIT.out, HT.out]; exact OW.out) GR.out (by rw [HBIT.out, HT.out]; exact hlt)
          rw [HBIT.out, HT.out, Nat.add_zero] at NX
          have NL := Lib.hid NX.1
          have NI := NX.2
          have NB := OW.out.rd.len
          clear NX
          go_wp2_with fail
          refine (rsub_no_n OW.out.rd (Y.out.grown GR.out NE.out) rfl rfl (by omega) (by omega) (by rw [val_ofv, HVD.out]; exact hlt)).mono ?_
          rintro e wd ⟨rfl, hb⟩
          have NI2 := Lib.hid (dv_below NI hb)
          clear NI hb OW GR ZR
          go_wp2
          go_roundw
          case rel => exact ⟨j, _, _, by omega, rfl, by rw [NL.out], NI2.out⟩
          case measure => simp [intOf]
        · go_wp2_with fail
          refine (rsub_yes_n OW.out.rd (Y.out.grown GR.out NE.out) rfl rfl (by omega) (by omega) (by rw [val_ofv, HVD.out]; exact hge)).mono ?_
          rw [val_ofv, HVD.out]
          rintro e wd ⟨R3, c3, rfl, ho, hb⟩
          have ZR3 := ZR.out.below hb (ZR.out.lt)
          have GS := GR.out.size
          have GR3 := grown_trans GR.out (grown_below hb)
          have hfz := ZR3.frozen (j / 32)
          have hcw := ZR3.cell (i := j / 32) (by have := ZL.out; omega)
          have lz := lim_lt ZO.out (j / 32)
          have ST := dv_one ZR3 ZL.out ZO.out ZV.out HD.out (by rw [HBIT.out, HT.out]; exact ho.mono (by have := LO.out; omega)) GR3 (by rw [HBIT.out, HT.out]; exact hge) (by omega)
          simp only [HBIT.out, HT.out, Nat.add_zero] at ST
          have HST := Lib.hid ST
          have NL := Lib.hid (ST _ rfl).1
          have s1 : 2 ^ (j % 32) ≤ 2147483648 := by
            have := Nat.pow_le_pow_right (n := 2) (by omega) (show j % 32 ≤ 31 by omega)
            have e : (2 : Nat) ^ 31 = 2147483648 := rfl
            omega
          have e32 : bits .or .u32 ((lim zs (j / 32) : Nat) : Int) ((2 ^ (j % 32) : Nat) : Int) = ((lim zs (j / 32) ||| 2 ^ (j % 32) : Nat) : Int) := u32_or_nat _ _ lz (by omega)
          have e33 : Hid ((2 : Int) ^ (j % 32) % 4294967296 = ((2 ^ (j % 32) : Nat) : Int)) := by
            have e : (2 : Int) ^ (j % 32) = ((2 ^ (j % 32) : Nat) : Int) := by simp
            show _ = _
            rw [e]
            clear e e32
            generalize 2 ^ (j % 32) = P at s1 ⊢
            omega
          clear ST ho hb ZR3 GR3 OW GR ZR
          go_wp2
          go_roundw
          case rel => exact ⟨j, _, _, by omega, rfl, by rw [NL.out], (HST.out _ (by rw [e33.out]; exact e32)).2⟩
          case measure => simp [intOf]
      · rw [h0] at BE
        have HBIT := Lib.hid h0
        have HBE := Lib.hid BE
        clear BE h0
        have ol3 := OW.out.rd.len
        go_wp2_with fail
        refine HBE.out.mono ?_
        rintro e wb ⟨rfl, rfl⟩
        go_wp2_with fail
        refine (radd_n (ys := [1]) (OW.out.rd.below ((Below.refl _ _).alloc (Nat.le_refl _) _)) (rd_row (row_new rfl rfl) (okl1 (by omega)) rfl (by simp)) rfl rfl (by omega) (by simp)).mono ?_
        rw [val_ofv, v1]
        rintro e wc ⟨R3, c3, rfl, ho, hb0⟩
        have hb : Below wa.heap.size wa wc := ((Below.refl _ wa).alloc (Nat.le_refl _) _).trans (hb0.mono (by simp <;> omega))
        clear hb0
        have ZR := Lib.hid (ZR.out.below hb ZR.out.lt)
        have GR := Lib.hid (grown_trans GR.out (grown_below hb))
        have OW := Lib.hid (ho.mono (show g + 1 ≤ _ by have := LO.out; simp; omega))
        have LO : Hid (g < wc.heap.size) := ZR.out.lt
        clear ho hb
        rcases Nat.lt_or_ge (T + T + 1) D with hlt | hge
        · have NX := dv_zero ZR.out ZL.out ZO.out ZV.out HD.out (by rw [HBIT.out, HT.out]; exact OW.out) GR.out (by rw [HBIT.out, HT.out]; exact hlt)
          rw [HBIT.out, HT.out] at NX
          have NL := Lib.hid NX.1
          have NI := NX.2
          have NB := OW.out.rd.len
          clear NX
          go_wp2_with fail
          refine (rsub_no_n OW.out.rd (Y.out.grown GR.out NE.out) rfl rfl (by omega) (by omega) (by rw [val_ofv, HVD.out]; exact hlt)).mono ?_
          rintro e wd ⟨rfl, hb⟩
          have NI2 := Lib.hid (dv_below NI hb)
          clear NI hb OW GR ZR
          go_wp2
          go_roundw
          case rel => exact ⟨j, _, _, by omega, rfl, by rw [NL.out], NI2.out⟩
          case measure => simp [intOf]
        · go_wp2_with fail
          refine (rsub_yes_n OW.out.rd (Y.out.grown GR.out NE.out) rfl rfl (by omega) (by omega) (by rw [val_ofv, HVD.out]; exact hge)).mono ?_
          rw [val_ofv, HVD.out]
          rintro e wd ⟨R3, c3, rfl, ho, hb⟩
          have ZR3 := ZR.out.below hb (ZR.out.lt)
          have GS := GR.out.size
          have GR3 := grown_trans GR.out (grown_below hb)
          have hfz := ZR3.frozen (j / 32)
          have hcw := ZR3.cell (i := j / 32) (by have := ZL.out; omega)
          have lz := lim_lt ZO.out (j / 32)
          have ST := dv_one ZR3 ZL.out ZO.out ZV.out HD.out (by rw [HBIT.out, HT.out]; exact ho.mono (by have := LO.out; omega)) GR3 (by rw [HBIT.out, HT.out]; exact hge) (by omega)
          rw [HBIT.out, HT.out] at ST
          have HST := Lib.hid ST
          have NL := Lib.hid (ST _ rfl).1
          have s1 : 2 ^ (j % 32) ≤ 2147483648 := by
            have := Nat.pow_le_pow_right (n := 2) (by omega) (show j % 32 ≤ 31 by omega)
            have e : (2 : Nat) ^ 31 = 2147483648 := rfl
            omega
          have e32 : bits .or .u32 ((lim zs (j / 32) : Nat) : Int) ((2 ^ (j % 32) : Nat) : Int) = ((lim zs (j / 32) ||| 2 ^ (j % 32) : Nat) : Int) := u32_or_nat _ _ lz (by omega)
          have e33 : Hid ((2 : Int) ^ (j % 32) % 4294967296 = ((2 ^ (j % 32) : Nat) : Int)) := by
            have e : (2 : Int) ^ (j % 32) = ((2 ^ (j % 32) : Nat) : Int) := by simp
            show _ = _
            rw [e]
            clear e e32
            generalize 2 ^ (j % 32) = P at s1 ⊢
            omega
          clear ST ho hb ZR3 GR3 OW GR ZR
          go_wp2
          go_roundw
          case rel => exact ⟨j, _, _, by omega, rfl, by rw [NL.out], (HST.out _ (by rw [e33.out]; exact e32)).2⟩
          case measure => simp [intOf]
end Go.Proofs.YtfacndibfkamgaaGreat

/-
  Contract of the reference's DivMod: a divisor of more than 64 bits; all cases.
-/
namespace Go.Proofs.YtfacndibfkamgaaGreat
open Go.RowKit
set_option linter.unusedVariables false

set_option maxHeartbeats 8000000 in
theorem rdm_large (A B : Option Addr) (ca cb : Nat) (xs ys : List Nat) (w : World) (h : Rd w A ca xs) (h' : Rd w B cb ys) (hn : xs.length ≤ 70368744177664) (hn' : ys.length ≤ 70368744177000) (hv : 0 < val ys) (h1 : val xs < 18446744073709551616) (h2 : 18446744073709551616 ≤ val ys) :
    Calls Tryz.prog 145 #[.slice A xs.length ca, .slice B ys.length cb] w (Gives2 w (val xs / val ys) (val xs % val ys)) := by
  have S := Lib.hid (rtrim_any B cb ys w h' (by omega))
  have X := Lib.hid h
  have hlx := h.len
  have hcx := h.capLe
  have hp := len_pos hv
  have hl := len_ofv_le h'.ok
  have HVD := Lib.hid (val_ofv (val ys))
  have hbits : nbits (val xs) ≤ 32 * xs.length := by have := nbits_len (val xs); have := len_ofv_le h.ok; omega
  have HLTV := Lib.hid (nbits_lt (val xs))
  have LD2 : (ofv (2 * val ys)).length ≤ (ofv (val ys)).length + 1 := len_ofv_le_of_lt (by
    have := lt_pw_len (val ys)
    rw [pw_succ]
    omega)
  have HD := Lib.hid hv
  clear h h' hv
  generalize hu : ofv (val ys) = vs at *
  have HU := Lib.hid hu
  clear hu
  generalize hD : val ys = D at *
  have HYD := Lib.hid hD
  generalize hV : val xs = V at *
  have HXV := Lib.hid hV
  clear hD hV
  go_enter Tryz.func145, Tryz.ntmps145
  go_wp2_with fail
  refine S.out.mono ?_
  rintro e w1 ⟨R, c, rfl, ho, hb⟩
  rw [HU.out] at ho ⊢
  have hcl := ho.rd.len
  have hcl2 := ho.rd.capLe
  have B1 := Lib.hid hb
  have X1 := Lib.hid (X.out.below hb)
  have Y1 := Lib.hid ho.rd
  clear ho hb
  go_wp2_with fail
  refine (ruint64_yes A ca xs _ X1.out hn (by rw [HXV.out]; exact h1)).mono ?_
  rw [HXV.out]
  rintro e w2 ⟨rfl, hb⟩
  have B2 : Hid (Below w.heap.size w w2) := B1.out.trans (hb.mono B1.out.size)
  have X2 := Lib.hid (X1.out.below hb)
  have Y2 := Lib.hid (Y1.out.below hb)
  clear hb
  go_wp2_with fail
  refine (ruint64_no R c vs _ Y2.out (by omega) (by rw [HVD.out]; exact h2)).mono ?_
  rintro e w3 ⟨rfl, hb⟩
  have B3 : Hid (Below w.heap.size w w3) := B2.out.trans (hb.mono B2.out.size)
  have X3 := Lib.hid (X2.out.below hb)
  have Y3 := Lib.hid (Y2.out.below hb)
  clear hb X1 Y1 Y2 X2 B1 B2
  go_wp2_with (at_make; refine make_row rfl _ _ rfl _ _ xs.length rfl rfl (by omega) (by omega) (by omega) ?_)
  intro w4 hrow hbel
  have B4 : Hid (Below w.heap.size w w4) := B3.out.trans (hbel.mono B3.out.size)
  have G3 := Lib.hid B3.out.size
  have X := Lib.hid (X3.out.below hbel)
  have Y := Lib.hid (Y3.out.below hbel)
  have NEX : Hid (∀ b o, 0 < ca → A = some ⟨b, o, none⟩ → some b ≠ some w3.heap.size) := by
    intro b o h0 hA e
    have := X3.out.old b o h0 hA
    have e' : b = w3.heap.size := by simpa using e
    omega
  have NE : Hid (∀ b o, 0 < c → R = some ⟨b, o, none⟩ → some b ≠ some w3.heap.size) := by
    intro b o h0 hA e
    have := Y3.out.old b o h0 hA
    have e' : b = w3.heap.size := by simpa using e
    omega
  have HR := Lib.hid hrow
  have GSZ := Lib.hid hrow.lt
  clear hrow hbel X3 Y3 B3
  go_wp2_with fail
  refine (rbits_n X.out rfl (by omega)).mono ?_
  rw [HXV.out]
  rintro e w5 ⟨rfl, hb⟩
  have X := Lib.hid (X.out.below hb)
  have Y := Lib.hid (Y.out.below hb)
  have HR := Lib.hid (HR.out.below hb GSZ.out)
  have B5 : Hid (Below w.heap.size w w5) := B4.out.trans (hb.mono B4.out.size)
  have GSZ := Lib.hid (Nat.lt_of_lt_of_le GSZ.out hb.size)
  clear hb B4
  generalize hg : w3.heap.size = g at *
  clear hg
  go_wp2
  go_loopw [5, 11] (fun r i wr => ∃ (k : Nat) (R : Option Addr) (c : Nat), k ≤ nbits V ∧ i = .int .i64 ((k : Int) - 1) ∧ r = .slice R (ofv (V / 2 ^ k % D)).length c ∧ DvInv w5 g xs.length V D k R c wr) (fun _ i _ => (intOf i + 1).toNat)
  case atStart =>
    have e0 : V / 2 ^ nbits V = 0 := Nat.div_eq_of_lt HLTV.out
    refine ⟨nbits V, none, 0, Nat.le_refl _, by first | rfl | (congr 1; omega), by rw [e0, Nat.zero_mod, ofv_zero]; rfl, _, HR.out, by simp, okl_replicate _, ?_, ?_, World.grownBy.refl _ _⟩
    · rw [val_replicate, e0, Nat.zero_div, Nat.zero_mul]
    · rw [e0, Nat.zero_mod, ofv_zero]; exact Own.nil _ _ _
  case round =>
    obtain ⟨k, R1, c1, hk, rfl, rfl, zs, hzr, hzl, hzo, hzv, how, hgr⟩ := hrel
    have ZR := Lib.hid hzr
    have ZL := Lib.hid hzl
    have ZO := Lib.hid hzo
    have ZV := Lib.hid hzv
    have OW := Lib.hid how
    have GR := Lib.hid hgr
    clear hzr hzl hzo hzv how hgr
    rcases Nat.eq_zero_or_pos k with hk0 | hk0
    · subst hk0
      have ow := Own.of_row (lo := w.heap.size) ZR.out ZO.out G3.out (by have := ZL.out; omega)
      have rd := ow.rd
      rw [ZL.out] at rd
      have S1 := rtrim_n rd ZL.out (by omega)
      have hv1 := ZV.out
      have OW1 := OW.out
      rw [Nat.pow_zero, Nat.div_one, Nat.mul_one] at hv1
      rw [Nat.pow_zero, Nat.div_one] at OW1 ⊢
      rw [hv1] at S1
      have HS1 := Lib.hid S1
      have LM := len_ofv_le_of_lt (Nat.lt_trans (Nat.mod_lt V HD.out) (lt_pw_len D))
      rw [HU.out] at LM
      have lm1 := OW1.rd.len
      have HO := Lib.hid OW1
      have BR : Hid (Below w.heap.size w wr) := B5.out.trans (below_of_grown GR.out G3.out B5.out.size)
      clear ow rd S1 hv1 OW1 OW GR ZR ZL ZO ZV
      go_wp2_with fail
      refine HS1.out.mono ?_
      rintro e w6 ⟨Q, cq, rfl, ho, hb⟩
      have HO2 := Lib.hid (HO.out.below hb)
      have BR2 : Hid (Below w.heap.size w w6) := BR.out.trans (hb.mono BR.out.size)
      have HQ := Lib.hid (ho.mono BR.out.size)
      clear ho hb HO
      have T2 := rtrim_n HO2.out.rd rfl (by omega)
      rw [val_ofv] at T2
      have HT2 := Lib.hid T2
      clear T2
      go_wp2_with fail
      refine HT2.out.mono ?_
      rintro e w7 ⟨Q2, cq2, rfl, ho, hb⟩
      have FIN : Hid (Gives2 w (V / D) (V % D) (.returned (.tuple #[.slice Q (ofv (V / D)).length cq, .slice Q2 (ofv (V % D)).length cq2, .bool true])) w7) :=
        ⟨Q, cq, Q2, cq2, rfl, HQ.out.below hb, ho.mono BR2.out.size, BR2.out.trans (hb.mono BR2.out.size)⟩
      clear ho hb
      go_wp2
      go_ret3
      exact FIN.out
    · obtain ⟨j, rfl⟩ : ∃ j, k = j + 1 := ⟨k - 1, by omega⟩
      have hj32 : j / 32 < xs.length := by omega
      have tl := Nat.mod_lt (V / 2 ^ (j + 1)) HD.out
      generalize hT : V / 2 ^ (j + 1) % D = T at *
      have HT := Lib.hid hT
      clear hT
      have LT := len_ofv_le_of_lt (Nat.lt_trans tl (lt_pw_len D))
      rw [HU.out] at LT
      have LT2 : (ofv (T + T)).length ≤ vs.length + 1 := Nat.le_trans (len_ofv_le_of_lt (Nat.lt_of_le_of_lt (show T + T ≤ 2 * D by omega) (lt_pw_len _))) LD2
      have LT3 : (ofv (T + T + 1)).length ≤ vs.length + 1 := Nat.le_trans (len_ofv_le_of_lt (Nat.lt_of_le_of_lt (show T + T + 1 ≤ 2 * D by omega) (lt_pw_len _))) LD2
      have ol := OW.out.rd.len
      have ol2 := OW.out.rd.capLe
      go_wp2_with fail
      refine (radd_n OW.out.rd OW.out.rd rfl rfl (by omega) (by omega)).mono ?_
      rw [val_ofv]
      rintro e wa ⟨R2, c2, rfl, ho, hb⟩
      have zlt := ZR.out.lt
      have ZR := Lib.hid (ZR.out.below hb ZR.out.lt)
      have GR := Lib.hid (grown_trans GR.out (grown_below hb))
      have OW := Lib.hid (ho.mono (show g + 1 ≤ wr.heap.size by omega))
      have LO : Hid (g < wa.heap.size) := ZR.out.lt
      clear ho hb
      have BL := Lib.hid (bitOf_lt V j)
      have BE := bit_e (X.out.grown GR.out NEX.out) rfl j rfl (by omega)
      rw [HXV.out] at BE
      rcases (show bitOf V j = 0 ∨ bitOf V j = 1 by have := BL.out; omega) with h0 | h0
      · rw [h0] at BE
        have HBIT := Lib.hid h0
        have HBE := Lib.hid BE
        clear BE h0
        go_wp2_with fail
        refine HBE.out.mono ?_
        rintro e wb ⟨rfl, rfl⟩
        rcases Nat.lt_or_ge (T + T) D with hlt | hge
        · have NX := dv_zero ZR.out ZL.out ZO.out ZV.out HD.out (by rw [HBIT.out, HT.out]; exact OW.out) GR.out (by rw [HBIT.out, HT.out]; exact hlt)
          rw [HBIT.out, HT.out, Nat.add_zero] at NX
          have NL := Lib.hid NX.1
          have NI := NX.2
          have NB := OW.out.rd.len
          clear NX
          go_wp2_with fail
          refine (rsub_no_n OW.out.rd (Y.out.grown GR.out NE.out) rfl rfl (by omega) (by omega) (by rw [val_ofv, HVD.out]; exact hlt)).mono ?_
          rintro e wd ⟨rfl, hb⟩
          have NI2 := Lib.hid (dv_below NI hb)
          clear NI hb OW GR ZR
          go_wp2
          go_roundw
          case rel => exact ⟨j, _, _, by omega, rfl, by rw [NL.out], NI2.out⟩
          case measure => simp [intOf]
        · go_wp2_with fail
          refine (rsub_yes_n OW.out.rd (Y.out.grown GR.out NE.out) rfl rfl (by omega) (by omega) (by rw [val_ofv, HVD.out]; exact hge)).mono ?_
          rw [val_ofv, HVD.out]
          rintro e wd ⟨R3, c3, rfl, ho, hb⟩
          have ZR3 := ZR.out.below hb (ZR.out.lt)
          have GS := GR.out.size
          have GR3 := grown_trans GR.out (grown_below hb)
          have hfz := ZR3.frozen (j / 32)
          have hcw := ZR3.cell (i := j / 32) (by have := ZL.out; omega)
          have lz := lim_lt ZO.out (j / 32)
          have ST := dv_one ZR3 ZL.out ZO.out ZV.out HD.out (by rw [HBIT.out, HT.out]; exact ho.mono (by have := LO.out; omega)) GR3 (by rw [HBIT.out, HT.out]; exact hge) (by omega)
          simp only [HBIT.out, HT.out, Nat.add_zero] at ST
          have HST := Lib.hid ST
          have NL := Lib.hid (ST _ rfl).1
          have s1 : 2 ^ (j % 32) ≤ 2147483648 := by
            have := Nat.pow_le_pow_right (n := 2) (by omega) (show j % 32 ≤ 31 by omega)
            have e : (2 : Nat) ^ 31 = 2147483648 := rfl
            omega
          have e32 : bits .or .u32 ((lim zs (j / 32) : Nat) : Int) ((2 ^ (j % 32) : Nat) : Int) = ((lim zs (j / 32) ||| 2 ^ (j % 32) : Nat) : Int) := u32_or_nat _ _ lz (by omega)
          have e33 : Hid ((2 : Int) ^ (j % 32) % 4294967296 = ((2 ^ (j % 32) : Nat) : Int)) := by
            have e : (2 : Int) ^ (j % 32) = ((2 ^ (j % 32) : Nat) : Int) := by simp
            show _ = _
            rw [e]
            clear e e32
            generalize 2 ^ (j % 32) = P at s1 ⊢
            omega
          clear ST ho hb ZR3 GR3 OW GR ZR
          go_wp2
          go_roundw
          case rel => exact ⟨j, _, _, by omega, rfl, by rw [NL.out], (HST.out _ (by rw [e33.out]; exact e32)).2⟩
          case measure => simp [intOf]
      · rw [h0] at BE
        have HBIT := Lib.hid h0
        have HBE := Lib.hid BE
        clear BE h0
        have ol3 := OW.out.rd.len
        go_wp2_with fail
        refine HBE.out.mono ?_
        rintro e wb ⟨rfl, rfl⟩
        go_wp2_with fail
        refine (radd_n (ys := [1]) (OW.out.rd.below ((Below.refl _ _).alloc (Nat.le_refl _) _)) (rd_row (row_new rfl rfl) (okl1 (by omega)) rfl (by simp)) rfl rfl (by omega) (by simp)).mono ?_
        rw [val_ofv, v1]
        rintro e wc ⟨R3, c3, rfl, ho, hb0⟩
        have hb : Below wa.heap.size wa wc := ((Below.refl _ wa).alloc (Nat.le_refl _) _).trans (hb0.mono (by simp <;> omega))
        clear hb0
        have ZR := Lib.hid (ZR.out.below hb ZR.out.lt)
        have GR := Lib.hid (grown_trans GR.out (grown_below hb))
        have OW := Lib.hid (ho.mono (show g + 1 ≤ _ by have := LO.out; simp; omega))
        have LO : Hid (g < wc.heap.size) := ZR.out.lt
        clear ho hb
        rcases Nat.lt_or_ge (T + T + 1) D with hlt | hge
        · have NX := dv_zero ZR.out ZL.out ZO.out ZV.out HD.out (by rw [HBIT.out, HT.out]; exact OW.out) GR.out (by rw [HBIT.out, HT.out]; exact hlt)
          rw [HBIT.out, HT.out] at NX
          have NL := Lib.hid NX.1
          have NI := NX.2
          have NB := OW.out.rd.len
          clear NX
          go_wp2_with fail
          refine (rsub_no_n OW.out.rd (Y.out.grown GR.out NE.out) rfl rfl (by omega) (by omega) (by rw [val_ofv, HVD.out]; exact hlt)).mono ?_
          rintro e wd ⟨rfl, hb⟩
          have NI2 := Lib.hid (dv_below NI hb)
          clear NI hb OW GR ZR
          go_wp2
          go_roundw
          case rel => exact ⟨j, _, _, by omega, rfl, by rw [NL.out], NI2.out⟩
          case measure => simp [intOf]
        · go_wp2_with fail
          refine (rsub_yes_n OW.out.rd (Y.out.grown GR.out NE.out) rfl rfl (by omega) (by omega) (by rw [val_ofv, HVD.out]; exact hge)).mono ?_
          rw [val_ofv, HVD.out]
          rintro e wd ⟨R3, c3, rfl, ho, hb⟩
          have ZR3 := ZR.out.below hb (ZR.out.lt)
          have GS := GR.out.size
          have GR3 := grown_trans GR.out (grown_below hb)
          have hfz := ZR3.frozen (j / 32)
          have hcw := ZR3.cell (i := j / 32) (by have := ZL.out; omega)
          have lz := lim_lt ZO.out (j / 32)
          have ST := dv_one ZR3 ZL.out ZO.out ZV.out HD.out (by rw [HBIT.out, HT.out]; exact ho.mono (by have := LO.out; omega)) GR3 (by rw [HBIT.out, HT.out]; exact hge) (by omega)
          rw [HBIT.out, HT.out] at ST
          have HST := Lib.hid ST
          have NL := Lib.hid (ST _ rfl).1
          have s1 : 2 ^ (j % 32) ≤ 2147483648 := by
            have := Nat.pow_le_pow_right (n := 2) (by omega) (show j % 32 ≤ 31 by omega)
            have e : (2 : Nat) ^ 31 = 2147483648 := rfl
            omega
          have e32 : bits .or .u32 ((lim zs (j / 32) : Nat) : Int) ((2 ^ (j % 32) : Nat) : Int) = ((lim zs (j / 32) ||| 2 ^ (j % 32) : Nat) : Int) := u32_or_nat _ _ lz (by omega)
          have e33 : Hid ((2 : Int) ^ (j % 32) % 4294967296 = ((2 ^ (j % 32) : Nat) : Int)) := by
            have e : (2 : Int) ^ (j % 32) = ((2 ^ (j % 32) : Nat) : Int) := by simp
            show _ = _
            rw [e]
            clear e e32
            generalize 2 ^ (j % 32) = P at s1 ⊢
            omega
          clear ST ho hb ZR3 GR3 OW GR ZR
          go_wp2
          go_roundw
          case rel => exact ⟨j, _, _, by omega, rfl, by rw [NL.out], (HST.out _ (by rw [e33.out]; exact e32)).2⟩
          case measure => simp [intOf]

/-- The reference's DivMod, divisor not 0. -/
theorem rdm_any (A B : Option Addr) (ca cb : Nat) (xs ys : List Nat) (w : World) (h : Rd w A ca xs) (h' : Rd w B cb ys) (hn : xs.length ≤ 70368744177664) (hn' : ys.length ≤ 70368744177000) (hv : 0 < val ys) :
    Calls Tryz.prog 145 #[.slice A xs.length ca, .slice B ys.length cb] w (Gives2 w (val xs / val ys) (val xs % val ys)) := by
  rcases Nat.lt_or_ge (val xs) 18446744073709551616 with h1 | h1
  · rcases Nat.lt_or_ge (val ys) 18446744073709551616 with h2 | h2
    · exact rdm_short A B ca cb xs ys w h h' hn (by omega) hv h1 h2
    · exact rdm_large A B ca cb xs ys w h h' hn hn' hv h1 h2
  · exact rdm_long A B ca cb xs ys w h h' hn hn' hv h1
theorem rdm_n {A B : Option Addr} {ca cb n m : Nat} {xs ys : List Nat} {w : World} (h : Rd w A ca xs) (h' : Rd w B cb ys) (hn : xs.length = n) (hm : ys.length = m) (hl : n ≤ 70368744177664) (hl' : m ≤ 70368744177000) (hv : 0 < val ys) :
    Calls Tryz.prog 145 #[.slice A n ca, .slice B m cb] w (Gives2 w (val xs / val ys) (val xs % val ys)) := by
  subst hn hm; exact rdm_any A B ca cb xs ys w h h' hl hl' hv
end Go.Proofs.YtfacndibfkamgaaGreat

/-
  Contract of the reference's GCD.
-/
namespace Go.Proofs.YtfacndibfkamgaaGreat
open Go.RowKit
set_option linter.unusedVariables false

/-- The number that a slice of limbs reads as. -/
def limbsOf (w : World) : Value → List Nat
  | .slice (some ⟨b, o, none⟩) n _ => (List.range n).map fun i => match w.cell? ⟨b, o + i, none⟩ with
    | some (.int .u32 x) => x.toNat
    | _ => 0
  | _ => []
def rdv (w : World) (v : Value) : Nat := val (limbsOf w v)
theorem limbsOf_rd {w : World} {A : Option Addr} {c n : Nat} {xs : List Nat} (h : Rd w A c xs) (hn : xs.length = n) : limbsOf w (.slice A n c) = xs := by
  subst hn
  rcases Nat.eq_zero_or_pos xs.length with h0 | h0
  · obtain rfl := List.eq_nil_of_length_eq_zero h0
    unfold limbsOf
    split <;> simp_all
  · obtain ⟨b, o, rfl, _, hc⟩ := h.at_ h0
    unfold limbsOf
    simp only
    apply List.ext_getElem
    · simp
    · intro i h1 h2
      simp only [List.getElem_map, List.getElem_range, hc i h2]
      unfold lim
      rw [List.getD_eq_getElem?_getD, List.getElem?_eq_getElem h2]
      simp
theorem rdv_rd {w : World} {A : Option Addr} {c n : Nat} {xs : List Nat} (h : Rd w A c xs) (hn : xs.length = n) : rdv w (.slice A n c) = val xs := by
  unfold rdv; rw [limbsOf_rd h hn]

set_option maxHeartbeats 4000000 in
theorem rgcd_any (A B : Option Addr) (ca cb : Nat) (xs ys : List Nat) (w : World) (h : Rd w A ca xs) (h' : Rd w B cb ys) (hn : xs.length ≤ 70368744177000) (hn' : ys.length ≤ 70368744177000) :
    Calls Tryz.prog 144 #[.slice A xs.length ca, .slice B ys.length cb] w (Gives w (Nat.gcd (val xs) (val ys))) := by
  have S1 := Lib.hid (rtrim_any A ca xs w h (by omega))
  have Y := Lib.hid h'
  have l1 := len_ofv_le h.ok
  have l2 := len_ofv_le h'.ok
  clear h
  have hcy := h'.capLe
  have hly := h'.len
  clear h'
  go_enter Tryz.func144, Tryz.ntmps144
  go_wp2_with fail
  refine S1.out.mono ?_
  rintro e w1 ⟨R1, c1, rfl, ho1, hb1⟩
  have B1 := Lib.hid hb1
  have X1 := Lib.hid ho1
  have Y1 := Lib.hid (Y.out.below hb1)
  clear ho1 hb1
  go_wp2_with fail
  refine (rtrim_n Y1.out rfl (by omega)).mono ?_
  rintro e w2 ⟨R2, c2, rfl, ho2, hb2⟩
  have B2 : Hid (Below w.heap.size w w2) := B1.out.trans (hb2.mono B1.out.size)
  have X2 := Lib.hid (X1.out.below hb2)
  have Y2 := Lib.hid (ho2.mono B1.out.size)
  clear ho2 hb2 X1 Y1 B1
  go_wp2
  go_loopw [0, 1] (fun a b wr => ∃ (x y : Nat) (P : Option Addr) (cp : Nat) (Q : Option Addr) (cq : Nat), a = .slice P (ofv x).length cp ∧ b = .slice Q (ofv y).length cq ∧ (ofv x).length ≤ 70368744177000 ∧ (ofv y).length ≤ 70368744177000 ∧ Hid (Nat.gcd x y = Nat.gcd (val xs) (val ys)) ∧ Hid (Own wr w.heap.size P cp (ofv x)) ∧ Hid (Own wr w.heap.size Q cq (ofv y)) ∧ Hid (Below w.heap.size w wr)) (fun _ b wr => rdv wr b)
  case atStart => exact ⟨_, _, _, _, _, _, rfl, rfl, by omega, by omega, rfl, X2.out, Y2.out, B2.out⟩
  case round =>
    obtain ⟨x, y, P, cp, Q, cq, rfl, rfl, hx, hy, hg, hP, hQ, hB⟩ := hrel
    have k1 := hP.out.rd.len
    have k2 := hP.out.rd.capLe
    have k3 := hQ.out.rd.len
    have k4 := hQ.out.rd.capLe
    rcases Nat.eq_zero_or_pos y with h0 | h0
    · subst h0
      have e0 : (ofv 0).length = 0 := by rw [ofv_zero]; rfl
      have hg' := hg.out
      rw [Nat.gcd_zero_right] at hg'
      subst hg'
      rw [e0] at *
      have FIN : Hid (Gives w (Nat.gcd (val xs) (val ys)) (.returned (.slice P (ofv (Nat.gcd (val xs) (val ys))).length cp)) wr) := ⟨P, cp, rfl, hP.out, hB.out⟩
      go_wp2
      go_ret
      exact FIN.out
    · have hp := len_pos h0
      have ylt := Nat.mod_lt x h0
      have LM := len_ofv_le_of_lt (Nat.lt_trans ylt (lt_pw_len y))
      have M1 := Lib.hid (rdv_rd hQ.out.rd rfl)
      have HG : Hid (Nat.gcd y (x % y) = Nat.gcd (val xs) (val ys)) := by
        show _ = _
        rw [← hg.out, Nat.gcd_comm y, ← Nat.gcd_rec, Nat.gcd_comm]
      have HY := Lib.hid h0
      have YLT := Lib.hid ylt
      clear ylt h0
      go_wp2_with fail
      refine (rdm_n hP.out.rd hQ.out.rd rfl rfl (by omega) (by omega) (by rw [val_ofv]; exact HY.out)).mono ?_
      rw [val_ofv, val_ofv]
      rintro e w3 ⟨D, cd, M, cm, rfl, ho, ho2, hb⟩
      have HB3 : Hid (Below w.heap.size w w3) := hB.out.trans (hb.mono hB.out.size)
      have HQ3 := Lib.hid (hQ.out.below hb)
      have HM3 := Lib.hid (ho2.mono hB.out.size)
      have M2 := Lib.hid (rdv_rd ho2.rd rfl)
      clear ho ho2 hb
      go_wp2
      go_roundw
      case rel => exact ⟨y, x % y, _, _, _, _, rfl, rfl, by omega, by omega, HG, HQ3, HM3, HB3⟩
      case measure =>
        have m1 := M1.out
        have m2 := M2.out
        rw [val_ofv] at m1 m2
        have := YLT.out
        rw [m2, m1]
        exact this
theorem rgcd_n {A B : Option Addr} {ca cb n m : Nat} {xs ys : List Nat} {w : World} (h : Rd w A ca xs) (h' : Rd w B cb ys) (hn : xs.length = n) (hm : ys.length = m) (hl : n ≤ 70368744177000) (hl' : m ≤ 70368744177000) :
    Calls Tryz.prog 144 #[.slice A n ca, .slice B m cb] w (Gives w (Nat.gcd (val xs) (val ys))) := by
  subst hn hm; exact rgcd_any A B ca cb xs ys w h h' hl hl'
end Go.Proofs.YtfacndibfkamgaaGreat
