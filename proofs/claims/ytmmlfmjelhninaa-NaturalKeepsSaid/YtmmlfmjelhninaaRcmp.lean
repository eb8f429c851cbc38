/-
  Contracts of the reference's Compare and Uint64.
-/
import Derived.Test.YtmmlfmjelhninaaDivl
namespace Go.Proofs.Ytmmlfmjelhninaa
open Go.RowKit
set_option linter.unusedVariables false

set_option maxHeartbeats 2000000 in
theorem rcompare_any (A B : Option Addr) (ca cb : Nat) (xs ys : List Nat) (w : World) (h : Rd w A ca xs) (h' : Rd w B cb ys) (hn : xs.length ≤ 70368744177664) (hn' : ys.length ≤ 70368744177664) :
    Calls Try.prog 23 #[.slice A xs.length ca, .slice B ys.length cb] w fun e w' => e = .returned (.int .i64 (cmp (val xs) (val ys))) ∧ Below w.heap.size w w' := by
  have S1 := Lib.hid (rtrim_any A ca xs w h hn)
  have Y0 := Lib.hid h'
  have hc1 := h.capLe
  have hc2 := h'.capLe
  have hl1 := h.len
  have k1 := len_ofv_le h.ok
  have k2 := len_ofv_le h'.ok
  clear h h'
  have K1 := Lib.hid (@lt_of_len_lt (val xs) (val ys))
  have K2 := Lib.hid (@lt_of_len_lt (val ys) (val xs))
  have Kt := Lib.hid (fun i h1 h2 h3 h4 => @val_lt_of_top (ofv (val xs)) (ofv (val ys)) (okl_ofv _) i h1 h2 h3 h4)
  have Ku := Lib.hid (fun i h1 h2 h3 h4 => @val_lt_of_top (ofv (val ys)) (ofv (val xs)) (okl_ofv _) i h1 h2 h3 h4)
  have Ke := Lib.hid (@ofv_inj (val xs) (val ys))
  have V1 := Lib.hid (val_ofv (val xs))
  have V2 := Lib.hid (val_ofv (val ys))
  have S2 := Lib.hid (fun w' (h : Rd w' B cb ys) => rtrim_any B cb ys w' h hn')
  generalize hva : val xs = va at *
  generalize hvb : val ys = vb at *
  generalize hu : ofv va = us at *
  generalize hv : ofv vb = vs at *
  have HVA := Lib.hid hva
  have HVB := Lib.hid hvb
  have HU := Lib.hid hu
  have HV := Lib.hid hv
  clear hva hvb hu hv
  go_enter Try.func23, Try.ntmps23
  go_wp2_with fail
  refine S1.out.mono ?_
  rintro e w1 ⟨R1, c1, rfl, ho1, hb1⟩
  rw [HU.out] at ho1 ⊢
  have O1 := Lib.hid ho1
  have B1 := Lib.hid hb1
  have Y1 := Lib.hid (Y0.out.below hb1)
  clear ho1 hb1
  go_wp2_with fail
  refine (S2.out _ Y1.out).mono ?_
  rintro e w2 ⟨R2, c2, rfl, ho2, hb2⟩
  rw [HV.out] at ho2 ⊢
  have X := Lib.hid (O1.out.rd.below hb2)
  have Y := Lib.hid ho2.rd
  have HB : Hid (Below w.heap.size w w2) := B1.out.trans (hb2.mono B1.out.size)
  clear ho2 hb2 O1 B1 Y1 S1 Y0
  have tri : us.length < vs.length ∨ vs.length < us.length ∨ us.length = vs.length := by omega
  rcases tri with hlt | hgt | heq
  · have hb : ((us.length : Int) != (vs.length : Int)) = true := by rw [bne_iff_ne]; omega
    have F := Lib.hid (cmp_lt (K1.out hlt))
    go_wp2
    go_ret
    exact ⟨ret_int F.out.symm, HB.out⟩
  · have hb : ((us.length : Int) != (vs.length : Int)) = true := by rw [bne_iff_ne]; omega
    have F := Lib.hid (cmp_gt (K2.out hgt))
    go_wp2
    go_ret
    exact ⟨ret_int F.out.symm, HB.out⟩
  · have hb : ((us.length : Int) != (vs.length : Int)) = false := by rw [heq]; simp
    have hm := X.out.len
    have hm2 := X.out.capLe
    have HEQ := Lib.hid heq
    have hge : us.length ≤ vs.length := by omega
    have hge2 : vs.length ≤ us.length := by omega
    clear heq
    go_wp2_with fail
    go_loopw [5] (fun i wr => ∃ z : Int, i = .int .i64 z ∧ -1 ≤ z ∧ z < us.length ∧ Hid (∀ j : Nat, z < j → j < us.length → lim us j = lim vs j) ∧ Hid (∃ q, wr = w2.drewN q)) (fun i _ => (intOf i + 1).toNat)
    case atStart => exact ⟨(us.length : Int) - 1, rfl, by omega, by omega, fun j h1 h2 => by omega, 0, rfl⟩
    case round =>
      obtain ⟨z, rfl, hz1, hz2, hz, hq⟩ := hrel
      by_cases h0 : z = -1
      · subst h0
        have F : Hid (cmp va vb = 0) := by
          refine cmp_eq (Ke.out ?_)
          apply lim_ext HEQ.out
          intro i hi
          exact hz.out i (by omega) hi
        have FB : Hid (Below w.heap.size w wr) := by
          have b := below_q hq.out
          exact HB.out.trans (b.mono HB.out.size)
        go_wp2
        go_ret
        exact ⟨ret_int F.out.symm, FB.out⟩
      · obtain ⟨k, rfl⟩ : ∃ k : Nat, z = (k : Int) := Int.eq_ofNat_of_zero_le (by omega)
        have hk : k < us.length := by omega
        obtain ⟨b, o, hA, hb1, hc1'⟩ := X.out.at_ hk
        obtain ⟨b', o', hB, hb2, hc2'⟩ := Y.out.at_ (k := k) (by omega)
        have d1 : wr.cell? ⟨b, o + k, none⟩ = some (.int .u32 ((lim us k : Nat) : Int)) := by
          obtain ⟨q, rfl⟩ := hq.out
          exact hc1' k hk
        have d2 : wr.cell? ⟨b', o' + k, none⟩ = some (.int .u32 ((lim vs k : Nat) : Int)) := by
          obtain ⟨q, rfl⟩ := hq.out
          exact hc2' k (by omega)
        have r1 := lim_lt X.out.ok k
        have r2 := lim_lt Y.out.ok k
        subst hA hB
        clear hc1' hc2' h0
        have top : Hid (∀ j, k < j → j < us.length → lim us j = lim vs j) := fun j h1 h2 => hz.out j (by omega) h2
        have tri : lim us k < lim vs k ∨ lim vs k < lim us k ∨ lim us k = lim vs k := by omega
        rcases tri with hlt | hgt | he
        · have F : Hid (cmp va vb = -1) := by
            have := Kt.out k hk HEQ.out top.out hlt
            rw [V1.out, V2.out] at this
            exact cmp_lt this
          clear hz top
          generalize lim us k = l1 at *
          generalize lim vs k = l2 at *
          have hd : decide (l1 < l2) = true := by simpa using hlt
          go_wp2
          go_quiet (fail)
          have FB : Hid (∀ q, Below w.heap.size w (wr.drewN q)) := by
            intro q
            have b := below_q (drew_on hq.out ⟨q, rfl⟩)
            exact HB.out.trans (b.mono HB.out.size)
          go_wp2
          go_ret
          exact ⟨ret_int F.out.symm, FB.out _⟩
        · have F : Hid (cmp va vb = 1) := by
            have := Ku.out k (by omega) HEQ.out.symm (fun j h1 h2 => (top.out j h1 (by omega)).symm) hgt
            rw [V1.out, V2.out] at this
            exact cmp_gt this
          clear hz top
          generalize lim us k = l1 at *
          generalize lim vs k = l2 at *
          have hd : decide (l1 < l2) = false := by simp; omega
          have hd2 : decide (l2 < l1) = true := by simpa using hgt
          have FB : Hid (∀ q r, Below w.heap.size w ((wr.drewN q).drewN r)) := by
            intro q r
            have b := below_q (drew_on (drew_on hq.out ⟨q, rfl⟩) ⟨r, rfl⟩)
            exact HB.out.trans (b.mono HB.out.size)
          go_wp2
          go_quiet (fail)
          go_wp2
          go_quiet (fail)
          go_wp2
          go_ret
          exact ⟨ret_int F.out.symm, by first | exact FB.out _ _ | exact FB.out _ 0⟩
        · have hz' : Hid (∀ j : Nat, (k : Int) - 1 < j → j < us.length → lim us j = lim vs j) := by
            intro j h1 h2
            by_cases ej : j = k
            · rw [ej]; exact he
            · exact hz.out j (by omega) h2
          have hd : decide (lim us k < lim vs k) = false := by simp; omega
          have hd2 : decide (lim vs k < lim us k) = false := by simp; omega
          have he1 : lim us k ≤ lim vs k := by omega
          have he2 : lim vs k ≤ lim us k := by omega
          clear hz top he
          generalize lim us k = l1 at *
          generalize lim vs k = l2 at *
          go_wp2
          go_quiet (fail)
          go_wp2
          go_quiet (fail)
          go_wp2
          go_roundw
          case rel => exact ⟨(k : Int) - 1, rfl, by omega, by omega, hz', by first | exact drew_on hq.out ⟨_, rfl⟩ | exact drew_on (drew_on hq.out ⟨_, rfl⟩) ⟨_, rfl⟩⟩
          case measure => simp [intOf]
theorem ruint64_no (A : Option Addr) (cap : Nat) (xs : List Nat) (w : World) (h : Rd w A cap xs) (hn : xs.length ≤ 70368744177664) (hv : 18446744073709551616 ≤ val xs) :
    Calls Try.prog 15 #[.slice A xs.length cap] w fun e w' => e = .returned (.tuple #[.int .u64 0, .bool false]) ∧ Below w.heap.size w w' := by
  have S1 := Lib.hid (rtrim_any A cap xs w h hn)
  have l2 : ¬ (ofv (val xs)).length ≤ 2 := by
    intro hl
    have h1 := lt_pw_len (val xs)
    have h2 := pw_le hl
    have h3 : pw 2 = 18446744073709551616 := by rw [pw_succ, pw_succ, pw_zero]
    omega
  have hc := h.capLe
  have hl := h.sig.len
  clear h hv
  generalize hva : val xs = va at *
  generalize hu : (ofv va).length = m at *
  have HU := Lib.hid hu
  clear hu hva
  go_enter Try.func15, Try.ntmps15
  go_wp2_with fail
  refine S1.out.mono ?_
  rintro e w1 ⟨R1, c1, rfl, ho1, hb1⟩
  rw [HU.out]
  have HB := Lib.hid hb1
  clear ho1 hb1
  go_wp2
  go_ret2
  exact ⟨rfl, HB.out⟩

set_option maxHeartbeats 1000000 in
theorem ruint64_yes (A : Option Addr) (cap : Nat) (xs : List Nat) (w : World) (h : Rd w A cap xs) (hn : xs.length ≤ 70368744177664) (hv : val xs < 18446744073709551616) :
    Calls Try.prog 15 #[.slice A xs.length cap] w fun e w' => e = .returned (.tuple #[.int .u64 ((val xs : Nat) : Int), .bool true]) ∧ Below w.heap.size w w' := by
  have S1 := Lib.hid (rtrim_any A cap xs w h hn)
  have l2 : (ofv (val xs)).length ≤ 2 := len_ofv_le_of_lt (by rw [pw_succ, pw_succ, pw_zero]; omega)
  have hc := h.capLe
  have hl := h.sig.len
  have ho := okl_ofv (val xs)
  have hV := Lib.hid (val_ofv (val xs))
  clear h hv
  generalize hva : val xs = va at *
  generalize hu : ofv va = us at *
  have HU := Lib.hid hu
  have HO := Lib.hid ho
  clear hu hva ho
  go_enter Try.func15, Try.ntmps15
  go_wp2_with fail
  refine S1.out.mono ?_
  rintro e w1 ⟨R1, c1, rfl, ho1, hb1⟩
  rw [HU.out] at ho1 ⊢
  have HB := Lib.hid hb1
  have X := Lib.hid ho1.rd
  clear ho1 hb1
  go_wp2
  go_loop [4, 5] (fun v i => ∃ (z : Int) (vn : Nat), i = .int .i64 z ∧ v = .int .u64 vn ∧ -1 ≤ z ∧ z < us.length ∧ Hid (vn = val (us.drop (z + 1).toNat))) (fun _ i => (intOf i + 1).toNat)
  case atStart => exact ⟨(us.length : Int) - 1, 0, rfl, rfl, by omega, by omega, by show 0 = _; rw [List.drop_of_length_le (by omega)]; rfl⟩
  case round =>
    obtain ⟨z, vn, rfl, rfl, hz1, hz2, hz⟩ := hrel
    by_cases h0 : z = -1
    · subst h0
      have e : vn = va := by
        have e1 := hz.out
        simp at e1
        rw [e1, hV.out]
      have E := Lib.hid e
      clear e
      go_wp2
      go_ret2
      exact ⟨by rw [E.out]; rfl, HB.out⟩
    · obtain ⟨k, rfl⟩ : ∃ k : Nat, z = (k : Int) := Int.eq_ofNat_of_zero_le (by omega)
      have hk : k < us.length := by omega
      obtain ⟨b, o, hA, hb1, hc1⟩ := X.out.at_ hk
      have c1 := hc1 k hk
      have b1 := lim_lt HO.out k
      have e1 : vn = val (us.drop (k + 1)) := by
        have := hz.out
        rwa [show ((k : Int) + 1).toNat = k + 1 from by omega] at this
      have b2 : vn < 4294967296 := by
        have h1 := val_lt (okl_drop HO.out (k + 1))
        rw [← e1] at h1
        have h2 : (us.drop (k + 1)).length ≤ 1 := by rw [List.length_drop]; omega
        have h3 := pw_le h2
        rw [pw_succ, pw_zero] at h3
        omega
      have E := or64' b1 b2
      have nx : Hid (lim us k + 4294967296 * vn = val (us.drop ((k : Int) - 1 + 1).toNat)) := by
        show _ = _
        rw [show ((k : Int) - 1 + 1).toNat = k from by omega, val_drop_succ, e1]
      subst hA
      clear hc1 h0 e1 hz
      generalize lim us k + 4294967296 * vn = nv at *
      go_wp2
      go_round
      case rel => exact ⟨(k : Int) - 1, nv, rfl, rfl, by omega, by omega, nx⟩
      case measure => simp [intOf]
end Go.Proofs.Ytmmlfmjelhninaa
