/-
  Divl, Dm, Gcds, Lits, Mul, Shelf, Bits, Shift, Shz.
-/
import Derived.Test.YtfacndibfkamgaaGreatNA
import Derived.RegionTactic
import Derived.Deep.RegionWith
import Derived.Shelf.Small.Bits
import Derived.Test.YtfacndibfkamgaaGreatProg
import Derived.StillTailTactics
/-
  Contract of natural.divideByLimb.
-/
namespace Go.Proofs.YtfacndibfkamgaaGreat
open Go.RowKit
set_option linter.unusedVariables false

theorem or64' {a b : Nat} (ha : a < 4294967296) (hb : b < 4294967296) : bits .or .u64 ((b : Int) * 4294967296) (a : Int) = ((a + 4294967296 * b : Nat) : Int) := by
  have e : (b : Int) * 4294967296 = ((b * 4294967296 : Nat) : Int) := by omega
  rw [e, u64_or_nat (b * 4294967296) a (by omega) (by omega), Nat.or_comm, or_low32 ha]

def DlInv (w : World) (us : List Nat) (d k rest : Nat) (wr : World) : Prop :=
  ∃ zs, Row wr w.heap.size zs ∧ zs.length = us.length ∧ okl zs ∧ val (us.drop (us.length - k)) = val (zs.drop (us.length - k)) * d + rest ∧ Below w.heap.size w wr

theorem dl_step {w wr : World} {us zs : List Nat} {d k rest a : Nat} (hk : k < us.length) (ha : a = us.length - 1 - k) (hu : okl us) (hd : 0 < d) (hr : Row wr w.heap.size zs) (hzl : zs.length = us.length) (hz : okl zs)
    (he : val (us.drop (us.length - k)) = val (zs.drop (us.length - k)) * d + rest) (hrd : rest < d) (hb : Below w.heap.size w wr) (z : Int) (hzz : z = ((lim us a + 4294967296 * rest) / d : Nat)) :
    DlInv w us d (k + 1) ((lim us a + 4294967296 * rest) % d) (wr.setCell ⟨w.heap.size, a, none⟩ (.int .u32 z)) ∧ (lim us a + 4294967296 * rest) / d < 4294967296 := by
  subst hzz
  have hlt := lim_lt hu a
  have hq : (lim us a + 4294967296 * rest) / d < 4294967296 := by
    rw [Nat.div_lt_iff_lt_mul hd]; omega
  refine ⟨⟨zs.set a ((lim us a + 4294967296 * rest) / d), hr.set_ _ _, by simpa using hzl, okl_set hz hq _, ?_, hb.setCell (Nat.le_refl _) _⟩, hq⟩
  have e1 : us.length - (k + 1) = a := by omega
  have e2 : us.length - k = a + 1 := by omega
  rw [e2] at he
  rw [e1, val_drop_succ us a, val_drop_succ (zs.set a _) a, lim_set_same (by omega), List.drop_set_of_lt (by omega), he]
  have e := Nat.div_add_mod (lim us a + 4294967296 * rest) d
  generalize (lim us a + 4294967296 * rest) / d = q at *
  generalize (lim us a + 4294967296 * rest) % d = r at *
  generalize val (List.drop (a + 1) zs) = v at *
  grind

theorem wrapq {V d : Nat} (h : V / d < 4294967296) : IntKind.u64.wrap ((V : Int) / (d : Int)) % 4294967296 = ((V / d : Nat) : Int) := by
  rw [IntKind.wrap_u64, ← Int.natCast_ediv]
  generalize V / d = q at *
  omega
/-- Quotient and remainder, each a row of the call's own. -/
def DivlPost (w : World) (us : List Nat) (d : Nat) (e : Ending) (w' : World) : Prop :=
  ∃ g g' zs, e = .returned (.tuple #[.slice (some ⟨g, 0, none⟩) us.length us.length, .slice (some ⟨g', 0, none⟩) 1 1]) ∧
      w.heap.size ≤ g ∧ w.heap.size ≤ g' ∧ Row w' g zs ∧ zs.length = us.length ∧ okl zs ∧ val zs = val us / d ∧ Row w' g' [val us % d] ∧ Below w.heap.size w w'

set_option maxHeartbeats 1000000 in
theorem divl_any (A : Option Addr) (cap : Nat) (us : List Nat) (d : Nat) (w : World) (h : Rd w A cap us) (hn : us.length ≤ 70368744177663) (hd0 : 0 < d) (hd1 : d < 4294967296) :
    Calls Tryz.prog 141 #[.slice A us.length cap, .int .u32 (d : Int)] w (DivlPost w us d) := by
  have X := Lib.hid h
  have hl := h.len
  have hc := h.capLe
  clear h
  go_enter Tryz.func141, Tryz.ntmps141
  go_wp2_with (at_make; refine make_row rfl _ _ rfl _ _ us.length rfl rfl rfl rfl (by omega) ?_)
  intro w1 hrow hbel
  go_wp2
  go_loopw [6, 14] (fun r i wr => ∃ k rest : Nat, k ≤ us.length ∧ i = .int .i64 k ∧ r = .int .u64 rest ∧ rest < d ∧ DlInv w us d k rest wr) (fun _ i _ => us.length - (intOf i).toNat)
  case atStart => exact ⟨0, 0, Nat.zero_le _, rfl, rfl, hd0, _, hrow, by simp, okl_replicate _, by simp [val_nil], hbel⟩
  case round =>
    clear hrow hbel
    obtain ⟨k, rest, hk, rfl, rfl, hrd, inv⟩ := hrel
    obtain ⟨zs, hrow, hzl, hzo, heq, hbel⟩ := inv
    have HE := Lib.hid heq
    have HZ := Lib.hid hzl
    have HR := Lib.hid hrow
    have HB := Lib.hid hbel
    clear heq hzl hrow
    by_cases hlt : k < us.length
    · have X1 := X.out.keep (Nat.le_refl _) hbel
      obtain ⟨a, ha⟩ : ∃ a, a = us.length - 1 - k := ⟨_, rfl⟩
      obtain ⟨b, o, hA, hb, hc'⟩ := X1.at_ hlt
      have c1 := hc' a (by omega)
      have hfz := HR.out.frozen a
      have hcw := HR.out.cell (i := a) (by have := HZ.out; omega)
      have b1 := lim_lt X1.ok a
      have eor := or64' b1 (show rest < 4294967296 by omega)
      have step := Lib.hid (dl_step hlt ha X1.ok hd0 HR.out HZ.out hzo HE.out hrd hbel)
      have hk' : k = us.length - 1 - a := by omega
      have ha' : a < us.length := by omega
      subst hA
      have hq := (step.out _ rfl).2
      have ea : (us.length : Int) - 1 - k = a := by omega
      clear hc' hbel X1 ha hk'
      have V1 : lim us a + 4294967296 * rest ≤ 18446744073709551615 := by omega
      generalize hV : lim us a + 4294967296 * rest = V at *
      have HV := Lib.hid hV
      clear hV
      go_wp2
      go_roundw
      case rel =>
        rw [wrapq hq]
        have st := (step.out _ rfl).1
        exact ⟨k + 1, V % d, by omega, by go_num, by simp, Nat.mod_lt _ hd0, st⟩
      case measure => simp [intOf]; omega
    · obtain rfl : k = us.length := by omega
      have e := HE.out
      have hZ := HZ.out
      rw [Nat.sub_self, List.drop_zero, List.drop_zero] at e
      have hrow := HR.out
      have hq : val zs = val us / d := by
        rw [e, Nat.mul_comm, Nat.mul_add_div hd0, Nat.div_eq_of_lt hrd]; omega
      have hr : rest = val us % d := by
        rw [e, Nat.mul_comm, Nat.mul_add_mod, Nat.mod_eq_of_lt hrd]
      have hr32 : rest < 4294967296 := by omega
      have FIN : Hid (DivlPost w us d (.returned (.tuple #[.slice (some ⟨w.heap.size, 0, none⟩) us.length us.length, .slice (some ⟨wr.heap.size, 0, none⟩) 1 1])) (wr.alloc (.cells #[.int .u32 (rest : Int)] 118))) := by
        refine ⟨w.heap.size, wr.heap.size, zs, rfl, Nat.le_refl _, HB.out.size, hrow.alloc _, hZ, hzo, hq, ?_, HB.out.alloc HB.out.size _⟩
        rw [← hr]
        exact heap_alloc_new wr _
      clear hbel e hZ hrow hq hr hk hlt
      go_wp2
      go_ret2
      exact FIN.out
theorem divl_n {A : Option Addr} {cap n : Nat} {us : List Nat} {w : World} (h : Rd w A cap us) (hl : us.length = n) (d : Nat) (hn : n ≤ 70368744177663) (hd0 : 0 < d) (hd1 : d < 4294967296) :
    Calls Tryz.prog 141 #[.slice A n cap, .int .u32 (d : Int)] w (DivlPost w us d) := by
  subst hl; exact divl_any A cap us d w h hn hd0 hd1
end Go.Proofs.YtfacndibfkamgaaGreat

/-
  Contract of natural.DivMod where it is not long division: divisor 0, dividend shorter, two limbs, divisor of one limb.
-/
namespace Go.Proofs.YtfacndibfkamgaaGreat
open Go.RowKit
set_option linter.unusedVariables false

/-- Quotient, remainder and true. -/
def Gives2 (w : World) (q r : Nat) (e : Ending) (w' : World) : Prop :=
  ∃ R c R' c', e = .returned (.tuple #[.slice R (ofv q).length c, .slice R' (ofv r).length c', .bool true]) ∧ Own w' w.heap.size R c (ofv q) ∧ Own w' w.heap.size R' c' (ofv r) ∧ Below w.heap.size w w'
/-- No numbers, and false. -/
def GivesF2 (w : World) (e : Ending) (w' : World) : Prop := e = .returned (.tuple #[.slice none 0 0, .slice none 0 0, .bool false]) ∧ Below w.heap.size w w'

theorem dm_zero (A B : Option Addr) (ca cb : Nat) (xs ys : List Nat) (w : World) (h : Rd w A ca xs) (h' : Rd w B cb ys) (hv : val ys = 0) :
    Calls Tryz.prog 104 #[.slice A xs.length ca, .slice B ys.length cb] w (GivesF2 w) := by
  have S1 := Lib.hid (sig_any A ca xs w h)
  have S2 := sig_any B cb ys w h'
  rw [hv, ofv_zero] at S2
  have H2 := Lib.hid S2
  have hl := h.sig.len
  have hc := h.capLe
  clear S2 h h' hv
  generalize (ofv (val xs)).length = m at *
  go_enter Tryz.func104, Tryz.ntmps104
  go_wp2_with fail
  refine S1.out.mono ?_
  rintro e w' ⟨rfl, rfl⟩
  go_wp2_with fail
  refine H2.out.mono ?_
  rintro e w' ⟨rfl, rfl⟩
  go_wp2
  go_ret3
  exact ⟨rfl, Below.refl _ _⟩

theorem len_pos {v : Nat} (h : 0 < v) : 0 < (ofv v).length := List.length_pos_iff.2 (fun e => by have := ofv_eq_nil.1 e; omega)

theorem dm_less (A B : Option Addr) (ca cb : Nat) (xs ys : List Nat) (w : World) (h : Rd w A ca xs) (h' : Rd w B cb ys) (hn : xs.length ≤ 70368744177663) (hv : 0 < val ys) (hlt : (ofv (val xs)).length < (ofv (val ys)).length) :
    Calls Tryz.prog 104 #[.slice A xs.length ca, .slice B ys.length cb] w (Gives2 w (val xs / val ys) (val xs % val ys)) := by
  have S1 := Lib.hid (sig_any A ca xs w h)
  have S2 := Lib.hid (sig_any B cb ys w h')
  have X := Lib.hid h.sig
  have l1 := h.sig.len
  have l2 := h'.sig.len
  have hc := h.capLe
  have hc' := h'.capLe
  have hp := len_pos hv
  have hn1 : (ofv (val xs)).length ≤ 70368744177663 := by have := len_ofv_le h.ok; omega
  have hlt' := lt_of_len_lt hlt
  have e1 : val xs / val ys = 0 := Nat.div_eq_of_lt hlt'
  have e2 : val xs % val ys = val xs := Nat.mod_eq_of_lt hlt'
  rw [e1, e2]
  have T := trim_n h.sig rfl (by omega)
  rw [val_ofv] at T
  have HT := Lib.hid T
  clear h h' hv hlt' e1 e2 T
  generalize hm1 : (ofv (val xs)).length = m1 at *
  generalize (ofv (val ys)).length = m2 at *
  have HM := Lib.hid hm1
  clear hm1
  go_enter Tryz.func104, Tryz.ntmps104
  go_wp2_with fail
  refine S1.out.mono ?_
  rintro e w' ⟨rfl, rfl⟩
  go_wp2_with fail
  refine S2.out.mono ?_
  rintro e w' ⟨rfl, rfl⟩
  go_wp2_with fail
  refine HT.out.mono ?_
  rintro e w' ⟨R, c, rfl, ho, hb⟩
  have FIN : Hid (Gives2 w 0 (val xs) (.returned (.tuple #[.slice none 0 0, .slice R (ofv (val xs)).length c, .bool true])) w') :=
    ⟨none, 0, R, c, by rw [ofv_zero]; rfl, by rw [ofv_zero]; exact Own.nil _ _ _, ho, hb⟩
  clear ho hb
  go_wp2
  go_ret3
  exact FIN.out

theorem from_q {a b : Nat} {w : World} (h : a ≤ 18446744073709551615) :
    Calls Tryz.prog 115 #[.int .u64 (IntKind.u64.wrap ((a : Int) / (b : Int)))] w (Gives w (a / b)) := by
  have hq : a / b ≤ a := Nat.div_le_self _ _
  refine from_z ?_ (by omega)
  rw [IntKind.wrap_u64, ← Int.natCast_ediv]
  generalize a / b = q at *
  omega
theorem from_t {a b : Nat} {w : World} (h : a ≤ 18446744073709551615) :
    Calls Tryz.prog 115 #[.int .u64 ((a : Int).tmod (b : Int))] w (Gives w (a % b)) := by
  have hq : a % b ≤ a := Nat.mod_le _ _
  exact from_z (by rw [Int.tmod_eq_emod_of_nonneg (by omega)]; simp) (by omega)
theorem from_r {a b : Nat} {w : World} (h : a ≤ 18446744073709551615) :
    Calls Tryz.prog 115 #[.int .u64 ((a : Int) % (b : Int))] w (Gives w (a % b)) := by
  have hq : a % b ≤ a := Nat.mod_le _ _
  exact from_z (by simp) (by omega)

set_option maxHeartbeats 1000000 in
theorem dm_short (A B : Option Addr) (ca cb : Nat) (xs ys : List Nat) (w : World) (h : Rd w A ca xs) (h' : Rd w B cb ys) (hv : 0 < val ys) (hle : (ofv (val ys)).length ≤ (ofv (val xs)).length) (h2 : (ofv (val xs)).length ≤ 2) :
    Calls Tryz.prog 104 #[.slice A xs.length ca, .slice B ys.length cb] w (Gives2 w (val xs / val ys) (val xs % val ys)) := by
  have S1 := Lib.hid (sig_any A ca xs w h)
  have S2 := Lib.hid (sig_any B cb ys w h')
  have X := Lib.hid h.sig
  have Y := Lib.hid h'.sig
  have l1 := h.sig.len
  have l2 := h'.sig.len
  have hc := h.capLe
  have hc' := h'.capLe
  have hp := len_pos hv
  have b1 := val_two (okl_ofv (val xs)) h2
  have b2 := val_two (okl_ofv (val ys)) (by omega)
  rw [val_ofv] at b1 b2
  have b1' : val xs ≤ 18446744073709551615 := by omega
  have b2' : val ys ≤ 18446744073709551615 := by omega
  have V1 := Lib.hid (val_ofv (val xs))
  have V2 := Lib.hid (val_ofv (val ys))
  have q1 : val xs / val ys ≤ 18446744073709551615 := Nat.le_trans (Nat.div_le_self _ _) b1'
  have q2 : val xs % val ys ≤ 18446744073709551615 := Nat.le_trans (Nat.mod_le _ _) b1'
  clear h h' b1 b2
  generalize hu : ofv (val xs) = us at *
  generalize hw : ofv (val ys) = vs at *
  have HU := Lib.hid hu
  have HW := Lib.hid hw
  generalize val xs = va at *
  generalize val ys = vb at *
  clear hu hw
  go_enter Tryz.func104, Tryz.ntmps104
  go_wp2_with fail
  refine S1.out.mono ?_
  rintro e w' ⟨rfl, rfl⟩
  go_wp2_with fail
  refine S2.out.mono ?_
  rintro e w' ⟨rfl, rfl⟩
  go_wp2_with fail
  refine (window_small X.out rfl h2).mono ?_
  rw [V1.out]
  rintro e w1 ⟨rfl, hq⟩
  have B1 : Hid (Below w.heap.size w w1) := by obtain ⟨n, rfl⟩ := hq; exact below_drewN _ _ _
  have Z1 : Hid (w1.heap.size = w.heap.size) := by obtain ⟨n, rfl⟩ := hq; exact rfl
  clear hq
  go_wp2_with fail
  refine (window_small (Y.out.below B1.out) rfl (by omega)).mono ?_
  rw [V2.out]
  rintro e w2 ⟨rfl, hq⟩
  have B2 : Hid (Below w1.heap.size w1 w2) := by obtain ⟨n, rfl⟩ := hq; exact below_drewN _ _ _
  have Z2 : Hid (w2.heap.size = w1.heap.size) := by obtain ⟨n, rfl⟩ := hq; exact rfl
  clear hq
  go_wp2_with fail
  go_region_with ((go_at_call 115; first | ((with_reducible refine (from_q b1').mono ?_); rintro e wq ⟨Rq, cq, rfl, hoq, hbq⟩) | ((with_reducible refine (from_t b1').mono ?_); rintro e wr ⟨Rr, cr, rfl, hor, hbr⟩) | ((with_reducible refine (from_r b1').mono ?_); rintro e wr ⟨Rr, cr, rfl, hor, hbr⟩)))
  all_goals
    have FIN : Hid (Gives2 w (va / vb) (va % vb) (.returned (.tuple #[.slice Rq (ofv (va / vb)).length cq, .slice Rr (ofv (va % vb)).length cr, .bool true])) wr) := by
      have z1 := Z1.out
      have z2 := Z2.out
      have hbq' : Below w2.heap.size w2 wq := (below_drewN w2.heap.size w2 1).trans hbq
      have hs := hbq'.size
      exact ⟨Rq, cq, Rr, cr, rfl, (hoq.below hbr).mono (by show w.heap.size ≤ w2.heap.size; omega), hor.mono (by omega), B1.out.trans ((B2.out.mono (by omega)).trans ((hbq'.mono (by omega)).trans (hbr.mono (by omega))))⟩
    clear hoq hbq hor hbr
    go_wp2
    go_ret3
    exact FIN.out

set_option maxHeartbeats 1000000 in
theorem dm_limb (A B : Option Addr) (ca cb : Nat) (xs ys : List Nat) (w : World) (h : Rd w A ca xs) (h' : Rd w B cb ys) (hn : xs.length ≤ 70368744177663) (h1 : (ofv (val ys)).length = 1) (h2 : 2 < (ofv (val xs)).length) :
    Calls Tryz.prog 104 #[.slice A xs.length ca, .slice B ys.length cb] w (Gives2 w (val xs / val ys) (val xs % val ys)) := by
  have S1 := Lib.hid (sig_any A ca xs w h)
  have S2 := sig_any B cb ys w h'
  have X := h.sig
  have Y := h'.sig
  have l1 := h.sig.len
  have l2 := h'.sig.len
  have hc := h.capLe
  have hc' := h'.capLe
  have hn1 : (ofv (val xs)).length ≤ 70368744177663 := by have := len_ofv_le h.ok; omega
  have V1 := val_ofv (val xs)
  obtain ⟨d, hd⟩ : ∃ d, ofv (val ys) = [d] := by
    match ofv (val ys), h1 with
    | [d], _ => exact ⟨d, rfl⟩
  have hvd : val ys = d := by rw [← val_ofv (val ys), hd, val_cons, val_nil]; omega
  have hd1 : d < 4294967296 := by have := okl_ofv (val ys) d (by rw [hd]; simp); omega
  have hd0 : 0 < d := by
    rcases Nat.eq_zero_or_pos d with e | e
    · rw [hvd, e, ofv_zero] at h1; simp at h1
    · exact e
  rw [hd] at S2 Y l2
  obtain ⟨b, o, rfl, _, hcell⟩ := Y.at_ (k := 0) (by simp)
  have c1 := hcell 0 (by simp)
  rw [lim_cons_zero, Nat.add_zero] at c1
  have H2 := Lib.hid S2
  have e0 : ([d] : List Nat).length = 1 := rfl
  rw [hvd]
  have L := divl_n X rfl d hn1 hd0 hd1
  have HX := Lib.hid X
  have HV1 := Lib.hid V1
  have HL := Lib.hid L
  have hl2 : 1 ≤ cb := by simpa using l2
  clear h h' Y hcell S2 L hd h1 hvd V1 X l2
  generalize hu : ofv (val xs) = us at *
  have HU := Lib.hid hu
  generalize val xs = va at *
  clear hu e0
  go_enter Tryz.func104, Tryz.ntmps104
  go_wp2_with fail
  refine S1.out.mono ?_
  rintro e w' ⟨rfl, rfl⟩
  go_wp2_with fail
  refine H2.out.mono ?_
  rintro e w' ⟨rfl, rfl⟩
  go_wp2_with fail
  refine HL.out.mono ?_
  rintro e w1 ⟨g, g', zs, rfl, hg, hg', hr1, hzl, hzo, hzv, hr2, hb⟩
  rw [HV1.out] at hzv hr2
  have ow1 := Own.of_row (lo := w.heap.size) hr1 hzo hg (by omega)
  have okr : okl [va % d] := by
    intro x hx
    have := Nat.mod_lt va hd0
    simp only [List.mem_cons, List.not_mem_nil, or_false] at hx
    omega
  have ow2 := Own.of_row (lo := w.heap.size) hr2 okr hg' (by simp)
  rw [hzl] at ow1
  have vr : val [va % d] = va % d := by rw [val_cons, val_nil]; omega
  have T1 := Lib.hid (sig_n ow1.rd hzl)
  have T2 := Lib.hid (sig_n ow2.rd rfl)
  have FIN : Hid (Gives2 w (va / d) (va % d) (.returned (.tuple #[.slice (some ⟨g, 0, none⟩) (ofv (val zs)).length us.length, .slice (some ⟨g', 0, none⟩) (ofv (val [va % d])).length 1, .bool true])) w1) := by
    have p1 := ow1.sig
    have p2 := ow2.sig
    rw [hzv] at p1 ⊢
    rw [vr] at p2 ⊢
    exact ⟨_, _, _, _, rfl, p1, p2, hb⟩
  clear hr1 hzl hzo hzv hr2 hb ow1 okr ow2 vr
  go_wp2_with fail
  refine T1.out.mono ?_
  rintro e w' ⟨rfl, rfl⟩
  go_wp2_with fail
  refine T2.out.mono ?_
  rintro e w' ⟨rfl, rfl⟩
  go_wp2
  go_ret3
  exact FIN.out
end Go.Proofs.YtfacndibfkamgaaGreat

/-
  Contracts of natural.gcdOfWords and natural.workingPair, and of natural.GCD for numbers of at most two limbs.
-/
namespace Go.Proofs.YtfacndibfkamgaaGreat
open Go.RowKit
set_option linter.unusedVariables false

theorem gcd_words (u v : Nat) (w : World) (hu : u ≤ 18446744073709551615) (hv : v ≤ 18446744073709551615) :
    Calls Tryz.prog 138 #[.int .u64 (u : Int), .int .u64 (v : Int)] w fun e w' => e = .returned (.int .u64 ((Nat.gcd u v : Nat) : Int)) ∧ ∃ n, w' = w.drewN n := by
  go_enter Tryz.func138, Tryz.ntmps138
  go_wp2
  go_loopw [0, 1] (fun a b wr => ∃ x y : Nat, a = .int .u64 x ∧ b = .int .u64 y ∧ x ≤ 18446744073709551615 ∧ y ≤ 18446744073709551615 ∧ Hid (Nat.gcd x y = Nat.gcd u v) ∧ Hid (∃ q, wr = w.drewN q)) (fun _ b _ => (intOf b).toNat)
  case atStart => exact ⟨u, v, rfl, rfl, hu, hv, rfl, 0, rfl⟩
  case round =>
    obtain ⟨x, y, rfl, rfl, hx, hy, hg, hq⟩ := hrel
    by_cases h0 : y = 0
    · subst h0
      have e : x = Nat.gcd u v := by rw [← hg.out, Nat.gcd_zero_right]
      have E := Lib.hid e
      clear e
      go_wp2
      go_ret
      exact ⟨ret_int (by rw [← E.out]), hq.out⟩
    · have hb : ((y : Int) != 0) = true := by rw [bne_iff_ne]; omega
      have hy1 : 1 ≤ y := by omega
      have hr : x % y ≤ 18446744073709551615 := Nat.le_trans (Nat.mod_le _ _) hx
      have hlt : x % y < y := Nat.mod_lt _ hy1
      have HG : Hid (Nat.gcd y (x % y) = Nat.gcd u v) := by
        show _ = _
        rw [← hg.out, Nat.gcd_comm x y, Nat.gcd_rec y x, Nat.gcd_comm]
      have HM : Hid ((x : Int).tmod (y : Int) = ((x % y : Nat) : Int)) := by
        show _ = _
        rw [Int.tmod_eq_emod_of_nonneg (by omega)]; simp
      have HM2 : Hid ((x : Int) % (y : Int) = ((x % y : Nat) : Int)) := by
        show _ = _
        simp
      clear h0
      generalize hr' : x % y = r at *
      have HR := Lib.hid hr'
      clear hr'
      go_wp2
      go_quiet (fail)
      go_wp2
      go_roundw
      case rel => exact ⟨y, r, rfl, by first | rw [HM.out] | rw [HM2.out], hy, hr, HG, drew_on hq.out ⟨_, rfl⟩⟩
      case measure => simp only [intOf]; first | rw [HM.out] | rw [HM2.out]; omega

/-- Two rows of one length, the greater number first. -/
def WpPost (w : World) (mx mn : Nat) (e : Ending) (w' : World) : Prop :=
  ∃ g1 g2 ys, e = .returned (.tuple #[.slice (some ⟨g1, 0, none⟩) (ofv mx).length (ofv mx).length, .slice (some ⟨g2, 0, none⟩) (ofv mx).length (ofv mx).length]) ∧
    w.heap.size ≤ g1 ∧ g1 < g2 ∧ Row w' g1 (ofv mx) ∧ Row w' g2 ys ∧ ys.length = (ofv mx).length ∧ okl ys ∧ val ys = mn ∧ Below w.heap.size w w'

theorem wp_pad {w' : World} {g n : Nat} {vs : List Nat} (hr : Row w' g (vs ++ List.replicate (n - vs.length) 0)) (hl : vs.length ≤ n) (ho : okl vs) :
    ∃ ys, Row w' g ys ∧ ys.length = n ∧ okl ys ∧ val ys = val vs := by
  refine ⟨_, hr, ?_, ?_, ?_⟩
  · simp; omega
  · exact okl_append ho (okl_replicate _)
  · rw [val_append, val_replicate]; omega

set_option maxHeartbeats 2000000 in
theorem wp_any (A B : Option Addr) (ca cb : Nat) (xs ys : List Nat) (w : World) (h : Rd w A ca xs) (h' : Rd w B cb ys) (hn : xs.length ≤ 70368744177663) (hn' : ys.length ≤ 70368744177663) :
    Calls Tryz.prog 133 #[.slice A xs.length ca, .slice B ys.length cb] w (WpPost w (max (val xs) (val ys)) (min (val xs) (val ys))) := by
  have C := compare_any A B ca cb xs ys w h h'
  have H1 := Lib.hid h
  have H2 := Lib.hid h'
  have hc1 := h.capLe
  have hc2 := h'.capLe
  have hl1 := h.len
  have hl2 := h'.len
  have k1 := len_ofv_le h.ok
  have k2 := len_ofv_le h'.ok
  rcases Nat.lt_or_ge (val xs) (val ys) with hlt | hge
  · rw [cmp_lt hlt] at C
    have HC := Lib.hid C
    have hmm : Hid (max (val xs) (val ys) = val ys ∧ min (val xs) (val ys) = val xs) := ⟨by omega, by omega⟩
    have hle : (ofv (val xs)).length ≤ (ofv (val ys)).length := by
      rcases Nat.lt_or_ge (ofv (val ys)).length (ofv (val xs)).length with h1 | h1
      · have := lt_of_len_lt h1; omega
      · exact h1
    clear C hlt h h'
    rw [hmm.out.1, hmm.out.2]
    clear hmm
    go_enter Tryz.func133, Tryz.ntmps133
    go_wp2_with fail
    refine HC.out.mono ?_
    rintro e w0 ⟨rfl, hq⟩
    have B0 : Hid (Below w.heap.size w w0) := by obtain ⟨n, rfl⟩ := hq; exact below_drewN _ _ _
    have Z0 : Hid (w0.heap.size = w.heap.size) := by obtain ⟨n, rfl⟩ := hq; exact rfl
    clear hq
    go_wp2_with fail
    refine (trim_row_n (H2.out.below B0.out) rfl (by omega)).mono ?_
    rintro e w1 ⟨g1, rfl, hg1, hr1, hb1⟩
    have R1 := Lib.hid hr1
    have B1 := Lib.hid hb1
    have G1 := Lib.hid hg1
    clear hr1 hb1 hg1
    have hn3 : (ofv (val ys)).length ≤ 70368744177664 := by omega
    have X := Lib.hid ((H1.out.below B0.out).below B1.out)
    have ok1 := Lib.hid (okl_ofv (val xs))
    have vv1 := Lib.hid (val_ofv (val xs))
    generalize hu : ofv (val ys) = us at *
    generalize hv : ofv (val xs) = vs at *
    have HU := Lib.hid hu
    have HV := Lib.hid hv
    clear hu hv
    go_wp2_with (at_make; refine make_row rfl _ _ rfl _ _ us.length rfl rfl rfl rfl hn3 ?_)
    intro w2 hr2 hb2
    have R2 := Lib.hid hr2
    have B2 := Lib.hid hb2
    clear hr2 hb2
    go_wp2_with fail
    refine (sig_n (X.out.below B2.out) rfl).mono ?_
    rw [HV.out]
    rintro e w' ⟨rfl, rfl⟩
    have X2 := (X.out.below B2.out).sig
    rw [HV.out] at X2
    have HX2 := Lib.hid X2
    clear X2
    go_wp2_with (with_reducible refine copy_row rfl (.tmp 17) (.tmp 19) rfl w1.heap.size 0 us.length us.length rfl (List.replicate us.length 0) R2.out (by simp) _ vs.length _ vs rfl HX2.out rfl hle ?_)
    intro w3 hr3 hgr3
    obtain ⟨yl, hy1, hy2, hy3, hy4⟩ := wp_pad hr3 hle ok1.out
    have FIN : Hid (WpPost w (val ys) (val xs) (.returned (.tuple #[.slice (some ⟨g1, 0, none⟩) us.length us.length, .slice (some ⟨w1.heap.size, 0, none⟩) us.length us.length])) w3) := by
      have z0 := Z0.out
      have s1 := B1.out.size
      have lt1 := R1.out.lt
      have u1 := HU.out
      refine ⟨g1, w1.heap.size, yl, by rw [u1], by have := G1.out; omega, lt1, ?_, hy1, by rw [u1]; exact hy2, hy3, by rw [hy4]; exact vv1.out, ?_⟩
      · rw [u1]
        exact (R1.out.below B2.out lt1).grown hgr3 (fun e => by cases e; omega)
      · exact B0.out.trans ((B1.out.mono (by omega)).trans ((B2.out.mono (by omega)).trans (below_of_grown hgr3 (by omega) (by have := B2.out.size; omega))))
    clear hr3 hgr3 hy1 hy2 hy3 hy4
    go_wp2
    go_ret2
    exact FIN.out
  · have hc0 := cmp_nonneg hge
    have hmm : Hid (max (val xs) (val ys) = val xs ∧ min (val xs) (val ys) = val ys) := ⟨by omega, by omega⟩
    have hle : (ofv (val ys)).length ≤ (ofv (val xs)).length := by
      rcases Nat.lt_or_ge (ofv (val xs)).length (ofv (val ys)).length with h1 | h1
      · have := lt_of_len_lt h1; omega
      · exact h1
    generalize cmp (val xs) (val ys) = cc at *
    have HC := Lib.hid C
    clear C hge h h'
    rw [hmm.out.1, hmm.out.2]
    clear hmm
    go_enter Tryz.func133, Tryz.ntmps133
    go_wp2_with fail
    refine HC.out.mono ?_
    rintro e w0 ⟨rfl, hq⟩
    have B0 : Hid (Below w.heap.size w w0) := by obtain ⟨n, rfl⟩ := hq; exact below_drewN _ _ _
    have Z0 : Hid (w0.heap.size = w.heap.size) := by obtain ⟨n, rfl⟩ := hq; exact rfl
    clear hq
    go_wp2_with fail
    refine (trim_row_n (H1.out.below B0.out) rfl (by omega)).mono ?_
    rintro e w1 ⟨g1, rfl, hg1, hr1, hb1⟩
    have R1 := Lib.hid hr1
    have B1 := Lib.hid hb1
    have G1 := Lib.hid hg1
    clear hr1 hb1 hg1
    have hn3 : (ofv (val xs)).length ≤ 70368744177664 := by omega
    have X := Lib.hid ((H2.out.below B0.out).below B1.out)
    have ok1 := Lib.hid (okl_ofv (val ys))
    have vv1 := Lib.hid (val_ofv (val ys))
    generalize hu : ofv (val xs) = us at *
    generalize hv : ofv (val ys) = vs at *
    have HU := Lib.hid hu
    have HV := Lib.hid hv
    clear hu hv
    go_wp2_with (at_make; refine make_row rfl _ _ rfl _ _ us.length rfl rfl rfl rfl hn3 ?_)
    intro w2 hr2 hb2
    have R2 := Lib.hid hr2
    have B2 := Lib.hid hb2
    clear hr2 hb2
    go_wp2_with fail
    refine (sig_n (X.out.below B2.out) rfl).mono ?_
    rw [HV.out]
    rintro e w' ⟨rfl, rfl⟩
    have X2 := (X.out.below B2.out).sig
    rw [HV.out] at X2
    have HX2 := Lib.hid X2
    clear X2
    go_wp2_with (with_reducible refine copy_row rfl (.tmp 17) (.tmp 19) rfl w1.heap.size 0 us.length us.length rfl (List.replicate us.length 0) R2.out (by simp) _ vs.length _ vs rfl HX2.out rfl hle ?_)
    intro w3 hr3 hgr3
    obtain ⟨yl, hy1, hy2, hy3, hy4⟩ := wp_pad hr3 hle ok1.out
    have FIN : Hid (WpPost w (val xs) (val ys) (.returned (.tuple #[.slice (some ⟨g1, 0, none⟩) us.length us.length, .slice (some ⟨w1.heap.size, 0, none⟩) us.length us.length])) w3) := by
      have z0 := Z0.out
      have s1 := B1.out.size
      have lt1 := R1.out.lt
      have u1 := HU.out
      refine ⟨g1, w1.heap.size, yl, by rw [u1], by have := G1.out; omega, lt1, ?_, hy1, by rw [u1]; exact hy2, hy3, by rw [hy4]; exact vv1.out, ?_⟩
      · rw [u1]
        exact (R1.out.below B2.out lt1).grown hgr3 (fun e => by cases e; omega)
      · exact B0.out.trans ((B1.out.mono (by omega)).trans ((B2.out.mono (by omega)).trans (below_of_grown hgr3 (by omega) (by have := B2.out.size; omega))))
    clear hr3 hgr3 hy1 hy2 hy3 hy4
    go_wp2
    go_ret2
    exact FIN.out

theorem gcd_max_min (a b : Nat) : Nat.gcd (max a b) (min a b) = Nat.gcd a b := by
  rcases Nat.le_total a b with h | h
  · rw [Nat.max_eq_right h, Nat.min_eq_left h, Nat.gcd_comm]
  · rw [Nat.max_eq_left h, Nat.min_eq_right h]

set_option maxHeartbeats 1000000 in
theorem gcd_short (A B : Option Addr) (ca cb : Nat) (xs ys : List Nat) (w : World) (h : Rd w A ca xs) (h' : Rd w B cb ys) (hn : xs.length ≤ 70368744177663) (hn' : ys.length ≤ 70368744177663) (h2 : (ofv (max (val xs) (val ys))).length ≤ 2) :
    Calls Tryz.prog 103 #[.slice A xs.length ca, .slice B ys.length cb] w (Gives w (Nat.gcd (val xs) (val ys))) := by
  have W := Lib.hid (wp_any A B ca cb xs ys w h h' hn hn')
  have hmax := val_two (okl_ofv (max (val xs) (val ys))) h2
  rw [val_ofv] at hmax
  have e := gcd_max_min (val xs) (val ys)
  rw [← e]
  have hmin : min (val xs) (val ys) ≤ max (val xs) (val ys) := by omega
  clear e h h'
  generalize max (val xs) (val ys) = mx at *
  generalize min (val xs) (val ys) = mn at *
  have b1 : mx ≤ 18446744073709551615 := by omega
  have b2 : mn ≤ 18446744073709551615 := by omega
  have bg : Nat.gcd mx mn < 18446744073709551616 := by
    rcases Nat.eq_zero_or_pos mx with e | e
    · rw [e, Nat.gcd_zero_left]; omega
    · have := Nat.le_of_dvd e (Nat.gcd_dvd_left mx mn); omega
  have F := Lib.hid (fun w => from_z (w := w) (z := ((Nat.gcd mx mn : Nat) : Int)) rfl bg)
  have okx := Lib.hid (okl_ofv mx)
  have vx := Lib.hid (val_ofv mx)
  clear hmax bg
  generalize hu : ofv mx = us at *
  have HU := Lib.hid hu
  clear hu
  go_enter Tryz.func103, Tryz.ntmps103
  go_wp2_with fail
  refine W.out.mono ?_
  rintro e w1 ⟨g1, g2, yl, rfl, hg1, hg12, hr1, hr2, hyl, hyo, hyv, hb⟩
  rw [HU.out] at hr1 hyl ⊢
  have X := Own.of_row (lo := w.heap.size) hr1 okx.out hg1 (by omega)
  have Y := Own.of_row (lo := w.heap.size) hr2 hyo (by omega) (by omega)
  rw [hyl] at Y
  have W1 := Lib.hid (window_small X.rd rfl h2)
  have HY := Lib.hid Y.rd
  have HYV := Lib.hid hyv
  have HYL := Lib.hid hyl
  have HB := Lib.hid hb
  clear X Y hr1 hr2 hyl hyv hb
  go_wp2
  refine wp_loop_rounds 1 ?_
  rw [rounds_succ]
  go_wp2_with fail
  refine W1.out.mono ?_
  rw [vx.out]
  rintro e w2 ⟨rfl, hq⟩
  have B2 : Hid (Below w1.heap.size w1 w2) := by obtain ⟨n, rfl⟩ := hq; exact below_drewN _ _ _
  clear hq
  go_wp2_with fail
  refine (window_small (HY.out.below B2.out) HYL.out h2).mono ?_
  rw [HYV.out]
  rintro e w3 ⟨rfl, hq⟩
  have B3 : Hid (Below w2.heap.size w2 w3) := by obtain ⟨n, rfl⟩ := hq; exact below_drewN _ _ _
  clear hq
  go_wp2_with fail
  refine (gcd_words mx mn _ b1 b2).mono ?_
  rintro e w4 ⟨rfl, hq⟩
  have B4 : Hid (Below w3.heap.size w3 w4) := by obtain ⟨n, rfl⟩ := hq; exact below_drewN _ _ _
  clear hq
  go_wp2_with fail
  refine (F.out _).mono ?_
  rintro e w5 ⟨R, c, rfl, ho, hb5⟩
  have FIN : Hid (Gives w (Nat.gcd mx mn) (.returned (.slice R (ofv (Nat.gcd mx mn)).length c)) w5) := by
    have s1 := HB.out.size
    have s2 := B2.out.size
    have s3 := B3.out.size
    have s4 := B4.out.size
    exact ⟨R, c, rfl, ho.mono (by omega), HB.out.trans ((B2.out.mono (by omega)).trans ((B3.out.mono (by omega)).trans ((B4.out.mono (by omega)).trans (hb5.mono (by omega)))))⟩
  clear ho hb5
  go_wp2
  go_ret
  exact FIN.out
end Go.Proofs.YtfacndibfkamgaaGreat

/-
  Literals in new memory, and contracts of natural with a length given by an equation.
-/
namespace Go.Proofs.YtfacndibfkamgaaGreat
open Go.RowKit
set_option linter.unusedVariables false

theorem row_new {w : World} {o : Obj} {g : Nat} {xs : List Nat} (hg : g = w.heap.size) (ho : o = .cells (xs.map lv).toArray 118) : Row (w.alloc o) g xs := by
  subst hg ho; exact heap_alloc_new w _
theorem rd_row {w : World} {g n : Nat} {xs : List Nat} (h : Row w g xs) (hk : okl xs) (hn : xs.length = n) (hm : n ≤ 9223372036854775807) : Rd w (some ⟨g, 0, none⟩) n xs := by
  subst hn; exact (Own.of_row (lo := 0) h hk (Nat.zero_le _) hm).rd
theorem ofv_is {v : Nat} {xs : List Nat} (hv : val xs = v) (hk : okl xs) (hl : xs = [] ∨ lim xs (xs.length - 1) ≠ 0) : ofv v = xs := by
  subst hv; exact ofv_val_of hk hl
theorem dm_limb_n {A B : Option Addr} {ca cb n m : Nat} {xs ys : List Nat} {w : World} (h : Rd w A ca xs) (h' : Rd w B cb ys) (hn : xs.length = n) (hm : ys.length = m) (hl : n ≤ 70368744177663) (h1 : (ofv (val ys)).length = 1) (h2 : 2 < (ofv (val xs)).length) :
    Calls Tryz.prog 104 #[.slice A n ca, .slice B m cb] w (Gives2 w (val xs / val ys) (val xs % val ys)) := by
  subst hn hm; exact dm_limb A B ca cb xs ys w h h' hl h1 h2
theorem add_n {A B : Option Addr} {ca cb n m : Nat} {xs ys : List Nat} {w : World} (h : Rd w A ca xs) (h' : Rd w B cb ys) (hn : xs.length = n) (hm : ys.length = m) (hl : n ≤ 70368744177663) (hl' : m ≤ 70368744177663) :
    Calls Tryz.prog 118 #[.slice A n ca, .slice B m cb] w (Gives w (val xs + val ys)) := by
  subst hn hm; exact add_any A B ca cb xs ys w h h' hl hl'
theorem gcd_short_n {A B : Option Addr} {ca cb n m : Nat} {xs ys : List Nat} {w : World} (h : Rd w A ca xs) (h' : Rd w B cb ys) (hn : xs.length = n) (hm : ys.length = m) (hl : n ≤ 70368744177663) (hl' : m ≤ 70368744177663) (h2 : (ofv (max (val xs) (val ys))).length ≤ 2) :
    Calls Tryz.prog 103 #[.slice A n ca, .slice B m cb] w (Gives w (Nat.gcd (val xs) (val ys))) := by
  subst hn hm; exact gcd_short A B ca cb xs ys w h h' hl hl' h2

theorem okl1 {a : Nat} (h : a < 4294967296) : okl [a] := by
  intro x hx; simp only [List.mem_cons, List.not_mem_nil, or_false] at hx; omega
theorem okl2 {a b : Nat} (h : a < 4294967296) (k : b < 4294967296) : okl [a, b] := by
  intro x hx; simp only [List.mem_cons, List.not_mem_nil, or_false] at hx; rcases hx with rfl | rfl <;> omega
theorem okl3 {a b c : Nat} (h : a < 4294967296) (k : b < 4294967296) (l : c < 4294967296) : okl [a, b, c] := by
  intro x hx; simp only [List.mem_cons, List.not_mem_nil, or_false] at hx; rcases hx with rfl | rfl | rfl <;> omega

theorem v01 : val [0, 1] = 4294967296 := by simp [val]
theorem v100 : val [1, 0, 0] = 1 := by simp [val]
theorem v001 : val [0, 0, 1] = 18446744073709551616 := by simp [val]
theorem v3 : val [3] = 3 := by simp [val]
theorem vmax : val [4294967295] = 4294967295 := by simp [val]
theorem v1 : val [1] = 1 := by simp [val]
theorem vthird : val [1431655765, 1431655765] = 6148914691236517205 := by simp [val]
theorem v12 : val [12] = 12 := by simp [val]
theorem v18 : val [18, 0] = 18 := by simp [val]
theorem v6 : val [6] = 6 := by simp [val]
theorem omax : ofv 4294967295 = [4294967295] := ofv_is vmax (okl1 (by omega)) (.inr (by simp [lim]))
theorem o01 : ofv 4294967296 = [0, 1] := ofv_is v01 (okl2 (by omega) (by omega)) (.inr (by simp [lim]))
theorem othird : ofv 6148914691236517205 = [1431655765, 1431655765] := ofv_is vthird (okl2 (by omega) (by omega)) (.inr (by simp [lim]))
theorem o1 : ofv 1 = [1] := ofv_is v1 (okl1 (by omega)) (.inr (by simp [lim]))
theorem o3 : ofv 3 = [3] := ofv_is v3 (okl1 (by omega)) (.inr (by simp [lim]))
theorem o6 : ofv 6 = [6] := ofv_is v6 (okl1 (by omega)) (.inr (by simp [lim]))
theorem o18 : ofv 18 = [18] := ofv_is (by simp [val]) (okl1 (by omega)) (.inr (by simp [lim]))
theorem o001 : ofv 18446744073709551616 = [0, 0, 1] := ofv_is v001 (okl3 (by omega) (by omega) (by omega)) (.inr (by simp [lim]))
end Go.Proofs.YtfacndibfkamgaaGreat

/-
  Contracts of natural.addProduct and natural.Mul.
-/
namespace Go.Proofs.YtfacndibfkamgaaGreat
open Go.RowKit
set_option linter.unusedVariables false

theorem val_set {zs : List Nat} {k v : Nat} (h : k < zs.length) : val (zs.set k v) + lim zs k * pw k = val zs + v * pw k := by
  have e1 := val_split (zs.set k v) (k + 1) (by rw [List.length_set]; exact h)
  have e2 := val_split zs (k + 1) h
  rw [val_take_set h, List.drop_set_of_lt (by omega)] at e1
  rw [val_take_succ h] at e2
  omega
theorem mul_lt {x v : Nat} (hx : x < 4294967296) (hv : v < 4294967296) : x * v ≤ 18446744065119617025 :=
  Nat.mul_le_mul (show x ≤ 4294967295 by omega) (show v ≤ 4294967295 by omega)

/-- x times vs added to a part of a row. -/
def ApInv (w : World) (g o : Nat) (zs vs : List Nat) (x k c : Nat) (wr : World) : Prop :=
  ∃ ys, Row wr g ys ∧ ys.length = zs.length ∧ okl ys ∧ (∀ j, o + k ≤ j → lim ys j = lim zs j) ∧ val ys + c * pw (o + k) = val zs + x * val (vs.take k) * pw o ∧ w.grownBy wr (some g)
def ApPost (w : World) (g o : Nat) (zs vs : List Nat) (x : Nat) (e : Ending) (w' : World) : Prop :=
  ∃ c, e = .returned (.int .u32 ((c : Nat) : Int)) ∧ c < 4294967296 ∧ ApInv w g o zs vs x vs.length c w'

theorem ap_step {w wr : World} {g o x k c : Nat} {zs ys vs : List Nat} (hk : k < vs.length) (hr : Row wr g ys) (hyl : ys.length = zs.length) (hy : okl ys) (hj : ∀ j, o + k ≤ j → lim ys j = lim zs j)
    (he : val ys + c * pw (o + k) = val zs + x * val (vs.take k) * pw o) (hg : w.grownBy wr (some g)) (hok : o + k < zs.length) (z : Int) (hz : z = ((c + (x * lim vs k + lim ys (o + k))) % 4294967296 : Nat)) :
    ApInv w g o zs vs x (k + 1) ((c + (x * lim vs k + lim ys (o + k))) / 4294967296) (wr.setCell ⟨g, o + k, none⟩ (.int .u32 z)) := by
  subst hz
  refine ⟨ys.set (o + k) ((c + (x * lim vs k + lim ys (o + k))) % 4294967296), hr.set_ _ _, by simpa using hyl, okl_set hy (by omega) _, ?_, ?_, grown_trans hg (grown_set _ _ _ _)⟩
  · intro j hj'
    rw [lim_set_other (by omega)]
    exact hj j (by omega)
  · have e1 := val_set (v := (c + (x * lim vs k + lim ys (o + k))) % 4294967296) (show o + k < ys.length by omega)
    have e2 := Nat.div_add_mod (c + (x * lim vs k + lim ys (o + k))) 4294967296
    have p1 : pw (o + (k + 1)) = 4294967296 * (pw o * pw k) := by rw [← Nat.add_assoc, pw_succ, pw_add]
    rw [pw_add] at he e1
    rw [val_take_succ hk, p1]
    clear p1 hr hy hj hg hok
    generalize (c + (x * lim vs k + lim ys (o + k))) / 4294967296 = q at *
    generalize (c + (x * lim vs k + lim ys (o + k))) % 4294967296 = r at *
    generalize lim ys (o + k) = y at *
    generalize lim vs k = v at *
    generalize val (ys.set (o + k) r) = V' at *
    generalize val ys = V at *
    generalize val zs = Z at *
    generalize val (vs.take k) = U at *
    generalize pw o = po at *
    generalize pw k = pk at *
    grind

set_option maxHeartbeats 1000000 in
theorem ap_any (g o c : Nat) (zs vs : List Nat) (B : Option Addr) (cb x : Nat) (w : World) (hr : Row w g zs) (hz : okl zs) (hon : o + vs.length ≤ zs.length) (hc : vs.length ≤ c) (hm : zs.length ≤ 70368744177664) (h' : Rd w B cb vs) (hne : ∀ b' o', 0 < cb → B = some ⟨b', o', none⟩ → some b' ≠ some g) (hx : x < 4294967296) :
    Calls Tryz.prog 143 #[.slice (some ⟨g, o, none⟩) vs.length c, .slice B vs.length cb, .int .u32 (x : Int)] w (ApPost w g o zs vs x) := by
  have Y := Lib.hid h'
  have NE := Lib.hid hne
  have HR0 := Lib.hid hr
  have HZ0 := Lib.hid hz
  have hl := h'.len
  have hcb := h'.capLe
  clear hr hz h' hne
  go_enter Tryz.func143, Tryz.ntmps143
  go_wp2
  go_loopw [7, 11] (fun cy i wr => ∃ k cn : Nat, k ≤ vs.length ∧ i = .int .i64 k ∧ cy = .int .u64 cn ∧ cn ≤ 4294967295 ∧ ApInv w g o zs vs x k cn wr) (fun _ i _ => vs.length - (intOf i).toNat)
  case atStart => exact ⟨0, 0, Nat.zero_le _, rfl, rfl, by omega, zs, HR0.out, rfl, HZ0.out, fun j _ => rfl, by simp [val_nil], World.grownBy.refl _ _⟩
  case round =>
    obtain ⟨k, cn, hk, rfl, rfl, hcn, inv⟩ := hrel
    have INV := Lib.hid inv
    by_cases hlt : k < vs.length
    · obtain ⟨ys, hrow, hyl, hyo, hj, heq, hgr⟩ := inv
      have Y1 := Y.out.grown hgr NE.out
      obtain ⟨b, o', hB, hb, hcell⟩ := Y1.at_ hlt
      have c1 := hcell k hlt
      have hfz := hrow.frozen (o + k)
      have hcw := hrow.cell (i := o + k) (by omega)
      have b1 := lim_lt Y1.ok k
      have b2 := lim_lt hyo (o + k)
      have step := Lib.hid (fun nq => ap_step (x := x) (wr := wr.drewN nq) hlt (hrow.drewN nq) hyl hyo hj heq (grown_trans hgr (grown_below (below_drewN _ _ _))) (by omega))
      have hp := mul_lt hx b1
      have hpe : (x : Int) * ((lim vs k : Nat) : Int) = ((x * lim vs k : Nat) : Int) := by simp
      subst hB
      clear hcell hrow hyl hj heq hgr Y1 INV
      generalize x * lim vs k = p at *
      generalize lim ys (o + k) = y at *
      go_wp2
      go_quiet (fail)
      go_wp2
      go_roundw
      case rel => exact ⟨k + 1, (cn + (p + y)) / 4294967296, by omega, by go_num, by first | rfl | (congr 1; omega), by omega, step.out _ _ (by omega)⟩
      case measure => simp [intOf]; omega
    · obtain rfl : k = vs.length := by omega
      have FIN : Hid (ApPost w g o zs vs x (.returned (.int .u32 (cn : Int))) wr) := ⟨cn, rfl, by omega, inv⟩
      clear inv INV
      go_wp2
      go_ret
      exact FIN.out

def MuInv (w : World) (us vs : List Nat) (k : Nat) (wr : World) : Prop :=
  ∃ zs, Row wr w.heap.size zs ∧ zs.length = us.length + vs.length ∧ okl zs ∧ (∀ j, k + vs.length ≤ j → lim zs j = 0) ∧ val zs = val (us.take k) * val vs ∧ Below w.heap.size w wr

theorem mu_step {w w' : World} {us vs zs : List Nat} {k c : Nat} (hk : k < us.length) (hzl : zs.length = us.length + vs.length) (hj : ∀ j, k + vs.length ≤ j → lim zs j = 0)
    (he : val zs = val (us.take k) * val vs) {wr : World} (hb : Below w.heap.size w wr) (hc : c < 4294967296) (hp : ApInv wr w.heap.size k zs vs (lim us k) vs.length c w') (z : Int) (hz : z = (c : Int)) :
    MuInv w us vs (k + 1) (w'.setCell ⟨w.heap.size, k + vs.length, none⟩ (.int .u32 z)) := by
  subst hz
  obtain ⟨ys, hr, hyl, hyo, hyj, hye, hg⟩ := hp
  refine ⟨ys.set (k + vs.length) c, hr.set_ _ _, by rw [List.length_set]; omega, okl_set hyo hc _, ?_, ?_, (hb.trans (below_of_grown hg (Nat.le_refl _) hb.size)).setCell (Nat.le_refl _) _⟩
  · intro j h
    rw [lim_set_other (by omega), hyj j (by omega)]
    exact hj j (by omega)
  · have e1 := val_set (v := c) (show k + vs.length < ys.length by omega)
    rw [hyj _ (Nat.le_refl _), hj _ (Nat.le_refl _)] at e1
    rw [val_take_succ hk, Nat.add_mul, ← he]
    rw [List.take_of_length_le (Nat.le_refl _)] at hye
    have e2 : lim us k * pw k * val vs = lim us k * val vs * pw k := by rw [Nat.mul_assoc, Nat.mul_comm (pw k), ← Nat.mul_assoc]
    omega

set_option maxHeartbeats 2000000 in
theorem mul_any (A B : Option Addr) (ca cb : Nat) (xs ys : List Nat) (w : World) (h : Rd w A ca xs) (h' : Rd w B cb ys) (hn : xs.length + ys.length ≤ 70368744177664) :
    Calls Tryz.prog 106 #[.slice A xs.length ca, .slice B ys.length cb] w (Gives w (val xs * val ys)) := by
  have S1 := Lib.hid (sig_any A ca xs w h)
  have S2 := Lib.hid (sig_any B cb ys w h')
  have hc1 := h.capLe
  have hc2 := h'.capLe
  have n1 := len_ofv_le h.ok
  have n2 := len_ofv_le h'.ok
  have hn1 : (ofv (val xs)).length + (ofv (val ys)).length ≤ 70368744177664 := by omega
  have X := Lib.hid h.sig
  have Y := Lib.hid h'.sig
  have hx := Lib.hid (val_ofv (val xs))
  have hy := Lib.hid (val_ofv (val ys))
  have l1 := h.sig.len
  have l2 := h'.sig.len
  clear h h' n1 n2 hn
  generalize hva : val xs = va at *
  generalize hvb : val ys = vb at *
  generalize hus : ofv va = us at *
  generalize hvs : ofv vb = vs at *
  have HU := Lib.hid hus
  have HV := Lib.hid hvs
  clear hva hvb hus hvs
  go_enter Tryz.func106, Tryz.ntmps106
  go_wp2_with fail
  refine S1.out.mono ?_
  rintro e w' ⟨rfl, rfl⟩
  go_wp2_with fail
  refine S2.out.mono ?_
  rintro e w' ⟨rfl, rfl⟩
  go_wp2_with (at_make; refine make_row rfl _ _ rfl _ _ (us.length + vs.length) rfl rfl (by omega) (by omega) (by omega) ?_)
  intro w1 hrow hbel
  go_wp2
  go_loopw [20] (fun i wr => ∃ k : Nat, k ≤ us.length ∧ i = .int .i64 k ∧ MuInv w us vs k wr) (fun i _ => us.length - (intOf i).toNat)
  case atStart => exact ⟨0, Nat.zero_le _, rfl, _, hrow, by simp, okl_replicate _, fun j _ => lim_replicate _ _, by rw [val_replicate]; simp [val_nil], hbel⟩
  case round =>
    clear hrow hbel
    obtain ⟨k, hk, rfl, inv⟩ := hrel
    obtain ⟨zs, hrow, hzl, hzo, hj, heq, hbel⟩ := inv
    have HE := Lib.hid heq
    have HZ := Lib.hid hzl
    have HR := Lib.hid hrow
    have HB := Lib.hid hbel
    have HJ := Lib.hid hj
    clear heq hzl hrow hj
    by_cases hlt : k < us.length
    · have X1 := X.out.keep (Nat.le_refl _) hbel
      have Y1 := Lib.hid (Y.out.keep (Nat.le_refl _) hbel)
      obtain ⟨b, o, hA, hb, hc⟩ := X1.at_ hlt
      have c1 := hc k hlt
      have b1 := lim_lt X1.ok k
      have NE : Hid (∀ b' o', 0 < cb → B = some ⟨b', o', none⟩ → some b' ≠ some w.heap.size) := by
        intro b' o' h0 hB e
        have := Y.out.old b' o' h0 hB
        have e' : b' = w.heap.size := by simpa using e
        omega
      subst hA
      clear hc hbel X1
      go_wp2_with fail
      refine (ap_any w.heap.size k _ zs vs B cb (lim us k) wr HR.out hzo (by have := HZ.out; omega) (by omega) (by have := HZ.out; omega) Y1.out NE.out b1).mono ?_
      rintro e w2 ⟨c, rfl, hc32, inv2⟩
      have ST := Lib.hid (mu_step hlt HZ.out HJ.out HE.out HB.out hc32 inv2)
      obtain ⟨ys2, hr2, hyl2, _⟩ := inv2
      have hfz := hr2.frozen (k + vs.length)
      have hcw := hr2.cell (i := k + vs.length) (by have := HZ.out; omega)
      clear hr2 hyl2
      go_wp2
      go_roundw
      case rel => exact ⟨k + 1, by omega, by go_num, ST.out _ rfl⟩
      case measure => simp [intOf]; omega
    · obtain rfl : k = us.length := by omega
      have hZ := HZ.out
      have hv2 : val zs = va * vb := by
        have e := HE.out
        rw [List.take_of_length_le (Nat.le_refl _), hx.out, hy.out] at e
        exact e
      have ow := Own.of_row (lo := w.heap.size) HR.out hzo (Nat.le_refl _) (by omega)
      have rd := ow.rd
      rw [hZ] at rd
      have S := Lib.hid (sig_n rd hZ)
      have FIN := Lib.hid (gives_row HR.out (Nat.le_refl _) hzo HB.out hv2 hZ (by omega))
      clear hbel hk hlt hZ hv2 ow rd
      go_wp2_with fail
      refine S.out.mono ?_
      rintro e w' ⟨rfl, rfl⟩
      go_wp2
      go_ret
      exact FIN.out
theorem mul_n {A B : Option Addr} {ca cb n m : Nat} {xs ys : List Nat} {w : World} (h : Rd w A ca xs) (h' : Rd w B cb ys) (hn : xs.length = n) (hm : ys.length = m) (hl : n + m ≤ 70368744177664) :
    Calls Tryz.prog 106 #[.slice A n ca, .slice B m cb] w (Gives w (val xs * val ys)) := by
  subst hn hm; exact mul_any A B ca cb xs ys w h h' hl
end Go.Proofs.YtfacndibfkamgaaGreat

/-
  The library's contracts of math/bits.Len32 and LeadingZeros32, laid at this program's numbers.
-/
namespace Go.Proofs
open Go.Shelf
def Tryz.lays128_ren : Go.Shelf.Ren := ⟨fun | 128 => 160 | n => n, fun | 51 => 118 | 3 => 3 | 4 => 4 | 46 => 139 | 5 => 5 | 9 => 9 | n => n, fun | n => n⟩
theorem Tryz.lays128 : Go.Proofs.Lays.n128 Tryz.prog Tryz.lays128_ren := {
  mixed := by kernel_rfl
  f128 := Tryz.func160.trans (congrArg some (by kernel_rfl))
  t3 := Tryz.underlying3
  a3 := Tryz.isAgg3
  z3 := Tryz.sizeOf3
  v3 := Tryz.zeroValue3
  t4 := Tryz.underlying4
  a4 := Tryz.isAgg4
  z4 := Tryz.sizeOf4
  v4 := Tryz.zeroValue4
  t5 := Tryz.underlying5
  a5 := Tryz.isAgg5
  z5 := Tryz.sizeOf5
  v5 := Tryz.zeroValue5
  t9 := Tryz.underlying9
  a9 := Tryz.isAgg9
  z9 := Tryz.sizeOf9
  v9 := Tryz.zeroValue9
  t46 := Tryz.underlying139
  a46 := Tryz.isAgg139
  z46 := Tryz.sizeOf139
  v46 := Tryz.zeroValue139
  t51 := Tryz.underlying118
  a51 := Tryz.isAgg118
  z51 := Tryz.sizeOf118
  v51 := Tryz.zeroValue118 }
theorem Tryz.bits_Len32 (x : Int) (w : World) (h0 : 0 ≤ x) (h1 : x ≤ 4294967295) :
    Calls Tryz.prog 160 #[.int .u32 x] w fun e w' => e = .returned (.int .i64 (Lib.bitLen x.toNat)) ∧ w' = w := Any.bits_Len32 Tryz.lays128 x w h0 h1
def Tryz.lays133_ren : Go.Shelf.Ren := ⟨fun | 133 => 172 | 128 => 160 | n => n, fun | 51 => 118 | 3 => 3 | 4 => 4 | 46 => 139 | 5 => 5 | 9 => 9 | n => n, fun | n => n⟩
theorem Tryz.lays133 : Go.Proofs.Lays.n133 Tryz.prog Tryz.lays133_ren := {
  mixed := by kernel_rfl
  f128 := Tryz.func160.trans (congrArg some (by kernel_rfl))
  f133 := Tryz.func172.trans (congrArg some (by kernel_rfl))
  t3 := Tryz.underlying3
  a3 := Tryz.isAgg3
  z3 := Tryz.sizeOf3
  v3 := Tryz.zeroValue3
  t4 := Tryz.underlying4
  a4 := Tryz.isAgg4
  z4 := Tryz.sizeOf4
  v4 := Tryz.zeroValue4
  t5 := Tryz.underlying5
  a5 := Tryz.isAgg5
  z5 := Tryz.sizeOf5
  v5 := Tryz.zeroValue5
  t9 := Tryz.underlying9
  a9 := Tryz.isAgg9
  z9 := Tryz.sizeOf9
  v9 := Tryz.zeroValue9
  t46 := Tryz.underlying139
  a46 := Tryz.isAgg139
  z46 := Tryz.sizeOf139
  v46 := Tryz.zeroValue139
  t51 := Tryz.underlying118
  a51 := Tryz.isAgg118
  z51 := Tryz.sizeOf118
  v51 := Tryz.zeroValue118 }
theorem Tryz.bits_LeadingZeros32 (x : Int) (w : World) (h0 : 0 ≤ x) (h1 : x ≤ 4294967295) :
    Calls Tryz.prog 172 #[.int .u32 x] w fun e w' => e = .returned (.int .i64 (32 - (Lib.bitLen x.toNat : Int))) ∧ w' = w := Any.bits_LeadingZeros32 Tryz.lays133 x w h0 h1
end Go.Proofs

/-
  The number of binary digits; contracts of natural.Bits and of the library's Len32 and LeadingZeros32 in these words.
-/
namespace Go.Proofs.YtfacndibfkamgaaGreat
open Go.RowKit
set_option linter.unusedVariables false

/-- The number of binary digits. -/
def nbits (v : Nat) : Nat := if v = 0 then 0 else nbits (v / 2) + 1
termination_by v
decreasing_by omega
theorem nbits_zero : nbits 0 = 0 := by rw [nbits]; simp
theorem nbits_pos {v : Nat} (h : v ≠ 0) : nbits v = nbits (v / 2) + 1 := by rw [nbits]; simp [h]
theorem nbits_shift (k v : Nat) (h : 2 ^ k ≤ v) : nbits v = k + nbits (v / 2 ^ k) := by
  induction k generalizing v with
  | zero => simp
  | succ k ih =>
    have hp : 0 < 2 ^ k := Nat.pow_pos (by omega)
    rw [Nat.pow_succ] at h
    rw [nbits_pos (by omega), ih (v / 2) (by omega), Nat.div_div_eq_div_mul, Nat.pow_succ, Nat.mul_comm 2]; omega
theorem nbits_one : nbits 1 = 1 := by rw [nbits_pos (by omega), show 1 / 2 = 0 from rfl, nbits_zero]
theorem nbits_two_pow (k : Nat) : nbits (2 ^ k) = k + 1 := by
  rw [nbits_shift k _ (Nat.le_refl _), Nat.div_self (Nat.pow_pos (by omega)), nbits_one]
theorem nbits_lt (v : Nat) : v < 2 ^ nbits v := by
  induction v using Nat.strongRecOn with
  | ind v ih =>
    by_cases h : v = 0
    · subst h; rw [nbits_zero]; simp
    · rw [nbits_pos h, Nat.pow_succ]
      have := ih (v / 2) (by omega)
      omega
theorem nbits_le {v k : Nat} (h : v < 2 ^ k) : nbits v ≤ k := by
  induction k generalizing v with
  | zero => obtain rfl : v = 0 := by simpa using h
            rw [nbits_zero]; omega
  | succ k ih =>
    by_cases h0 : v = 0
    · rw [h0, nbits_zero]; omega
    · rw [nbits_pos h0]
      rw [Nat.pow_succ] at h
      have := ih (v := v / 2) (by omega)
      omega
theorem nbits_ge {v : Nat} (h : v ≠ 0) : 2 ^ (nbits v - 1) ≤ v := by
  rcases Nat.lt_or_ge v (2 ^ (nbits v - 1)) with h1 | h1
  · have := nbits_le h1
    have : nbits v ≠ 0 := by rw [nbits_pos h]; omega
    omega
  · exact h1
theorem nbits_eq_zero {v : Nat} : nbits v = 0 ↔ v = 0 := by
  constructor
  · intro h
    by_cases h0 : v = 0
    · exact h0
    · rw [nbits_pos h0] at h; omega
  · intro h; rw [h, nbits_zero]
theorem bitLen_nbits (x : Nat) (h : x < 2 ^ 64) : Lib.bitLen x = nbits x := by
  induction x using Nat.strongRecOn with
  | ind x ih =>
    by_cases h0 : x = 0
    · subst h0; rw [nbits_zero]; rfl
    · rw [Lib.bitLen_half x h0 h, nbits_pos h0, ih (x / 2) (by omega) (by omega)]; omega

theorem len32_any (x : Nat) (w : World) (hx : x < 4294967296) :
    Calls Tryz.prog 160 #[.int .u32 (x : Int)] w fun e w' => e = .returned (.int .i64 ((nbits x : Nat) : Int)) ∧ w = w' := by
  refine (Tryz.bits_Len32 (x : Int) w (by omega) (by omega)).mono fun e w' h => ?_
  rw [Int.toNat_natCast, bitLen_nbits x (by have : (2 : Nat) ^ 64 = 18446744073709551616 := rfl; omega)] at h
  exact ⟨h.1, h.2.symm⟩
theorem lead32_any (x : Nat) (w : World) (hx : x < 4294967296) :
    Calls Tryz.prog 172 #[.int .u32 (x : Int)] w fun e w' => e = .returned (.int .i64 ((32 - nbits x : Nat) : Int)) ∧ w = w' := by
  have hle : nbits x ≤ 32 := nbits_le (by have : (2 : Nat) ^ 32 = 4294967296 := rfl; omega)
  refine (Tryz.bits_LeadingZeros32 (x : Int) w (by omega) (by omega)).mono fun e w' h => ?_
  rw [Int.toNat_natCast, bitLen_nbits x (by have : (2 : Nat) ^ 64 = 18446744073709551616 := rfl; omega)] at h
  refine ⟨?_, h.2.symm⟩
  rw [h.1]
  exact ret_int (by omega)

/-- The digits of a number, by its highest limb. -/
theorem nbits_top {v : Nat} (h : v ≠ 0) : nbits v = 32 * ((ofv v).length - 1) + nbits (lim (ofv v) ((ofv v).length - 1)) := by
  have hp := len_pos (show 0 < v by omega)
  have e := val_take_succ (xs := ofv v) (k := (ofv v).length - 1) (by omega)
  rw [show (ofv v).length - 1 + 1 = (ofv v).length from by omega, List.take_of_length_le (Nat.le_refl _), val_ofv] at e
  have hb := val_lt (okl_take (okl_ofv v) ((ofv v).length - 1))
  rw [List.length_take, Nat.min_eq_left (by omega)] at hb
  have hl := ofv_last h
  generalize lim (ofv v) ((ofv v).length - 1) = t at *
  generalize val (List.take ((ofv v).length - 1) (ofv v)) = r at *
  generalize (ofv v).length - 1 = k at *
  have hd : v / 2 ^ (32 * k) = t := by
    rw [two_pow_32, e, Nat.add_mul_div_right _ _ (pw_pos k), Nat.div_eq_of_lt hb]; omega
  have hge : 2 ^ (32 * k) ≤ v := by
    rw [two_pow_32, e]
    have : pw k ≤ t * pw k := Nat.le_mul_of_pos_left _ (by omega)
    omega
  rw [nbits_shift (32 * k) v hge, hd]
/-- A bound on the digits. -/
theorem nbits_len (v : Nat) : nbits v ≤ 32 * (ofv v).length := nbits_le (by rw [two_pow_32]; exact lt_pw_len v)

set_option maxHeartbeats 1000000 in
theorem bits_any (A : Option Addr) (cap : Nat) (xs : List Nat) (w : World) (h : Rd w A cap xs) (hn : xs.length ≤ 70368744177664) :
    Calls Tryz.prog 126 #[.slice A xs.length cap] w fun e w' => e = .returned (.int .i64 ((nbits (val xs) : Nat) : Int)) ∧ w = w' := by
  have S1 := Lib.hid (sig_any A cap xs w h)
  have hl := h.sig.len
  have hc := h.capLe
  have hle := len_ofv_le h.ok
  have X := Lib.hid h.sig
  have hm : (ofv (val xs)).length ≤ 70368744177664 := by omega
  clear h
  by_cases h0 : val xs = 0
  · have e : (ofv (val xs)).length = 0 := by rw [h0, ofv_zero]; rfl
    rw [h0, nbits_zero]
    rw [e] at S1
    clear X hl hle hm h0 e
    go_enter Tryz.func126, Tryz.ntmps126
    go_wp2_with fail
    refine S1.out.mono ?_
    rintro e w' ⟨rfl, rfl⟩
    go_wp2
    go_ret
    exact ⟨rfl, rfl⟩
  · have hp := len_pos (show 0 < val xs by omega)
    have T := Lib.hid (nbits_top h0)
    have NB := nbits_len (val xs)
    have lt := lim_lt X.out.ok ((ofv (val xs)).length - 1)
    obtain ⟨b, o, rfl, _, hcell⟩ := X.out.at_ (k := (ofv (val xs)).length - 1) (by omega)
    have c1 := hcell ((ofv (val xs)).length - 1) (by omega)
    have L := Lib.hid (fun w => len32_any (lim (ofv (val xs)) ((ofv (val xs)).length - 1)) w lt)
    have bl : nbits (lim (ofv (val xs)) ((ofv (val xs)).length - 1)) ≤ 32 := nbits_le (by have : (2 : Nat) ^ 32 = 4294967296 := rfl; omega)
    clear hcell X hle h0
    generalize hnb : nbits (val xs) = nb at *
    have HNB := Lib.hid hnb
    clear hnb
    generalize hm2 : (ofv (val xs)).length = m at *
    have HM2 := Lib.hid hm2
    clear hm2
    generalize lim (ofv (val xs)) (m - 1) = t at *
    generalize nbits t = tb at *
    have hb : ((m : Int) == 0) = false := by simp; omega
    go_enter Tryz.func126, Tryz.ntmps126
    go_wp2_with fail
    refine S1.out.mono ?_
    rintro e w' ⟨rfl, rfl⟩
    go_wp2_with fail
    refine (L.out _).mono ?_
    rintro e w' ⟨rfl, rfl⟩
    go_wp2
    go_ret
    exact ⟨ret_int (by have := T.out; omega), rfl⟩
theorem bits_n {A : Option Addr} {cap n : Nat} {xs : List Nat} {w : World} (h : Rd w A cap xs) (hn : xs.length = n) (hl : n ≤ 70368744177664) :
    Calls Tryz.prog 126 #[.slice A n cap] w fun e w' => e = .returned (.int .i64 ((nbits (val xs) : Nat) : Int)) ∧ w = w' := by
  subst hn; exact bits_any A cap xs w h hl
end Go.Proofs.YtfacndibfkamgaaGreat

/-
  Contracts of natural.shiftUp and natural.shiftDown.
-/
namespace Go.Proofs.YtfacndibfkamgaaGreat
open Go.RowKit
set_option linter.unusedVariables false

def SuInv (w : World) (g o : Nat) (zs vs : List Nat) (n k c : Nat) (wr : World) : Prop :=
  ∃ ys, Row wr g ys ∧ ys.length = zs.length ∧ okl ys ∧ (∀ j, o + k ≤ j → lim ys j = lim zs j) ∧ val ys + c * pw (o + k) = val zs + val (vs.take k) * 2 ^ n * pw o ∧ w.grownBy wr (some g)
def SuPost (w : World) (g o : Nat) (zs vs : List Nat) (n : Nat) (e : Ending) (w' : World) : Prop :=
  ∃ c, e = .returned (.int .u32 ((c : Nat) : Int)) ∧ c < 4294967296 ∧ c < 2 ^ n ∧ SuInv w g o zs vs n vs.length c w'

theorem su_nums {l n c : Nat} (hl : l < 4294967296) (hn : n < 32) (hc : c < 2 ^ n) :
    l * 2 ^ n ≤ 9223372036854775807 ∧ l * 2 ^ n / 4294967296 < 2 ^ n ∧ (l * 2 ^ n % 4294967296 ||| c) = l * 2 ^ n % 4294967296 + c ∧ l * 2 ^ n % 4294967296 + c < 4294967296 := by
  have e32 : 4294967296 = 2 ^ (32 - n) * 2 ^ n := by rw [← Nat.pow_add, show 32 - n + n = 32 from by omega]
  have hp : 0 < 2 ^ n := Nat.pow_pos (by omega)
  have hpn : 2 ^ n ≤ 2147483648 := by
    have := Nat.pow_le_pow_right (n := 2) (by omega) (show n ≤ 31 by omega)
    have e : (2 : Nat) ^ 31 = 2147483648 := rfl
    omega
  have h1 : l * 2 ^ n ≤ 4294967295 * 2147483648 := Nat.mul_le_mul (by omega) hpn
  have h2 : l * 2 ^ n / 4294967296 < 2 ^ n := by
    rw [Nat.div_lt_iff_lt_mul (by omega), Nat.mul_comm (2 ^ n)]
    exact Nat.mul_lt_mul_of_pos_right hl hp
  have h3 : l * 2 ^ n % 4294967296 = 2 ^ n * (l % 2 ^ (32 - n)) := by
    rw [e32, Nat.mul_mod_mul_right, Nat.mul_comm]
  have h4 : l % 2 ^ (32 - n) + 1 ≤ 2 ^ (32 - n) := Nat.mod_lt _ (Nat.pow_pos (by omega))
  have h5 := Nat.mul_le_mul_left (2 ^ n) h4
  rw [Nat.mul_comm (2 ^ n) (2 ^ (32 - n)), ← e32, Nat.mul_add] at h5
  refine ⟨by omega, h2, ?_, by rw [h3]; omega⟩
  rw [h3, Nat.or_comm, or_low hc]; omega

theorem su_step {w wr : World} {g o n k c : Nat} {zs ys vs : List Nat} (hk : k < vs.length) (hn : n < 32) (hv : okl vs) (hc : c < 2 ^ n) (hr : Row wr g ys) (hyl : ys.length = zs.length) (hy : okl ys) (hj : ∀ j, o + k ≤ j → lim ys j = lim zs j)
    (hz0 : lim zs (o + k) = 0) (he : val ys + c * pw (o + k) = val zs + val (vs.take k) * 2 ^ n * pw o) (hg : w.grownBy wr (some g)) (hok : o + k < zs.length) (z : Int) (hz : z = ((lim vs k * 2 ^ n % 4294967296 + c : Nat) : Int)) :
    SuInv w g o zs vs n (k + 1) (lim vs k * 2 ^ n / 4294967296) (wr.setCell ⟨g, o + k, none⟩ (.int .u32 z)) := by
  subst hz
  obtain ⟨_, _, _, hlt⟩ := su_nums (lim_lt hv k) hn hc
  refine ⟨ys.set (o + k) (lim vs k * 2 ^ n % 4294967296 + c), hr.set_ _ _, by simpa using hyl, okl_set hy hlt _, ?_, ?_, grown_trans hg (grown_set _ _ _ _)⟩
  · intro j hj'
    rw [lim_set_other (by omega)]
    exact hj j (by omega)
  · have e1 := val_set (v := lim vs k * 2 ^ n % 4294967296 + c) (show o + k < ys.length by omega)
    rw [hj _ (Nat.le_refl _), hz0] at e1
    have e2 := Nat.div_add_mod (lim vs k * 2 ^ n) 4294967296
    have p1 : pw (o + (k + 1)) = 4294967296 * (pw o * pw k) := by rw [← Nat.add_assoc, pw_succ, pw_add]
    rw [pw_add] at he e1
    rw [val_take_succ hk, p1]
    clear p1 hr hy hj hg hok hlt hc hn
    generalize lim vs k * 2 ^ n / 4294967296 = q at *
    generalize lim vs k * 2 ^ n % 4294967296 = r at *
    generalize lim vs k = v at *
    generalize val (ys.set (o + k) (r + c)) = V' at *
    generalize val ys = V at *
    generalize val zs = Z at *
    generalize val (vs.take k) = U at *
    generalize pw o = po at *
    generalize pw k = pk at *
    generalize 2 ^ n = t at *
    grind

set_option maxHeartbeats 2000000 in
theorem su_any (g o c m n : Nat) (zs vs : List Nat) (B : Option Addr) (cb : Nat) (w : World) (hr : Row w g zs) (hz : okl zs) (hmv : vs.length ≤ m) (hon : o + m ≤ zs.length) (hc : m ≤ c) (hm : zs.length ≤ 70368744177664) (h' : Rd w B cb vs)
    (hne : ∀ b' o', 0 < cb → B = some ⟨b', o', none⟩ → some b' ≠ some g) (hn : n < 32) (h0 : ∀ j, o ≤ j → j < o + vs.length → lim zs j = 0) :
    Calls Tryz.prog 173 #[.slice (some ⟨g, o, none⟩) m c, .slice B vs.length cb, .int .i64 (n : Int)] w (SuPost w g o zs vs n) := by
  have Y := Lib.hid h'
  have NE := Lib.hid hne
  have HR0 := Lib.hid hr
  have HZ0 := Lib.hid hz
  have H0 := Lib.hid h0
  have hl := h'.len
  have hcb := h'.capLe
  have hp : 0 < 2 ^ n := Nat.pow_pos (by omega)
  have HP := Lib.hid hp
  clear hr hz h' hne h0 hp
  go_enter Tryz.func173, Tryz.ntmps173
  go_wp2
  go_loopw [7, 13] (fun cy i wr => ∃ k cn : Nat, k ≤ vs.length ∧ i = .int .i64 k ∧ cy = .int .u32 cn ∧ cn ≤ 4294967295 ∧ Hid (cn < 2 ^ n) ∧ SuInv w g o zs vs n k cn wr) (fun _ i _ => vs.length - (intOf i).toNat)
  case atStart => exact ⟨0, 0, Nat.zero_le _, rfl, rfl, by omega, HP.out, zs, HR0.out, rfl, HZ0.out, fun j _ => rfl, by simp [val_nil], World.grownBy.refl _ _⟩
  case round =>
    obtain ⟨k, cn, hk, rfl, rfl, hcn, hcp, inv⟩ := hrel
    have INV := Lib.hid inv
    by_cases hlt : k < vs.length
    · obtain ⟨ys, hrow, hyl, hyo, hj, heq, hgr⟩ := inv
      have Y1 := Y.out.grown hgr NE.out
      obtain ⟨b, o', hB, hb, hcell⟩ := Y1.at_ hlt
      have c1 := hcell k hlt
      have hfz := hrow.frozen (o + k)
      have hcw := hrow.cell (i := o + k) (by omega)
      have b1 := lim_lt Y1.ok k
      have b2 := lim_lt hyo (o + k)
      have step := Lib.hid (su_step hlt hn Y1.ok hcp.out hrow hyl hyo hj (H0.out _ (by omega) (by omega)) heq hgr (by omega))
      obtain ⟨w1, w2, w3, w4⟩ := su_nums b1 hn hcp.out
      have hw2 := Lib.hid w2
      have hpe : ((lim vs k : Nat) : Int) * 2 ^ n = ((lim vs k * 2 ^ n : Nat) : Int) := by simp
      have eor : bits .or .u32 (((lim vs k * 2 ^ n : Nat) : Int) % 4294967296) ((cn : Nat) : Int) = ((lim vs k * 2 ^ n % 4294967296 + cn : Nat) : Int) := by
        have e : ((lim vs k * 2 ^ n : Nat) : Int) % 4294967296 = ((lim vs k * 2 ^ n % 4294967296 : Nat) : Int) := by
          generalize lim vs k * 2 ^ n = W
          omega
        rw [e, u32_or_nat _ _ (Nat.mod_lt _ (by omega)) (by omega), w3]
      subst hB
      clear hcell hrow hyl hj heq hgr Y1 INV w2 w3
      generalize lim vs k * 2 ^ n = W at *
      generalize lim ys (o + k) = y at *
      go_wp2
      go_roundw
      case rel => exact ⟨k + 1, W / 4294967296, by omega, by go_num, rfl, by omega, hw2, step.out _ (by omega)⟩
      case measure => simp [intOf]; omega
    · obtain rfl : k = vs.length := by omega
      have FIN : Hid (SuPost w g o zs vs n (.returned (.int .u32 (cn : Int))) wr) := ⟨cn, rfl, by omega, hcp.out, inv⟩
      clear inv INV
      go_wp2
      go_ret
      exact FIN.out

/-- Digit k of a quotient by a power of two. -/
theorem sd_digit {vs : List Nat} (hv : okl vs) {n : Nat} (hn : n < 32) (k : Nat) :
    val vs / 2 ^ n / pw k % 4294967296 = (lim vs k + 4294967296 * lim vs (k + 1)) / 2 ^ n % 4294967296 := by
  have h1 : val vs / 2 ^ n / pw k = (val vs / pw k) / 2 ^ n := by rw [Nat.div_div_eq_div_mul, Nat.mul_comm, ← Nat.div_div_eq_div_mul]
  rw [h1, val_div_pw hv, val_drop_succ, val_drop_succ]
  have e64 : 18446744073709551616 = 2 ^ n * (2 ^ (32 - n) * 4294967296) := by
    rw [← Nat.mul_assoc, ← Nat.pow_add, show n + (32 - n) = 32 from by omega]
  have hp : 0 < 2 ^ n := Nat.pow_pos (by omega)
  generalize val (vs.drop (k + 1 + 1)) = R
  have e : lim vs k + 4294967296 * (lim vs (k + 1) + 4294967296 * R) = (lim vs k + 4294967296 * lim vs (k + 1)) + 2 ^ n * (2 ^ (32 - n) * 4294967296 * R) := by
    rw [← Nat.mul_assoc, ← e64]; omega
  rw [e, Nat.add_mul_div_left _ _ hp, Nat.mul_assoc, Nat.mul_comm (2 ^ (32 - n)), Nat.mul_assoc, Nat.add_mul_mod_self_left]
theorem mod_pw_succ (V k : Nat) : V % pw (k + 1) = V % pw k + (V / pw k % 4294967296) * pw k := by
  rw [pw_succ, Nat.mul_comm 4294967296, Nat.mod_mul, Nat.mul_comm (pw k)]

def SdInv (w : World) (g : Nat) (vs : List Nat) (n m k : Nat) (wr : World) : Prop :=
  ∃ ys, Row wr g ys ∧ ys.length = m ∧ okl ys ∧ val (ys.take k) = val vs / 2 ^ n % pw k ∧ w.grownBy wr (some g)
def SdPost (w : World) (g : Nat) (vs : List Nat) (n m : Nat) (e : Ending) (w' : World) : Prop :=
  e = .returned (.tuple #[]) ∧ SdInv w g vs n m m w'

theorem sd_step {w wr : World} {g n k m : Nat} {ys vs : List Nat} (hk : k < m) (hn : n < 32) (hv : okl vs) (hr : Row wr g ys) (hyl : ys.length = m) (hy : okl ys)
    (he : val (ys.take k) = val vs / 2 ^ n % pw k) (hg : w.grownBy wr (some g)) (z : Int) (hz : z = (((lim vs k + 4294967296 * lim vs (k + 1)) / 2 ^ n % 4294967296 : Nat) : Int)) :
    SdInv w g vs n m (k + 1) (wr.setCell ⟨g, k, none⟩ (.int .u32 z)) := by
  subst hz
  refine ⟨ys.set k ((lim vs k + 4294967296 * lim vs (k + 1)) / 2 ^ n % 4294967296), hr.set_ _ _, by simpa using hyl, okl_set hy (Nat.mod_lt _ (by omega)) _, ?_, grown_trans hg (grown_set _ _ _ _)⟩
  rw [val_take_set (by omega), mod_pw_succ, sd_digit hv hn, he]

theorem SdInv.drew {w wr : World} {g n m k : Nat} {vs : List Nat} (h : SdInv w g vs n m k wr) : SdInv w g vs n m k wr.drew := by
  obtain ⟨ys, h1, h2, h3, h4, h5⟩ := h
  exact ⟨ys, h1, h2, h3, h4, ⟨h5.os, h5.tape, h5.output, h5.size, h5.block⟩⟩
theorem wrap32_div {V n : Nat} (h : V ≤ 18446744073709551615) : IntKind.u32.wrap ((V : Int) / 2 ^ n) = ((V / 2 ^ n % 4294967296 : Nat) : Int) := by
  have e : (V : Int) / 2 ^ n = ((V / 2 ^ n : Nat) : Int) := by simp
  rw [IntKind.wrap_u32, e]
  generalize V / 2 ^ n = q
  omega

set_option maxHeartbeats 2000000 in
theorem sd_any (g m c n : Nat) (zs vs : List Nat) (B : Option Addr) (cb : Nat) (w : World) (hr : Row w g zs) (hz : okl zs) (hmv : vs.length = m) (hon : zs.length = m) (hc : m ≤ c) (hm : m ≤ 70368744177664) (h' : Rd w B cb vs)
    (hne : ∀ b' o', 0 < cb → B = some ⟨b', o', none⟩ → some b' ≠ some g) (hn : n < 32) :
    Calls Tryz.prog 175 #[.slice (some ⟨g, 0, none⟩) m c, .slice B m cb, .int .i64 (n : Int)] w (SdPost w g vs n m) := by
  have Y := Lib.hid h'
  have NE := Lib.hid hne
  have HR0 := Lib.hid hr
  have HZ0 := Lib.hid hz
  have hl : m ≤ cb := by have := h'.len; omega
  have hcb := h'.capLe
  have HMV := Lib.hid hmv
  have HON := Lib.hid hon
  clear hr hz h' hne hmv hon
  go_enter Tryz.func175, Tryz.ntmps175
  go_wp2
  go_loopw [9] (fun i wr => ∃ k : Nat, k ≤ m ∧ i = .int .i64 k ∧ SdInv w g vs n m k wr) (fun i _ => m - (intOf i).toNat)
  case atStart => exact ⟨0, Nat.zero_le _, rfl, zs, HR0.out, HON.out, HZ0.out, by simp [val_nil, pw_zero, Nat.mod_one], World.grownBy.refl _ _⟩
  case round =>
    obtain ⟨k, hk, rfl, inv⟩ := hrel
    have INV := Lib.hid inv
    by_cases hlt : k < m
    · obtain ⟨ys, hrow, hyl, hyo, heq, hgr⟩ := inv
      have Y1 := Y.out.grown hgr NE.out
      have hlt' : k < vs.length := by have := HMV.out; omega
      obtain ⟨b, o', hB, hb, hcell⟩ := Y1.at_ hlt'
      have c1 := hcell k hlt'
      have hfz := hrow.frozen k
      have hcw := hrow.cell (i := k) (by omega)
      have b1 := lim_lt Y1.ok k
      have b2 := lim_lt Y1.ok (k + 1)
      have step := Lib.hid (sd_step hlt hn Y1.ok hrow hyl hyo heq hgr)
      have N2 : Hid (∀ q, Rd (wr.drewN q) B cb vs) := fun q => Y1
      have N3 : Hid (Rd wr.drew B cb vs) := Y1
      have E1 := or64 b1 b2
      have x1 : IntKind.i64.wrap ((k : Int) + 1) = (k : Int) + 1 := by rw [IntKind.wrap_i64]; omega
      have x2 : IntKind.u64.wrap ((lim vs k : Nat) : Int) = ((lim vs k : Nat) : Int) := by rw [IntKind.wrap_u64]; omega
      have x3 : IntKind.u64.wrap (((lim vs (k + 1) : Nat) : Int) * 4294967296) = ((lim vs (k + 1) : Nat) : Int) * 4294967296 := by rw [IntKind.wrap_u64]; omega
      have bV : lim vs k + 4294967296 * lim vs (k + 1) ≤ 18446744073709551615 := by omega
      subst hB
      clear hcell hrow hyl heq hgr Y1 INV
      generalize lim vs k + 4294967296 * lim vs (k + 1) = V at *
      generalize lim ys k = y at *
      go_wp2
      go_region_with ((go_at_call 149; refine (limbAt_e N3.out HMV.out (k + 1) (by omega) (by omega)).mono ?_; rintro e w' ⟨rfl, rfl⟩))
      all_goals
        clear x1 x2 x3
        go_wp2
        go_roundw
        case rel => exact ⟨k + 1, by omega, by go_num, (step.out _ (by simp)).drew⟩
        case measure => simp [intOf]; omega
    · obtain rfl : k = m := by omega
      clear INV
      have FIN : Hid (SdPost w g vs n k (.returned (.tuple #[])) wr) := ⟨rfl, inv⟩
      clear inv
      go_wp2
      go_end0
      exact FIN.out
end Go.Proofs.YtfacndibfkamgaaGreat

/-
  shiftUp and shiftDown with a count given by an equation.
-/
namespace Go.Proofs.YtfacndibfkamgaaGreat
open Go.RowKit
set_option linter.unusedVariables false

theorem su_z {z : Int} {n : Nat} (hzn : z = (n : Int)) (g o c m : Nat) (zs vs : List Nat) (B : Option Addr) (cb : Nat) (w : World) (hr : Row w g zs) (hz : okl zs) (hmv : vs.length ≤ m) (hon : o + m ≤ zs.length) (hc : m ≤ c) (hm : zs.length ≤ 70368744177664) (h' : Rd w B cb vs)
    (hne : ∀ b' o', 0 < cb → B = some ⟨b', o', none⟩ → some b' ≠ some g) (hn : n < 32) (h0 : ∀ j, o ≤ j → j < o + vs.length → lim zs j = 0) :
    Calls Tryz.prog 173 #[.slice (some ⟨g, o, none⟩) m c, .slice B vs.length cb, .int .i64 z] w (SuPost w g o zs vs n) := by
  subst hzn; exact su_any g o c m n zs vs B cb w hr hz hmv hon hc hm h' hne hn h0
theorem sd_z {z : Int} {n : Nat} (hzn : z = (n : Int)) (g m c : Nat) (zs vs : List Nat) (B : Option Addr) (cb : Nat) (w : World) (hr : Row w g zs) (hz : okl zs) (hmv : vs.length = m) (hon : zs.length = m) (hc : m ≤ c) (hm : m ≤ 70368744177664) (h' : Rd w B cb vs)
    (hne : ∀ b' o', 0 < cb → B = some ⟨b', o', none⟩ → some b' ≠ some g) (hn : n < 32) :
    Calls Tryz.prog 175 #[.slice (some ⟨g, 0, none⟩) m c, .slice B m cb, .int .i64 z] w (SdPost w g vs n m) := by
  subst hzn; exact sd_any g m c n zs vs B cb w hr hz hmv hon hc hm h' hne hn

theorem sl_value {w w2 : World} {g f r m : Nat} {us : List Nat} {c : Nat} (hp : SuInv w g f (List.replicate (f + m + 1) 0) us r m c w2) (hm : us.length = m) (hc : c < 4294967296) (z : Int) (hz : z = (c : Int)) :
    ∃ ys, Row (w2.setCell ⟨g, f + m, none⟩ (.int .u32 z)) g ys ∧ ys.length = f + m + 1 ∧ okl ys ∧ val ys = val us * 2 ^ r * pw f := by
  subst hz
  obtain ⟨ys, hr, hl, ho, hj, he, hg⟩ := hp
  rw [List.length_replicate] at hl
  refine ⟨ys.set (f + m) c, hr.set_ _ _, by rw [List.length_set]; exact hl, okl_set ho hc _, ?_⟩
  have e := val_set (v := c) (show f + m < ys.length by omega)
  rw [hj _ (Nat.le_refl _), lim_replicate] at e
  rw [val_replicate, List.take_of_length_le (by omega)] at he
  omega
end Go.Proofs.YtfacndibfkamgaaGreat
