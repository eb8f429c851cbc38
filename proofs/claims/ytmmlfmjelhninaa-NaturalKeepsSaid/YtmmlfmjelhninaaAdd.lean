/-
  Contract of natural.Add: the canonical list of the sum, in new memory.
-/
import Derived.Test.YtmmlfmjelhninaaCmp
namespace Go.Proofs.Ytmmlfmjelhninaa
open Go.RowKit
set_option linter.unusedVariables false

/-- The result of a call: a slice of the call's own that reads as the canonical list of v; nothing that was there has changed. -/
def Gives (w : World) (v : Nat) (e : Ending) (w' : World) : Prop := ∃ R c, e = .returned (.slice R (ofv v).length c) ∧ Own w' w.heap.size R c (ofv v) ∧ Below w.heap.size w w'

def AddInv (w : World) (us vs : List Nat) (k cn : Nat) (wr : World) : Prop :=
  ∃ zs, Row wr w.heap.size zs ∧ zs.length = us.length + 1 ∧ okl zs ∧ val (zs.take k) + cn * pw k = val (us.take k) + val (vs.take k) ∧ Below w.heap.size w wr

theorem gives_row {w w' : World} {v n g : Nat} {zs : List Nat} (hr : Row w' g zs) (hg : w.heap.size ≤ g) (hz : okl zs) (hb : Below w.heap.size w w') (hv : val zs = v) (hn : zs.length = n) (hm : n ≤ 9223372036854775807) :
    Gives w v (.returned (.slice (some ⟨g, 0, none⟩) (ofv (val zs)).length n)) w' := by
  subst hv hn
  exact ⟨_, _, rfl, (Own.of_row hr hz hg hm).sig, hb⟩

theorem add_step {w wr : World} {us vs zs : List Nat} {k cn : Nat} (hk : k < us.length) (hl : vs.length ≤ us.length) (hu : okl us) (hv : okl vs) (hcn : cn ≤ 1) (hr : Row wr w.heap.size zs) (hzl : zs.length = us.length + 1) (hz : okl zs)
    (he : val (zs.take k) + cn * pw k = val (us.take k) + val (vs.take k)) (hb : Below w.heap.size w wr) (z : Int) (hzz : z = ((cn + (lim us k + lim vs k)) % 4294967296 : Nat)) :
    AddInv w us vs (k + 1) ((cn + (lim us k + lim vs k)) / 4294967296) (wr.setCell ⟨w.heap.size, k, none⟩ (.int .u32 z)) := by
  subst hzz
  refine ⟨zs.set k ((cn + (lim us k + lim vs k)) % 4294967296), hr.set_ _ _, by simpa using hzl, okl_set hz (by omega) _, ?_, hb.setCell (Nat.le_refl _) _⟩
  rw [val_take_set (by omega), val_take_succ hk, val_take_succ' vs k, pw_succ]
  have e := Nat.div_add_mod (cn + (lim us k + lim vs k)) 4294967296
  generalize (cn + (lim us k + lim vs k)) / 4294967296 = q at *
  generalize (cn + (lim us k + lim vs k)) % 4294967296 = r at *
  grind

set_option maxHeartbeats 1000000 in
theorem add_any (A B : Option Addr) (ca cb : Nat) (xs ys : List Nat) (w : World) (h : Rd w A ca xs) (h' : Rd w B cb ys) (hn : xs.length ≤ 70368744177663) (hn' : ys.length ≤ 70368744177663) :
    Calls Try.prog 26 #[.slice A xs.length ca, .slice B ys.length cb] w (Gives w (val xs + val ys)) := by
  have S1 := Lib.hid (sig_any A ca xs w h)
  have S2 := Lib.hid (sig_any B cb ys w h')
  have hc1 := h.capLe
  have hc2 := h'.capLe
  have n1 := len_ofv_le h.ok
  have n2 := len_ofv_le h'.ok
  have hn1 : (ofv (val xs)).length ≤ 70368744177663 := by omega
  have hn2 : (ofv (val ys)).length ≤ 70368744177663 := by omega
  have P := h.sig
  have Q := h'.sig
  have hx := val_ofv (val xs)
  have hy := val_ofv (val ys)
  clear h h' n1 n2 hn hn'
  obtain ⟨va, hva⟩ : ∃ va, va = val xs := ⟨_, rfl⟩
  obtain ⟨vb, hvb⟩ : ∃ vb, vb = val ys := ⟨_, rfl⟩
  rw [← hva] at S1 P hx hn1 ⊢
  rw [← hvb] at S2 Q hy hn2 ⊢
  have K1 := Lib.hid hva
  have K2 := Lib.hid hvb
  clear hva hvb
  obtain ⟨n, hn⟩ : ∃ n, n = xs.length := ⟨_, rfl⟩
  obtain ⟨n', hn'⟩ : ∃ n', n' = ys.length := ⟨_, rfl⟩
  rw [← hn] at S1 ⊢
  rw [← hn'] at S2 ⊢
  clear hn hn' K1 K2 xs ys
  rcases Nat.lt_or_ge (ofv va).length (ofv vb).length with hlt | hge
  · have X := Lib.hid Q
    have Y := Lib.hid P
    have E : Hid (val (ofv vb) + val (ofv va) = va + vb) := by show _ = _; rw [hx, hy]; omega
    have m1 := hn2
    generalize ofv va = vs at *
    generalize ofv vb = us at *
    clear P Q hx hy
    have hl : vs.length ≤ us.length := by omega
    have l1 := X.out.len
    have l2 := Y.out.len
    go_enter Try.func26, Try.ntmps26
    go_wp2_with fail
    refine S1.out.mono ?_
    rintro e w' ⟨rfl, rfl⟩
    go_wp2_with fail
    refine S2.out.mono ?_
    rintro e w' ⟨rfl, rfl⟩
    go_wp2_with (at_make; refine make_row rfl _ _ rfl _ _ (us.length + 1) rfl rfl (by omega) (by omega) (by omega) ?_)
    intro w1 hrow hbel
    go_wp2
    go_loopw [6, 26] (fun c i wr => ∃ k cn : Nat, k ≤ us.length ∧ i = .int .i64 k ∧ c = .int .u64 cn ∧ cn ≤ 1 ∧ AddInv w us vs k cn wr) (fun _ i _ => us.length - (intOf i).toNat)
    case atStart => exact ⟨0, 0, Nat.zero_le _, rfl, rfl, by omega, _, hrow, by simp, okl_replicate _, by simp [val_nil], hbel⟩
    case round =>
      clear hrow hbel
      obtain ⟨k, cn, hk, rfl, rfl, hcn, inv⟩ := hrel
      obtain ⟨zs, hrow, hzl, hzo, heq, hbel⟩ := inv
      have HE := Lib.hid heq
      have HZ := Lib.hid hzl
      have HR := Lib.hid hrow
      have HB := Lib.hid hbel
      clear heq hzl hrow
      by_cases hlt : k < us.length
      · have X1 := X.out.keep (Nat.le_refl _) hbel
        have Y1 := Y.out.keep (Nat.le_refl _) hbel
        obtain ⟨b, o, hA, hb, hc⟩ := X1.at_ hlt
        have c1 := hc k hlt
        have hfz := HR.out.frozen k
        have hcw := HR.out.cell (i := k) (by have := HZ.out; omega)
        have b1 := lim_lt X1.ok k
        have b2 := lim_lt Y1.ok k
        have L := Lib.hid (limbAt_any _ _ vs wr Y1 k (by omega))
        have step := Lib.hid (add_step hlt hl X1.ok Y1.ok hcn HR.out HZ.out hzo HE.out hbel)
        subst hA
        clear hc hbel X1 Y1
        go_wp2_with fail
        refine L.out.mono ?_
        rintro e w' ⟨rfl, rfl⟩
        go_wp2
        go_roundw
        case rel => exact ⟨k + 1, (cn + (lim us k + lim vs k)) / 4294967296, by omega, by go_num, by first | rfl | (congr 1; omega), by omega, step.out _ (by omega)⟩
        case measure => simp [intOf]; omega
      · obtain rfl : k = us.length := by omega
        have hfz := HR.out.frozen us.length
        have hcw := HR.out.cell (i := us.length) (by have := HZ.out; omega)
        clear hbel hk hlt
        go_wp2_with fail
        have hr2 := HR.out.set_ us.length cn
        have hz2 : okl (zs.set us.length cn) := okl_set hzo (by omega) _
        have hl2 : (zs.set us.length cn).length = us.length + 1 := by have := HZ.out; simpa using this
        have hv2 : val (zs.set us.length cn) = va + vb := by
          have e1 := HE.out
          have e2 := HZ.out
          have e3 := E.out
          have e4 : (zs.set us.length cn).take (us.length + 1) = zs.set us.length cn := List.take_of_length_le (by omega)
          rw [← e4, val_take_set (by omega), e1, List.take_of_length_le (Nat.le_refl _), List.take_of_length_le hl, e3]
        have ow := Own.of_row (lo := w.heap.size) hr2 hz2 (Nat.le_refl _) (by omega)
        have rd := ow.rd
        rw [hl2] at rd
        refine (sig_n rd hl2).mono ?_
        rintro e w' ⟨rfl, rfl⟩
        have fin := gives_row hr2 (Nat.le_refl _) hz2 (HB.out.setCell (Nat.le_refl _) _) hv2 hl2 (by omega)
        have FIN := Lib.hid fin
        clear fin hr2 hz2 hl2 hv2 ow rd
        go_wp2
        go_ret
        exact FIN.out
  · have X := Lib.hid P
    have Y := Lib.hid Q
    have E : Hid (val (ofv va) + val (ofv vb) = va + vb) := by show _ = _; rw [hx, hy]
    have m1 := hn1
    generalize ofv va = us at *
    generalize ofv vb = vs at *
    clear P Q hx hy
    have hl : vs.length ≤ us.length := by omega
    have l1 := X.out.len
    have l2 := Y.out.len
    go_enter Try.func26, Try.ntmps26
    go_wp2_with fail
    refine S1.out.mono ?_
    rintro e w' ⟨rfl, rfl⟩
    go_wp2_with fail
    refine S2.out.mono ?_
    rintro e w' ⟨rfl, rfl⟩
    go_wp2_with (at_make; refine make_row rfl _ _ rfl _ _ (us.length + 1) rfl rfl (by omega) (by omega) (by omega) ?_)
    intro w1 hrow hbel
    go_wp2
    go_loopw [6, 26] (fun c i wr => ∃ k cn : Nat, k ≤ us.length ∧ i = .int .i64 k ∧ c = .int .u64 cn ∧ cn ≤ 1 ∧ AddInv w us vs k cn wr) (fun _ i _ => us.length - (intOf i).toNat)
    case atStart => exact ⟨0, 0, Nat.zero_le _, rfl, rfl, by omega, _, hrow, by simp, okl_replicate _, by simp [val_nil], hbel⟩
    case round =>
      clear hrow hbel
      obtain ⟨k, cn, hk, rfl, rfl, hcn, inv⟩ := hrel
      obtain ⟨zs, hrow, hzl, hzo, heq, hbel⟩ := inv
      have HE := Lib.hid heq
      have HZ := Lib.hid hzl
      have HR := Lib.hid hrow
      have HB := Lib.hid hbel
      clear heq hzl hrow
      by_cases hlt : k < us.length
      · have X1 := X.out.keep (Nat.le_refl _) hbel
        have Y1 := Y.out.keep (Nat.le_refl _) hbel
        obtain ⟨b, o, hA, hb, hc⟩ := X1.at_ hlt
        have c1 := hc k hlt
        have hfz := HR.out.frozen k
        have hcw := HR.out.cell (i := k) (by have := HZ.out; omega)
        have b1 := lim_lt X1.ok k
        have b2 := lim_lt Y1.ok k
        have L := Lib.hid (limbAt_any _ _ vs wr Y1 k (by omega))
        have step := Lib.hid (add_step hlt hl X1.ok Y1.ok hcn HR.out HZ.out hzo HE.out hbel)
        subst hA
        clear hc hbel X1 Y1
        go_wp2_with fail
        refine L.out.mono ?_
        rintro e w' ⟨rfl, rfl⟩
        go_wp2
        go_roundw
        case rel => exact ⟨k + 1, (cn + (lim us k + lim vs k)) / 4294967296, by omega, by go_num, by first | rfl | (congr 1; omega), by omega, step.out _ (by omega)⟩
        case measure => simp [intOf]; omega
      · obtain rfl : k = us.length := by omega
        have hfz := HR.out.frozen us.length
        have hcw := HR.out.cell (i := us.length) (by have := HZ.out; omega)
        clear hbel hk hlt
        go_wp2_with fail
        have hr2 := HR.out.set_ us.length cn
        have hz2 : okl (zs.set us.length cn) := okl_set hzo (by omega) _
        have hl2 : (zs.set us.length cn).length = us.length + 1 := by have := HZ.out; simpa using this
        have hv2 : val (zs.set us.length cn) = va + vb := by
          have e1 := HE.out
          have e2 := HZ.out
          have e3 := E.out
          have e4 : (zs.set us.length cn).take (us.length + 1) = zs.set us.length cn := List.take_of_length_le (by omega)
          rw [← e4, val_take_set (by omega), e1, List.take_of_length_le (Nat.le_refl _), List.take_of_length_le hl, e3]
        have ow := Own.of_row (lo := w.heap.size) hr2 hz2 (Nat.le_refl _) (by omega)
        have rd := ow.rd
        rw [hl2] at rd
        refine (sig_n rd hl2).mono ?_
        rintro e w' ⟨rfl, rfl⟩
        have fin := gives_row hr2 (Nat.le_refl _) hz2 (HB.out.setCell (Nat.le_refl _) _) hv2 hl2 (by omega)
        have FIN := Lib.hid fin
        clear fin hr2 hz2 hl2 hv2 ow rd
        go_wp2
        go_ret
        exact FIN.out
end Go.Proofs.Ytmmlfmjelhninaa
