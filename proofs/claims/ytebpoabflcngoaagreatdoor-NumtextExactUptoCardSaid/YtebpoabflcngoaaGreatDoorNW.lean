/-
  Nlw, Nex.
-/
import Derived.Test.YtebpoabflcngoaaGreatDoorNU
/-
  What ParseInt and ParseRat return for the texts that FormatInt, FormatRat and Decimal return.
-/
namespace Go.Proofs.YtebpoabflcngoaaGreatDoor
open Go.RowKit
set_option linter.unusedVariables false

/-- Some result, of a text that is too long to be read. -/
def SomeZ (w : World) (e : Ending) (w' : World) : Prop := ∃ s R n c x, e = .returned (.tuple #[.agg #[.bool s, .slice R n c], .int .i64 x]) ∧ Below w.heap.size w w'
def SomeR (w : World) (e : Ending) (w' : World) : Prop := ∃ s R n c Q m k x, e = .returned (.tuple #[.agg #[.bool s, .slice R n c, .slice Q m k], .int .i64 x]) ∧ Below w.heap.size w w'
theorem GivesZE.some {w w' : World} {z : Int} {e : Ending} (h : GivesZE w z e w') : SomeZ w e w' := by obtain ⟨R, c, rfl, _, hb⟩ := h; exact ⟨_, _, _, _, _, rfl, hb⟩
theorem GivesZX.some {w w' : World} {z : Int} {e : Ending} (h : GivesZX w z e w') : SomeZ w e w' := by obtain ⟨rfl, hb⟩ := h; exact ⟨_, _, _, _, _, rfl, hb⟩
theorem GivesRE.some {w w' : World} {z : Int} {d : Nat} {e : Ending} (h : GivesRE w z d e w') : SomeR w e w' := by obtain ⟨R, c, Q, k, rfl, _, _, hb⟩ := h; exact ⟨_, _, _, _, _, _, _, _, rfl, hb⟩
theorem GivesRX.some {w w' : World} {z : Int} {e : Ending} (h : GivesRX w z e w') : SomeR w e w' := by obtain ⟨rfl, hb⟩ := h; exact ⟨_, _, _, _, _, _, _, _, rfl, hb⟩
theorem pint_itoa {z : Int} {l : List UInt8} (hl : Lib.itoa z = l) (h : l.length ≤ 4096) (w : World) : Calls Tryz.prog 17 #[.string (txt l)] w (GivesZE w z) := by
  subst hl
  exact pint_ok (ascii_itoa z) (numB_itoa z) (Nat.le_trans (unsg_len _) h) (tval_itoa z) w
theorem pint_some {z : Int} {l : List UInt8} (hl : Lib.itoa z = l) (w : World) : Calls Tryz.prog 17 #[.string (txt l)] w (SomeZ w) := by
  subst hl
  by_cases h : (unsg (Lib.itoa z)).length ≤ 4096
  · exact (pint_ok (ascii_itoa z) (numB_itoa z) h (tval_itoa z) w).mono fun _ _ h => h.some
  · exact (pint_long (ascii_itoa z) (numB_itoa z) (by omega) w).mono fun _ _ h => h.some
theorem divInt_one (z : Int) : Rat.divInt z 1 = mkRat z 1 := rfl
theorem divInt_den (r : Rat) : Rat.divInt r.num ((r.den : Nat) : Int) = r := by
  exact mk_self r
theorem dec_pos {d : Nat} (h : 0 < d) : ((dval (Lib.decDigits d) : Nat) : Int) ≠ 0 := by rw [dval_dec]; omega
theorem prat_ratTxt {r : Rat} {z : Int} {d : Nat} {l : List UInt8} (hz : r.num = z) (hd : r.den = d) (hl : ratTxt r = l) (h : l.length ≤ 4096) {w : World} (hE : Env w) : Calls Tryz.prog 18 #[.string (txt l)] w (GivesRE w z d) := by
  have hu := unsg_len (Lib.itoa r.num)
  unfold ratTxt at hl
  split at hl
  · rename_i h1
    subst hl
    have e : Rat.divInt r.num 1 = r := by have := divInt_den r; rw [h1] at this; exact this
    exact prat_int_ok (ascii_itoa _) (numB_itoa _) (Nat.le_trans hu h) (tval_itoa _) (by rw [e]; exact hz) (by rw [e]; exact hd) (by omega) (cut_none (not_in_itoa _ (by decide) (by decide))) (cut_none (not_in_itoa _ (by decide) (by decide))) hE
  · rename_i h1
    have e := divInt_den r
    have hc := cut_at (l := Lib.itoa r.num) (m := Lib.decDigits r.den) (c := 47) (not_in_itoa _ (by decide) (by decide))
    rw [hl] at hc
    have hlen : (Lib.itoa r.num).length + (Lib.decDigits r.den).length + 1 = l.length := by rw [← hl, List.length_append, List.length_cons]; omega
    exact prat_frac_ok (ascii_itoa _) (ascii_digits (alld_dec _)) (numB_itoa _) (plain_dec _) (by omega) (tval_itoa _) rfl (dec_pos (den_pos r)) (by rw [dval_dec, e]; exact hz) (by rw [dval_dec, e]; exact hd) (by omega) hc hE
theorem prat_some {r : Rat} {l : List UInt8} (hl : ratTxt r = l) (hn : (ofv r.num.natAbs).length ≤ 100000000) (hd : (ofv r.den).length ≤ 100000000) {w : World} (hE : Env w) : Calls Tryz.prog 18 #[.string (txt l)] w (SomeR w) := by
  have hu := unsg_len (Lib.itoa r.num)
  have k1 := itoa_len hn
  have k2 : (Lib.decDigits r.den).length ≤ 10 * 100000000 + 2 := by
    have := itoa_len (x := (r.den : Int)) (N := 100000000) (by rw [Int.natAbs_natCast]; exact hd)
    rw [itoa_nat] at this
    exact this
  by_cases h : l.length ≤ 4096
  · exact (prat_ratTxt rfl rfl hl h hE).mono fun _ _ h => h.some
  · unfold ratTxt at hl
    split at hl
    · rename_i h1
      subst hl
      by_cases h2 : (unsg (Lib.itoa r.num)).length ≤ 4096
      · have e : Rat.divInt r.num 1 = r := by have := divInt_den r; rw [h1] at this; exact this
        exact (prat_int_ok (ascii_itoa _) (numB_itoa _) h2 (tval_itoa _) rfl rfl (by omega) (cut_none (not_in_itoa _ (by decide) (by decide))) (cut_none (not_in_itoa _ (by decide) (by decide))) hE).mono fun _ _ h => h.some
      · exact (prat_int_long (ascii_itoa _) (numB_itoa _) (by omega) (by omega) (cut_none (not_in_itoa _ (by decide) (by decide))) (cut_none (not_in_itoa _ (by decide) (by decide))) hE).mono fun _ _ h => h.some
    · have hc := cut_at (l := Lib.itoa r.num) (m := Lib.decDigits r.den) (c := 47) (not_in_itoa _ (by decide) (by decide))
      rw [hl] at hc
      have hlen : (Lib.itoa r.num).length + (Lib.decDigits r.den).length + 1 = l.length := by rw [← hl, List.length_append, List.length_cons]; omega
      by_cases h2 : (unsg (Lib.itoa r.num)).length + (Lib.decDigits r.den).length ≤ 4096
      · exact (prat_frac_ok (ascii_itoa _) (ascii_digits (alld_dec _)) (numB_itoa _) (plain_dec _) h2 (tval_itoa _) rfl (dec_pos (den_pos r)) rfl rfl (by omega) hc hE).mono fun _ _ h => h.some
      · exact (prat_frac_long (ascii_itoa _) (ascii_digits (alld_dec _)) (numB_itoa _) (plain_dec _) (by omega) (by omega) (by omega) (by omega) hc hE).mono fun _ _ h => h.some
end Go.Proofs.YtebpoabflcngoaaGreatDoor

/-
  The text of Decimal denotes the number; it is the text of an integer exactly for integers.
-/
namespace Go.Proofs.YtebpoabflcngoaaGreatDoor
open Go.RowKit
set_option linter.unusedVariables false

theorem rnd_int (v : Int) : rndR (mkRat v 1) = v := by
  rw [rnd_mk (x := v) (p := 1) (f := v) (r := 0) (by omega) (by simp) (by simp)]
  rw [if_pos (.inl (by decide))]
/-- A denominator of twos and fives: the number is an integer over a power of ten. -/
theorem dec_exact {r : Rat} {k1 r1 k2 : Nat} (h1 : Facs r.den 2 k1 r1) (h2 : Facs r1 5 k2 1) {q : Nat} (hq1 : k1 ≤ q) (hq2 : k2 ≤ q) :
    ∃ v : Int, rndR (r * mkRat ((10 ^ q : Nat) : Int) 1) = v ∧ Rat.divInt v ((10 ^ q : Nat) : Int) = r := by
  obtain ⟨e1, _⟩ := h1
  obtain ⟨e2, _⟩ := h2
  have hd := den_pos r
  have e3 : r.den = 2 ^ k1 * 5 ^ k2 := by rw [e1, e2, Nat.mul_one]
  have hc : r.den * (2 ^ (q - k1) * 5 ^ (q - k2)) = 10 ^ q := by
    have a1 : 2 ^ k1 * 2 ^ (q - k1) = 2 ^ q := by rw [← Nat.pow_add]; congr 1; omega
    have a2 : 5 ^ k2 * 5 ^ (q - k2) = 5 ^ q := by rw [← Nat.pow_add]; congr 1; omega
    have a3 : (10 : Nat) ^ q = 2 ^ q * 5 ^ q := by rw [← Nat.mul_pow]
    rw [e3, a3, ← a1, ← a2]
    grind
  generalize 2 ^ (q - k1) * 5 ^ (q - k2) = c at hc
  have c0 : 0 < c := by
    rcases Nat.eq_zero_or_pos c with e | e
    · subst e
      have : 0 < 10 ^ q := Nat.pow_pos (by omega)
      omega
    · exact e
  refine ⟨r.num * c, ?_, ?_⟩
  · rw [← hc]
    have e4 : r * mkRat ((r.den * c : Nat) : Int) 1 = mkRat (r.num * c) 1 := by
      have := Rat.mkRat_mul_mkRat r.num ((r.den * c : Nat) : Int) r.den 1
      rw [mk_self] at this
      rw [this, Int.natCast_mul, Nat.mul_one, show r.num * ((r.den : Int) * (c : Int)) = (r.num * c) * (r.den : Int) by grind]
      have := Rat.mkRat_mul_right (n := r.num * (c : Int)) (d := 1) (a := r.den) (by omega)
      rw [Nat.one_mul] at this
      exact this
    rw [e4]
    exact rnd_int _
  · rw [← hc]
    show mkRat (r.num * c) (r.den * c) = r
    rw [Rat.mkRat_mul_right (by omega), mk_self]
theorem facs_one {k1 r1 k2 : Nat} (h1 : Facs 1 2 k1 r1) (h2 : Facs r1 5 k2 1) : max k1 k2 = 0 := by
  have h3 : Facs 1 2 0 1 := ⟨by decide, by decide⟩
  obtain ⟨rfl, rfl⟩ := facs_unique (by omega) h1 h3
  have h4 : Facs 1 5 0 1 := ⟨by decide, by decide⟩
  obtain ⟨rfl, _⟩ := facs_unique (by omega) h2 h4
  rfl
theorem facs_zero {d k1 r1 k2 : Nat} (h1 : Facs d 2 k1 r1) (h2 : Facs r1 5 k2 1) (h : max k1 k2 = 0) : d = 1 := by
  have a : k1 = 0 := by omega
  have b : k2 = 0 := by omega
  subst a b
  have e1 := h1.1
  have e2 := h2.1
  simp at e1 e2
  omega
/-- An integer differs from its floor by nothing, another number by more. -/
theorem whole_zero {r : Rat} (h : r.den = 1) : sgR (r - mkRat (Rat.divInt r.floor 1).num (Rat.divInt r.floor 1).den) = 0 := by
  rw [mk_self, sgR_zero, divInt_one]
  have e : r.floor = r.num := by rw [floor_def', h]; simp
  have e2 := mk_self r
  rw [h] at e2
  rw [e, e2, Rat.sub_self]
theorem whole_one {r : Rat} (h : r.den ≠ 1) : sgR (r - mkRat (Rat.divInt r.floor 1).num (Rat.divInt r.floor 1).den) = 1 := by
  rw [mk_self, divInt_one]
  have hd := den_pos r
  have e := sgR_sub (x := r.num) (y := r.floor) (p := r.den) (q := 1) hd (by omega)
  rw [mk_self] at e
  rw [e, floor_def']
  have k1 := Int.mul_ediv_add_emod r.num (r.den : Int)
  have k2 := Int.emod_nonneg r.num (show (r.den : Int) ≠ 0 by omega)
  have k3 : r.num % (r.den : Int) ≠ 0 := by
    intro h0
    have hdv : (r.den : Int) ∣ r.num := Int.dvd_of_emod_eq_zero h0
    have hn : r.den ∣ r.num.natAbs := by have := Int.natAbs_dvd_natAbs.2 hdv; rwa [Int.natAbs_natCast] at this
    have hg : Nat.gcd r.num.natAbs r.den = 1 := r.reduced
    rw [Nat.gcd_eq_right hn] at hg
    exact h hg
  have k4 : r.num * ((1 : Nat) : Int) - r.num / (r.den : Int) * (r.den : Int) = r.num % (r.den : Int) := by
    have : r.num / (r.den : Int) * (r.den : Int) = (r.den : Int) * (r.num / (r.den : Int)) := Int.mul_comm _ _
    rw [this]
    omega
  rw [k4]
  rcases sg_cases (r.num % (r.den : Int)) with ⟨e, h1⟩ | ⟨e, h1⟩ | ⟨e, h1⟩ <;> first | exact e | omega
theorem not_in_ptxt (v : Int) (p : Nat) : (47 : UInt8) ∉ ptxt v p := by
  by_cases hp : p = 0
  · subst hp; rw [ptxt_zero]; exact not_in_itoa _ (by decide) (by decide)
  · rw [ptxt_eq hp]
    intro h
    rcases List.mem_append.1 h with h | h
    · exact not_in_whole v p (by decide) (by decide) h
    · rcases List.mem_cons.1 h with h | h
      · cases h
      · exact not_in_digits (alld_wdig _ _) (by decide) h
theorem numB_ptxt {v : Int} {p : Nat} (hp : p ≠ 0) : numB (ptxt v p) = false := by
  rw [ptxt_eq hp]
  unfold numB
  have hu : plainB (unsg (wholeOf v p)) = true := by rw [unsg_whole]; exact plain_dec _
  rw [unsg_append hu]
  have : alld (unsg (wholeOf v p) ++ 46 :: wdig p v.natAbs) = false := by
    rw [alld_append]
    have : alld (46 :: wdig p v.natAbs) = false := by unfold alld; rfl
    rw [this, Bool.and_false]
  unfold plainB
  rw [this, Bool.false_and, Bool.false_and]
theorem ascii_whole (v : Int) (p : Nat) : ascii (wholeOf v p) := by
  unfold wholeOf
  split
  · exact ascii_cons (by decide) (ascii_digits (alld_dec _))
  · exact ascii_digits (alld_dec _)
theorem ascii_ptxt (v : Int) (p : Nat) : ascii (ptxt v p) := by
  by_cases hp : p = 0
  · subst hp; rw [ptxt_zero]; exact ascii_itoa _
  · rw [ptxt_eq hp]; exact ascii_append (ascii_whole v p) (ascii_cons (by decide) (ascii_digits (alld_wdig _ _)))
theorem pint_ptxt {v : Int} {p : Nat} {l : List UInt8} (hp : p ≠ 0) (hl : ptxt v p = l) (w : World) : Calls Tryz.prog 17 #[.string (txt l)] w (GivesZX w 2) := by
  subst hl
  exact pint_bad (ascii_ptxt v p) (numB_ptxt hp) w
theorem prat_ptxt {v : Int} {p : Nat} {z : Int} {d : Nat} {l : List UInt8} (hz : (Rat.divInt v ((10 ^ p : Nat) : Int)).num = z) (hd : (Rat.divInt v ((10 ^ p : Nat) : Int)).den = d) (hl : ptxt v p = l) (h : l.length ≤ 4096) {w : World} (hE : Env w) :
    Calls Tryz.prog 18 #[.string (txt l)] w (GivesRE w z d) := by
  by_cases hp : p = 0
  · subst hp
    rw [ptxt_zero] at hl
    subst hl
    exact prat_int_ok (ascii_itoa _) (numB_itoa _) (Nat.le_trans (unsg_len _) h) (tval_itoa _) hz hd (by omega) (cut_none (not_in_itoa _ (by decide) (by decide))) (cut_none (not_in_itoa _ (by decide) (by decide))) hE
  · have h47 := cut_none (not_in_ptxt v p)
    rw [hl] at h47
    have h46 := cut_at (l := wholeOf v p) (m := wdig p v.natAbs) (c := 46) (not_in_whole v p (by decide) (by decide))
    rw [← ptxt_eq hp, hl] at h46
    have hlen : (wholeOf v p).length + (wdig p v.natAbs).length + 1 = l.length := by rw [← hl, ptxt_eq hp, List.length_append, List.length_cons]; omega
    have hu := unsg_len (wholeOf v p)
    refine prat_dec_ok (ascii_whole v p) (ascii_digits (alld_wdig _ _)) (by rw [unsg_whole]; exact plain_dec _) ?_ (by omega) (tval_whole v p) (by rw [wdig_len]) hz hd (by omega) h47 h46 hE
    rw [alld_wdig, Bool.true_and]
    have := wdig_len p v.natAbs
    cases hw : wdig p v.natAbs with
    | nil => rw [hw] at this; simp at this; omega
    | cons a b => rfl
end Go.Proofs.YtebpoabflcngoaaGreatDoor
