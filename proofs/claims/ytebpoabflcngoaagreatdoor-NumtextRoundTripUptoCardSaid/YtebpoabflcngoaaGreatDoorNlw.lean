/-
  What ParseInt and ParseRat return for the texts that FormatInt, FormatRat and Decimal return.
-/
import Derived.Test.YtebpoabflcngoaaGreatDoorNU
namespace Go.Proofs.YtebpoabflcngoaaGreatDoor
open Go.RowKit
set_option linter.unusedVariables false

/-- Some result, of a text that is too long to be read. -/
def SomeZ (w : World) (e : Ending) (w' : World) : Prop := ∃ s R n c x, e = .returned (.tuple #[.agg #[.bool s, .slice R n c], .int .i64 x]) ∧ Below w.heap.size w w'
def SomeR (w : World) (e : Ending) (w' : World) : Prop := ∃ s R n c Q m k x, e = .returned (.tuple #[.agg #[.bool s, .slice R n c, .slice Q m k], .int .i64 x]) ∧ Below w.heap.size w w'
theorem GivesZE.some {w w' : World} {z : Int} {e : Ending} (h : GivesZE w z e w') : SomeZ w e w' := by obtain ⟨R, c, rfl, _, hb⟩ := h; exact ⟨_, _, _, _, _, rfl, hb⟩
theorem GivesZX.some {w w' : World} {z : Int} {e : Ending} (h : GivesZX w z e w') : SomeZ w e w' := by obtain ⟨rfl, hb⟩ := h; exact ⟨_, _, _, _, _, rfl, hb⟩
theorem GivesRE.some {w w' : World} {z : Int} {d : Nat} {e : Ending} (h : GivesRE w z d e w') : SomeR w e w' := by obtain ⟨R, c, Q, k, rfl, _, _, hb⟩ := h; exact ⟨_, _, _, _, _, _, _, _, rfl, hb⟩
theorem GivesRX.some {w w' : World} {z : Int} {e : Ending} (h : GivesRX w z e w') : SomeR w e w' := by obtain ⟨rfl, hb⟩ := h; exact ⟨_, _, _, _, _, _, _, _, rfl, hb⟩
theorem pint_itoa {z : Int} {l : List UInt8} (hl : Lib.itoa z = l) (h : l.length ≤ 4096) (w : World) : Calls Tryz.prog 17 #[.string (txt l)] w (GivesZE w z) := by
  subst hl
  exact pint_ok (ascii_itoa z) (numB_itoa z) (Nat.le_trans (unsg_len _) h) (tval_itoa z) w
theorem pint_some {z : Int} {l : List UInt8} (hl : Lib.itoa z = l) (w : World) : Calls Tryz.prog 17 #[.string (txt l)] w (SomeZ w) := by
  subst hl
  by_cases h : (unsg (Lib.itoa z)).length ≤ 4096
  · exact (pint_ok (ascii_itoa z) (numB_itoa z) h (tval_itoa z) w).mono fun _ _ h => h.some
  · exact (pint_long (ascii_itoa z) (numB_itoa z) (by omega) w).mono fun _ _ h => h.some
theorem divInt_one (z : Int) : Rat.divInt z 1 = mkRat z 1 := rfl
theorem divInt_den (r : Rat) : Rat.divInt r.num ((r.den : Nat) : Int) = r := by
  exact mk_self r
theorem dec_pos {d : Nat} (h : 0 < d) : ((dval (Lib.decDigits d) : Nat) : Int) ≠ 0 := by rw [dval_dec]; omega
theorem prat_ratTxt {r : Rat} {z : Int} {d : Nat} {l : List UInt8} (hz : r.num = z) (hd : r.den = d) (hl : ratTxt r = l) (h : l.length ≤ 4096) {w : World} (hE : Env w) : Calls Tryz.prog 18 #[.string (txt l)] w (GivesRE w z d) := by
  have hu := unsg_len (Lib.itoa r.num)
  unfold ratTxt at hl
  split at hl
  · rename_i h1
    subst hl
    have e : Rat.divInt r.num 1 = r := by have := divInt_den r; rw [h1] at this; exact this
    exact prat_int_ok (ascii_itoa _) (numB_itoa _) (Nat.le_trans hu h) (tval_itoa _) (by rw [e]; exact hz) (by rw [e]; exact hd) (by omega) (cut_none (not_in_itoa _ (by decide) (by decide))) (cut_none (not_in_itoa _ (by decide) (by decide))) hE
  · rename_i h1
    have e := divInt_den r
    have hc := cut_at (l := Lib.itoa r.num) (m := Lib.decDigits r.den) (c := 47) (not_in_itoa _ (by decide) (by decide))
    rw [hl] at hc
    have hlen : (Lib.itoa r.num).length + (Lib.decDigits r.den).length + 1 = l.length := by rw [← hl, List.length_append, List.length_cons]; omega
    exact prat_frac_ok (ascii_itoa _) (ascii_digits (alld_dec _)) (numB_itoa _) (plain_dec _) (by omega) (tval_itoa _) rfl (dec_pos (den_pos r)) (by rw [dval_dec, e]; exact hz) (by rw [dval_dec, e]; exact hd) (by omega) hc hE
theorem prat_some {r : Rat} {l : List UInt8} (hl : ratTxt r = l) (hn : (ofv r.num.natAbs).length ≤ 100000000) (hd : (ofv r.den).length ≤ 100000000) {w : World} (hE : Env w) : Calls Tryz.prog 18 #[.string (txt l)] w (SomeR w) := by
  have hu := unsg_len (Lib.itoa r.num)
  have k1 := itoa_len hn
  have k2 : (Lib.decDigits r.den).length ≤ 10 * 100000000 + 2 := by
    have := itoa_len (x := (r.den : Int)) (N := 100000000) (by rw [Int.natAbs_natCast]; exact hd)
    rw [itoa_nat] at this
    exact this
  by_cases h : l.length ≤ 4096
  · exact (prat_ratTxt rfl rfl hl h hE).mono fun _ _ h => h.some
  · unfold ratTxt at hl
    split at hl
    · rename_i h1
      subst hl
      by_cases h2 : (unsg (Lib.itoa r.num)).length ≤ 4096
      · have e : Rat.divInt r.num 1 = r := by have := divInt_den r; rw [h1] at this; exact this
        exact (prat_int_ok (ascii_itoa _) (numB_itoa _) h2 (tval_itoa _) rfl rfl (by omega) (cut_none (not_in_itoa _ (by decide) (by decide))) (cut_none (not_in_itoa _ (by decide) (by decide))) hE).mono fun _ _ h => h.some
      · exact (prat_int_long (ascii_itoa _) (numB_itoa _) (by omega) (by omega) (cut_none (not_in_itoa _ (by decide) (by decide))) (cut_none (not_in_itoa _ (by decide) (by decide))) hE).mono fun _ _ h => h.some
    · have hc := cut_at (l := Lib.itoa r.num) (m := Lib.decDigits r.den) (c := 47) (not_in_itoa _ (by decide) (by decide))
      rw [hl] at hc
      have hlen : (Lib.itoa r.num).length + (Lib.decDigits r.den).length + 1 = l.length := by rw [← hl, List.length_append, List.length_cons]; omega
      by_cases h2 : (unsg (Lib.itoa r.num)).length + (Lib.decDigits r.den).length ≤ 4096
      · exact (prat_frac_ok (ascii_itoa _) (ascii_digits (alld_dec _)) (numB_itoa _) (plain_dec _) h2 (tval_itoa _) rfl (dec_pos (den_pos r)) rfl rfl (by omega) hc hE).mono fun _ _ h => h.some
      · exact (prat_frac_long (ascii_itoa _) (ascii_digits (alld_dec _)) (numB_itoa _) (plain_dec _) (by omega) (by omega) (by omega) (by omega) hc hE).mono fun _ _ h => h.some
end Go.Proofs.YtebpoabflcngoaaGreatDoor
