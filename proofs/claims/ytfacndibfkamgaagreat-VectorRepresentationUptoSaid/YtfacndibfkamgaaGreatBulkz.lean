/-
  What the bound of the second form gives for integers: each has at most 1048576 limbs.
-/
import Derived.Test.YtfacndibfkamgaaGreatFR
namespace Go.Proofs.YtfacndibfkamgaaGreat
set_option linter.unusedVariables false

theorem bulk_agg {H : Type} (l : List (DataW H)) : Rows.uptoBulkAll l ≤ Rows.uptoBulk (.agg l) := by
  rw [Rows.uptoBulk]
  omega
theorem small_zint {H : Type} {l : List (DataW H)} (hk : Rows.uptoSmall H l = true) {b : Bool} {e s : List (DataW H)} (h : DataW.agg [.lit (.bool b), .slice e s] ∈ l) : e.length + s.length ≤ 1048576 := by
  have h1 : Rows.uptoBulkAll l ≤ 1048576 := of_decide_eq_true hk
  have h2 := bulk_mem h
  have h3 := bulk_agg [.lit (.bool b), DataW.slice e s]
  have h4 := bulk_mem (d := DataW.slice e s) (l := [.lit (.bool b), DataW.slice e s]) (by simp)
  have h5 := bulk_slice e s
  omega
end Go.Proofs.YtfacndibfkamgaaGreat
