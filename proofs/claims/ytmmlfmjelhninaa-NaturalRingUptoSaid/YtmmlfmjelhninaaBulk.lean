/-
  What the bound of the second form gives: each slice of limbs has at most 1048576 places.
-/
import Derived.Test.YtmmlfmjelhninaaFrame
import Derived.JoinedCond
namespace Go.Proofs.Ytmmlfmjelhninaa
set_option linter.unusedVariables false

theorem bulk_pos {H : Type} (d : DataW H) : 0 < Rows.uptoBulk d := by
  cases d with
  | lit l => cases l <;> simp [Rows.uptoBulk]
  | _ => simp [Rows.uptoBulk]
theorem bulk_len {H : Type} (l : List (DataW H)) : l.length ≤ Rows.uptoBulkAll l := by
  induction l with
  | nil => exact Nat.zero_le _
  | cons d l ih =>
    rw [Rows.uptoBulkAll, List.length_cons]
    have := bulk_pos d
    omega
theorem bulk_slice {H : Type} (e s : List (DataW H)) : e.length + s.length ≤ Rows.uptoBulk (.slice e s) := by
  rw [Rows.uptoBulk]
  have h1 := bulk_len e
  have h2 := bulk_len s
  omega
theorem bulk_mem {H : Type} {d : DataW H} {l : List (DataW H)} (h : d ∈ l) : Rows.uptoBulk d ≤ Rows.uptoBulkAll l := by
  induction l with
  | nil => cases h
  | cons x l ih =>
    rw [Rows.uptoBulkAll]
    rcases List.mem_cons.1 h with rfl | h
    · omega
    · have := ih h; omega
theorem small_slice {H : Type} {l : List (DataW H)} (hk : Rows.uptoSmall H l = true) {e s : List (DataW H)} (h : DataW.slice e s ∈ l) : e.length + s.length ≤ 1048576 := by
  have h1 : Rows.uptoBulkAll l ≤ 1048576 := of_decide_eq_true hk
  have h2 := bulk_mem h
  have h3 := bulk_slice e s
  omega
end Go.Proofs.Ytmmlfmjelhninaa
