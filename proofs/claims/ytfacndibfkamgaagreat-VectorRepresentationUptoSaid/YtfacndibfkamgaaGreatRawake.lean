/-
  The statements' own sanity check of package rational.
-/
import Derived.Test.YtfacndibfkamgaaGreatRrez
import Derived.Test.YtfacndibfkamgaaGreatRate
namespace Go.Proofs.YtfacndibfkamgaaGreat
open Go.RowKit
set_option linter.unusedVariables false

theorem nin_nine (w : World) : Nin (w.alloc (.cells #[.int .u32 9] 118)) (some ⟨w.heap.size, 0, none⟩) 1 1 9 := by
  have hr : Row (w.alloc (.cells #[.int .u32 9] 118)) w.heap.size [9] := row_new rfl rfl
  have := Own.of_row (lo := 0) hr (okl1 (by omega)) (Nat.zero_le _) (by simp)
  exact ⟨[9], this.rd, rfl, by simp [val]⟩
theorem len_small {v : Nat} (h : v < 4294967296) : (ofv v).length ≤ 1 := len_ofv_le_of_lt (by rw [pw_succ, pw_zero]; omega)
end Go.Proofs.YtfacndibfkamgaaGreat
