/-
  Contract of the reference's Canonical.
-/
import Derived.Test.YtgleknejogbomaaZC
import Derived.Test.YtgleknejogbomaaZB
namespace Go.Proofs.Ytgleknejogbomaa
open Go.RowKit
set_option linter.unusedVariables false

set_option maxHeartbeats 2000000 in
theorem canonical_z {R : Option Addr} {c : Nat} {w : World} {z : Int} (h : Zo w R c z) (hl : (ofv z.natAbs).length ≤ 70368744177664) :
    Calls Try.prog 62 #[.agg #[.bool (decide (z < 0)), .slice R (ofv z.natAbs).length c]] w fun e w' => e = .returned (.bool true) ∧ Below w.heap.size w w' := by
  have hb0 := (Below.refl w.heap.size w).alloc (Nat.le_refl _) (.cells #[.bool (decide (z < 0)), .slice R (ofv z.natAbs).length c] 24)
  have P2 := Lib.hid (h.below hb0)
  have Z := Lib.hid (Zb.new w (decide (z < 0)) R (ofv z.natAbs).length c)
  have B2 := Lib.hid hb0
  have LX := Lib.hid hl
  clear h hb0 hl
  go_enter Try.func62, Try.ntmps62
  go_wp2_with fail
  generalize (w.alloc (.cells #[.bool (decide (z < 0)), .slice R (ofv z.natAbs).length c] 24)) = w2 at *
  have BW := Lib.hid (Below.refl w2.heap.size w2)
  have S2 := Lib.hid (keep1 Z BW.out Z.out.lt)
  go_region_held3 (fun w' => w'.cell? ⟨w.heap.size, 0, none⟩ = some (.bool (decide (z < 0))) ∧ w'.cell? ⟨w.heap.size, 1, none⟩ = some (.slice R (ofv z.natAbs).length c))
    (first | exact keep1 Z BW.out Z.out.lt | exact S2.out)
    (first
      | (go_at_call 104; (with_reducible refine Calls.mono (rnrm_z (x := z) (z := z) ?_ ?_ ?_) ?_); (exact P2.out.in_.drew); (exact LX.out); (exact rfl); rintro e wx ⟨Q, cQ, rfl, ho, hb⟩; have ZQ := Lib.hid (Zo.of_own ho); have BX := below_drew hb; clear ho hb BW; have BW := BX; clear BX)
      | (go_at_call 14; (with_reducible refine Calls.mono (requal_z (z := z) ?_ ?_) ?_); (exact P2.out.below BW.out); (exact ZQ.out); rintro e wx ⟨rfl, hb⟩; have BX := Lib.hid (BW.out.trans (hb.mono BW.out.size)); clear hb BW; have BW := BX; clear BX))
  have FIN := Lib.hid (B2.out.trans (BW.out.mono B2.out.size))
  clear BW
  go_wp2
  go_ret
  exact ⟨rfl, FIN.out⟩
end Go.Proofs.Ytgleknejogbomaa
