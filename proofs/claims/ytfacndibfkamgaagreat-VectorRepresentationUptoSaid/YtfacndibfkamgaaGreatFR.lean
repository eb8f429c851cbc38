/-
  Frame, Bulk, Framez.
-/
import Derived.Test.YtfacndibfkamgaaGreatNA
import Derived.ProofKit
import Derived.OpenShut
import Derived.ShutString
import Derived.ChangeOld
import Derived.SizedLaws
import Derived.JoinedCond
import Derived.Test.YtfacndibfkamgaaGreatZA
import Derived.Lib.SmallJoins
/-
  What a statement's inputs give: a slice of limbs that came in reads as a list of numbers below 2^32, and takes at most the form's reach.
-/
namespace Go.Proofs.YtfacndibfkamgaaGreat
open Go.ChangeShapes Go.WideShapes Go.ChangeAt Go.RowKit
set_option linter.unusedVariables false

theorem own_knob : ownKnob Tryz.prog.godebug = none := by kernel_rfl
theorem laid_out : laidOutB Tryz.prog = true := by kernel_rfl
theorem bytes_limb : Tryz.prog.bytesOf 118 = 4 := by kernel_rfl

theorem wf_bounds {n : Int} (h : (Lit.int .u32 n).wf = true) : 0 ≤ n ∧ n ≤ 4294967295 := by
  simp [Lit.wf, IntKind.min, IntKind.max, IntKind.signed, IntKind.bits] at h
  omega
theorem wf_bounds64 {n : Int} (h : (Lit.int .u64 n).wf = true) : 0 ≤ n ∧ n ≤ 18446744073709551615 := by
  simp [Lit.wf, IntKind.min, IntKind.max, IntKind.signed, IntKind.bits] at h
  omega
theorem wf_boundsi {n : Int} (h : (Lit.int .i64 n).wf = true) : -9223372036854775808 ≤ n ∧ n ≤ 9223372036854775807 := by
  simp [Lit.wf, IntKind.min, IntKind.max, IntKind.signed, IntKind.bits] at h
  omega
theorem wf_bounds8 {n : Int} (h : (Lit.int .u8 n).wf = true) : 0 ≤ n ∧ n ≤ 255 := by
  simp [Lit.wf, IntKind.min, IntKind.max, IntKind.signed, IntKind.bits] at h
  omega

theorem rd_of {w : World} {x : Addr} {len cap : Nat} {zs : List Int} (hl : len ≤ cap) (hm : cap ≤ maxLen) (hz : zs.length = cap) (hc : ∀ i, i < zs.length → w.cell? (x.add i) = some (.int .u32 (zs.getD i 0))) (hw : ∀ n ∈ zs, (Lit.int .u32 n).wf = true) :
    ∃ xs, xs.length = len ∧ Rd w (some x) cap xs := by
  refine ⟨(zs.take len).map Int.toNat, by simp; omega, ?_⟩
  have hlen : ((zs.take len).map Int.toNat).length = len := by simp; omega
  have ok : okl ((zs.take len).map Int.toNat) := by
    intro y hy
    obtain ⟨n, hn, rfl⟩ := List.mem_map.1 hy
    have := wf_bounds (hw n (List.mem_of_mem_take hn))
    omega
  have val_at : ∀ i, i < len → ((lim ((zs.take len).map Int.toNat) i : Nat) : Int) = zs.getD i 0 := by
    intro i hi
    have hi' : i < zs.length := by omega
    have hb := wf_bounds (hw zs[i] (List.getElem_mem hi'))
    unfold lim
    rw [List.getD_eq_getElem?_getD, List.getD_eq_getElem?_getD, List.getElem?_map, List.getElem?_take_of_lt hi, List.getElem?_eq_getElem hi']
    simp; omega
  unfold maxLen at hm
  refine ⟨ok, by omega, by omega, ?_⟩
  rcases Nat.eq_zero_or_pos cap with h0 | h0
  · exact .inl h0
  · right
    obtain ⟨b, o, sp⟩ := x
    have c0 := hc 0 (by omega)
    have hsp : sp = none := by simpa [Addr.add] using World.cell?_spot c0
    subst hsp
    refine ⟨b, o, rfl, ?_, fun i hi => ?_⟩
    · have := block_lt_of_cell c0
      rwa [add_addr] at this
    · rw [hlen] at hi
      rw [val_at i hi, ← add_addr]
      exact hc i (by omega)

/-- A slice parameter, opened. -/
theorem open_limbs {H : Type} {enc : TypeId × Value → H} {w : World} {a : Option Addr} {len cap : Nat} {d : DataW H} {p : List MemPlace}
    (h : DataW.Trod enc Tryz.prog w 0 (fun _ => true) true 25 (.slice a len cap) d p) :
    ∃ xs, xs.length = len ∧ Rd w a cap xs ∧ (cap = 0 ∨ ∃ e s, d = .slice e s ∧ e.length + s.length = cap) := by
  obtain ⟨fuel, hf⟩ := h
  rcases open_ints Tryz.underlying25 Tryz.underlying118 (by kernel_rfl) hf with ⟨hcs, _⟩ | ⟨x, l, c, zs, hcs, _, hl, hm, hz, hx, hcell, hwz⟩
  · simp [Value.cells] at hcs
    obtain ⟨rfl, rfl, rfl⟩ := hcs
    exact ⟨[], rfl, Rd.nil _ _, .inl rfl⟩
  · simp [Value.cells] at hcs
    obtain ⟨rfl, rfl, rfl⟩ := hcs
    have hz' : zs.length = cap := by simpa using hz
    obtain ⟨xs, hxl, hrd⟩ := rd_of hl hm hz' hcell hwz
    refine ⟨xs, hxl, hrd, .inr ⟨_, _, congrArg Prod.fst hx, ?_⟩⟩
    simp [lits]; omega
end Go.Proofs.YtfacndibfkamgaaGreat

/-
  What the bound of the second form gives: each slice of limbs has at most 1048576 places.
-/
namespace Go.Proofs.YtfacndibfkamgaaGreat
set_option linter.unusedVariables false

theorem bulk_pos {H : Type} (d : DataW H) : 0 < Rows.uptoBulk d := by
  cases d with
  | lit l => cases l <;> simp [Rows.uptoBulk]
  | _ => simp [Rows.uptoBulk]
theorem bulk_len {H : Type} (l : List (DataW H)) : l.length ≤ Rows.uptoBulkAll l := by
  induction l with
  | nil => exact Nat.zero_le _
  | cons d l ih =>
    rw [Rows.uptoBulkAll, List.length_cons]
    have := bulk_pos d
    omega
theorem bulk_slice {H : Type} (e s : List (DataW H)) : e.length + s.length ≤ Rows.uptoBulk (.slice e s) := by
  rw [Rows.uptoBulk]
  have h1 := bulk_len e
  have h2 := bulk_len s
  omega
theorem bulk_mem {H : Type} {d : DataW H} {l : List (DataW H)} (h : d ∈ l) : Rows.uptoBulk d ≤ Rows.uptoBulkAll l := by
  induction l with
  | nil => cases h
  | cons x l ih =>
    rw [Rows.uptoBulkAll]
    rcases List.mem_cons.1 h with rfl | h
    · omega
    · have := ih h; omega
theorem small_slice {H : Type} {l : List (DataW H)} (hk : Rows.uptoSmall H l = true) {e s : List (DataW H)} (h : DataW.slice e s ∈ l) : e.length + s.length ≤ 1048576 := by
  have h1 : Rows.uptoBulkAll l ≤ 1048576 := of_decide_eq_true hk
  have h2 := bulk_mem h
  have h3 := bulk_slice e s
  omega
end Go.Proofs.YtfacndibfkamgaaGreat

/-
  What a statement's inputs give: an integer that came in is a sign and a slice of limbs that reads as a list of numbers below 2^32.
-/
namespace Go.Proofs.YtfacndibfkamgaaGreat
open Go.ChangeShapes Go.WideShapes Go.ChangeAt Go.RowKit Go.Joins
set_option linter.unusedVariables false

theorem wf_bounds32 {n : Int} (h : (Lit.int .i32 n).wf = true) : -2147483648 ≤ n ∧ n ≤ 2147483647 := by
  simp [Lit.wf, IntKind.min, IntKind.max, IntKind.signed, IntKind.bits] at h
  omega
set_option maxRecDepth 100000 in
/-- An integer parameter, opened. -/
theorem open_zint {H : Type} {enc : TypeId × Value → H} {w : World} {r : Reach} {b0 : Nat} {v : Value} {d : DataW H} {p : List MemPlace}
    (hv : Value.okWide Tryz.prog w r b0 27 v) (h : DataW.Trod enc Tryz.prog w 0 (fun _ => true) true 27 v d p) :
    ∃ (s : Bool) (a : Option Addr) (len cap : Nat) (xs : List Nat) (dl : DataW H), v = .agg #[.bool s, .slice a len cap] ∧ xs.length = len ∧ Rd w a cap xs ∧ d = .agg [.lit (.bool s), dl] ∧ (cap = 0 ∨ ∃ e sp, dl = .slice e sp ∧ e.length + sp.length = cap) := by
  obtain ⟨v0, v1, y0, y1, n, rfl, rfl, rfl, h0, h1⟩ := open_agg2 Tryz.underlying27 (by kernel_rfl) (by kernel_rfl) hv h
  obtain ⟨s, e0, e1⟩ := DataW.trod_bool Tryz.underlying4 h0
  simp only [List.cons.injEq, and_true] at e0
  subst e0
  have e1' : y0.1 = .lit (.bool s) := by rw [e1]
  rcases open_ints Tryz.underlying25 Tryz.underlying118 (by kernel_rfl) h1 with ⟨hcs, _⟩ | ⟨x, l, c, zs, hcs, _, hl, hm, hz, hx, hcell, hwz⟩
  · simp only [List.cons.injEq, and_true] at hcs
    subst hcs
    exact ⟨s, none, 0, 0, [], y1.1, rfl, rfl, Rd.nil _ _, by rw [e1'], .inl rfl⟩
  · simp only [List.cons.injEq, and_true] at hcs
    subst hcs
    have hz' : zs.length = c := by simpa using hz
    obtain ⟨xs, hxl, hrd⟩ := rd_of hl hm hz' hcell hwz
    refine ⟨s, some x, l, c, xs, y1.1, rfl, hxl, hrd, by rw [e1'], .inr ⟨_, _, congrArg Prod.fst hx, ?_⟩⟩
    simp [lits]; omega
theorem zin_of {w : World} {s : Bool} {a : Option Addr} {len cap : Nat} {xs : List Nat} (hl : xs.length = len) (h : Rd w a cap xs) : ∃ z, Zin w s a len cap z := ⟨_, xs, h, hl, rfl⟩
/-- An integer in place j takes at most the form's reach. -/
theorem sized_zint {H : Type} {ts : List TypeId} {ds : List (DataW H)} {s : Bool} {e sp : List (DataW H)} (h : (DataW.weightsEach Tryz.prog ts ds).all (· ≤ reachBytes) = true) {j : Nat} (ht : ts[j]? = some 27) (hd : ds[j]? = some (.agg [.lit (.bool s), .slice e sp])) :
    e.length + sp.length ≤ 35184372087808 := by
  have := List.all_eq_true.1 h _ (DataW.weights_mem_each ht hd ((e.length + sp.length) * Tryz.prog.bytesOf 118) (by simp [DataW.weights, DataW.weightsEach, Tryz.underlying27, Tryz.underlying25]))
  rw [bytes_limb] at this
  have h2 : (e.length + sp.length) * 4 ≤ 140737488351232 := of_decide_eq_true this
  omega
end Go.Proofs.YtfacndibfkamgaaGreat
