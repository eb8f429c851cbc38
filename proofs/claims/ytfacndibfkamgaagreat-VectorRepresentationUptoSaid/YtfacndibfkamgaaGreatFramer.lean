/-
  What a statement's inputs give: a rational number that came in is a sign and two slices of limbs; by the second form's bound each has at most 1048576.
-/
import Derived.Test.YtfacndibfkamgaaGreatBulkz
import Derived.Test.YtfacndibfkamgaaGreatRat
namespace Go.Proofs.YtfacndibfkamgaaGreat
open Go.ChangeShapes Go.WideShapes Go.ChangeAt Go.RowKit Go.Joins
set_option linter.unusedVariables false

theorem wf_boundsu {n : Int} (h : (Lit.int .u32 n).wf = true) : 0 ≤ n ∧ n < 4294967296 := by
  have := wf_bounds h
  omega
set_option maxRecDepth 100000 in
/-- A slice of limbs in a field. -/
theorem open_part {H : Type} {enc : TypeId × Value → H} {w : World} {c1 : Value} {y1 : DataW H × List MemPlace} {n : Nat}
    (h1 : DataW.trod enc Tryz.prog w 0 (fun _ => true) true n 25 [c1] = some y1) :
    ∃ (a : Option Addr) (len cap : Nat) (xs : List Nat), c1 = .slice a len cap ∧ xs.length = len ∧ Rd w a cap xs ∧ (cap = 0 ∨ ∃ e sp, y1.1 = .slice e sp ∧ e.length + sp.length = cap) := by
  rcases open_ints Tryz.underlying25 Tryz.underlying118 (by kernel_rfl) h1 with ⟨hcs, _⟩ | ⟨x, l, c, zs, hcs, _, hl, hm, hz, hx, hcell, hwz⟩
  · simp only [List.cons.injEq, and_true] at hcs
    subst hcs
    exact ⟨none, 0, 0, [], rfl, rfl, Rd.nil _ _, .inl rfl⟩
  · simp only [List.cons.injEq, and_true] at hcs
    subst hcs
    have hz' : zs.length = c := by simpa using hz
    obtain ⟨xs, hxl, hrd⟩ := rd_of hl hm hz' hcell hwz
    refine ⟨some x, l, c, xs, rfl, hxl, hrd, .inr ⟨_, _, congrArg Prod.fst hx, ?_⟩⟩
    simp [lits]; omega
set_option maxRecDepth 100000 in
/-- A rational parameter, opened. -/
theorem open_zrat {H : Type} {enc : TypeId × Value → H} {w : World} {r : Reach} {b0 : Nat} {v : Value} {d : DataW H} {p : List MemPlace}
    (hv : Value.okWide Tryz.prog w r b0 29 v) (h : DataW.Trod enc Tryz.prog w 0 (fun _ => true) true 29 v d p) :
    ∃ (s : Bool) (a : Option Addr) (len cap : Nat) (xs : List Nat) (dl : DataW H) (b : Option Addr) (m k : Nat) (ys : List Nat) (el : DataW H), v = .agg #[.bool s, .slice a len cap, .slice b m k] ∧ xs.length = len ∧ Rd w a cap xs ∧ ys.length = m ∧ Rd w b k ys ∧ d = .agg [.agg [.lit (.bool s), dl], el] ∧
      (cap = 0 ∨ ∃ e sp, dl = .slice e sp ∧ e.length + sp.length = cap) ∧ (k = 0 ∨ ∃ e sp, el = .slice e sp ∧ e.length + sp.length = k) := by
  have hC : Tryz.prog.cellsOf 29 = 3 := by kernel_rfl
  have hCi : Tryz.prog.cellsOf 27 = 2 := by kernel_rfl
  have hCs : Tryz.prog.cellsOf 25 = 1 := by kernel_rfl
  have hCb : Tryz.prog.cellsOf 4 = 1 := by kernel_rfl
  obtain ⟨cs, rfl, hsz⟩ := okWide_struct Tryz.underlying29 hv
  obtain ⟨c0, c1, c2, rfl⟩ := array3 (hsz.trans hC)
  obtain ⟨fuel, hf⟩ := h
  obtain ⟨y0, y1, n, hx, _, h0, h1⟩ := trod_struct2 Tryz.underlying29 hf
  simp only [Prod.mk.injEq] at hx
  simp only [Value.cells, hCi, hCs, List.drop_zero, List.take_succ_cons, List.take_zero, List.drop_succ_cons] at h0 h1
  obtain ⟨u0, u1, n', hx', _, g0, g1⟩ := trod_struct2 Tryz.underlying27 h0
  simp only [hCb, hCs, List.drop_zero, List.take_succ_cons, List.take_zero, List.drop_succ_cons] at g0 g1
  obtain ⟨s, e0, e1⟩ := DataW.trod_bool Tryz.underlying4 g0
  simp only [List.cons.injEq, and_true] at e0
  subst e0
  obtain ⟨a, len, cap, xs, rfl, hl, hr, hs⟩ := open_part g1
  obtain ⟨b, m, k, ys, rfl, hl2, hr2, hs2⟩ := open_part h1
  have e1' : u0.1 = .lit (.bool s) := by rw [e1]
  have e2 : y0.1 = .agg [.lit (.bool s), u1.1] := by rw [hx', ← e1']
  exact ⟨s, a, len, cap, xs, u1.1, b, m, k, ys, y1.1, rfl, hl, hr, hl2, hr2, by rw [hx.1, e2], hs, hs2⟩
theorem nin_of {w : World} {b : Option Addr} {m k : Nat} {ys : List Nat} (hl : ys.length = m) (h : Rd w b k ys) : ∃ q, Nin w b m k q := ⟨_, ys, h, hl, rfl⟩
theorem small_zrat {H : Type} {l : List (DataW H)} (hk : Rows.uptoSmall H l = true) {b : Bool} {dl el : DataW H} (h : DataW.agg [.agg [.lit (.bool b), dl], el] ∈ l) : Rows.uptoBulk dl ≤ 1048576 ∧ Rows.uptoBulk el ≤ 1048576 := by
  have h1 : Rows.uptoBulkAll l ≤ 1048576 := of_decide_eq_true hk
  have h2 := bulk_mem h
  have h3 := bulk_agg [.agg [.lit (.bool b), dl], el]
  have h4 := bulk_mem (d := el) (l := [.agg [.lit (.bool b), dl], el]) (by simp)
  have h5 := bulk_mem (d := .agg [.lit (.bool b), dl]) (l := [.agg [.lit (.bool b), dl], el]) (by simp)
  have h6 := bulk_agg [.lit (.bool b), dl]
  have h7 := bulk_mem (d := dl) (l := [.lit (.bool b), dl]) (by simp)
  omega
theorem part_small {H : Type} {w : World} {a : Option Addr} {len cap : Nat} {xs : List Nat} {dl : DataW H} (hb : Rows.uptoBulk dl ≤ 1048576) (hl : xs.length = len) (h : Rd w a cap xs) (hs : cap = 0 ∨ ∃ e sp, dl = .slice e sp ∧ e.length + sp.length = cap) : len ≤ 1048576 := by
  have := h.len
  rcases hs with h | ⟨e, s, rfl, hl⟩
  · omega
  · have := bulk_slice e s
    omega
end Go.Proofs.YtfacndibfkamgaaGreat
