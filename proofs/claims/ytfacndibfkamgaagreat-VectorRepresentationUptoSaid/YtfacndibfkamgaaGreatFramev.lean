/-
  A list of entries that came in, opened.
-/
import Derived.Test.YtfacndibfkamgaaGreatKA
import Derived.Test.YtfacndibfkamgaaGreatFramer
import Derived.Deep.Slices
namespace Go.Proofs.YtfacndibfkamgaaGreat
open Go.ChangeShapes Go.WideShapes Go.ChangeAt Go.RowKit Go.Deep
set_option linter.unusedVariables false

theorem bulk_all_slice {H : Type} (e s : List (DataW H)) : Rows.uptoBulkAll e ≤ Rows.uptoBulk (.slice e s) := by
  rw [Rows.uptoBulk]
  omega
set_option maxRecDepth 100000 in
theorem open_ent {H : Type} {enc : TypeId × Value → H} {w : World} {n : Nat} {cs : List Value} {x : DataW H × List MemPlace} (hl : cs.length = 4)
    (h : DataW.trod enc Tryz.prog w 0 (fun _ => true) true n 58 cs = some x) : ∃ r : Int × Nt, cs = encE r ∧ (-9223372036854775808 ≤ r.1 ∧ r.1 ≤ 9223372036854775807) ∧ Nok w r.2 (Rows.uptoBulk x.1) := by
  have hC : Tryz.prog.cellsOf 29 = 3 := by kernel_rfl
  have hCi : Tryz.prog.cellsOf 27 = 2 := by kernel_rfl
  have hCs : Tryz.prog.cellsOf 25 = 1 := by kernel_rfl
  have hCb : Tryz.prog.cellsOf 4 = 1 := by kernel_rfl
  have hCn : Tryz.prog.cellsOf 3 = 1 := by kernel_rfl
  obtain ⟨c0, c1, c2, c3, rfl⟩ : ∃ c0 c1 c2 c3, cs = [c0, c1, c2, c3] := by
    match cs, hl with
    | [c0, c1, c2, c3], _ => exact ⟨c0, c1, c2, c3, rfl⟩
  obtain ⟨z0, z1, n1, hz, _, k0, k1⟩ := trod_struct2 Tryz.underlying58 h
  simp only [hCn, hC, List.drop_zero, List.take_succ_cons, List.take_zero, List.drop_succ_cons] at k0 k1
  obtain ⟨i, i0, i1, i2⟩ := DataW.trod_int Tryz.underlying3 k0
  simp only [List.cons.injEq, and_true] at i0
  subst i0
  obtain ⟨y0, y1, n2, hx, _, h0, h1⟩ := trod_struct2 Tryz.underlying29 k1
  simp only [hCi, hCs, List.drop_zero, List.take_succ_cons, List.take_zero, List.drop_succ_cons] at h0 h1
  obtain ⟨u0, u1, n', hx', _, g0, g1⟩ := trod_struct2 Tryz.underlying27 h0
  simp only [hCb, hCs, List.drop_zero, List.take_succ_cons, List.take_zero, List.drop_succ_cons] at g0 g1
  obtain ⟨s, e0, e1⟩ := DataW.trod_bool Tryz.underlying4 g0
  simp only [List.cons.injEq, and_true] at e0
  subst e0
  obtain ⟨a, len, cap, xs, rfl, hl1, hr, hs⟩ := open_part g1
  obtain ⟨b, m, k, ys, rfl, hl2, hr2, hs2⟩ := open_part h1
  obtain ⟨zz, hzz⟩ := zin_of (s := s) hl1 hr
  obtain ⟨q, hq⟩ := nin_of hl2 hr2
  have b1 : Rows.uptoBulk u1.1 ≤ Rows.uptoBulk y0.1 := by
    rw [hx']
    exact Nat.le_trans (bulk_mem (by simp)) (bulk_agg [u0.1, u1.1])
  have b2 : Rows.uptoBulk y0.1 ≤ Rows.uptoBulk z1.1 ∧ Rows.uptoBulk y1.1 ≤ Rows.uptoBulk z1.1 := by
    rw [hx]
    exact ⟨Nat.le_trans (bulk_mem (by simp)) (bulk_agg [y0.1, y1.1]), Nat.le_trans (bulk_mem (by simp)) (bulk_agg [y0.1, y1.1])⟩
  have b3 : Rows.uptoBulk z1.1 ≤ Rows.uptoBulk x.1 := by
    rw [hz]
    exact Nat.le_trans (bulk_mem (by simp)) (bulk_agg [z0.1, z1.1])
  refine ⟨(i, ⟨s, a, len, cap, b, m, k, zz, q⟩), rfl, wf_boundsi i2, hzz, hq, ?_, ?_⟩
  · have := hr.len
    rcases hs with h | ⟨e, s', hd, hl⟩
    · show len ≤ _; omega
    · have := bulk_slice e s'
      rw [← hd] at this
      show len ≤ _; omega
  · have := hr2.len
    rcases hs2 with h | ⟨e, s', hd, hl⟩
    · show m ≤ _; omega
    · have := bulk_slice e s'
      rw [← hd] at this
      show m ≤ _; omega
theorem open_ents {H : Type} {enc : TypeId × Value → H} {w : World} {a : Option Addr} {len cap : Nat} {d : DataW H} {p : List MemPlace}
    (h : DataW.Trod enc Tryz.prog w 0 (fun _ => true) true 23 (.slice a len cap) d p) : ∃ rs : List (Int × Nt), rs.length = len ∧ Sl encE 4 w a cap rs ∧ ∀ r ∈ rs, (-9223372036854775808 ≤ r.1 ∧ r.1 ≤ 9223372036854775807) ∧ Nok w r.2 (Rows.uptoBulk d) := by
  have hCe : Tryz.prog.cellsOf 58 = 4 := by kernel_rfl
  obtain ⟨fuel, hf⟩ := h
  rcases open_slice Tryz.underlying23 hf with ⟨hcs, _⟩ | ⟨ad, l, c, m, n, D, Pl, hcs, _, hl, hm, hmm, hx, hel⟩
  · simp [Value.cells] at hcs
    obtain ⟨rfl, rfl, rfl⟩ := hcs
    exact ⟨[], rfl, Sl.nil w, fun r hr => by cases hr⟩
  · simp [Value.cells] at hcs
    obtain ⟨rfl, rfl, rfl⟩ := hcs
    have hmc : m = cap := by simpa using hmm
    subst hmc
    have hb : ∀ i, i < len → Rows.uptoBulk (D i) ≤ Rows.uptoBulk d := fun i hi => by
      have e : d = .slice ((List.range len).map D) ((List.range (m - len)).map fun j => D (len + j)) := congrArg Prod.fst hx
      rw [e]
      exact Nat.le_trans (bulk_mem (List.mem_map.2 ⟨i, List.mem_range.2 hi, rfl⟩)) (bulk_all_slice _ _)
    have each : ∀ i, i < len → ∃ r : Int × Nt, (∀ j v, (encE r)[j]? = some v → w.cell? (ad.add (i * 4 + j)) = some v) ∧ (-9223372036854775808 ≤ r.1 ∧ r.1 ≤ 9223372036854775807) ∧ Nok w r.2 (Rows.uptoBulk d) := fun i hi => by
      obtain ⟨cs', h1, h2⟩ := hel i (by omega)
      rw [hCe] at h1
      obtain ⟨_, hlen, hcell⟩ := World.cells?_some h1
      obtain ⟨r, rfl, h3, h4⟩ := open_ent hlen h2
      refine ⟨r, fun j v hj => ?_, h3, h4.le (hb i hi)⟩
      have hjl : j < 4 := by have := (List.getElem?_eq_some_iff.1 hj).1; rwa [encE_len] at this
      have := hcell j hjl
      rw [add_add, hj] at this
      exact this
    obtain ⟨f, hf'⟩ := choose_lt each
    refine ⟨(List.range len).map f, by simp, ⟨by simpa using hl, by have : maxLen = 9223372036854775807 := rfl; omega, ?_⟩, fun r hr => ?_⟩
    · rcases Nat.eq_zero_or_pos len with h0 | h0
      · left; subst h0; rfl
      · right
        obtain ⟨b, o, sp⟩ := ad
        have c0 := (hf' 0 h0).1 0 _ rfl
        have hsp : sp = none := by simpa [Addr.add] using World.cell?_spot c0
        subst hsp
        refine ⟨b, o, rfl, ?_, fun j r hj i u hi => ?_⟩
        · have := block_lt_of_cell c0
          rwa [Addr.add_mid] at this
        · have hjl : j < len := by have := (List.getElem?_eq_some_iff.1 hj).1; simpa using this
          rw [List.getElem?_map, List.getElem?_range hjl] at hj
          simp only [Option.map_some, Option.some.injEq] at hj
          subst hj
          have := (hf' j hjl).1 i u hi
          rwa [Addr.add_mid, ← Nat.add_assoc] at this
    · obtain ⟨i, hi, rfl⟩ := List.mem_map.1 hr
      exact (hf' i (List.mem_range.1 hi)).2
end Go.Proofs.YtfacndibfkamgaaGreat
