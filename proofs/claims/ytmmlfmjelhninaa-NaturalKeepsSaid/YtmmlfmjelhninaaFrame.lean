/-
  What a statement's inputs give: a slice of limbs that came in reads as a list of numbers below 2^32, and takes at most the form's reach.
-/
import Derived.Test.YtmmlfmjelhninaaMem
import Derived.ProofKit
import Derived.OpenShut
import Derived.ShutString
import Derived.ChangeOld
import Derived.SizedLaws
namespace Go.Proofs.Ytmmlfmjelhninaa
open Go.ChangeShapes Go.WideShapes Go.ChangeAt Go.RowKit
set_option linter.unusedVariables false

theorem own_knob : ownKnob Try.prog.godebug = none := by kernel_rfl
theorem laid_out : laidOutB Try.prog = true := by kernel_rfl
theorem bytes_limb : Try.prog.bytesOf 42 = 4 := by kernel_rfl

theorem wf_bounds {n : Int} (h : (Lit.int .u32 n).wf = true) : 0 ≤ n ∧ n ≤ 4294967295 := by
  simp [Lit.wf, IntKind.min, IntKind.max, IntKind.signed, IntKind.bits] at h
  omega
theorem wf_bounds64 {n : Int} (h : (Lit.int .u64 n).wf = true) : 0 ≤ n ∧ n ≤ 18446744073709551615 := by
  simp [Lit.wf, IntKind.min, IntKind.max, IntKind.signed, IntKind.bits] at h
  omega
theorem wf_boundsi {n : Int} (h : (Lit.int .i64 n).wf = true) : -9223372036854775808 ≤ n ∧ n ≤ 9223372036854775807 := by
  simp [Lit.wf, IntKind.min, IntKind.max, IntKind.signed, IntKind.bits] at h
  omega
theorem wf_bounds8 {n : Int} (h : (Lit.int .u8 n).wf = true) : 0 ≤ n ∧ n ≤ 255 := by
  simp [Lit.wf, IntKind.min, IntKind.max, IntKind.signed, IntKind.bits] at h
  omega

theorem rd_of {w : World} {x : Addr} {len cap : Nat} {zs : List Int} (hl : len ≤ cap) (hm : cap ≤ maxLen) (hz : zs.length = cap) (hc : ∀ i, i < zs.length → w.cell? (x.add i) = some (.int .u32 (zs.getD i 0))) (hw : ∀ n ∈ zs, (Lit.int .u32 n).wf = true) :
    ∃ xs, xs.length = len ∧ Rd w (some x) cap xs := by
  refine ⟨(zs.take len).map Int.toNat, by simp; omega, ?_⟩
  have hlen : ((zs.take len).map Int.toNat).length = len := by simp; omega
  have ok : okl ((zs.take len).map Int.toNat) := by
    intro y hy
    obtain ⟨n, hn, rfl⟩ := List.mem_map.1 hy
    have := wf_bounds (hw n (List.mem_of_mem_take hn))
    omega
  have val_at : ∀ i, i < len → ((lim ((zs.take len).map Int.toNat) i : Nat) : Int) = zs.getD i 0 := by
    intro i hi
    have hi' : i < zs.length := by omega
    have hb := wf_bounds (hw zs[i] (List.getElem_mem hi'))
    unfold lim
    rw [List.getD_eq_getElem?_getD, List.getD_eq_getElem?_getD, List.getElem?_map, List.getElem?_take_of_lt hi, List.getElem?_eq_getElem hi']
    simp; omega
  unfold maxLen at hm
  refine ⟨ok, by omega, by omega, ?_⟩
  rcases Nat.eq_zero_or_pos cap with h0 | h0
  · exact .inl h0
  · right
    obtain ⟨b, o, sp⟩ := x
    have c0 := hc 0 (by omega)
    have hsp : sp = none := by simpa [Addr.add] using World.cell?_spot c0
    subst hsp
    refine ⟨b, o, rfl, ?_, fun i hi => ?_⟩
    · have := block_lt_of_cell c0
      rwa [add_addr] at this
    · rw [hlen] at hi
      rw [val_at i hi, ← add_addr]
      exact hc i (by omega)

/-- A slice parameter, opened. -/
theorem open_limbs {H : Type} {enc : TypeId × Value → H} {w : World} {a : Option Addr} {len cap : Nat} {d : DataW H} {p : List MemPlace}
    (h : DataW.Trod enc Try.prog w 0 (fun _ => true) true 22 (.slice a len cap) d p) :
    ∃ xs, xs.length = len ∧ Rd w a cap xs ∧ (cap = 0 ∨ ∃ e s, d = .slice e s ∧ e.length + s.length = cap) := by
  obtain ⟨fuel, hf⟩ := h
  rcases open_ints Try.underlying22 Try.underlying42 (by kernel_rfl) hf with ⟨hcs, _⟩ | ⟨x, l, c, zs, hcs, _, hl, hm, hz, hx, hcell, hwz⟩
  · simp [Value.cells] at hcs
    obtain ⟨rfl, rfl, rfl⟩ := hcs
    exact ⟨[], rfl, Rd.nil _ _, .inl rfl⟩
  · simp [Value.cells] at hcs
    obtain ⟨rfl, rfl, rfl⟩ := hcs
    have hz' : zs.length = cap := by simpa using hz
    obtain ⟨xs, hxl, hrd⟩ := rd_of hl hm hz' hcell hwz
    refine ⟨xs, hxl, hrd, .inr ⟨_, _, congrArg Prod.fst hx, ?_⟩⟩
    simp [lits]; omega
end Go.Proofs.Ytmmlfmjelhninaa
