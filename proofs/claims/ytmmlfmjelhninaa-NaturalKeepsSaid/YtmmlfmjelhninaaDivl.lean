/-
  Contract of natural.divideByLimb.
-/
import Derived.Test.YtmmlfmjelhninaaSub
namespace Go.Proofs.Ytmmlfmjelhninaa
open Go.RowKit
set_option linter.unusedVariables false

theorem or64' {a b : Nat} (ha : a < 4294967296) (hb : b < 4294967296) : bits .or .u64 ((b : Int) * 4294967296) (a : Int) = ((a + 4294967296 * b : Nat) : Int) := by
  have e : (b : Int) * 4294967296 = ((b * 4294967296 : Nat) : Int) := by omega
  rw [e, u64_or_nat (b * 4294967296) a (by omega) (by omega), Nat.or_comm, or_low32 ha]

def DlInv (w : World) (us : List Nat) (d k rest : Nat) (wr : World) : Prop :=
  ∃ zs, Row wr w.heap.size zs ∧ zs.length = us.length ∧ okl zs ∧ val (us.drop (us.length - k)) = val (zs.drop (us.length - k)) * d + rest ∧ Below w.heap.size w wr

theorem dl_step {w wr : World} {us zs : List Nat} {d k rest a : Nat} (hk : k < us.length) (ha : a = us.length - 1 - k) (hu : okl us) (hd : 0 < d) (hr : Row wr w.heap.size zs) (hzl : zs.length = us.length) (hz : okl zs)
    (he : val (us.drop (us.length - k)) = val (zs.drop (us.length - k)) * d + rest) (hrd : rest < d) (hb : Below w.heap.size w wr) (z : Int) (hzz : z = ((lim us a + 4294967296 * rest) / d : Nat)) :
    DlInv w us d (k + 1) ((lim us a + 4294967296 * rest) % d) (wr.setCell ⟨w.heap.size, a, none⟩ (.int .u32 z)) ∧ (lim us a + 4294967296 * rest) / d < 4294967296 := by
  subst hzz
  have hlt := lim_lt hu a
  have hq : (lim us a + 4294967296 * rest) / d < 4294967296 := by
    rw [Nat.div_lt_iff_lt_mul hd]; omega
  refine ⟨⟨zs.set a ((lim us a + 4294967296 * rest) / d), hr.set_ _ _, by simpa using hzl, okl_set hz hq _, ?_, hb.setCell (Nat.le_refl _) _⟩, hq⟩
  have e1 : us.length - (k + 1) = a := by omega
  have e2 : us.length - k = a + 1 := by omega
  rw [e2] at he
  rw [e1, val_drop_succ us a, val_drop_succ (zs.set a _) a, lim_set_same (by omega), List.drop_set_of_lt (by omega), he]
  have e := Nat.div_add_mod (lim us a + 4294967296 * rest) d
  generalize (lim us a + 4294967296 * rest) / d = q at *
  generalize (lim us a + 4294967296 * rest) % d = r at *
  generalize val (List.drop (a + 1) zs) = v at *
  grind

theorem wrapq {V d : Nat} (h : V / d < 4294967296) : IntKind.u64.wrap ((V : Int) / (d : Int)) % 4294967296 = ((V / d : Nat) : Int) := by
  rw [IntKind.wrap_u64, ← Int.natCast_ediv]
  generalize V / d = q at *
  omega
/-- Quotient and remainder, each a row of the call's own. -/
def DivlPost (w : World) (us : List Nat) (d : Nat) (e : Ending) (w' : World) : Prop :=
  ∃ g g' zs, e = .returned (.tuple #[.slice (some ⟨g, 0, none⟩) us.length us.length, .slice (some ⟨g', 0, none⟩) 1 1]) ∧
      w.heap.size ≤ g ∧ w.heap.size ≤ g' ∧ Row w' g zs ∧ zs.length = us.length ∧ okl zs ∧ val zs = val us / d ∧ Row w' g' [val us % d] ∧ Below w.heap.size w w'

set_option maxHeartbeats 1000000 in
theorem divl_any (A : Option Addr) (cap : Nat) (us : List Nat) (d : Nat) (w : World) (h : Rd w A cap us) (hn : us.length ≤ 70368744177663) (hd0 : 0 < d) (hd1 : d < 4294967296) :
    Calls Try.prog 47 #[.slice A us.length cap, .int .u32 (d : Int)] w (DivlPost w us d) := by
  have X := Lib.hid h
  have hl := h.len
  have hc := h.capLe
  clear h
  go_enter Try.func47, Try.ntmps47
  go_wp2_with (at_make; refine make_row rfl _ _ rfl _ _ us.length rfl rfl rfl rfl (by omega) ?_)
  intro w1 hrow hbel
  go_wp2
  go_loopw [6, 14] (fun r i wr => ∃ k rest : Nat, k ≤ us.length ∧ i = .int .i64 k ∧ r = .int .u64 rest ∧ rest < d ∧ DlInv w us d k rest wr) (fun _ i _ => us.length - (intOf i).toNat)
  case atStart => exact ⟨0, 0, Nat.zero_le _, rfl, rfl, hd0, _, hrow, by simp, okl_replicate _, by simp [val_nil], hbel⟩
  case round =>
    clear hrow hbel
    obtain ⟨k, rest, hk, rfl, rfl, hrd, inv⟩ := hrel
    obtain ⟨zs, hrow, hzl, hzo, heq, hbel⟩ := inv
    have HE := Lib.hid heq
    have HZ := Lib.hid hzl
    have HR := Lib.hid hrow
    have HB := Lib.hid hbel
    clear heq hzl hrow
    by_cases hlt : k < us.length
    · have X1 := X.out.keep (Nat.le_refl _) hbel
      obtain ⟨a, ha⟩ : ∃ a, a = us.length - 1 - k := ⟨_, rfl⟩
      obtain ⟨b, o, hA, hb, hc'⟩ := X1.at_ hlt
      have c1 := hc' a (by omega)
      have hfz := HR.out.frozen a
      have hcw := HR.out.cell (i := a) (by have := HZ.out; omega)
      have b1 := lim_lt X1.ok a
      have eor := or64' b1 (show rest < 4294967296 by omega)
      have step := Lib.hid (dl_step hlt ha X1.ok hd0 HR.out HZ.out hzo HE.out hrd hbel)
      have hk' : k = us.length - 1 - a := by omega
      have ha' : a < us.length := by omega
      subst hA
      have hq := (step.out _ rfl).2
      have ea : (us.length : Int) - 1 - k = a := by omega
      clear hc' hbel X1 ha hk'
      have V1 : lim us a + 4294967296 * rest ≤ 18446744073709551615 := by omega
      generalize hV : lim us a + 4294967296 * rest = V at *
      have HV := Lib.hid hV
      clear hV
      go_wp2
      go_roundw
      case rel =>
        rw [wrapq hq]
        have st := (step.out _ rfl).1
        exact ⟨k + 1, V % d, by omega, by go_num, by simp, Nat.mod_lt _ hd0, st⟩
      case measure => simp [intOf]; omega
    · obtain rfl : k = us.length := by omega
      have e := HE.out
      have hZ := HZ.out
      rw [Nat.sub_self, List.drop_zero, List.drop_zero] at e
      have hrow := HR.out
      have hq : val zs = val us / d := by
        rw [e, Nat.mul_comm, Nat.mul_add_div hd0, Nat.div_eq_of_lt hrd]; omega
      have hr : rest = val us % d := by
        rw [e, Nat.mul_comm, Nat.mul_add_mod, Nat.mod_eq_of_lt hrd]
      have hr32 : rest < 4294967296 := by omega
      have FIN : Hid (DivlPost w us d (.returned (.tuple #[.slice (some ⟨w.heap.size, 0, none⟩) us.length us.length, .slice (some ⟨wr.heap.size, 0, none⟩) 1 1])) (wr.alloc (.cells #[.int .u32 (rest : Int)] 42))) := by
        refine ⟨w.heap.size, wr.heap.size, zs, rfl, Nat.le_refl _, HB.out.size, hrow.alloc _, hZ, hzo, hq, ?_, HB.out.alloc HB.out.size _⟩
        rw [← hr]
        exact heap_alloc_new wr _
      clear hbel e hZ hrow hq hr hk hlt
      go_wp2
      go_ret2
      exact FIN.out
theorem divl_n {A : Option Addr} {cap n : Nat} {us : List Nat} {w : World} (h : Rd w A cap us) (hl : us.length = n) (d : Nat) (hn : n ≤ 70368744177663) (hd0 : 0 < d) (hd1 : d < 4294967296) :
    Calls Try.prog 47 #[.slice A n cap, .int .u32 (d : Int)] w (DivlPost w us d) := by
  subst hl; exact divl_any A cap us d w h hn hd0 hd1
end Go.Proofs.Ytmmlfmjelhninaa
