/-
  No cell of these rows narrows 'for every input' (looked for: loops, veiled, ifaces, maps, wideKeys, modest, calm, conditions, laid).
  DERIVED. THE GIVEN ROWS OF THIS SEAT. 6 by the template 'for every input the law returns true; each argument reads behind the call as it read before'; 0 by the template 'total and deterministic' (their statements: YtfmgbfdnmconiaaGreatTotals.lean).
  GIVEN WITH THE SEED: the statements are not yours to turn. If you find one false, say at which input.
  Laid BY PROGRAM, IN A SANDBOX (cutbox-rows.mjs): the forced cells as the released guide's own fill.sh prints them over the translation c1869772bc72c42f… (all of the seat's roots in one cut). By AI agents, Wed Nov 11 2026. No macro, syntax, notation, axiom, sorry.
-/
import Derived.Test.YtfmgbfdnmconiaaGreatChecked
import GoSem.Claim
import GoSem.ClaimJoined
import GoSem.ClaimMapViews
import Derived.JoinedTies
import Derived.KernelRfl
namespace Go.Proofs.YtfmgbfdnmconiaaGreat
/- THE CELL 'sum', in the pinned program and in every row, IS THE sha256 OF THE DUMP (.gsa) THAT YtfmgbfdnmconiaaGreatProg.lean LOADS. Nothing in Lean hashes anything: it is a label: what it is worth is what the hold of that sum in a sandbox is worth. -/
noncomputable def Tryz.pinned : Pinned := { name := "ytfmgbfdnmconiaagreat", sum := "c1869772bc72c42ff45468979b94d8fa589283c6eb4113306974c99b0afbbcaa", checked := Tryz.checked }
namespace Rows
def none {H : Type} : Left H := { results := [], args := [] }

/-- 'gridmarketlaw05.ApproxRoundTrip': WHATEVER THE INPUT: true; the input reads as it did. -/
def approxRoundTripSpec : ChangeSpec := { name := "approxRoundTrip", fn := fun _ => fun
  | [d] => { results := [.lit (.bool true)], args := [d] }
  | _ => none }
def approxRoundTripRow : OpenClaim := { program := "ytfmgbfdnmconiaagreat", sum := "c1869772bc72c42ff45468979b94d8fa589283c6eb4113306974c99b0afbbcaa", func := "gridmarket/gridmarketlaw05.ApproxRoundTrip", spec := "approxRoundTrip", unfollowed := true, recurses := true, apart := false }
def ApproxRoundTripSaid : Prop := approxRoundTripRow.holds Tryz.pinned (OpenSpec.ofChange approxRoundTripSpec)

/-- ITS FALSE NEIGHBOUR: 'it returns false'. Refute it at one input. -/
def approxRoundTripWrong : ChangeSpec := { name := "approxRoundTrip", fn := fun _ => fun
  | [d] => { results := [.lit (.bool false)], args := [d] }
  | _ => none }
def ApproxRoundTripWrongFalsely : Prop := approxRoundTripRow.holds Tryz.pinned (OpenSpec.ofChange approxRoundTripWrong)

/-- 'gridmarketlaw05.ApproxSimplest': WHATEVER THE INPUT: true; the input reads as it did. -/
def approxSimplestSpec : ChangeSpec := { name := "approxSimplest", fn := fun _ => fun
  | [d] => { results := [.lit (.bool true)], args := [d] }
  | _ => none }
def approxSimplestRow : OpenClaim := { program := "ytfmgbfdnmconiaagreat", sum := "c1869772bc72c42ff45468979b94d8fa589283c6eb4113306974c99b0afbbcaa", func := "gridmarket/gridmarketlaw05.ApproxSimplest", spec := "approxSimplest", apart := false }
def ApproxSimplestSaid : Prop := approxSimplestRow.holds Tryz.pinned (OpenSpec.ofChange approxSimplestSpec)

/-- ITS FALSE NEIGHBOUR: 'it returns false'. Refute it at one input. -/
def approxSimplestWrong : ChangeSpec := { name := "approxSimplest", fn := fun _ => fun
  | [d] => { results := [.lit (.bool false)], args := [d] }
  | _ => none }
def ApproxSimplestWrongFalsely : Prop := approxSimplestRow.holds Tryz.pinned (OpenSpec.ofChange approxSimplestWrong)

/-- 'gridmarketlaw05.ApproxSimpler': WHATEVER THE INPUT: true; the input reads as it did. -/
def approxSimplerSpec : ChangeSpec := { name := "approxSimpler", fn := fun _ => fun
  | [d1, d2, d3] => { results := [.lit (.bool true)], args := [d1, d2, d3] }
  | _ => none }
def approxSimplerRow : OpenClaim := { program := "ytfmgbfdnmconiaagreat", sum := "c1869772bc72c42ff45468979b94d8fa589283c6eb4113306974c99b0afbbcaa", func := "gridmarket/gridmarketlaw05.ApproxSimpler", spec := "approxSimpler", apart := false }
def ApproxSimplerSaid : Prop := approxSimplerRow.holds Tryz.pinned (OpenSpec.ofChange approxSimplerSpec)

/-- ITS FALSE NEIGHBOUR: 'it returns false'. Refute it at one input. -/
def approxSimplerWrong : ChangeSpec := { name := "approxSimpler", fn := fun _ => fun
  | [d1, d2, d3] => { results := [.lit (.bool false)], args := [d1, d2, d3] }
  | _ => none }
def ApproxSimplerWrongFalsely : Prop := approxSimplerRow.holds Tryz.pinned (OpenSpec.ofChange approxSimplerWrong)

/-- 'gridmarketlaw05.ApproxEnclose': WHATEVER THE INPUT: true; the input reads as it did. -/
def approxEncloseSpec : ChangeSpec := { name := "approxEnclose", fn := fun _ => fun
  | [d1, d2, d3] => { results := [.lit (.bool true)], args := [d1, d2, d3] }
  | _ => none }
def approxEncloseRow : OpenClaim := { program := "ytfmgbfdnmconiaagreat", sum := "c1869772bc72c42ff45468979b94d8fa589283c6eb4113306974c99b0afbbcaa", func := "gridmarket/gridmarketlaw05.ApproxEnclose", spec := "approxEnclose", apart := false }
def ApproxEncloseSaid : Prop := approxEncloseRow.holds Tryz.pinned (OpenSpec.ofChange approxEncloseSpec)

/-- ITS FALSE NEIGHBOUR: 'it returns false'. Refute it at one input. -/
def approxEncloseWrong : ChangeSpec := { name := "approxEnclose", fn := fun _ => fun
  | [d1, d2, d3] => { results := [.lit (.bool false)], args := [d1, d2, d3] }
  | _ => none }
def ApproxEncloseWrongFalsely : Prop := approxEncloseRow.holds Tryz.pinned (OpenSpec.ofChange approxEncloseWrong)

/-- 'gridmarketlaw05.ApproxMonotone': WHATEVER THE INPUT: true; the input reads as it did. -/
def approxMonotoneSpec : ChangeSpec := { name := "approxMonotone", fn := fun _ => fun
  | [d1, d2, d3] => { results := [.lit (.bool true)], args := [d1, d2, d3] }
  | _ => none }
def approxMonotoneRow : OpenClaim := { program := "ytfmgbfdnmconiaagreat", sum := "c1869772bc72c42ff45468979b94d8fa589283c6eb4113306974c99b0afbbcaa", func := "gridmarket/gridmarketlaw05.ApproxMonotone", spec := "approxMonotone", apart := false }
def ApproxMonotoneSaid : Prop := approxMonotoneRow.holds Tryz.pinned (OpenSpec.ofChange approxMonotoneSpec)

/-- ITS FALSE NEIGHBOUR: 'it returns false'. Refute it at one input. -/
def approxMonotoneWrong : ChangeSpec := { name := "approxMonotone", fn := fun _ => fun
  | [d1, d2, d3] => { results := [.lit (.bool false)], args := [d1, d2, d3] }
  | _ => none }
def ApproxMonotoneWrongFalsely : Prop := approxMonotoneRow.holds Tryz.pinned (OpenSpec.ofChange approxMonotoneWrong)

/-- 'gridmarketlaw03.RationalKeeps': WHATEVER THE INPUT: true; the input reads as it did. -/
def rationalKeepsSpec : ChangeSpec := { name := "rationalKeeps", fn := fun _ => fun
  | [d1, d2] => { results := [.lit (.bool true)], args := [d1, d2] }
  | _ => none }
def rationalKeepsRow : OpenClaim := { program := "ytfmgbfdnmconiaagreat", sum := "c1869772bc72c42ff45468979b94d8fa589283c6eb4113306974c99b0afbbcaa", func := "gridmarket/gridmarketlaw03.RationalKeeps", spec := "rationalKeeps", recurses := true, apart := false }
def RationalKeepsSaid : Prop := rationalKeepsRow.holds Tryz.pinned (OpenSpec.ofChange rationalKeepsSpec)

/-- ITS FALSE NEIGHBOUR: 'it returns false'. Refute it at one input. -/
def rationalKeepsWrong : ChangeSpec := { name := "rationalKeeps", fn := fun _ => fun
  | [d1, d2] => { results := [.lit (.bool false)], args := [d1, d2] }
  | _ => none }
def RationalKeepsWrongFalsely : Prop := rationalKeepsRow.holds Tryz.pinned (OpenSpec.ofChange rationalKeepsWrong)

/- THE SECOND FORM. 'bulk': how many values and letters a reading holds, each counted each time it is reached (what is shared counts as often as it is met; a slice's spare places count too). A statement '..UptoSaid' is the law's where the arguments, and the package variables that the reading takes, are together of bulk at most 1048576: NARROWER than '..Said'. Prove '..Said' where nothing that the law and all that it calls make is longer than what came in: it says more and counts as full. Else prove '..UptoSaid'. A law counts once. -/
mutual
def uptoBulk {H : Type} : DataW H → Nat
  | .lit (.string bytes) => bytes.length + 1
  | .lit _ => 1
  | .nil => 1
  | .ptr d => uptoBulk d + 1
  | .slice elems spare => uptoBulkAll elems + uptoBulkAll spare + 1
  | .agg parts => uptoBulkAll parts + 1
  | .iface _ d => uptoBulk d + 1
  | .map entries => uptoBulkEntries entries + 1
  | .held _ => 1
def uptoBulkAll {H : Type} : List (DataW H) → Nat
  | [] => 0
  | d :: r => uptoBulk d + uptoBulkAll r
def uptoBulkEntries {H : Type} : List (Lit × DataW H) → Nat
  | [] => 0
  | x :: r => uptoBulkEntry x + uptoBulkEntries r
def uptoBulkEntry {H : Type} : Lit × DataW H → Nat
  | (.string bytes, d) => bytes.length + uptoBulk d + 1
  | (_, d) => uptoBulk d + 1
 end
def uptoSmall : (H : Type) → List (DataW H) → Bool := fun _ ds => decide (uptoBulkAll ds ≤ 1048576)
def OpenSpec.upto (s : _root_.Go.ChangeSpec) : _root_.Go.OpenSpec := { _root_.Go.OpenSpec.ofChange s with cond := some uptoSmall }

/-- 'gridmarketlaw05.ApproxRoundTrip', WHERE WHAT IT READS IS OF BULK AT MOST 1048576: true; the input reads as it did. -/
def approxRoundTripUptoRow : OpenClaim := { program := "ytfmgbfdnmconiaagreat", sum := "c1869772bc72c42ff45468979b94d8fa589283c6eb4113306974c99b0afbbcaa", func := "gridmarket/gridmarketlaw05.ApproxRoundTrip", spec := "approxRoundTrip", unfollowed := true, recurses := true, apart := false, narrowed := true }
def ApproxRoundTripUptoSaid : Prop := approxRoundTripUptoRow.holds Tryz.pinned (OpenSpec.upto approxRoundTripSpec)

/-- 'gridmarketlaw05.ApproxSimplest', WHERE WHAT IT READS IS OF BULK AT MOST 1048576: true; the input reads as it did. -/
def approxSimplestUptoRow : OpenClaim := { program := "ytfmgbfdnmconiaagreat", sum := "c1869772bc72c42ff45468979b94d8fa589283c6eb4113306974c99b0afbbcaa", func := "gridmarket/gridmarketlaw05.ApproxSimplest", spec := "approxSimplest", apart := false, narrowed := true }
def ApproxSimplestUptoSaid : Prop := approxSimplestUptoRow.holds Tryz.pinned (OpenSpec.upto approxSimplestSpec)

/-- 'gridmarketlaw05.ApproxSimpler', WHERE WHAT IT READS IS OF BULK AT MOST 1048576: true; the input reads as it did. -/
def approxSimplerUptoRow : OpenClaim := { program := "ytfmgbfdnmconiaagreat", sum := "c1869772bc72c42ff45468979b94d8fa589283c6eb4113306974c99b0afbbcaa", func := "gridmarket/gridmarketlaw05.ApproxSimpler", spec := "approxSimpler", apart := false, narrowed := true }
def ApproxSimplerUptoSaid : Prop := approxSimplerUptoRow.holds Tryz.pinned (OpenSpec.upto approxSimplerSpec)

/-- 'gridmarketlaw05.ApproxEnclose', WHERE WHAT IT READS IS OF BULK AT MOST 1048576: true; the input reads as it did. -/
def approxEncloseUptoRow : OpenClaim := { program := "ytfmgbfdnmconiaagreat", sum := "c1869772bc72c42ff45468979b94d8fa589283c6eb4113306974c99b0afbbcaa", func := "gridmarket/gridmarketlaw05.ApproxEnclose", spec := "approxEnclose", apart := false, narrowed := true }
def ApproxEncloseUptoSaid : Prop := approxEncloseUptoRow.holds Tryz.pinned (OpenSpec.upto approxEncloseSpec)

/-- 'gridmarketlaw05.ApproxMonotone', WHERE WHAT IT READS IS OF BULK AT MOST 1048576: true; the input reads as it did. -/
def approxMonotoneUptoRow : OpenClaim := { program := "ytfmgbfdnmconiaagreat", sum := "c1869772bc72c42ff45468979b94d8fa589283c6eb4113306974c99b0afbbcaa", func := "gridmarket/gridmarketlaw05.ApproxMonotone", spec := "approxMonotone", apart := false, narrowed := true }
def ApproxMonotoneUptoSaid : Prop := approxMonotoneUptoRow.holds Tryz.pinned (OpenSpec.upto approxMonotoneSpec)

/-- 'gridmarketlaw03.RationalKeeps', WHERE WHAT IT READS IS OF BULK AT MOST 1048576: true; the input reads as it did. -/
def rationalKeepsUptoRow : OpenClaim := { program := "ytfmgbfdnmconiaagreat", sum := "c1869772bc72c42ff45468979b94d8fa589283c6eb4113306974c99b0afbbcaa", func := "gridmarket/gridmarketlaw03.RationalKeeps", spec := "rationalKeeps", recurses := true, apart := false, narrowed := true }
def RationalKeepsUptoSaid : Prop := rationalKeepsUptoRow.holds Tryz.pinned (OpenSpec.upto rationalKeepsSpec)

end Rows
end Go.Proofs.YtfmgbfdnmconiaaGreat
