/-
  Vm, Vl, Vq, Vc, Vr.
-/
import Derived.Test.YtfacndibfkamgaaGreatRows
import Derived.Test.YtfacndibfkamgaaGreatRatp
import Derived.Test.YtfacndibfkamgaaGreatRatq
import Derived.Shelf.SlicesQ.Load
import Derived.Deep.QuietTactic
import Derived.Test.YtfacndibfkamgaaGreatRS
/-
  Mathematics of sparse vectors: components, sums of values, lists with ascending indices, the two loops that merge and add up.
-/
namespace Go.Proofs.YtfacndibfkamgaaGreat
set_option linter.unusedVariables false
/-- The component with an index. -/
def cpt : List (Int × Rat) → Int → Rat
  | [], _ => 0
  | e :: r, i => (if e.1 = i then e.2 else 0) + cpt r i
/-- The sum of the values. -/
def tot : List (Int × Rat) → Rat
  | [] => 0
  | e :: r => e.2 + tot r
/-- The sum of a list. -/
def sumq : List Rat → Rat
  | [] => 0
  | q :: r => q + sumq r
/-- Ascending indices, no value is 0. -/
def Asc (es : List (Int × Rat)) : Prop := es.Pairwise (fun a b => a.1 < b.1) ∧ ∀ e ∈ es, e.2 ≠ 0
theorem sumq_append (l r : List Rat) : sumq (l ++ r) = sumq l + sumq r := by
  induction l with
  | nil => simp [sumq, Rat.zero_add]
  | cons a l ih => simp [sumq, ih, Rat.add_assoc]
theorem cpt_append (l r : List (Int × Rat)) (i : Int) : cpt (l ++ r) i = cpt l i + cpt r i := by
  induction l with
  | nil => simp [cpt, Rat.zero_add]
  | cons a l ih => simp [cpt, ih, Rat.add_assoc]
theorem tot_append (l r : List (Int × Rat)) : tot (l ++ r) = tot l + tot r := by
  induction l with
  | nil => simp [tot, Rat.zero_add]
  | cons a l ih => simp [tot, ih, Rat.add_assoc]
theorem tot_sumq (l : List (Int × Rat)) : tot l = sumq (l.map (·.2)) := by
  induction l with
  | nil => rfl
  | cons a l ih => simp [tot, sumq, ih]
theorem cpt_none {l : List (Int × Rat)} {i : Int} (h : ∀ e ∈ l, e.1 ≠ i) : cpt l i = 0 := by
  induction l with
  | nil => rfl
  | cons a l ih =>
    rw [cpt, if_neg (h a (by simp)), ih (fun e he => h e (by simp [he])), Rat.zero_add]
theorem cpt_perm {l r : List (Int × Rat)} (h : l.Perm r) (i : Int) : cpt l i = cpt r i := by
  induction h with
  | nil => rfl
  | cons a _ ih => simp [cpt, ih]
  | swap a b l => simp only [cpt]; rw [← Rat.add_assoc, ← Rat.add_assoc, Rat.add_comm (if b.1 = i then b.2 else 0)]
  | trans _ _ h1 h2 => exact h1.trans h2
theorem Asc.tail {e : Int × Rat} {r : List (Int × Rat)} (h : Asc (e :: r)) : Asc r := ⟨(List.pairwise_cons.1 h.1).2, fun x hx => h.2 x (by simp [hx])⟩
theorem Asc.lt {e : Int × Rat} {r : List (Int × Rat)} (h : Asc (e :: r)) : ∀ x ∈ r, e.1 < x.1 := (List.pairwise_cons.1 h.1).1
theorem Asc.head {e : Int × Rat} {r : List (Int × Rat)} (h : Asc (e :: r)) : cpt (e :: r) e.1 = e.2 := by
  rw [cpt, if_pos rfl, cpt_none (fun x hx => by have := h.lt x hx; omega), Rat.add_zero]
theorem asc_uniq : ∀ (l r : List (Int × Rat)), Asc l → Asc r → (∀ i, cpt l i = cpt r i) → l = r
  | [], [], _, _, _ => rfl
  | [], e :: r, _, hr, h => absurd (hr.head.symm.trans ((h e.1).symm.trans rfl)) (hr.2 e (by simp))
  | e :: l, [], hl, _, h => absurd (hl.head.symm.trans ((h e.1).trans rfl)) (hl.2 e (by simp))
  | e :: l, f :: r, hl, hr, h => by
    have k1 : e.1 = f.1 := by
      rcases Int.lt_or_le e.1 f.1 with a | a
      · refine absurd (hl.head.symm.trans ((h e.1).trans (cpt_none fun x hx => ?_))) (hl.2 e (by simp))
        rcases List.mem_cons.1 hx with rfl | hx
        · omega
        · have := hr.lt x hx; omega
      · rcases Int.lt_or_le f.1 e.1 with b | b
        · refine absurd (hr.head.symm.trans ((h f.1).symm.trans (cpt_none fun x hx => ?_))) (hr.2 f (by simp))
          rcases List.mem_cons.1 hx with rfl | hx
          · omega
          · have := hl.lt x hx; omega
        · omega
    have k2 : e.2 = f.2 := by
      have := h e.1
      rw [hl.head, k1, hr.head] at this
      exact this
    obtain rfl : e = f := Prod.ext k1 k2
    rw [asc_uniq l r hl.tail hr.tail fun i => ?_]
    have := h i
    rw [cpt, cpt] at this
    rcases Int.decEq e.1 i with g | g
    · rw [if_neg g, Rat.zero_add, Rat.zero_add] at this; exact this
    · subst g
      rw [cpt_none (fun x hx => by have := hl.lt x hx; omega), cpt_none (fun x hx => by have := hr.lt x hx; omega)]
theorem tot_split (l : List (Int × Rat)) (j : Int) : tot l = cpt l j + tot (l.filter (fun e => decide (e.1 ≠ j))) := by
  induction l with
  | nil => simp [tot, cpt, Rat.zero_add]
  | cons a l ih =>
    rw [tot, cpt, ih]
    by_cases g : a.1 = j
    · rw [if_pos g, List.filter_cons_of_neg (by simp [g]), Rat.add_assoc]
    · rw [if_neg g, List.filter_cons_of_pos (by simp [g]), tot, Rat.zero_add, ← Rat.add_assoc, Rat.add_comm a.2, Rat.add_assoc]
theorem cpt_filter (l : List (Int × Rat)) (j i : Int) : cpt (l.filter (fun e => decide (e.1 ≠ j))) i = if i = j then 0 else cpt l i := by
  induction l with
  | nil => simp [cpt]
  | cons a l ih =>
    by_cases g : a.1 = j
    · rw [List.filter_cons_of_neg (by simp [g]), ih]
      by_cases k : i = j
      · simp [k]
      · rw [if_neg k, if_neg k, cpt, if_neg (by omega), Rat.zero_add]
    · rw [List.filter_cons_of_pos (by simp [g]), cpt, ih]
      by_cases k : i = j
      · rw [if_pos k, if_pos k, if_neg (by omega), Rat.add_zero]
      · rw [if_neg k, if_neg k, cpt]
theorem tot_zero : ∀ (n : Nat) (l : List (Int × Rat)), l.length ≤ n → (∀ i, cpt l i = 0) → tot l = 0
  | _, [], _, _ => rfl
  | 0, _ :: _, h, _ => by simp at h
  | n + 1, a :: l, h, hc => by
    rw [tot_split _ a.1, hc, Rat.zero_add]
    refine tot_zero n _ ?_ fun i => ?_
    · rw [List.filter_cons_of_neg (by simp)]
      have := List.length_filter_le (fun e : Int × Rat => decide (e.1 ≠ a.1)) l
      simp at h; omega
    · rw [cpt_filter]; split
      · rfl
      · exact hc i
theorem cpt_map (f : Rat) (l : List (Int × Rat)) (i : Int) : cpt (l.map fun e => (e.1, f * e.2)) i = f * cpt l i := by
  induction l with
  | nil => simp [cpt, Rat.mul_zero]
  | cons a l ih =>
    rw [List.map_cons, cpt, cpt, ih, Rat.mul_add]
    by_cases g : a.1 = i
    · rw [if_pos g, if_pos g]
    · rw [if_neg g, if_neg g, Rat.mul_zero]
theorem tot_map (f : Rat) (l : List (Int × Rat)) : tot (l.map fun e => (e.1, f * e.2)) = f * tot l := by
  induction l with
  | nil => simp [tot, Rat.mul_zero]
  | cons a l ih => rw [List.map_cons, tot, tot, ih, Rat.mul_add]
/-- The sum of the values depends on the components alone. -/
theorem tot_eq {l r : List (Int × Rat)} (h : ∀ i, cpt l i = cpt r i) : tot l = tot r := by
  have k := tot_zero _ (l ++ r.map fun e => (e.1, (-1) * e.2)) (Nat.le_refl _) fun i => by rw [cpt_append, cpt_map, h]; grind
  rw [tot_append, tot_map] at k
  grind
theorem tot_lin {l r s : List (Int × Rat)} {f : Rat} (h : ∀ i, cpt l i = cpt r i + f * cpt s i) : tot l = tot r + f * tot s := by
  rw [← tot_map, ← tot_append]
  exact tot_eq fun i => by rw [cpt_append, cpt_map, h]
/-- One more component behind the others. -/
theorem Asc.snoc {l : List (Int × Rat)} {j : Int} {q : Rat} (h : Asc l) (hl : ∀ e ∈ l, e.1 < j) (hq : q ≠ 0) : Asc (l ++ [(j, q)]) := by
  refine ⟨List.pairwise_append.2 ⟨h.1, by simp, fun a ha b hb => by simp at hb; subst hb; exact hl a ha⟩, fun e he => ?_⟩
  rcases List.mem_append.1 he with he | he
  · exact h.2 e he
  · simp at he; subst he; exact hq
/-- What taking a component with a least index leaves. -/
def Tk (a : List (Int × Rat)) (j : Int) (x : Rat) (a' : List (Int × Rat)) : Prop := (∀ i, cpt a i = (if j = i then x else 0) + cpt a' i) ∧ (∀ e ∈ a', j < e.1) ∧ Asc a'
theorem Tk.hit {j : Int} {x : Rat} {a : List (Int × Rat)} (h : Asc ((j, x) :: a)) : Tk ((j, x) :: a) j x a := ⟨fun _ => rfl, h.lt, h.tail⟩
theorem Tk.miss {j : Int} {a : List (Int × Rat)} (h : Asc a) (hj : ∀ e ∈ a, j < e.1) : Tk a j 0 a := ⟨fun i => by simp [Rat.zero_add], hj, h⟩
theorem Asc.le_all {e : Int × Rat} {r : List (Int × Rat)} {j : Int} (h : Asc (e :: r)) (hj : j ≤ e.1) : ∀ x ∈ e :: r, j ≤ x.1 := fun x hx => by
  rcases List.mem_cons.1 hx with rfl | hx
  · exact hj
  · have := h.lt x hx; omega
/-- A loop that merges: what stands in the new list, and what is still to come. -/
structure Mg (op : Rat → Rat → Rat) (A B : Int → Rat) (out a b : List (Int × Rat)) : Prop where
  eq : ∀ i, op (A i) (B i) = cpt out i + op (cpt a i) (cpt b i)
  oo : Asc out
  la : Asc a
  lb : Asc b
  lo : ∀ e ∈ out, (∀ x ∈ a, e.1 < x.1) ∧ ∀ x ∈ b, e.1 < x.1
theorem Mg.start {op : Rat → Rat → Rat} {a b : List (Int × Rat)} (ha : Asc a) (hb : Asc b) : Mg op (cpt a) (cpt b) [] a b := ⟨fun i => by simp [cpt, Rat.zero_add], ⟨List.Pairwise.nil, fun e he => by cases he⟩, ha, hb, fun e he => by cases he⟩
theorem Mg.rest {op : Rat → Rat → Rat} {A B : Int → Rat} {out a b a' b' : List (Int × Rat)} {j : Int} {x y : Rat} (h : Mg op A B out a b) (h0 : op 0 0 = 0) (ha : Tk a j x a') (hb : Tk b j y b') (hj : ∀ e ∈ out, e.1 < j) :
    ∀ i, op (A i) (B i) = cpt out i + ((if j = i then op x y else 0) + op (cpt a' i) (cpt b' i)) := fun i => by
  rw [h.eq i, ha.1 i, hb.1 i]
  by_cases g : j = i
  · subst g
    rw [if_pos rfl, if_pos rfl, if_pos rfl, cpt_none (l := a') (fun e he => by have := ha.2.1 e he; omega), cpt_none (l := b') (fun e he => by have := hb.2.1 e he; omega), h0, Rat.add_zero, Rat.add_zero, Rat.add_zero]
  · rw [if_neg g, if_neg g, if_neg g, Rat.zero_add, Rat.zero_add, Rat.zero_add]
theorem Mg.drop {op : Rat → Rat → Rat} {A B : Int → Rat} {out a b a' b' : List (Int × Rat)} {j : Int} {x y : Rat} (h : Mg op A B out a b) (h0 : op 0 0 = 0) (ha : Tk a j x a') (hb : Tk b j y b') (hj : ∀ e ∈ out, e.1 < j) (hz : op x y = 0) : Mg op A B out a' b' :=
  ⟨fun i => by rw [h.rest h0 ha hb hj i, hz]; simp [Rat.zero_add], h.oo, ha.2.2, hb.2.2, fun e he => ⟨fun t ht => by have := hj e he; have := ha.2.1 t ht; omega, fun t ht => by have := hj e he; have := hb.2.1 t ht; omega⟩⟩
theorem Mg.keep {op : Rat → Rat → Rat} {A B : Int → Rat} {out a b a' b' : List (Int × Rat)} {j : Int} {x y : Rat} (h : Mg op A B out a b) (h0 : op 0 0 = 0) (ha : Tk a j x a') (hb : Tk b j y b') (hj : ∀ e ∈ out, e.1 < j) (hz : op x y ≠ 0) : Mg op A B (out ++ [(j, op x y)]) a' b' :=
  ⟨fun i => by rw [h.rest h0 ha hb hj i, cpt_append, Rat.add_assoc]; simp [cpt, Rat.add_zero], h.oo.snoc hj hz, ha.2.2, hb.2.2, fun e he => by
    rcases List.mem_append.1 he with he | he
    · exact ⟨fun t ht => by have := hj e he; have := ha.2.1 t ht; omega, fun t ht => by have := hj e he; have := hb.2.1 t ht; omega⟩
    · simp at he; subst he; exact ⟨ha.2.1, hb.2.1⟩⟩
theorem Mg.done {op : Rat → Rat → Rat} {A B : Int → Rat} {out : List (Int × Rat)} (h : Mg op A B out [] []) (h0 : op 0 0 = 0) : ∀ i, cpt out i = op (A i) (B i) := fun i => by
  rw [h.eq i]; simp [cpt, h0, Rat.add_zero]
/-- A loop that adds up the entries with the same index. -/
structure Sg (V : Int → Rat) (out rest : List (Int × Rat)) : Prop where
  eq : ∀ i, V i = cpt out i + cpt rest i
  oo : Asc out
  asc : rest.Pairwise (fun a b => a.1 ≤ b.1)
  lo : ∀ e ∈ out, ∀ x ∈ rest, e.1 < x.1
theorem Sg.start {rest : List (Int × Rat)} (h : rest.Pairwise (fun a b => a.1 ≤ b.1)) : Sg (cpt rest) [] rest := ⟨fun i => by simp [cpt, Rat.zero_add], ⟨List.Pairwise.nil, fun e he => by cases he⟩, h, fun e he => by cases he⟩
theorem cpt_run {pre : List (Int × Rat)} {j : Int} (h : ∀ e ∈ pre, e.1 = j) (i : Int) : cpt pre i = if j = i then tot pre else 0 := by
  induction pre with
  | nil => simp [cpt, tot]
  | cons a l ih =>
    rw [cpt, tot, ih (fun e he => h e (by simp [he])), h a (by simp)]
    by_cases g : j = i
    · simp [g]
    · simp [g, Rat.zero_add]
theorem Sg.cut {V : Int → Rat} {out pre rest : List (Int × Rat)} {j : Int} (h : Sg V out (pre ++ rest)) (hp : ∀ e ∈ pre, e.1 = j) (ne : pre ≠ []) (hr : ∀ e r, rest = e :: r → e.1 ≠ j) : (∀ e ∈ rest, j < e.1) ∧ (∀ e ∈ out, e.1 < j) ∧ rest.Pairwise (fun a b => a.1 ≤ b.1) := by
  obtain ⟨p1, p2, p3⟩ := List.pairwise_append.1 h.asc
  obtain ⟨e0, l0, rfl⟩ : ∃ e l, pre = e :: l := by cases pre with | nil => exact absurd rfl ne | cons e l => exact ⟨e, l, rfl⟩
  have h0 := hp e0 (by simp)
  refine ⟨?_, fun e he => ?_, p2⟩
  · cases rest with
    | nil => intro e he; cases he
    | cons a r =>
      intro e he
      have k1 := p3 e0 (by simp) a (by simp)
      have k2 := hr a r rfl
      rcases List.mem_cons.1 he with rfl | he
      · omega
      · have := (List.pairwise_cons.1 p2).1 e he; omega
  · have := h.lo e he e0 (by simp); omega
theorem Sg.keep {V : Int → Rat} {out pre rest : List (Int × Rat)} {j : Int} (h : Sg V out (pre ++ rest)) (hp : ∀ e ∈ pre, e.1 = j) (ne : pre ≠ []) (hr : ∀ e r, rest = e :: r → e.1 ≠ j) (hz : tot pre ≠ 0) : Sg V (out ++ [(j, tot pre)]) rest := by
  obtain ⟨c1, c2, c3⟩ := h.cut hp ne hr
  refine ⟨fun i => ?_, h.oo.snoc c2 hz, c3, fun e he x hx => ?_⟩
  · rw [h.eq i, cpt_append, cpt_append, cpt_run hp, ← Rat.add_assoc]; simp [cpt, Rat.add_zero]
  · rcases List.mem_append.1 he with he | he
    · have := c2 e he; have := c1 x hx; omega
    · simp at he; subst he; exact c1 x hx
theorem Sg.drop {V : Int → Rat} {out pre rest : List (Int × Rat)} {j : Int} (h : Sg V out (pre ++ rest)) (hp : ∀ e ∈ pre, e.1 = j) (ne : pre ≠ []) (hr : ∀ e r, rest = e :: r → e.1 ≠ j) (hz : tot pre = 0) : Sg V out rest := by
  obtain ⟨c1, c2, c3⟩ := h.cut hp ne hr
  refine ⟨fun i => ?_, h.oo, c3, fun e he x hx => ?_⟩
  · rw [h.eq i, cpt_append, cpt_run hp, hz]; simp [Rat.zero_add]
  · have := c2 e he; have := c1 x hx; omega
theorem Sg.done {V : Int → Rat} {out : List (Int × Rat)} (h : Sg V out []) : ∀ i, cpt out i = V i := fun i => by rw [h.eq i]; simp [cpt, Rat.add_zero]
end Go.Proofs.YtfacndibfkamgaaGreat

/-
  Lists of numbers and of entries in memory: read, loaded, appended to; variables of the type Entry.
-/
namespace Go.Proofs.YtfacndibfkamgaaGreat
open Go.RowKit
set_option linter.unusedVariables false

/-- A rational number as it stands in memory, with the numbers that its limbs read as. -/
structure Nt where
  s : Bool
  A : Option Addr
  n : Nat
  c : Nat
  D : Option Addr
  m : Nat
  k : Nat
  x : Int
  p : Nat
instance : Inhabited Nt := ⟨⟨false, none, 0, 0, none, 0, 0, 0, 0⟩⟩
def Nt.q (r : Nt) : Rat := mkRat r.x r.p
def encR (r : Nt) : List Value := [.bool r.s, .slice r.A r.n r.c, .slice r.D r.m r.k]
def encE (e : Int × Nt) : List Value := [.int .i64 e.1, .bool e.2.s, .slice e.2.A e.2.n e.2.c, .slice e.2.D e.2.m e.2.k]
def ev (rs : List (Int × Nt)) : List (Int × Rat) := rs.map fun r => (r.1, r.2.q)
/-- The number reads so, and takes at most L limbs a part. -/
def Nok (w : World) (r : Nt) (L : Nat) : Prop := Zin w r.s r.A r.n r.c r.x ∧ Nin w r.D r.m r.k r.p ∧ r.n ≤ L ∧ r.m ≤ L
/-- The number is in lowest terms, in memory of some call's own. -/
def Nown (w : World) (r : Nt) : Prop := r.s = decide (r.x < 0) ∧ r.n = (ofv r.x.natAbs).length ∧ r.m = (ofv r.p).length ∧ (mkRat r.x r.p).num = r.x ∧ (mkRat r.x r.p).den = r.p ∧ Own w 0 r.A r.c (ofv r.x.natAbs) ∧ Own w 0 r.D r.k (ofv r.p)
/-- The number is in lowest terms, and reads so. -/
def Ncan (w : World) (r : Nt) : Prop := r.s = decide (r.x < 0) ∧ r.n = (ofv r.x.natAbs).length ∧ r.m = (ofv r.p).length ∧ (mkRat r.x r.p).num = r.x ∧ (mkRat r.x r.p).den = r.p ∧ Zo w r.A r.c r.x ∧ Rd w r.D r.k (ofv r.p)
/-- A list in memory, elements of k cells. -/
def Sl {α : Type} (enc : α → List Value) (k : Nat) (w : World) (A : Option Addr) (c : Nat) (rs : List α) : Prop :=
  rs.length ≤ c ∧ c ≤ 9223372036854775807 ∧ (rs = [] ∨ ∃ b o, A = some ⟨b, o, none⟩ ∧ b < w.heap.size ∧ ∀ (j : Nat) (r : α), rs[j]? = some r → w.rangeAt b (o + j * k) (enc r))
section
variable {w w' : World} {L M g : Nat} {r : Nt}
theorem Nok.below (h : Nok w r L) (hb : Below w.heap.size w w') : Nok w' r L := ⟨h.1.below hb, h.2.1.below hb, h.2.2⟩
theorem Nok.le (h : Nok w r L) (hl : L ≤ M) : Nok w r M := ⟨h.1, h.2.1, Nat.le_trans h.2.2.1 hl, Nat.le_trans h.2.2.2 hl⟩
theorem Nown.below (h : Nown w r) (hb : Below w.heap.size w w') : Nown w' r := ⟨h.1, h.2.1, h.2.2.1, h.2.2.2.1, h.2.2.2.2.1, h.2.2.2.2.2.1.below hb, h.2.2.2.2.2.2.below hb⟩
theorem Nown.can (h : Nown w r) : Ncan w r := ⟨h.1, h.2.1, h.2.2.1, h.2.2.2.1, h.2.2.2.2.1, Zo.of_own h.2.2.2.2.2.1, h.2.2.2.2.2.2.rd⟩
theorem Ncan.below (h : Ncan w r) (hb : Below w.heap.size w w') : Ncan w' r := ⟨h.1, h.2.1, h.2.2.1, h.2.2.2.1, h.2.2.2.2.1, h.2.2.2.2.2.1.below hb, h.2.2.2.2.2.2.below hb⟩
/-- What the contracts of package rational give. -/
def mkN (z : Int) (d : Nat) (P : Option Addr) (c : Nat) (Q : Option Addr) (k : Nat) : Nt := ⟨decide (z < 0), P, (ofv z.natAbs).length, c, Q, (ofv d).length, k, z, d⟩
theorem nown_mk {q : Rat} {P Q : Option Addr} {c k lo : Nat} (h1 : Own w lo P c (ofv q.num.natAbs)) (h2 : Own w lo Q k (ofv q.den)) : Nown w (mkN q.num q.den P c Q k) :=
  ⟨rfl, rfl, rfl, by show (mkRat q.num q.den).num = q.num; rw [Rat.mkRat_self], by show (mkRat q.num q.den).den = q.den; rw [Rat.mkRat_self], h1.mono (Nat.zero_le _), h2.mono (Nat.zero_le _)⟩
theorem q_mk (q : Rat) (P Q : Option Addr) (c k : Nat) : (mkN q.num q.den P c Q k).q = q := Rat.mkRat_self q
end
section
variable {α : Type} {enc : α → List Value} {k : Nat} {w w' : World} {A : Option Addr} {c : Nat} {rs : List α}
theorem Sl.below (h : Sl enc k w A c rs) (hb : Below w.heap.size w w') : Sl enc k w' A c rs := by
  obtain ⟨h1, h2, h3⟩ := h
  refine ⟨h1, h2, ?_⟩
  rcases h3 with h3 | ⟨b, o, rfl, h4, h5⟩
  · exact .inl h3
  · exact .inr ⟨b, o, rfl, Nat.lt_of_lt_of_le h4 hb.size, fun j r hj i u hi => (hb.cell (p := ⟨b, o + j * k + i, none⟩) h4).trans (h5 j r hj i u hi)⟩
theorem Sl.nil (w : World) : Sl enc k w none 0 ([] : List α) := ⟨Nat.le_refl _, by omega, .inl rfl⟩
theorem Sl.cut {r : α} (h : Sl enc k w A c (r :: rs)) : Sl enc k w (if c = 1 then A else A.map (·.add (1 * k))) (c - 1) rs := by
  obtain ⟨h1, h2, h3⟩ := h
  refine ⟨by simp at h1; omega, by omega, ?_⟩
  rcases h3 with h3 | ⟨b, o, rfl, h4, h5⟩
  · cases h3
  · by_cases e : c = 1
    · left
      simp at h1
      exact List.eq_nil_of_length_eq_zero (by omega)
    · right
      rw [if_neg e]
      refine ⟨b, o + k, by simp [Addr.add_mid], h4, fun j t hj => ?_⟩
      have := h5 (j + 1) t (by simpa using hj)
      rwa [Nat.add_mul, Nat.one_mul, show o + (j * k + k) = o + k + j * k by omega] at this
theorem Sl.head {r : α} (h : Sl enc k w A c (r :: rs)) : ∃ b o, A = some ⟨b, o, none⟩ ∧ b < w.heap.size ∧ w.rangeAt b o (enc r) := by
  obtain ⟨h1, h2, h3⟩ := h
  rcases h3 with h3 | ⟨b, o, rfl, h4, h5⟩
  · cases h3
  · exact ⟨b, o, rfl, h4, by simpa using h5 0 r rfl⟩
theorem Sl.at_ (h : Sl enc k w A c rs) (h0 : 0 < rs.length) : ∃ b o, A = some ⟨b, o, none⟩ ∧ b < w.heap.size ∧ ∀ (j : Nat) (r : α), rs[j]? = some r → w.rangeAt b (o + j * k) (enc r) := by
  obtain ⟨h1, h2, h3⟩ := h
  rcases h3 with h3 | h3
  · subst h3; simp at h0
  · exact h3
end
/-- A variable of the type Entry. -/
def Vb (w : World) (g : Nat) (i : Int) (s : Bool) (A : Option Addr) (n c : Nat) (D : Option Addr) (m k : Nat) : Prop := w.heap[g]? = some (.cells #[.int .i64 i, .bool s, .slice A n c, .slice D m k] 58 (0, 0))
theorem Tryz.sizeV : (Tryz.prog.info? 58).map (·.size) = some 4 := by kernel_rfl
section
variable {w w' : World} {g : Nat} {i : Int} {s : Bool} {A D : Option Addr} {n c m k : Nat}
theorem Vb.lt (h : Vb w g i s A n c D m k) : g < w.heap.size := lt_of_heap h
theorem Vb.bel (h : Vb w g i s A n c D m k) (hb : Below w.heap.size w w') : Vb w' g i s A n c D m k := (hb.block g h.lt).trans h
theorem Vb.gro {g' : Nat} (h : Vb w g i s A n c D m k) (hg : w.grownBy w' (some g')) (ne : g ≠ g') : Vb w' g i s A n c D m k := (hg.block g h.lt (by simpa using ne)).trans h
theorem Vb.new (w : World) (i : Int) (s : Bool) (A : Option Addr) (n c : Nat) (D : Option Addr) (m k : Nat) : Vb (w.alloc (.cells #[.int .i64 i, .bool s, .slice A n c, .slice D m k] 58)) w.heap.size i s A n c D m k := heap_alloc_new w _
theorem Vb.alloc (h : Vb w g i s A n c D m k) (ob : Obj) : Vb (w.alloc ob) g i s A n c D m k := (Below.heap_alloc w ob g h.lt).trans h
theorem Vb.range (h : Vb w g i s A n c D m k) : w.rangeAt g 0 [.int .i64 i, .bool s, .slice A n c, .slice D m k] := range_of h (fun j v hv => by simpa using hv)
theorem Vb.rangeV (h : Vb w g i s A n c D m k) : w.rangeAt g 1 [.bool s, .slice A n c, .slice D m k] := range_of h (fun j v hv => by rw [Nat.add_comm]; simpa using hv)
theorem Vb.cell0 (h : Vb w g i s A n c D m k) : w.cell? ⟨g, 0, none⟩ = some (.int .i64 i) := by rw [cell_of_row w g 0 _ _ _ h]; rfl
theorem Vb.bx (h : Vb w g i s A n c D m k) : ∃ cs t, w.heap[g]? = some (.cells cs t (0, 0)) ∧ t ≠ 118 := ⟨_, _, h, by decide⟩
theorem Rb.tx (h : Rb w g s A n c D m k) : ∃ cs t, w.heap[g]? = some (.cells cs t (0, 0)) ∧ t ≠ 118 := ⟨_, _, h, by decide⟩
theorem Rb.bel (h : Rb w g s A n c D m k) (hb : Below w.heap.size w w') : Rb w' g s A n c D m k := h.below hb h.lt
end
/-- A store into a block that holds no limbs. -/
def Tx (w : World) (g : Nat) : Prop := ∃ cs t, w.heap[g]? = some (.cells cs t (0, 0)) ∧ t ≠ 118
theorem Own.grT {w w' : World} {lo c g : Nat} {A : Option Addr} {xs : List Nat} (h : Own w lo A c xs) (hz : Tx w g) (hg : w.grownBy w' (some g)) : Own w' lo A c xs := by
  obtain ⟨h0, h1, h2, h3⟩ := h
  obtain ⟨cs, t, hz, ht⟩ := hz
  refine ⟨h0, h1, h2, ?_⟩
  rcases h3 with h3 | ⟨b, o, cur, hA, hl, hr, hc⟩
  · exact .inl h3
  · have ne : b ≠ g := by
      intro e
      subst e
      rw [hz] at hr
      simp only [Option.some.injEq, Obj.cells.injEq] at hr
      exact ht hr.2.1
    exact .inr ⟨b, o, cur, hA, hl, (hg.block b (lt_of_heap hr) (by simpa using ne)).trans hr, hc⟩
theorem Nown.grT {w w' : World} {g : Nat} {r : Nt} (h : Nown w r) (hz : Tx w g) (hg : w.grownBy w' (some g)) : Nown w' r := ⟨h.1, h.2.1, h.2.2.1, h.2.2.2.1, h.2.2.2.2.1, h.2.2.2.2.2.1.grT hz hg, h.2.2.2.2.2.2.grT hz hg⟩
/-- What an append to a list leaves. -/
def Kt (t : TypeId) (base : Nat) (w w' : World) : Prop := (∀ (k : Nat) (cs : Array Value) (u : TypeId) (fz : Nat × Nat), w.heap[k]? = some (.cells cs u fz) → (u ≠ t ∨ k < base) → w'.heap[k]? = some (.cells cs u fz)) ∧ Below base w w'
theorem Own.kt {w w' : World} {lo c base : Nat} {A : Option Addr} {xs : List Nat} {t : TypeId} (h : Own w lo A c xs) (k : Kt t base w w') (ht : 118 ≠ t) : Own w' lo A c xs := by
  obtain ⟨h0, h1, h2, h3⟩ := h
  refine ⟨h0, h1, h2, ?_⟩
  rcases h3 with h3 | ⟨b, o, cur, hA, hl, hr, hc⟩
  · exact .inl h3
  · exact .inr ⟨b, o, cur, hA, hl, k.1 _ _ _ _ hr (.inl ht), hc⟩
theorem Nown.kt {w w' : World} {base : Nat} {r : Nt} {t : TypeId} (h : Nown w r) (k : Kt t base w w') (ht : 118 ≠ t) : Nown w' r := ⟨h.1, h.2.1, h.2.2.1, h.2.2.2.1, h.2.2.2.2.1, h.2.2.2.2.2.1.kt k ht, h.2.2.2.2.2.2.kt k ht⟩
theorem Rb.kt {w w' : World} {g base n c m k : Nat} {s : Bool} {A D : Option Addr} {t : TypeId} (h : Rb w g s A n c D m k) (kk : Kt t base w w') (ht : 29 ≠ t ∨ g < base) : Rb w' g s A n c D m k := kk.1 _ _ _ _ h ht
theorem Vb.kt {w w' : World} {g base n c m k : Nat} {i : Int} {s : Bool} {A D : Option Addr} {t : TypeId} (h : Vb w g i s A n c D m k) (kk : Kt t base w w') (ht : 58 ≠ t ∨ g < base) : Vb w' g i s A n c D m k := kk.1 _ _ _ _ h ht
/-- A growing list, from block base on. -/
def Lg {α : Type} (enc : α → List Value) (k : Nat) (t : TypeId) (w : World) (base : Nat) (v : Value) (rs : List α) : Prop := w.ownsRow base t k v rs.length (rs.flatMap enc)
section
variable {α : Type} {enc : α → List Value} {k : Nat} {t : TypeId} {w w' : World} {base : Nat} {v : Value} {rs : List α}
theorem Lg.below (h : Lg enc k t w base v rs) (hb : Below w.heap.size w w') : Lg enc k t w' base v rs := by
  obtain ⟨h1, h2⟩ := h
  refine ⟨h1, ?_⟩
  rcases h2 with h2 | ⟨g, cap, cur, e1, e2, e3, e4⟩
  · exact .inl h2
  · exact .inr ⟨g, cap, cur, e1, e2, (hb.block g (lt_of_heap e3)).trans e3, e4⟩
theorem Lg.gr {g : Nat} (h : Lg enc k t w base v rs) (hg : w.grownBy w' (some g)) (hz : g < base ∨ ∃ cs u, w.heap[g]? = some (.cells cs u (0, 0)) ∧ u ≠ t) : Lg enc k t w' base v rs := by
  obtain ⟨h1, h2⟩ := h
  refine ⟨h1, ?_⟩
  rcases h2 with h2 | ⟨b, cap, cur, e1, e2, e3, e4⟩
  · exact .inl h2
  · refine .inr ⟨b, cap, cur, e1, e2, (hg.block b (lt_of_heap e3) ?_).trans e3, e4⟩
    rcases hz with hz | ⟨cs, u, hz, hu⟩
    · simp; omega
    · intro e
      simp only [Option.some.injEq] at e
      subst e
      rw [hz] at e3
      simp only [Option.some.injEq, Obj.cells.injEq] at e3
      exact hu e3.2.1
theorem Lg.kt {u : TypeId} {base' : Nat} (h : Lg enc k t w base v rs) (kk : Kt u base' w w') (hu : t ≠ u) : Lg enc k t w' base v rs := by
  obtain ⟨h1, h2⟩ := h
  refine ⟨h1, ?_⟩
  rcases h2 with h2 | ⟨b, cap, cur, e1, e2, e3, e4⟩
  · exact .inl h2
  · exact .inr ⟨b, cap, cur, e1, e2, kk.1 _ _ _ _ e3 (.inl hu), e4⟩
theorem Lg.nil (w : World) (base : Nat) : Lg enc k t w base (.slice none 0 0) ([] : List α) := World.ownsRow_nil w base t k
theorem flat_at (hk : ∀ x, (enc x).length = k) : ∀ (rs : List α) (j : Nat) (r : α), rs[j]? = some r → ∀ i, i < k → (rs.flatMap enc)[j * k + i]? = (enc r)[i]?
  | [], j, r, h, _, _ => by simp at h
  | a :: l, 0, r, h, i, hi => by
    simp at h; subst h
    rw [List.flatMap_cons, List.getElem?_append_left (by rw [hk]; omega)]
    simp
  | a :: l, j + 1, r, h, i, hi => by
    have e : (j + 1) * k + i - k = j * k + i := by rw [Nat.add_mul, Nat.one_mul]; omega
    rw [List.flatMap_cons, List.getElem?_append_right (by rw [hk, Nat.add_mul, Nat.one_mul]; omega), hk, e]
    exact flat_at hk l j r (by simpa using h) i hi
theorem Lg.sl (h : Lg enc k t w base v rs) (hk : ∀ x, (enc x).length = k) : ∃ A c, v = .slice A rs.length c ∧ Sl enc k w A c rs := by
  obtain ⟨h1, h2⟩ := h
  rcases h2 with ⟨rfl, h2⟩ | ⟨g, cap, cur, e1, e2, e3, e4, e5, e6, e7⟩
  · have : rs = [] := List.eq_nil_of_length_eq_zero h2
    subst this
    exact ⟨none, 0, rfl, Sl.nil w⟩
  · refine ⟨_, cap, e1, e4, by have : maxLen = 9223372036854775807 := rfl; omega, .inr ⟨g, 0, rfl, lt_of_heap e3, fun j r hj i u hi => ?_⟩⟩
    have hjl : j < rs.length := (List.getElem?_eq_some_iff.1 hj).1
    have hik : i < k := by have := (List.getElem?_eq_some_iff.1 hi).1; rw [hk] at this; exact this
    have hlt : j * k + i < rs.length * k := by
      have := Nat.mul_le_mul_right k (show j + 1 ≤ rs.length from hjl)
      rw [Nat.add_mul, Nat.one_mul] at this; omega
    rw [cell_of_row w g _ _ _ (0, 0) e3, Nat.zero_add]
    have := flat_at hk rs j r hj i hik
    rw [← e7, List.getElem?_take_of_lt hlt, Array.getElem?_toList] at this
    rw [this]; exact hi
end
theorem encE_len (e : Int × Nt) : (encE e).length = 4 := rfl
theorem encR_len (r : Nt) : (encR r).length = 3 := rfl
theorem infoV : ∃ i, Tryz.prog.info? 58 = some i ∧ i.zero = some (.agg #[.int .i64 0, .bool false, .slice none 0 0, .slice none 0 0]) ∧ i.size = 4 ∧ i.bytes = 64 := by
  have h : (Tryz.prog.info? 58).map (fun i => (i.zero, i.size, i.bytes)) = some (some (.agg #[.int .i64 0, .bool false, .slice none 0 0, .slice none 0 0]), 4, 64) := by kernel_rfl
  cases hq : Tryz.prog.info? 58 with
  | none => rw [hq] at h; cases h
  | some i =>
    rw [hq] at h
    simp only [Option.map_some, Option.some.injEq, Prod.mk.injEq] at h
    exact ⟨i, rfl, h.1, h.2.1, h.2.2⟩
theorem infoRt : ∃ i, Tryz.prog.info? 29 = some i ∧ i.zero = some (.agg #[.bool false, .slice none 0 0, .slice none 0 0]) ∧ i.size = 3 ∧ i.bytes = 56 := by
  have h : (Tryz.prog.info? 29).map (fun i => (i.zero, i.size, i.bytes)) = some (some (.agg #[.bool false, .slice none 0 0, .slice none 0 0]), 3, 56) := by kernel_rfl
  cases hq : Tryz.prog.info? 29 with
  | none => rw [hq] at h; cases h
  | some i =>
    rw [hq] at h
    simp only [Option.map_some, Option.some.injEq, Prod.mk.injEq] at h
    exact ⟨i, rfl, h.1, h.2.1, h.2.2⟩
theorem kt_of {t : TypeId} {k n base : Nat} {xs : List Value} {v : Value} {w w' : World} (hb : base ≤ w.heap.size) (hown : w.ownsRow base t k v n xs) (hgr : w.grownBy w' v.ownBlock) : Kt t base w w' := by
  rcases hown.2 with ⟨rfl, e⟩ | ⟨b, cap, cur, rfl, hbb, hhb, hr⟩
  · exact ⟨fun q cs t fz hq _ => (hgr.block q (lt_of_heap hq) (by simp [Value.ownBlock])).trans hq, (Below.refl _ _).grown hgr hb (fun q hq => by simp [Value.ownBlock] at hq)⟩
  · refine ⟨fun q cs t fz hq ht => ?_, (Below.refl _ _).grown hgr hb (fun q hq => by simp [Value.ownBlock] at hq; omega)⟩
    refine (hgr.block q (lt_of_heap hq) (fun e => ?_)).trans hq
    simp only [Value.ownBlock, Option.some.injEq] at e
    subst e
    rcases ht with ht | ht
    · rw [hhb] at hq
      simp only [Option.some.injEq, Obj.cells.injEq] at hq
      exact ht hq.2.1.symm
    · omega
theorem append_E {ops : Array Oper} {rest : List Oper} {o : Oper} {a : Act} {Q : Exit → Act → World → Prop} {w : World} (hgd : o.guard = none) (s x : Operand)
    (ho : o.op = .call { callee := .builtin .append, args := #[s, x], argTypes := #[23, 23] }) {base g c : Nat} {v : Value} {rs : List (Int × Nt)} (r : Int × Nt) (hs : a.eval s = v) (hP : Lg encE 4 58 w base v rs)
    (hx : a.eval x = .slice (some ⟨g, 0, none⟩) 1 c) (hz : w.rangeAt g 0 (encE r)) (hn : rs.length ≤ 1000000000) (hb : base ≤ w.heap.size)
    (h : ∀ v' w', Lg encE 4 58 w' base v' (rs ++ [r]) → Kt 58 base w w' → wpList Tryz.prog ops Q rest (a.put o.dst v') w') : wpList Tryz.prog ops Q (o :: rest) a w := by
  obtain ⟨i, hi, hz0, hs2, hb32⟩ := infoV
  refine wpList_append_own w hgd s x 23 ho base 58 i _ 4 64 Tryz.underlying23 hi hz0 hs2 hb32 rfl (by decide) v rs.length (rs.flatMap encE) hs hP ⟨g, 0, none⟩ 1 c (encE r) hx rfl ?_ ?_ (by unfold maxLen; omega) (by omega) hb ?_
  · intro j u hj
    rw [Addr.add_mid]
    exact hz j u hj
  · intro u hu
    simp [encE] at hu
    rcases hu with rfl | rfl | rfl | rfl <;> rfl
  · intro v' w' hown' hgr _
    exact h v' w' (by unfold Lg; rw [List.length_append, List.flatMap_append]; simpa using hown') (kt_of hb hP hgr)
theorem append_R {ops : Array Oper} {rest : List Oper} {o : Oper} {a : Act} {Q : Exit → Act → World → Prop} {w : World} (hgd : o.guard = none) (s x : Operand)
    (ho : o.op = .call { callee := .builtin .append, args := #[s, x], argTypes := #[22, 22] }) {base g c : Nat} {v : Value} {rs : List Nt} (r : Nt) (hs : a.eval s = v) (hP : Lg encR 3 29 w base v rs)
    (hx : a.eval x = .slice (some ⟨g, 0, none⟩) 1 c) (hz : w.rangeAt g 0 (encR r)) (hn : rs.length ≤ 1000000000) (hb : base ≤ w.heap.size)
    (h : ∀ v' w', Lg encR 3 29 w' base v' (rs ++ [r]) → Kt 29 base w w' → wpList Tryz.prog ops Q rest (a.put o.dst v') w') : wpList Tryz.prog ops Q (o :: rest) a w := by
  obtain ⟨i, hi, hz0, hs2, hb32⟩ := infoRt
  refine wpList_append_own w hgd s x 22 ho base 29 i _ 3 56 Tryz.underlying22 hi hz0 hs2 hb32 rfl (by decide) v rs.length (rs.flatMap encR) hs hP ⟨g, 0, none⟩ 1 c (encR r) hx rfl ?_ ?_ (by unfold maxLen; omega) (by omega) hb ?_
  · intro j u hj
    rw [Addr.add_mid]
    exact hz j u hj
  · intro u hu
    simp [encR] at hu
    rcases hu with rfl | rfl | rfl <;> rfl
  · intro v' w' hown' hgr _
    exact h v' w' (by unfold Lg; rw [List.length_append, List.flatMap_append]; simpa using hown') (kt_of hb hP hgr)
theorem length_flat {α : Type} {enc : α → List Value} {k : Nat} (hk : ∀ x, (enc x).length = k) : ∀ rs : List α, (rs.flatMap enc).length = rs.length * k
  | [] => by simp
  | a :: l => by rw [List.flatMap_cons, List.length_append, hk, length_flat hk l, List.length_cons, Nat.add_mul]; omega
theorem flat_of {α : Type} {enc : α → List Value} {k : Nat} (hk : ∀ x, (enc x).length = k) (h0 : 0 < k) {rs : List α} {t : Nat} {v : Value} (h : (rs.flatMap enc)[t]? = some v) : ∃ r, rs[t / k]? = some r ∧ (enc r)[t % k]? = some v := by
  have ht : t < rs.length * k := by have := (List.getElem?_eq_some_iff.1 h).1; rwa [length_flat hk] at this
  have hj : t / k < rs.length := Nat.div_lt_of_lt_mul (by rw [Nat.mul_comm]; exact ht)
  refine ⟨rs[t / k], List.getElem?_eq_getElem hj, ?_⟩
  have := flat_at hk rs (t / k) _ (List.getElem?_eq_getElem hj) (t % k) (Nat.mod_lt _ h0)
  rw [Nat.div_add_mod' t k, h] at this
  exact this.symm
/-- A row of entries in a block of its own. -/
def Er (w : World) (g : Nat) (rs : List (Int × Nt)) : Prop := w.heap[g]? = some (.cells (rs.flatMap encE).toArray 58 (0, 0))
theorem Er.sl {w : World} {g : Nat} {rs : List (Int × Nt)} (h : Er w g rs) (hn : rs.length ≤ 1000000000) : Sl encE 4 w (some ⟨g, 0, none⟩) rs.length rs := by
  refine ⟨Nat.le_refl _, by omega, .inr ⟨g, 0, rfl, lt_of_heap h, fun j r hj i u hi => ?_⟩⟩
  have hik : i < 4 := by have := (List.getElem?_eq_some_iff.1 hi).1; rwa [encE_len] at this
  rw [cell_of_row w g _ _ _ (0, 0) h, Nat.zero_add, List.getElem?_toArray, flat_at encE_len rs j r hj i hik]
  exact hi
theorem Er.lt {w : World} {g : Nat} {rs : List (Int × Nt)} (h : Er w g rs) : g < w.heap.size := lt_of_heap h
theorem Er.bel {w w' : World} {g : Nat} {rs : List (Int × Nt)} (h : Er w g rs) (hb : Below w.heap.size w w') : Er w' g rs := (hb.block g h.lt).trans h
theorem Er.tx {w : World} {g : Nat} {rs : List (Int × Nt)} (h : Er w g rs) : Tx w g := ⟨_, _, h, by decide⟩
theorem oneE (e : Int × Nt) : ∀ v ∈ encE e, v.oneCell' = true := fun v hv => by
  simp [encE] at hv
  rcases hv with rfl | rfl | rfl | rfl <;> rfl
theorem cells_sl {w : World} {b o : Nat} {rs : List (Int × Nt)} (h : ∀ (j : Nat) (r : Int × Nt), rs[j]? = some r → w.rangeAt b (o + j * 4) (encE r)) : ∀ j v, (rs.flatMap encE)[j]? = some v → w.cell? ((⟨b, o, none⟩ : Addr).add j) = some v := fun j v hv => by
  obtain ⟨r, h1, h2⟩ := flat_of encE_len (by decide) hv
  have := h _ r h1 _ v h2
  rw [Nat.add_assoc, Nat.div_add_mod' j 4] at this
  rw [Addr.add_mid]
  exact this
theorem run_copy_E {w : World} {g c n : Nat} {cur : Array Value} {A : Option Addr} {rs : List (Int × Nt)} (ty : TypeId) (hg : w.heap[g]? = some (.cells cur 58 (0, 0))) (hs : cur.size = rs.length * 4) (h : Sl encE 4 w A c rs) :
    (Builtin.copy_ #[23, 23] ty #[.slice (some ⟨g, 0, none⟩) rs.length n, .slice A rs.length c]).run Tryz.prog w = .ok (goInt rs.length) (w.setRow g (rs.flatMap encE).toArray) := by
  have hl := length_flat encE_len rs
  have h1 : ∀ v ∈ rs.flatMap encE, v.oneCell' = true := fun v hv => by
    obtain ⟨r, _, hr⟩ := List.mem_flatMap.1 hv
    exact oneE r v hr
  have hst := run_storeCells_at Tryz.prog g 0 58 (rs.flatMap encE) 0 cur w hg (by rw [hl, hs]; omega) h1
  have e : cur.toList.drop (0 + 0 + (rs.flatMap encE).length) = [] := List.drop_eq_nil_of_le (by rw [hl, Array.length_toList, hs]; omega)
  rw [e] at hst
  simp only [Nat.add_zero, List.take_zero, List.nil_append, List.append_nil] at hst
  have hq : (sizeOf 58).run Tryz.prog w = .ok 4 w := by
    obtain ⟨i, hi, _, h2, _⟩ := infoV
    simp [sizeOf, typeInfo, hi, h2]
  have hf : (Builtin.firstCells 4 rs.length (.slice A rs.length c)).run Tryz.prog w = .ok (rs.flatMap encE).toArray w := by
    obtain ⟨h2, h3, h4⟩ := h
    rcases h4 with rfl | ⟨b, o, rfl, h5, h6⟩
    · cases A <;> simp [Builtin.firstCells, loadCells, loadCellsFrom]
    · have := run_loadCells_list (P := Tryz.prog) w ⟨b, o, none⟩ (rs.flatMap encE) (cells_sl h6)
      rw [hl] at this
      simpa [Builtin.firstCells] using this
  simp [Builtin.copy_, run_underlying Tryz.underlying23, Builtin.lenOf, hq, hf, hst]
theorem wpList_copy_E {w : World} {ops : Array Oper} {rest : List Oper} {o : Oper} {a : Act} {Q : Exit → Act → World → Prop} (hgd : o.guard = none) (d s : Operand)
    (ho : o.op = .call { callee := .builtin .copy, args := #[d, s], argTypes := #[23, 23] }) {g c n : Nat} {cur : Array Value} {A : Option Addr} {rs : List (Int × Nt)} (hd : a.eval d = .slice (some ⟨g, 0, none⟩) rs.length n) (hv : a.eval s = .slice A rs.length c)
    (hg : w.heap[g]? = some (.cells cur 58 (0, 0))) (hs : cur.size = rs.length * 4) (h : Sl encE 4 w A c rs)
    (hk : ∀ w', Er w' g rs → w.grownBy w' (some g) → wpList Tryz.prog ops Q rest (a.put o.dst (goInt rs.length)) w') : wpList Tryz.prog ops Q (o :: rest) a w := by
  refine wpList_plain hgd fun K hK => ?_
  have hrun := run_copy_E (n := n) o.type hg hs h
  unfold Oper.wp
  simp [execOp, ho, resolve, invoke, builtin, hd, hv, hrun, Result.andThen]
  exact hK _ _ (hk _ (setRow_heap w g _ _ _ _ hg) (grown_setRow w g _))
theorem wpList_make_E {w : World} {ops : Array Oper} {rest : List Oper} {o : Oper} {a : Act} {Q : Exit → Act → World → Prop} (hgd : o.guard = none) (p q : Operand)
    (ho : o.op = .makeSlice 23 p q) (n : Nat) (hp : a.eval p = .int .i64 (n : Int)) (hq : a.eval q = .int .i64 (n : Int)) (hn : n ≤ 1000000000)
    (hk : ∀ w' cur, w'.heap[w.heap.size]? = some (.cells cur 58 (0, 0)) → cur.size = n * 4 → Below w.heap.size w w' → wpList Tryz.prog ops Q rest (a.put o.dst (.slice (some ⟨w.heap.size, 0, none⟩) n n)) w') : wpList Tryz.prog ops Q (o :: rest) a w := by
  obtain ⟨i, hi, hz0, hs2, hb⟩ := infoV
  obtain ⟨w', hr, ho', hgr⟩ := run_make_full (P := Tryz.prog) w 0 23 58 i _ 4 Tryz.underlying23 hi hz0 hs2 .i64 .i64 n (by rw [hb]; omega) (by unfold maxLen; omega) (Nat.zero_le _)
  refine wpList_plain hgd fun K hK => ?_
  unfold Oper.wp
  simp [execOp, ho, hp, hq, hr, Result.andThen]
  obtain ⟨_, h2⟩ := ho'
  rcases h2 with ⟨h2, _⟩ | ⟨g, cap, cur, e1, _, e3, _, _, e6, _⟩
  · cases h2
  · simp only [Value.slice.injEq, Option.some.injEq, Addr.mk.injEq] at e1
    obtain ⟨⟨rfl, _⟩, _, rfl⟩ := e1
    exact hK _ _ (hk w' cur e3 e6 ((Below.refl _ _).grown hgr (Nat.le_refl _) (fun q hq => by cases hq)))
section
variable {ops : Array Oper} {rest : List Oper} {o : Oper} {a : Act} {w : World} {Q : Exit → Act → World → Prop} {b off : Nat} {i : Int} {s : Bool} {A D : Option Addr} {n c m k : Nat}
theorem run_ldAt3 (h : w.rangeAt b off [.bool s, .slice A n c, .slice D m k]) : (loadVar 29 ⟨b, off, none⟩).run Tryz.prog w = .ok (.agg #[.bool s, .slice A n c, .slice D m k]) w := run_loadVar_mid w b off _ _ _ h Tryz.underlying29 rfl Tryz.sizeR
theorem run_ldAt4 (h : w.rangeAt b off [.int .i64 i, .bool s, .slice A n c, .slice D m k]) : (loadVar 58 ⟨b, off, none⟩).run Tryz.prog w = .ok (.agg #[.int .i64 i, .bool s, .slice A n c, .slice D m k]) w := run_loadVar_mid w b off _ _ _ h Tryz.underlying58 rfl Tryz.sizeV
theorem wpList_ld3 (hw : Region.wanted o (yielded ops a.tmps) = true) (p : Operand) (ho : o.op = .load 29 p) (hx : a.eval p = .pointer (some ⟨b, off, none⟩)) (hz : w.rangeAt b off [.bool s, .slice A n c, .slice D m k])
    (h : wpList Tryz.prog ops Q rest (a.put o.dst (.agg #[.bool s, .slice A n c, .slice D m k])) w) : wpList Tryz.prog ops Q (o :: rest) a w :=
  wpList_wanted hw fun K hK => by
    unfold Oper.wp execOp
    simp only [ho, hx, Instr.loadAt, Instr.sureAddr, Sem.run_bind, Sem.run_pure, Result.andThen_ok, run_ldAt3 hz]
    exact hK _ _ h
theorem wpList_ld4 (hw : Region.wanted o (yielded ops a.tmps) = true) (p : Operand) (ho : o.op = .load 58 p) (hx : a.eval p = .pointer (some ⟨b, off, none⟩)) (hz : w.rangeAt b off [.int .i64 i, .bool s, .slice A n c, .slice D m k])
    (h : wpList Tryz.prog ops Q rest (a.put o.dst (.agg #[.int .i64 i, .bool s, .slice A n c, .slice D m k])) w) : wpList Tryz.prog ops Q (o :: rest) a w :=
  wpList_wanted hw fun K hK => by
    unfold Oper.wp execOp
    simp only [ho, hx, Instr.loadAt, Instr.sureAddr, Sem.run_bind, Sem.run_pure, Result.andThen_ok, run_ldAt4 hz]
    exact hK _ _ h
theorem wpList_stV {i0 : Int} {s0 : Bool} {A0 D0 : Option Addr} {n0 c0 m0 k0 g : Nat} (hw : Region.wanted o (yielded ops a.tmps) = true) (p q : Operand) (ho : o.op = .store 58 p q) (hx : a.eval p = .pointer (some ⟨g, 0, none⟩)) (hy : a.eval q = .agg #[.int .i64 i, .bool s, .slice A n c, .slice D m k]) (hz : Vb w g i0 s0 A0 n0 c0 D0 m0 k0)
    (h : ∀ w', Vb w' g i s A n c D m k → w.grownBy w' (some g) → wpList Tryz.prog ops Q rest (a.put o.dst undef) w') : wpList Tryz.prog ops Q (o :: rest) a w :=
  wpList_wanted hw fun K hK => wp_store_row _ p q ho g _ hx hy _ _ hz Tryz.sizeV rfl (by simp [Value.oneCell']) (hK _ _ (h _ (setRow_heap w g _ _ _ _ hz) (grown_setRow w g _)))
end
end Go.Proofs.YtfacndibfkamgaaGreat

/-
  A region that draws its order and only reads, its callees laying blocks of their own: walked once, in the order of the text.
-/
namespace Go.Proofs.YtfacndibfkamgaaGreat
open Go.RowKit
set_option linter.unusedVariables false

section
variable {ops : Array Oper} {o : Oper} {a : Act} {S : World → Prop} {b off n c m k : Nat} {i : Int} {s : Bool} {A D : Option Addr}
theorem run_ldI {w : World} (h : w.cell? ⟨b, off, none⟩ = some (.int .i64 i)) : (loadVar 3 ⟨b, off, none⟩).run Tryz.prog w = .ok (.int .i64 i) w := by
  have hagg : (isAgg 3).run Tryz.prog w = .ok false w := by
    unfold isAgg
    rw [Sem.run_bind, run_underlying Tryz.underlying3 w]
    rfl
  simp [loadVar, Sem.run_bind, hagg, h]
theorem yields_ldI (hw : Region.wanted o (yielded ops a.tmps) = true) (p : Operand) (ho : o.op = .load 3 p) (hx : a.eval p = .pointer (some ⟨b, off, none⟩)) (hS : ∀ w, S w → w.cell? ⟨b, off, none⟩ = some (.int .i64 i)) : YieldsIf Tryz.prog ops S o (.int .i64 i) a :=
  .inl ⟨hw, fun w h => by
    unfold execOp
    simp only [ho, hx, Instr.loadAt, Instr.sureAddr, Sem.run_bind, Sem.run_pure, Result.andThen_ok, run_ldI (hS w h)]⟩
theorem yields_ld3 (hw : Region.wanted o (yielded ops a.tmps) = true) (p : Operand) (ho : o.op = .load 29 p) (hx : a.eval p = .pointer (some ⟨b, off, none⟩)) (hS : ∀ w, S w → w.rangeAt b off [.bool s, .slice A n c, .slice D m k]) : YieldsIf Tryz.prog ops S o (.agg #[.bool s, .slice A n c, .slice D m k]) a :=
  .inl ⟨hw, fun w h => by
    unfold execOp
    simp only [ho, hx, Instr.loadAt, Instr.sureAddr, Sem.run_bind, Sem.run_pure, Result.andThen_ok, run_ldAt3 (hS w h)]⟩
theorem range_gro {w w' : World} {g : Nat} {cs : List Value} (h : w.rangeAt b off cs) (hg : w.grownBy w' (some g)) (ne : b ≠ g) : w'.rangeAt b off cs := fun j u hj => hg.cell (h j u hj) (by simpa using ne)
theorem range_bel {w w' : World} {cs : List Value} (h : w.rangeAt b off cs) (hb : b < w.heap.size) (hw : Below w.heap.size w w') : w'.rangeAt b off cs := fun j u hj => (hw.cell (p := ⟨b, off + j, none⟩) hb).trans (h j u hj)
end
section
variable {fn : Func} {R : Ending → World → Prop} {a : Act} {w : World} {j l g n c m k : Nat} {i : Int} {s : Bool} {A D : Option Addr} {v v' : Value}
theorem ret_t (hf : fn.results = #[.tmp l]) (hd : a.defers = []) (hl : (a.tmps[l]?).getD undef = v) (hR : R (.returned v) w) : bodyPost Tryz.prog fn R .ret a w :=
  bodyPost_ret_by (v := v) (by simp [results, hf, go_sem, hl]) hd hR
theorem ret_tt {l' : Nat} (hf : fn.results = #[.tmp l, .tmp l']) (hd : a.defers = []) (hl : (a.tmps[l]?).getD undef = v) (hl' : (a.tmps[l']?).getD undef = v') (hR : R (.returned (.tuple #[v, v'])) w) : bodyPost Tryz.prog fn R .ret a w :=
  bodyPost_ret_by (v := .tuple #[v, v']) (by simp [results, hf, go_sem, hl, hl']) hd hR
theorem ret_rt (hf : fn.results = #[.cell j 29, .tmp l]) (hd : a.defers = []) (hk : (a.tmps[j]?).getD undef = .pointer (some ⟨g, 0, none⟩)) (hl : (a.tmps[l]?).getD undef = v) (h : Rb w g s A n c D m k)
    (hR : R (.returned (.tuple #[.agg #[.bool s, .slice A n c, .slice D m k], v])) w) : bodyPost Tryz.prog fn R .ret a w := by
  have z1 := cell_of_row w g 0 _ _ _ h
  have z2 := cell_of_row w g 1 _ _ _ h
  have z3 := cell_of_row w g 2 _ _ _ h
  exact bodyPost_ret_by (v := .tuple #[.agg #[.bool s, .slice A n c, .slice D m k], v]) (by simp [results, hf, go_sem, hk, hl, z1, z2, z3]) hd hR
theorem ret_vt (hf : fn.results = #[.cell j 58, .tmp l]) (hd : a.defers = []) (hk : (a.tmps[j]?).getD undef = .pointer (some ⟨g, 0, none⟩)) (hl : (a.tmps[l]?).getD undef = v) (h : Vb w g i s A n c D m k)
    (hR : R (.returned (.tuple #[.agg #[.int .i64 i, .bool s, .slice A n c, .slice D m k], v])) w) : bodyPost Tryz.prog fn R .ret a w := by
  have z1 := cell_of_row w g 0 _ _ _ h
  have z2 := cell_of_row w g 1 _ _ _ h
  have z3 := cell_of_row w g 2 _ _ _ h
  have z4 := cell_of_row w g 3 _ _ _ h
  exact bodyPost_ret_by (v := .tuple #[.agg #[.int .i64 i, .bool s, .slice A n c, .slice D m k], v]) (by simp [results, hf, go_sem, hk, hl, z1, z2, z3, z4]) hd hR
theorem ret_v (hf : fn.results = #[.cell j 58]) (hd : a.defers = []) (hk : (a.tmps[j]?).getD undef = .pointer (some ⟨g, 0, none⟩)) (h : Vb w g i s A n c D m k)
    (hR : R (.returned (.agg #[.int .i64 i, .bool s, .slice A n c, .slice D m k])) w) : bodyPost Tryz.prog fn R .ret a w := by
  have z1 := cell_of_row w g 0 _ _ _ h
  have z2 := cell_of_row w g 1 _ _ _ h
  have z3 := cell_of_row w g 2 _ _ _ h
  have z4 := cell_of_row w g 3 _ _ _ h
  exact bodyPost_ret_by (v := .agg #[.int .i64 i, .bool s, .slice A n c, .slice D m k]) (by simp [results, hf, go_sem, hk, z1, z2, z3, z4]) hd hR
end
theorem Vb.below {w w' : World} {B g : Nat} {i : Int} {s : Bool} {A D : Option Addr} {n c m k : Nat} (h : Vb w g i s A n c D m k) (hb : Below B w w') (hg : g < B) : Vb w' g i s A n c D m k := (hb.block g hg).trans h
theorem Vb.tx {w : World} {g : Nat} {i : Int} {s : Bool} {A D : Option Addr} {n c m k : Nat} (h : Vb w g i s A n c D m k) : Tx w g := ⟨_, _, h, by decide⟩
/-- The world behind a new variable that is stored into. -/
theorem below_new {w w' : World} {ob : Obj} (hg : (w.alloc ob).grownBy w' (some w.heap.size)) : Below w.heap.size w w' := Below.gr ((Below.refl w.heap.size w).alloc (Nat.le_refl _) ob) (Nat.le_refl _) hg (by simp)
end Go.Proofs.YtfacndibfkamgaaGreat

/-
  Contracts of package vector: isSparse, isWithin, least, take.
-/
namespace Go.Proofs.YtfacndibfkamgaaGreat
open Go.RowKit
set_option linter.unusedVariables false

theorem asc_take_succ {rs : List (Int × Nt)} {k : Nat} {r : Int × Nt} (hr : rs[k]? = some r) (h : Asc (ev (rs.take k))) (hl : ∀ k' r', k' + 1 = k → rs[k']? = some r' → r'.1 < r.1) (hq : r.2.q ≠ 0) : Asc (ev (rs.take (k + 1))) := by
  have hk : k < rs.length := (List.getElem?_eq_some_iff.1 hr).1
  rw [List.take_add_one, hr]
  show Asc (List.map _ _)
  rw [List.map_append]
  refine h.snoc (fun e he => ?_) hq
  obtain ⟨r', hr', rfl⟩ := List.mem_map.1 he
  obtain ⟨j, hj⟩ := List.getElem?_of_mem hr'
  have hjk : j < k := by have := (List.getElem?_eq_some_iff.1 hj).1; simp at this; omega
  show r'.1 < r.1
  rw [List.getElem?_take_of_lt hjk] at hj
  rcases Nat.lt_or_ge (j + 1) k with h1 | h1
  · obtain ⟨kk, rfl⟩ : ∃ kk, k = kk + 1 := ⟨k - 1, by omega⟩
    have hkk : kk < rs.length := by omega
    have h2 := hl kk _ rfl (List.getElem?_eq_getElem hkk)
    have h3 := List.pairwise_iff_getElem.1 h.1 j kk (by simp [ev]; omega) (by simp [ev]; omega) (by omega)
    simp [ev] at h3
    have : rs[j]'(by omega) = r' := by have := (List.getElem?_eq_some_iff.1 hj).2; exact this
    rw [this] at h3
    omega
  · exact hl j r' (by omega) hj
theorem not_asc_order {rs : List (Int × Nt)} {k : Nat} {r r' : Int × Nt} (hr : rs[k + 1]? = some r) (hr' : rs[k]? = some r') (h : r.1 ≤ r'.1) : ¬ Asc (ev rs) := fun ha => by
  obtain ⟨h1, h2⟩ := List.getElem?_eq_some_iff.1 hr
  obtain ⟨h3, h4⟩ := List.getElem?_eq_some_iff.1 hr'
  have := List.pairwise_iff_getElem.1 ha.1 k (k + 1) (by simp [ev]; omega) (by simp [ev]; omega) (by omega)
  simp [ev, h2, h4] at this
  omega
theorem not_asc_zero {rs : List (Int × Nt)} {k : Nat} {r : Int × Nt} (hr : rs[k]? = some r) (h : r.2.q = 0) : ¬ Asc (ev rs) := fun ha => ha.2 (r.1, r.2.q) (List.mem_map.2 ⟨r, List.mem_of_getElem? hr, rfl⟩) h
theorem sgR_nil (q : Rat) : sgR q = 0 ↔ q = 0 := by
  have h : sgR q = sg q.num := rfl
  rw [h]
  constructor
  · intro h
    apply Rat.num_eq_zero.1
    unfold sg at h
    split at h
    · cases h
    · split at h
      · assumption
      · cases h
  · rintro rfl; rfl
set_option maxRecDepth 100000 in
set_option maxHeartbeats 16000000 in
theorem isSparse_any {w : World} {A : Option Addr} {c L : Nat} {rs : List (Int × Nt)} (h : Sl encE 4 w A c rs) (hv : ∀ r ∈ rs, Nok w r.2 L) (hL : 1 ≤ L ∧ L ≤ 70368744177660) (hn : rs.length ≤ 1000000000) {ans : Bool} (hb : ans = true ↔ Asc (ev rs)) :
    Calls Tryz.prog 87 #[.slice A rs.length c] w fun e w' => e = .returned (.bool ans) ∧ Below w.heap.size w w' := by
  have BB := Lib.hid hb
  have H := Lib.hid h
  have HV := Lib.hid hv
  have LN := Lib.hid hn
  have LL := Lib.hid hL
  clear h hv hn hL hb
  go_enter Tryz.func87, Tryz.ntmps87
  go_wp2_with fail
  go_loopw [7] (fun v7 wr => ∃ k : Nat, v7 = .int .i64 (k : Int) ∧ Hid (k ≤ rs.length) ∧ Hid (Asc (ev (rs.take k))) ∧ Hid (Below w.heap.size w wr)) (fun v7 _ => rs.length - (intOf v7).toNat)
  case atStart => exact ⟨0, rfl, Lib.hid (Nat.zero_le _), Lib.hid ⟨List.Pairwise.nil, fun e he => by cases he⟩, Lib.hid (Below.refl _ _)⟩
  case round =>
    obtain ⟨k, rfl, KL, AS, B⟩ := hrel
    by_cases hk : k < rs.length
    · obtain ⟨b, o, rfl, hb, hr⟩ := (H.out.below B.out).at_ (by omega)
      obtain ⟨r, hrk⟩ : ∃ r, rs[k]? = some r := ⟨_, List.getElem?_eq_getElem hk⟩
      have R0 := Lib.hid (hr k r hrk)
      have LT := Lib.hid hb
      have RK := Lib.hid hrk
      have HR := Lib.hid hr
      clear hb hr hrk
      have c1 : (k : Int) < (rs.length : Int) := by omega
      have pc0 := Lib.hid trivial
      go_wp2_with (first
        | (clear pc0; refine wpList_ld4 (by rfl) _ rfl (by rfl) R0.out ?_; have pc1 := Lib.hid trivial)
        | (clear pc1; refine wpList_stV (by rfl) _ _ rfl (by rfl) (by rfl) (Vb.new wr 0 false none 0 0 none 0 0) ?_; intro w2 hz hg; have hb := below_new hg; have V := Lib.hid hz; have B2 := Lib.hid hb; clear hz hg hb; have pc2 := Lib.hid trivial))
      clear pc2
      have B3 : Hid (Below w.heap.size w w2) := B.out.trans (B2.out.mono B.out.size)
      have hv0 := (HV.out r (List.mem_of_getElem? RK.out)).below B3.out
      obtain ⟨sv, hsv⟩ : ∃ z, sgR r.2.q = z := ⟨_, rfl⟩
      have hz : sv = 0 ↔ r.2.q = 0 := by rw [← hsv]; exact sgR_nil _
      have HZ := Lib.hid hz
      have SV := Lib.hid hsv
      have NV := Lib.hid hv0
      clear hz hsv hv0
      have STOP : Hid (r.2.q = 0 → ¬ Asc (ev rs)) := not_asc_zero RK.out
      have GO : Hid ((∀ k' r', k' + 1 = k → rs[k']? = some r' → r'.1 < r.1) → r.2.q ≠ 0 → Asc (ev (rs.take (k + 1)))) := asc_take_succ RK.out AS.out
      rcases Nat.eq_zero_or_pos k with hk0 | hk0
      · subst hk0
        by_cases hsz : sv = 0
        · have NA := Lib.hid (STOP.out (HZ.out.1 hsz))
          subst hsz
          try simp only [Act.put]
          have HB : Hid (Below w2.heap.size w2 w2.drew) := below_drewN _ w2 1
          refine wp_region_held_drew (S := fun w' => Below w2.heap.size w2 w') (by kernel_rfl) (HB.out) (fun hHeld => ?_)
          refine wpAnyH_takeL (i := 0) (oi := _) (v := ?_) rfl (by kernel_rfl) (by kernel_rfl) (by kernel_rfl) (fun _ _ _ h => h) (Or.inl ⟨by rfl, ?_⟩) hHeld ?_
          rotate_left
          · (intro w' hSw; (try dsimp only at hSw); go_simp; try (with_reducible rfl))
          try simp only [Act.put, List.setIfInBounds_toArray, List.set_cons_zero, List.set_cons_succ]
          refine wpAnyH_takeL (i := 1) (oi := _) (v := ?_) rfl (by kernel_rfl) (by kernel_rfl) (by kernel_rfl) (fun _ _ _ h => h) (Or.inl ⟨by rfl, ?_⟩) hHeld ?_
          rotate_left
          · (intro w' hSw; (try dsimp only at hSw); go_simp; try (with_reducible rfl))
          try simp only [Act.put, List.setIfInBounds_toArray, List.set_cons_zero, List.set_cons_succ]
          refine wpAnyH_takeL (i := 2) (oi := _) (v := ?_) rfl (by kernel_rfl) (by kernel_rfl) (by kernel_rfl) (fun _ _ _ h => h) (Or.inl ⟨by rfl, ?_⟩) hHeld ?_
          rotate_left
          · (intro w' hSw; (try dsimp only at hSw); go_simp; try (with_reducible rfl))
          try simp only [Act.put, List.setIfInBounds_toArray, List.set_cons_zero, List.set_cons_succ]
          refine wpAnyH_takeL (i := 3) (oi := _) (v := undef) rfl (by kernel_rfl) (by kernel_rfl) (by kernel_rfl) (fun _ _ _ h => h) (Or.inr ⟨by rfl, rfl⟩) hHeld ?_
          try simp only [Act.put, List.setIfInBounds_toArray, List.set_cons_zero, List.set_cons_succ]
          refine wpAnyH_takeL (i := 4) (oi := _) (v := undef) rfl (by kernel_rfl) (by kernel_rfl) (by kernel_rfl) (fun _ _ _ h => h) (Or.inr ⟨by rfl, rfl⟩) hHeld ?_
          try simp only [Act.put, List.setIfInBounds_toArray, List.set_cons_zero, List.set_cons_succ]
          refine wpAnyH_takeL (i := 5) (oi := _) (v := undef) rfl (by kernel_rfl) (by kernel_rfl) (by kernel_rfl) (fun _ _ _ h => h) (Or.inr ⟨by rfl, rfl⟩) hHeld ?_
          try simp only [Act.put, List.setIfInBounds_toArray, List.set_cons_zero, List.set_cons_succ]
          refine wpAnyH_takeL (i := 6) (oi := _) (v := undef) rfl (by kernel_rfl) (by kernel_rfl) (by kernel_rfl) (fun _ _ _ h => h) (Or.inr ⟨by rfl, rfl⟩) hHeld ?_
          try simp only [Act.put, List.setIfInBounds_toArray, List.set_cons_zero, List.set_cons_succ]
          refine wpAnyH_takeL (i := 7) (oi := _) (v := undef) rfl (by kernel_rfl) (by kernel_rfl) (by kernel_rfl) (fun _ _ _ h => h) (Or.inr ⟨by rfl, rfl⟩) hHeld ?_
          try simp only [Act.put, List.setIfInBounds_toArray, List.set_cons_zero, List.set_cons_succ]
          refine wpAnyH_takeL (i := 8) (oi := _) (v := undef) rfl (by kernel_rfl) (by kernel_rfl) (by kernel_rfl) (fun _ _ _ h => h) (Or.inr ⟨by rfl, rfl⟩) hHeld ?_
          try simp only [Act.put, List.setIfInBounds_toArray, List.set_cons_zero, List.set_cons_succ]
          refine wpAnyH_takeL (i := 9) (oi := _) (v := undef) rfl (by kernel_rfl) (by kernel_rfl) (by kernel_rfl) (fun _ _ _ h => h) (Or.inr ⟨by rfl, rfl⟩) hHeld ?_
          try simp only [Act.put, List.setIfInBounds_toArray, List.set_cons_zero, List.set_cons_succ]
          refine wpAnyH_takeL (i := 10) (oi := _) (v := undef) rfl (by kernel_rfl) (by kernel_rfl) (by kernel_rfl) (fun _ _ _ h => h) (Or.inr ⟨by rfl, rfl⟩) hHeld ?_
          try simp only [Act.put, List.setIfInBounds_toArray, List.set_cons_zero, List.set_cons_succ]
          refine wpAnyH_takeL (i := 11) (oi := _) (v := undef) rfl (by kernel_rfl) (by kernel_rfl) (by kernel_rfl) (fun _ _ _ h => h) (Or.inr ⟨by rfl, rfl⟩) hHeld ?_
          try simp only [Act.put, List.setIfInBounds_toArray, List.set_cons_zero, List.set_cons_succ]
          refine wpAnyH_takeL (i := 12) (oi := _) (v := ?_) rfl (by kernel_rfl) (by kernel_rfl) (by kernel_rfl) (fun _ _ _ h => h) (Or.inl ⟨by rfl, ?_⟩) hHeld ?_
          rotate_left
          · (intro w' hSw; (try dsimp only at hSw); go_simp; try (with_reducible rfl))
          try simp only [Act.put, List.setIfInBounds_toArray, List.set_cons_zero, List.set_cons_succ]
          refine wpAnyH_takeL (i := 13) (oi := _) (v := ?_) rfl (by kernel_rfl) (by kernel_rfl) (by kernel_rfl) (fun _ _ _ h => h) (Or.inl ⟨by rfl, ?_⟩) hHeld ?_
          rotate_left
          · (intro w' hSw; (try dsimp only at hSw); go_simp; try (with_reducible rfl))
          try simp only [Act.put, List.setIfInBounds_toArray, List.set_cons_zero, List.set_cons_succ]
          refine wpAnyH_takeL (i := 14) (oi := _) (v := ?_) rfl (by kernel_rfl) (by kernel_rfl) (by kernel_rfl) (fun _ _ _ h => h) (Or.inl ⟨by rfl, ?_⟩) hHeld ?_
          rotate_left
          · (intro w' hSw; (try dsimp only at hSw); go_simp; try (with_reducible rfl))
          try simp only [Act.put, List.setIfInBounds_toArray, List.set_cons_zero, List.set_cons_succ]
          refine wpAnyH_takeL (i := 15) (oi := _) rfl (by kernel_rfl) (by kernel_rfl) (by kernel_rfl) (fun _ _ _ h => h) (yields_ld3 (by rfl) _ rfl (by rfl) (fun _ hb => range_bel V.out.rangeV V.out.lt hb)) hHeld ?_
          try simp only [Act.put, List.setIfInBounds_toArray, List.set_cons_zero, List.set_cons_succ]
          refine wpAnyH_ready (rs := [16]) (by kernel_rfl) (by simp) ?_
          refine AllReadyH.consL (o := _) rfl (fun K hK => ?_) AllReadyH.nil
          clear hHeld
          go_simp
          go_at_call 52
          refine Calls.mono (qsign_any (NV.out.1.below HB.out) (NV.out.2.1.below HB.out) NV.out.2.2.1 NV.out.2.2.2 LL.out SV.out) ?_
          rintro e w3 ⟨rfl, hb⟩
          replace HB := Lib.hid (HB.out.trans (hb.mono HB.out.size))
          clear hb
          refine hK.out _ _ HB.out (fun hHeld => ?_)
          clear hK K
          try simp only [Act.put, List.setIfInBounds_toArray, List.set_cons_zero, List.set_cons_succ]
          refine wpAnyH_takeL (i := 17) (oi := _) (v := ?_) rfl (by kernel_rfl) (by kernel_rfl) (by kernel_rfl) (fun _ _ _ h => h) (Or.inl ⟨by rfl, ?_⟩) hHeld ?_
          rotate_left
          · (intro w' hSw; (try dsimp only at hSw); go_simp; try (with_reducible rfl))
          try simp only [Act.put, List.setIfInBounds_toArray, List.set_cons_zero, List.set_cons_succ]
          refine wpAnyH_takeL (i := 18) (oi := _) (v := ?_) rfl (by kernel_rfl) (by kernel_rfl) (by kernel_rfl) (fun _ _ _ h => h) (Or.inl ⟨by rfl, ?_⟩) hHeld ?_
          rotate_left
          · (intro w' hSw; (try dsimp only at hSw); go_simp; try (with_reducible rfl))
          try simp only [Act.put, List.setIfInBounds_toArray, List.set_cons_zero, List.set_cons_succ]
          refine wpAnyH_done (by kernel_rfl) ?_ _
          obtain rfl : ans = false := by
            cases hans : ans
            · rfl
            · exact absurd (BB.out.1 hans) NA.out
          go_wp2
          go_ret
          exact ⟨rfl, B3.out.trans (HB.out.mono B3.out.size)⟩
        · have AS2 := Lib.hid (GO.out (fun k' r' h _ => by omega) (fun h => hsz (HZ.out.2 h)))
          try simp only [Act.put]
          have HB : Hid (Below w2.heap.size w2 w2.drew) := below_drewN _ w2 1
          refine wp_region_held_drew (S := fun w' => Below w2.heap.size w2 w') (by kernel_rfl) (HB.out) (fun hHeld => ?_)
          refine wpAnyH_takeL (i := 0) (oi := _) (v := ?_) rfl (by kernel_rfl) (by kernel_rfl) (by kernel_rfl) (fun _ _ _ h => h) (Or.inl ⟨by rfl, ?_⟩) hHeld ?_
          rotate_left
          · (intro w' hSw; (try dsimp only at hSw); go_simp; try (with_reducible rfl))
          try simp only [Act.put, List.setIfInBounds_toArray, List.set_cons_zero, List.set_cons_succ]
          refine wpAnyH_takeL (i := 1) (oi := _) (v := ?_) rfl (by kernel_rfl) (by kernel_rfl) (by kernel_rfl) (fun _ _ _ h => h) (Or.inl ⟨by rfl, ?_⟩) hHeld ?_
          rotate_left
          · (intro w' hSw; (try dsimp only at hSw); go_simp; try (with_reducible rfl))
          try simp only [Act.put, List.setIfInBounds_toArray, List.set_cons_zero, List.set_cons_succ]
          refine wpAnyH_takeL (i := 2) (oi := _) (v := ?_) rfl (by kernel_rfl) (by kernel_rfl) (by kernel_rfl) (fun _ _ _ h => h) (Or.inl ⟨by rfl, ?_⟩) hHeld ?_
          rotate_left
          · (intro w' hSw; (try dsimp only at hSw); go_simp; try (with_reducible rfl))
          try simp only [Act.put, List.setIfInBounds_toArray, List.set_cons_zero, List.set_cons_succ]
          refine wpAnyH_takeL (i := 3) (oi := _) (v := undef) rfl (by kernel_rfl) (by kernel_rfl) (by kernel_rfl) (fun _ _ _ h => h) (Or.inr ⟨by rfl, rfl⟩) hHeld ?_
          try simp only [Act.put, List.setIfInBounds_toArray, List.set_cons_zero, List.set_cons_succ]
          refine wpAnyH_takeL (i := 4) (oi := _) (v := undef) rfl (by kernel_rfl) (by kernel_rfl) (by kernel_rfl) (fun _ _ _ h => h) (Or.inr ⟨by rfl, rfl⟩) hHeld ?_
          try simp only [Act.put, List.setIfInBounds_toArray, List.set_cons_zero, List.set_cons_succ]
          refine wpAnyH_takeL (i := 5) (oi := _) (v := undef) rfl (by kernel_rfl) (by kernel_rfl) (by kernel_rfl) (fun _ _ _ h => h) (Or.inr ⟨by rfl, rfl⟩) hHeld ?_
          try simp only [Act.put, List.setIfInBounds_toArray, List.set_cons_zero, List.set_cons_succ]
          refine wpAnyH_takeL (i := 6) (oi := _) (v := undef) rfl (by kernel_rfl) (by kernel_rfl) (by kernel_rfl) (fun _ _ _ h => h) (Or.inr ⟨by rfl, rfl⟩) hHeld ?_
          try simp only [Act.put, List.setIfInBounds_toArray, List.set_cons_zero, List.set_cons_succ]
          refine wpAnyH_takeL (i := 7) (oi := _) (v := undef) rfl (by kernel_rfl) (by kernel_rfl) (by kernel_rfl) (fun _ _ _ h => h) (Or.inr ⟨by rfl, rfl⟩) hHeld ?_
          try simp only [Act.put, List.setIfInBounds_toArray, List.set_cons_zero, List.set_cons_succ]
          refine wpAnyH_takeL (i := 8) (oi := _) (v := undef) rfl (by kernel_rfl) (by kernel_rfl) (by kernel_rfl) (fun _ _ _ h => h) (Or.inr ⟨by rfl, rfl⟩) hHeld ?_
          try simp only [Act.put, List.setIfInBounds_toArray, List.set_cons_zero, List.set_cons_succ]
          refine wpAnyH_takeL (i := 9) (oi := _) (v := undef) rfl (by kernel_rfl) (by kernel_rfl) (by kernel_rfl) (fun _ _ _ h => h) (Or.inr ⟨by rfl, rfl⟩) hHeld ?_
          try simp only [Act.put, List.setIfInBounds_toArray, List.set_cons_zero, List.set_cons_succ]
          refine wpAnyH_takeL (i := 10) (oi := _) (v := undef) rfl (by kernel_rfl) (by kernel_rfl) (by kernel_rfl) (fun _ _ _ h => h) (Or.inr ⟨by rfl, rfl⟩) hHeld ?_
          try simp only [Act.put, List.setIfInBounds_toArray, List.set_cons_zero, List.set_cons_succ]
          refine wpAnyH_takeL (i := 11) (oi := _) (v := undef) rfl (by kernel_rfl) (by kernel_rfl) (by kernel_rfl) (fun _ _ _ h => h) (Or.inr ⟨by rfl, rfl⟩) hHeld ?_
          try simp only [Act.put, List.setIfInBounds_toArray, List.set_cons_zero, List.set_cons_succ]
          refine wpAnyH_takeL (i := 12) (oi := _) (v := ?_) rfl (by kernel_rfl) (by kernel_rfl) (by kernel_rfl) (fun _ _ _ h => h) (Or.inl ⟨by rfl, ?_⟩) hHeld ?_
          rotate_left
          · (intro w' hSw; (try dsimp only at hSw); go_simp; try (with_reducible rfl))
          try simp only [Act.put, List.setIfInBounds_toArray, List.set_cons_zero, List.set_cons_succ]
          refine wpAnyH_takeL (i := 13) (oi := _) (v := ?_) rfl (by kernel_rfl) (by kernel_rfl) (by kernel_rfl) (fun _ _ _ h => h) (Or.inl ⟨by rfl, ?_⟩) hHeld ?_
          rotate_left
          · (intro w' hSw; (try dsimp only at hSw); go_simp; try (with_reducible rfl))
          try simp only [Act.put, List.setIfInBounds_toArray, List.set_cons_zero, List.set_cons_succ]
          refine wpAnyH_takeL (i := 14) (oi := _) (v := ?_) rfl (by kernel_rfl) (by kernel_rfl) (by kernel_rfl) (fun _ _ _ h => h) (Or.inl ⟨by rfl, ?_⟩) hHeld ?_
          rotate_left
          · (intro w' hSw; (try dsimp only at hSw); go_simp; try (with_reducible rfl))
          try simp only [Act.put, List.setIfInBounds_toArray, List.set_cons_zero, List.set_cons_succ]
          refine wpAnyH_takeL (i := 15) (oi := _) rfl (by kernel_rfl) (by kernel_rfl) (by kernel_rfl) (fun _ _ _ h => h) (yields_ld3 (by rfl) _ rfl (by rfl) (fun _ hb => range_bel V.out.rangeV V.out.lt hb)) hHeld ?_
          try simp only [Act.put, List.setIfInBounds_toArray, List.set_cons_zero, List.set_cons_succ]
          refine wpAnyH_ready (rs := [16]) (by kernel_rfl) (by simp) ?_
          refine AllReadyH.consL (o := _) rfl (fun K hK => ?_) AllReadyH.nil
          clear hHeld
          go_simp
          go_at_call 52
          refine Calls.mono (qsign_any (NV.out.1.below HB.out) (NV.out.2.1.below HB.out) NV.out.2.2.1 NV.out.2.2.2 LL.out SV.out) ?_
          rintro e w3 ⟨rfl, hb⟩
          replace HB := Lib.hid (HB.out.trans (hb.mono HB.out.size))
          clear hb
          refine hK.out _ _ HB.out (fun hHeld => ?_)
          clear hK K
          try simp only [Act.put, List.setIfInBounds_toArray, List.set_cons_zero, List.set_cons_succ]
          refine wpAnyH_takeL (i := 17) (oi := _) (v := ?_) rfl (by kernel_rfl) (by kernel_rfl) (by kernel_rfl) (fun _ _ _ h => h) (Or.inl ⟨by rfl, ?_⟩) hHeld ?_
          rotate_left
          · (intro w' hSw; (try dsimp only at hSw); go_simp; try (with_reducible rfl))
          try simp only [Act.put, List.setIfInBounds_toArray, List.set_cons_zero, List.set_cons_succ]
          refine wpAnyH_takeL (i := 18) (oi := _) (v := ?_) rfl (by kernel_rfl) (by kernel_rfl) (by kernel_rfl) (fun _ _ _ h => h) (Or.inl ⟨by rfl, ?_⟩) hHeld ?_
          rotate_left
          · (intro w' hSw; (try dsimp only at hSw); go_simp; try (with_reducible rfl))
          try simp only [Act.put, List.setIfInBounds_toArray, List.set_cons_zero, List.set_cons_succ]
          refine wpAnyH_done (by kernel_rfl) ?_ _
          go_wp2_with fail
          go_roundw
          case rel => exact ⟨1, by go_num, Lib.hid (by show _ ≤ _; omega), AS2, Lib.hid (B3.out.trans (HB.out.mono B3.out.size))⟩
          case measure => simp [intOf]; omega
      · obtain ⟨j, hkj⟩ : ∃ j, k = j + 1 := ⟨k - 1, by omega⟩
        obtain ⟨rp, hrp⟩ : ∃ r, rs[j]? = some r := ⟨_, List.getElem?_eq_getElem (by omega)⟩
        have P2 : Hid (w2.cell? ⟨b, o + j * 4, none⟩ = some (.int .i64 rp.1)) := (B2.out.cell (p := ⟨b, o + j * 4, none⟩) LT.out).trans (HR.out j rp hrp 0 _ rfl)
        have RP := Lib.hid hrp
        have n0 : (rs.length : Int) ≤ 1000000000 := by have := LN.out; omega
        have c2 : (0 : Int) < (k : Int) := by omega
        have c3 : (j : Int) < (rs.length : Int) := by omega
        have c4 : IntKind.i64.wrap ((k : Int) - 1) = (j : Int) := by rw [IntWalk.i64_in _ (by omega)]; omega
        have w1 : IntKind.i64.wrap ((k : Int) + 1) = (k : Int) + 1 := IntWalk.i64_in _ (by omega)
        have KJ := Lib.hid hkj
        clear hrp hkj
        by_cases hord : r.1 ≤ rp.1
        · have NA := Lib.hid (not_asc_order (k := j) (by rw [← KJ.out]; exact RK.out) RP.out hord)
          try simp only [Act.put]
          have HB : Hid (Below w2.heap.size w2 w2.drew) := below_drewN _ w2 1
          refine wp_region_held_drew (S := fun w' => Below w2.heap.size w2 w') (by kernel_rfl) (HB.out) (fun hHeld => ?_)
          refine wpAnyH_takeL (i := 0) (oi := _) (v := ?_) rfl (by kernel_rfl) (by kernel_rfl) (by kernel_rfl) (fun _ _ _ h => h) (Or.inl ⟨by rfl, ?_⟩) hHeld ?_
          rotate_left
          · (intro w' hSw; (try dsimp only at hSw); go_simp; try (with_reducible rfl))
          try simp only [Act.put, List.setIfInBounds_toArray, List.set_cons_zero, List.set_cons_succ]
          refine wpAnyH_takeL (i := 1) (oi := _) (v := ?_) rfl (by kernel_rfl) (by kernel_rfl) (by kernel_rfl) (fun _ _ _ h => h) (Or.inl ⟨by rfl, ?_⟩) hHeld ?_
          rotate_left
          · (intro w' hSw; (try dsimp only at hSw); go_simp; try (with_reducible rfl))
          try simp only [Act.put, List.setIfInBounds_toArray, List.set_cons_zero, List.set_cons_succ]
          refine wpAnyH_takeL (i := 2) (oi := _) (v := ?_) rfl (by kernel_rfl) (by kernel_rfl) (by kernel_rfl) (fun _ _ _ h => h) (Or.inl ⟨by rfl, ?_⟩) hHeld ?_
          rotate_left
          · (intro w' hSw; (try dsimp only at hSw); go_simp; try (with_reducible rfl))
          try simp only [Act.put, List.setIfInBounds_toArray, List.set_cons_zero, List.set_cons_succ]
          refine wpAnyH_takeL (i := 3) (oi := _) (v := ?_) rfl (by kernel_rfl) (by kernel_rfl) (by kernel_rfl) (fun _ _ _ h => h) (Or.inl ⟨by rfl, ?_⟩) hHeld ?_
          rotate_left
          · (intro w' hSw; (try dsimp only at hSw); go_simp; try (with_reducible rfl))
          try simp only [Act.put, List.setIfInBounds_toArray, List.set_cons_zero, List.set_cons_succ]
          refine wpAnyH_takeL (i := 4) (oi := _) (v := ?_) rfl (by kernel_rfl) (by kernel_rfl) (by kernel_rfl) (fun _ _ _ h => h) (Or.inl ⟨by rfl, ?_⟩) hHeld ?_
          rotate_left
          · (intro w' hSw; (try dsimp only at hSw); go_simp; try (with_reducible rfl))
          try simp only [Act.put, List.setIfInBounds_toArray, List.set_cons_zero, List.set_cons_succ]
          refine wpAnyH_takeL (i := 5) (oi := _) (v := ?_) rfl (by kernel_rfl) (by kernel_rfl) (by kernel_rfl) (fun _ _ _ h => h) (Or.inl ⟨by rfl, ?_⟩) hHeld ?_
          rotate_left
          · (intro w' hSw; (try dsimp only at hSw); go_simp; try (with_reducible rfl))
          try simp only [Act.put, List.setIfInBounds_toArray, List.set_cons_zero, List.set_cons_succ]
          refine wpAnyH_takeL (i := 6) (oi := _) (v := ?_) rfl (by kernel_rfl) (by kernel_rfl) (by kernel_rfl) (fun _ _ _ h => h) (Or.inl ⟨by rfl, ?_⟩) hHeld ?_
          rotate_left
          · (intro w' hSw; (try dsimp only at hSw); go_simp; try (with_reducible rfl))
          try simp only [Act.put, List.setIfInBounds_toArray, List.set_cons_zero, List.set_cons_succ]
          refine wpAnyH_takeL (i := 7) (oi := _) (v := ?_) rfl (by kernel_rfl) (by kernel_rfl) (by kernel_rfl) (fun _ _ _ h => h) (Or.inl ⟨by rfl, ?_⟩) hHeld ?_
          rotate_left
          · (intro w' hSw; (try dsimp only at hSw); go_simp; try (with_reducible rfl))
          try simp only [Act.put, List.setIfInBounds_toArray, List.set_cons_zero, List.set_cons_succ]
          refine wpAnyH_takeL (i := 8) (oi := _) rfl (by kernel_rfl) (by kernel_rfl) (by kernel_rfl) (fun _ _ _ h => h) (yields_ldI (by rfl) _ rfl (by rfl) (fun _ hb => (hb.cell (p := ⟨b, o + j * 4, none⟩) (Nat.lt_of_lt_of_le LT.out B2.out.size)).trans P2.out)) hHeld ?_
          try simp only [Act.put, List.setIfInBounds_toArray, List.set_cons_zero, List.set_cons_succ]
          refine wpAnyH_takeL (i := 9) (oi := _) (v := ?_) rfl (by kernel_rfl) (by kernel_rfl) (by kernel_rfl) (fun _ _ _ h => h) (Or.inl ⟨by rfl, ?_⟩) hHeld ?_
          rotate_left
          · (intro w' hSw; (try dsimp only at hSw); go_simp; try (with_reducible rfl))
          try simp only [Act.put, List.setIfInBounds_toArray, List.set_cons_zero, List.set_cons_succ]
          refine wpAnyH_takeL (i := 10) (oi := _) rfl (by kernel_rfl) (by kernel_rfl) (by kernel_rfl) (fun _ _ _ h => h) (yields_ldI (by rfl) _ rfl (by rfl) (fun _ hb => (hb.cell (p := ⟨wr.heap.size, 0, none⟩) V.out.lt).trans V.out.cell0)) hHeld ?_
          try simp only [Act.put, List.setIfInBounds_toArray, List.set_cons_zero, List.set_cons_succ]
          refine wpAnyH_takeL (i := 11) (oi := _) (v := ?_) rfl (by kernel_rfl) (by kernel_rfl) (by kernel_rfl) (fun _ _ _ h => h) (Or.inl ⟨by rfl, ?_⟩) hHeld ?_
          rotate_left
          · (intro w' hSw; (try dsimp only at hSw); go_simp; try (with_reducible rfl))
          try simp only [Act.put, List.setIfInBounds_toArray, List.set_cons_zero, List.set_cons_succ]
          refine wpAnyH_takeL (i := 12) (oi := _) (v := ?_) rfl (by kernel_rfl) (by kernel_rfl) (by kernel_rfl) (fun _ _ _ h => h) (Or.inl ⟨by rfl, ?_⟩) hHeld ?_
          rotate_left
          · (intro w' hSw; (try dsimp only at hSw); go_simp; try (with_reducible rfl))
          try simp only [Act.put, List.setIfInBounds_toArray, List.set_cons_zero, List.set_cons_succ]
          refine wpAnyH_takeL (i := 13) (oi := _) (v := ?_) rfl (by kernel_rfl) (by kernel_rfl) (by kernel_rfl) (fun _ _ _ h => h) (Or.inl ⟨by rfl, ?_⟩) hHeld ?_
          rotate_left
          · (intro w' hSw; (try dsimp only at hSw); go_simp; try (with_reducible rfl))
          try simp only [Act.put, List.setIfInBounds_toArray, List.set_cons_zero, List.set_cons_succ]
          refine wpAnyH_takeL (i := 14) (oi := _) (v := undef) rfl (by kernel_rfl) (by kernel_rfl) (by kernel_rfl) (fun _ _ _ h => h) (Or.inr ⟨by rfl, rfl⟩) hHeld ?_
          try simp only [Act.put, List.setIfInBounds_toArray, List.set_cons_zero, List.set_cons_succ]
          refine wpAnyH_takeL (i := 15) (oi := _) (v := undef) rfl (by kernel_rfl) (by kernel_rfl) (by kernel_rfl) (fun _ _ _ h => h) (Or.inr ⟨by rfl, rfl⟩) hHeld ?_
          try simp only [Act.put, List.setIfInBounds_toArray, List.set_cons_zero, List.set_cons_succ]
          refine wpAnyH_takeL (i := 16) (oi := _) (v := undef) rfl (by kernel_rfl) (by kernel_rfl) (by kernel_rfl) (fun _ _ _ h => h) (Or.inr ⟨by rfl, rfl⟩) hHeld ?_
          try simp only [Act.put, List.setIfInBounds_toArray, List.set_cons_zero, List.set_cons_succ]
          refine wpAnyH_takeL (i := 17) (oi := _) (v := undef) rfl (by kernel_rfl) (by kernel_rfl) (by kernel_rfl) (fun _ _ _ h => h) (Or.inr ⟨by rfl, rfl⟩) hHeld ?_
          try simp only [Act.put, List.setIfInBounds_toArray, List.set_cons_zero, List.set_cons_succ]
          refine wpAnyH_takeL (i := 18) (oi := _) (v := ?_) rfl (by kernel_rfl) (by kernel_rfl) (by kernel_rfl) (fun _ _ _ h => h) (Or.inl ⟨by rfl, ?_⟩) hHeld ?_
          rotate_left
          · (intro w' hSw; (try dsimp only at hSw); go_simp; try (with_reducible rfl))
          try simp only [Act.put, List.setIfInBounds_toArray, List.set_cons_zero, List.set_cons_succ]
          refine wpAnyH_done (by kernel_rfl) ?_ _
          obtain rfl : ans = false := by
            cases hans : ans
            · rfl
            · exact absurd (BB.out.1 hans) NA.out
          go_wp2
          go_ret
          exact ⟨rfl, B3.out.trans (HB.out.mono B3.out.size)⟩
        · by_cases hsz : sv = 0
          · have NA := Lib.hid (STOP.out (HZ.out.1 hsz))
            subst hsz
            try simp only [Act.put]
            have HB : Hid (Below w2.heap.size w2 w2.drew) := below_drewN _ w2 1
            refine wp_region_held_drew (S := fun w' => Below w2.heap.size w2 w') (by kernel_rfl) (HB.out) (fun hHeld => ?_)
            refine wpAnyH_takeL (i := 0) (oi := _) (v := ?_) rfl (by kernel_rfl) (by kernel_rfl) (by kernel_rfl) (fun _ _ _ h => h) (Or.inl ⟨by rfl, ?_⟩) hHeld ?_
            rotate_left
            · (intro w' hSw; (try dsimp only at hSw); go_simp; try (with_reducible rfl))
            try simp only [Act.put, List.setIfInBounds_toArray, List.set_cons_zero, List.set_cons_succ]
            refine wpAnyH_takeL (i := 1) (oi := _) (v := ?_) rfl (by kernel_rfl) (by kernel_rfl) (by kernel_rfl) (fun _ _ _ h => h) (Or.inl ⟨by rfl, ?_⟩) hHeld ?_
            rotate_left
            · (intro w' hSw; (try dsimp only at hSw); go_simp; try (with_reducible rfl))
            try simp only [Act.put, List.setIfInBounds_toArray, List.set_cons_zero, List.set_cons_succ]
            refine wpAnyH_takeL (i := 2) (oi := _) (v := ?_) rfl (by kernel_rfl) (by kernel_rfl) (by kernel_rfl) (fun _ _ _ h => h) (Or.inl ⟨by rfl, ?_⟩) hHeld ?_
            rotate_left
            · (intro w' hSw; (try dsimp only at hSw); go_simp; try (with_reducible rfl))
            try simp only [Act.put, List.setIfInBounds_toArray, List.set_cons_zero, List.set_cons_succ]
            refine wpAnyH_takeL (i := 3) (oi := _) (v := ?_) rfl (by kernel_rfl) (by kernel_rfl) (by kernel_rfl) (fun _ _ _ h => h) (Or.inl ⟨by rfl, ?_⟩) hHeld ?_
            rotate_left
            · (intro w' hSw; (try dsimp only at hSw); go_simp; try (with_reducible rfl))
            try simp only [Act.put, List.setIfInBounds_toArray, List.set_cons_zero, List.set_cons_succ]
            refine wpAnyH_takeL (i := 4) (oi := _) (v := ?_) rfl (by kernel_rfl) (by kernel_rfl) (by kernel_rfl) (fun _ _ _ h => h) (Or.inl ⟨by rfl, ?_⟩) hHeld ?_
            rotate_left
            · (intro w' hSw; (try dsimp only at hSw); go_simp; try (with_reducible rfl))
            try simp only [Act.put, List.setIfInBounds_toArray, List.set_cons_zero, List.set_cons_succ]
            refine wpAnyH_takeL (i := 5) (oi := _) (v := ?_) rfl (by kernel_rfl) (by kernel_rfl) (by kernel_rfl) (fun _ _ _ h => h) (Or.inl ⟨by rfl, ?_⟩) hHeld ?_
            rotate_left
            · (intro w' hSw; (try dsimp only at hSw); go_simp; try (with_reducible rfl))
            try simp only [Act.put, List.setIfInBounds_toArray, List.set_cons_zero, List.set_cons_succ]
            refine wpAnyH_takeL (i := 6) (oi := _) (v := ?_) rfl (by kernel_rfl) (by kernel_rfl) (by kernel_rfl) (fun _ _ _ h => h) (Or.inl ⟨by rfl, ?_⟩) hHeld ?_
            rotate_left
            · (intro w' hSw; (try dsimp only at hSw); go_simp; try (with_reducible rfl))
            try simp only [Act.put, List.setIfInBounds_toArray, List.set_cons_zero, List.set_cons_succ]
            refine wpAnyH_takeL (i := 7) (oi := _) (v := ?_) rfl (by kernel_rfl) (by kernel_rfl) (by kernel_rfl) (fun _ _ _ h => h) (Or.inl ⟨by rfl, ?_⟩) hHeld ?_
            rotate_left
            · (intro w' hSw; (try dsimp only at hSw); go_simp; try (with_reducible rfl))
            try simp only [Act.put, List.setIfInBounds_toArray, List.set_cons_zero, List.set_cons_succ]
            refine wpAnyH_takeL (i := 8) (oi := _) rfl (by kernel_rfl) (by kernel_rfl) (by kernel_rfl) (fun _ _ _ h => h) (yields_ldI (by rfl) _ rfl (by rfl) (fun _ hb => (hb.cell (p := ⟨b, o + j * 4, none⟩) (Nat.lt_of_lt_of_le LT.out B2.out.size)).trans P2.out)) hHeld ?_
            try simp only [Act.put, List.setIfInBounds_toArray, List.set_cons_zero, List.set_cons_succ]
            refine wpAnyH_takeL (i := 9) (oi := _) (v := ?_) rfl (by kernel_rfl) (by kernel_rfl) (by kernel_rfl) (fun _ _ _ h => h) (Or.inl ⟨by rfl, ?_⟩) hHeld ?_
            rotate_left
            · (intro w' hSw; (try dsimp only at hSw); go_simp; try (with_reducible rfl))
            try simp only [Act.put, List.setIfInBounds_toArray, List.set_cons_zero, List.set_cons_succ]
            refine wpAnyH_takeL (i := 10) (oi := _) rfl (by kernel_rfl) (by kernel_rfl) (by kernel_rfl) (fun _ _ _ h => h) (yields_ldI (by rfl) _ rfl (by rfl) (fun _ hb => (hb.cell (p := ⟨wr.heap.size, 0, none⟩) V.out.lt).trans V.out.cell0)) hHeld ?_
            try simp only [Act.put, List.setIfInBounds_toArray, List.set_cons_zero, List.set_cons_succ]
            refine wpAnyH_takeL (i := 11) (oi := _) (v := ?_) rfl (by kernel_rfl) (by kernel_rfl) (by kernel_rfl) (fun _ _ _ h => h) (Or.inl ⟨by rfl, ?_⟩) hHeld ?_
            rotate_left
            · (intro w' hSw; (try dsimp only at hSw); go_simp; try (with_reducible rfl))
            try simp only [Act.put, List.setIfInBounds_toArray, List.set_cons_zero, List.set_cons_succ]
            refine wpAnyH_takeL (i := 12) (oi := _) (v := ?_) rfl (by kernel_rfl) (by kernel_rfl) (by kernel_rfl) (fun _ _ _ h => h) (Or.inl ⟨by rfl, ?_⟩) hHeld ?_
            rotate_left
            · (intro w' hSw; (try dsimp only at hSw); go_simp; try (with_reducible rfl))
            try simp only [Act.put, List.setIfInBounds_toArray, List.set_cons_zero, List.set_cons_succ]
            refine wpAnyH_takeL (i := 13) (oi := _) (v := ?_) rfl (by kernel_rfl) (by kernel_rfl) (by kernel_rfl) (fun _ _ _ h => h) (Or.inl ⟨by rfl, ?_⟩) hHeld ?_
            rotate_left
            · (intro w' hSw; (try dsimp only at hSw); go_simp; try (with_reducible rfl))
            try simp only [Act.put, List.setIfInBounds_toArray, List.set_cons_zero, List.set_cons_succ]
            refine wpAnyH_takeL (i := 14) (oi := _) (v := ?_) rfl (by kernel_rfl) (by kernel_rfl) (by kernel_rfl) (fun _ _ _ h => h) (Or.inl ⟨by rfl, ?_⟩) hHeld ?_
            rotate_left
            · (intro w' hSw; (try dsimp only at hSw); go_simp; try (with_reducible rfl))
            try simp only [Act.put, List.setIfInBounds_toArray, List.set_cons_zero, List.set_cons_succ]
            refine wpAnyH_takeL (i := 15) (oi := _) rfl (by kernel_rfl) (by kernel_rfl) (by kernel_rfl) (fun _ _ _ h => h) (yields_ld3 (by rfl) _ rfl (by rfl) (fun _ hb => range_bel V.out.rangeV V.out.lt hb)) hHeld ?_
            try simp only [Act.put, List.setIfInBounds_toArray, List.set_cons_zero, List.set_cons_succ]
            refine wpAnyH_ready (rs := [16]) (by kernel_rfl) (by simp) ?_
            refine AllReadyH.consL (o := _) rfl (fun K hK => ?_) AllReadyH.nil
            clear hHeld
            go_simp
            go_at_call 52
            refine Calls.mono (qsign_any (NV.out.1.below HB.out) (NV.out.2.1.below HB.out) NV.out.2.2.1 NV.out.2.2.2 LL.out SV.out) ?_
            rintro e w3 ⟨rfl, hb⟩
            replace HB := Lib.hid (HB.out.trans (hb.mono HB.out.size))
            clear hb
            refine hK.out _ _ HB.out (fun hHeld => ?_)
            clear hK K
            try simp only [Act.put, List.setIfInBounds_toArray, List.set_cons_zero, List.set_cons_succ]
            refine wpAnyH_takeL (i := 17) (oi := _) (v := ?_) rfl (by kernel_rfl) (by kernel_rfl) (by kernel_rfl) (fun _ _ _ h => h) (Or.inl ⟨by rfl, ?_⟩) hHeld ?_
            rotate_left
            · (intro w' hSw; (try dsimp only at hSw); go_simp; try (with_reducible rfl))
            try simp only [Act.put, List.setIfInBounds_toArray, List.set_cons_zero, List.set_cons_succ]
            refine wpAnyH_takeL (i := 18) (oi := _) (v := ?_) rfl (by kernel_rfl) (by kernel_rfl) (by kernel_rfl) (fun _ _ _ h => h) (Or.inl ⟨by rfl, ?_⟩) hHeld ?_
            rotate_left
            · (intro w' hSw; (try dsimp only at hSw); go_simp; try (with_reducible rfl))
            try simp only [Act.put, List.setIfInBounds_toArray, List.set_cons_zero, List.set_cons_succ]
            refine wpAnyH_done (by kernel_rfl) ?_ _
            obtain rfl : ans = false := by
              cases hans : ans
              · rfl
              · exact absurd (BB.out.1 hans) NA.out
            go_wp2
            go_ret
            exact ⟨rfl, B3.out.trans (HB.out.mono B3.out.size)⟩
          · have AS2 := Lib.hid (GO.out (fun k' r' h h' => by
              obtain rfl : k' = j := by have := KJ.out; omega
              rw [RP.out] at h'
              cases h'
              omega) (fun h => hsz (HZ.out.2 h)))
            try simp only [Act.put]
            have HB : Hid (Below w2.heap.size w2 w2.drew) := below_drewN _ w2 1
            refine wp_region_held_drew (S := fun w' => Below w2.heap.size w2 w') (by kernel_rfl) (HB.out) (fun hHeld => ?_)
            refine wpAnyH_takeL (i := 0) (oi := _) (v := ?_) rfl (by kernel_rfl) (by kernel_rfl) (by kernel_rfl) (fun _ _ _ h => h) (Or.inl ⟨by rfl, ?_⟩) hHeld ?_
            rotate_left
            · (intro w' hSw; (try dsimp only at hSw); go_simp; try (with_reducible rfl))
            try simp only [Act.put, List.setIfInBounds_toArray, List.set_cons_zero, List.set_cons_succ]
            refine wpAnyH_takeL (i := 1) (oi := _) (v := ?_) rfl (by kernel_rfl) (by kernel_rfl) (by kernel_rfl) (fun _ _ _ h => h) (Or.inl ⟨by rfl, ?_⟩) hHeld ?_
            rotate_left
            · (intro w' hSw; (try dsimp only at hSw); go_simp; try (with_reducible rfl))
            try simp only [Act.put, List.setIfInBounds_toArray, List.set_cons_zero, List.set_cons_succ]
            refine wpAnyH_takeL (i := 2) (oi := _) (v := ?_) rfl (by kernel_rfl) (by kernel_rfl) (by kernel_rfl) (fun _ _ _ h => h) (Or.inl ⟨by rfl, ?_⟩) hHeld ?_
            rotate_left
            · (intro w' hSw; (try dsimp only at hSw); go_simp; try (with_reducible rfl))
            try simp only [Act.put, List.setIfInBounds_toArray, List.set_cons_zero, List.set_cons_succ]
            refine wpAnyH_takeL (i := 3) (oi := _) (v := ?_) rfl (by kernel_rfl) (by kernel_rfl) (by kernel_rfl) (fun _ _ _ h => h) (Or.inl ⟨by rfl, ?_⟩) hHeld ?_
            rotate_left
            · (intro w' hSw; (try dsimp only at hSw); go_simp; try (with_reducible rfl))
            try simp only [Act.put, List.setIfInBounds_toArray, List.set_cons_zero, List.set_cons_succ]
            refine wpAnyH_takeL (i := 4) (oi := _) (v := ?_) rfl (by kernel_rfl) (by kernel_rfl) (by kernel_rfl) (fun _ _ _ h => h) (Or.inl ⟨by rfl, ?_⟩) hHeld ?_
            rotate_left
            · (intro w' hSw; (try dsimp only at hSw); go_simp; try (with_reducible rfl))
            try simp only [Act.put, List.setIfInBounds_toArray, List.set_cons_zero, List.set_cons_succ]
            refine wpAnyH_takeL (i := 5) (oi := _) (v := ?_) rfl (by kernel_rfl) (by kernel_rfl) (by kernel_rfl) (fun _ _ _ h => h) (Or.inl ⟨by rfl, ?_⟩) hHeld ?_
            rotate_left
            · (intro w' hSw; (try dsimp only at hSw); go_simp; try (with_reducible rfl))
            try simp only [Act.put, List.setIfInBounds_toArray, List.set_cons_zero, List.set_cons_succ]
            refine wpAnyH_takeL (i := 6) (oi := _) (v := ?_) rfl (by kernel_rfl) (by kernel_rfl) (by kernel_rfl) (fun _ _ _ h => h) (Or.inl ⟨by rfl, ?_⟩) hHeld ?_
            rotate_left
            · (intro w' hSw; (try dsimp only at hSw); go_simp; try (with_reducible rfl))
            try simp only [Act.put, List.setIfInBounds_toArray, List.set_cons_zero, List.set_cons_succ]
            refine wpAnyH_takeL (i := 7) (oi := _) (v := ?_) rfl (by kernel_rfl) (by kernel_rfl) (by kernel_rfl) (fun _ _ _ h => h) (Or.inl ⟨by rfl, ?_⟩) hHeld ?_
            rotate_left
            · (intro w' hSw; (try dsimp only at hSw); go_simp; try (with_reducible rfl))
            try simp only [Act.put, List.setIfInBounds_toArray, List.set_cons_zero, List.set_cons_succ]
            refine wpAnyH_takeL (i := 8) (oi := _) rfl (by kernel_rfl) (by kernel_rfl) (by kernel_rfl) (fun _ _ _ h => h) (yields_ldI (by rfl) _ rfl (by rfl) (fun _ hb => (hb.cell (p := ⟨b, o + j * 4, none⟩) (Nat.lt_of_lt_of_le LT.out B2.out.size)).trans P2.out)) hHeld ?_
            try simp only [Act.put, List.setIfInBounds_toArray, List.set_cons_zero, List.set_cons_succ]
            refine wpAnyH_takeL (i := 9) (oi := _) (v := ?_) rfl (by kernel_rfl) (by kernel_rfl) (by kernel_rfl) (fun _ _ _ h => h) (Or.inl ⟨by rfl, ?_⟩) hHeld ?_
            rotate_left
            · (intro w' hSw; (try dsimp only at hSw); go_simp; try (with_reducible rfl))
            try simp only [Act.put, List.setIfInBounds_toArray, List.set_cons_zero, List.set_cons_succ]
            refine wpAnyH_takeL (i := 10) (oi := _) rfl (by kernel_rfl) (by kernel_rfl) (by kernel_rfl) (fun _ _ _ h => h) (yields_ldI (by rfl) _ rfl (by rfl) (fun _ hb => (hb.cell (p := ⟨wr.heap.size, 0, none⟩) V.out.lt).trans V.out.cell0)) hHeld ?_
            try simp only [Act.put, List.setIfInBounds_toArray, List.set_cons_zero, List.set_cons_succ]
            refine wpAnyH_takeL (i := 11) (oi := _) (v := ?_) rfl (by kernel_rfl) (by kernel_rfl) (by kernel_rfl) (fun _ _ _ h => h) (Or.inl ⟨by rfl, ?_⟩) hHeld ?_
            rotate_left
            · (intro w' hSw; (try dsimp only at hSw); go_simp; try (with_reducible rfl))
            try simp only [Act.put, List.setIfInBounds_toArray, List.set_cons_zero, List.set_cons_succ]
            refine wpAnyH_takeL (i := 12) (oi := _) (v := ?_) rfl (by kernel_rfl) (by kernel_rfl) (by kernel_rfl) (fun _ _ _ h => h) (Or.inl ⟨by rfl, ?_⟩) hHeld ?_
            rotate_left
            · (intro w' hSw; (try dsimp only at hSw); go_simp; try (with_reducible rfl))
            try simp only [Act.put, List.setIfInBounds_toArray, List.set_cons_zero, List.set_cons_succ]
            refine wpAnyH_takeL (i := 13) (oi := _) (v := ?_) rfl (by kernel_rfl) (by kernel_rfl) (by kernel_rfl) (fun _ _ _ h => h) (Or.inl ⟨by rfl, ?_⟩) hHeld ?_
            rotate_left
            · (intro w' hSw; (try dsimp only at hSw); go_simp; try (with_reducible rfl))
            try simp only [Act.put, List.setIfInBounds_toArray, List.set_cons_zero, List.set_cons_succ]
            refine wpAnyH_takeL (i := 14) (oi := _) (v := ?_) rfl (by kernel_rfl) (by kernel_rfl) (by kernel_rfl) (fun _ _ _ h => h) (Or.inl ⟨by rfl, ?_⟩) hHeld ?_
            rotate_left
            · (intro w' hSw; (try dsimp only at hSw); go_simp; try (with_reducible rfl))
            try simp only [Act.put, List.setIfInBounds_toArray, List.set_cons_zero, List.set_cons_succ]
            refine wpAnyH_takeL (i := 15) (oi := _) rfl (by kernel_rfl) (by kernel_rfl) (by kernel_rfl) (fun _ _ _ h => h) (yields_ld3 (by rfl) _ rfl (by rfl) (fun _ hb => range_bel V.out.rangeV V.out.lt hb)) hHeld ?_
            try simp only [Act.put, List.setIfInBounds_toArray, List.set_cons_zero, List.set_cons_succ]
            refine wpAnyH_ready (rs := [16]) (by kernel_rfl) (by simp) ?_
            refine AllReadyH.consL (o := _) rfl (fun K hK => ?_) AllReadyH.nil
            clear hHeld
            go_simp
            go_at_call 52
            refine Calls.mono (qsign_any (NV.out.1.below HB.out) (NV.out.2.1.below HB.out) NV.out.2.2.1 NV.out.2.2.2 LL.out SV.out) ?_
            rintro e w3 ⟨rfl, hb⟩
            replace HB := Lib.hid (HB.out.trans (hb.mono HB.out.size))
            clear hb
            refine hK.out _ _ HB.out (fun hHeld => ?_)
            clear hK K
            try simp only [Act.put, List.setIfInBounds_toArray, List.set_cons_zero, List.set_cons_succ]
            refine wpAnyH_takeL (i := 17) (oi := _) (v := ?_) rfl (by kernel_rfl) (by kernel_rfl) (by kernel_rfl) (fun _ _ _ h => h) (Or.inl ⟨by rfl, ?_⟩) hHeld ?_
            rotate_left
            · (intro w' hSw; (try dsimp only at hSw); go_simp; try (with_reducible rfl))
            try simp only [Act.put, List.setIfInBounds_toArray, List.set_cons_zero, List.set_cons_succ]
            refine wpAnyH_takeL (i := 18) (oi := _) (v := ?_) rfl (by kernel_rfl) (by kernel_rfl) (by kernel_rfl) (fun _ _ _ h => h) (Or.inl ⟨by rfl, ?_⟩) hHeld ?_
            rotate_left
            · (intro w' hSw; (try dsimp only at hSw); go_simp; try (with_reducible rfl))
            try simp only [Act.put, List.setIfInBounds_toArray, List.set_cons_zero, List.set_cons_succ]
            refine wpAnyH_done (by kernel_rfl) ?_ _
            go_wp2_with fail
            go_roundw
            case rel => exact ⟨k + 1, by go_num, Lib.hid (by show _ ≤ _; omega), AS2, Lib.hid (B3.out.trans (HB.out.mono B3.out.size))⟩
            case measure => simp [intOf]; omega
    · obtain rfl : k = rs.length := by have := KL.out; omega
      have c1 : ¬ (rs.length : Int) < (rs.length : Int) := by omega
      obtain rfl : ans = true := BB.out.2 (by have := AS.out; rwa [List.take_length] at this)
      go_wp2
      go_ret
      exact ⟨rfl, B.out⟩
end Go.Proofs.YtfacndibfkamgaaGreat

/-
  Sizes of numbers in lists.
-/
namespace Go.Proofs.YtfacndibfkamgaaGreat
open Go.RowKit
set_option linter.unusedVariables false

section
variable {w w' : World} {L M g : Nat} {r : Nt}
theorem Nok.rl (h : Nok w r L) (h1 : 1 ≤ L) : RL r.q L := rl_mk (Nat.le_trans h.1.len h.2.2.1) (Nat.le_trans h.2.1.len h.2.2.2) h1
theorem Ncan.ok (h : Ncan w r) (hl : RL r.q L) : Nok w r L := by
  obtain ⟨h1, h2, h3, h4, h5, h6, h7⟩ := h
  have l1 := hl.1
  have l2 := hl.2
  unfold Nt.q at l1 l2
  rw [h4] at l1
  rw [h5] at l2
  refine ⟨?_, ?_, by rw [h2]; exact l1, by rw [h3]; exact l2⟩
  · rw [h1, h2]; exact Zin.of h6
  · rw [h3]; exact Nin.of_rd h7
end
end Go.Proofs.YtfacndibfkamgaaGreat
