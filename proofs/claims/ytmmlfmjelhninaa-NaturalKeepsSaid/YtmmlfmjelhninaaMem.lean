/-
  Slices of limbs in memory: a slice that reads as a list ('Rd'), a block of the call's own that is known whole ('Row'), a slice of such a block ('Own').
-/
import Derived.Test.YtmmlfmjelhninaaRows
import Derived.Test.YtmmlfmjelhninaaMath
import Derived.WalkKit
import Derived.WalkLawsBesides
import Derived.WalkSpells
import Derived.Laws.OwnMore
import Derived.Laws.AppendOwnNone
import Derived.Laws.CopyOwn
import Derived.Deep.Draws
import Derived.Laws.Rows
import Derived.Below
import Derived.Lib.Hide
import Derived.Outline
namespace Go.Proofs.Ytmmlfmjelhninaa
open Go.RowKit

/-- The value of a limb. -/
def lv (x : Nat) : Value := .int .u32 (x : Int)
/-- Block g is the row zs of limbs, none of it frozen. -/
def Row (w : World) (g : Nat) (zs : List Nat) : Prop := w.heap[g]? = some (.cells (zs.map lv).toArray 42 (0, 0))
/-- The slice (A, length of xs, cap) reads as the list xs. -/
def Rd (w : World) (A : Option Addr) (cap : Nat) (xs : List Nat) : Prop :=
  okl xs ∧ xs.length ≤ cap ∧ cap ≤ 9223372036854775807 ∧
  (cap = 0 ∨ ∃ b o, A = some ⟨b, o, none⟩ ∧ b < w.heap.size ∧ ∀ i, i < xs.length → w.cell? ⟨b, o + i, none⟩ = some (.int .u32 ((lim xs i : Nat) : Int)))
/-- The slice (A, length of xs, cap) lies in a row of the call's own, from block lo on, and reads as the list xs. -/
def Own (w : World) (lo : Nat) (A : Option Addr) (cap : Nat) (xs : List Nat) : Prop :=
  okl xs ∧ xs.length ≤ cap ∧ cap ≤ 9223372036854775807 ∧
  (cap = 0 ∨ ∃ b o cur, A = some ⟨b, o, none⟩ ∧ lo ≤ b ∧ w.heap[b]? = some (.cells cur 42 (0, 0)) ∧ ∀ i, i < xs.length → cur[o + i]? = some (lv (lim xs i)))

section
variable {w w' : World} {g lo cap : Nat} {A : Option Addr} {xs zs : List Nat}

theorem Row.lt (h : Row w g zs) : g < w.heap.size := by
  rcases Nat.lt_or_ge g w.heap.size with hlt | hge
  · exact hlt
  · unfold Row at h; rw [Array.getElem?_eq_none hge] at h; cases h
theorem Row.cell (h : Row w g zs) {i : Nat} (hi : i < zs.length) : w.cell? ⟨g, i, none⟩ = some (.int .u32 ((lim zs i : Nat) : Int)) := by
  rw [cell_of_row w g i _ _ (0, 0) h]
  unfold lim
  rw [List.getD_eq_getElem?_getD, List.getElem?_eq_getElem hi]
  simp [lv, hi]
theorem Row.frozen (h : Row w g zs) (i : Nat) : w.frozen? ⟨g, i, none⟩ = false := by
  unfold Row at h
  simp [World.frozen?, h]
theorem Row.below {B : Nat} (h : Row w g zs) (hb : Below B w w') (hg : g < B) : Row w' g zs := (hb.block g hg).trans h
theorem Row.grown {row : Option Nat} (h : Row w g zs) (hb : w.grownBy w' row) (hg : some g ≠ row) : Row w' g zs := (hb.block g h.lt hg).trans h
theorem Row.alloc (h : Row w g zs) (o : Obj) : Row (w.alloc o) g zs := (Below.heap_alloc w o g h.lt).trans h
theorem Row.drewN (h : Row w g zs) (n : Nat) : Row (w.drewN n) g zs := h
theorem Row.set_ (h : Row w g zs) (i x : Nat) : Row (w.setCell ⟨g, i, none⟩ (.int .u32 (x : Int))) g (zs.set i x) := by
  unfold Row at h ⊢
  rw [heap_setCell_same w g i _ _ _ h]
  simp [lv, List.map_set]
theorem Row.far (h : Row w g zs) {p : Addr} (hp : g ≠ p.block) (u : Value) : Row (w.setCell p u) g zs := (Below.heap_setCell w p u g hp).trans h
theorem Row.of_own {base n c : Nat} {cs : List Value} (h : w.ownsRow base 42 1 (.slice (some ⟨g, 0, none⟩) n c) n cs) (hc : c = n) (hz : cs = zs.map lv) : Row w g zs := by
  subst hc hz
  rcases h.2 with ⟨h', _⟩ | ⟨g', cap', cur, h', _, hg, _, _, hs, htake⟩
  · simp at h'
  · simp only [Value.slice.injEq, Option.some.injEq, Addr.mk.injEq, and_true, true_and] at h'
    obtain ⟨rfl, rfl⟩ := h'
    unfold Row
    rw [hg]
    have e : cur.toList = zs.map lv := by rw [← htake, List.take_of_length_le]; rw [Array.length_toList, hs]; exact Nat.le_refl _
    rw [← e]

theorem Rd.len (h : Rd w A cap xs) : xs.length ≤ cap := h.2.1
theorem Rd.capLe (h : Rd w A cap xs) : cap ≤ 9223372036854775807 := h.2.2.1
theorem Rd.ok (h : Rd w A cap xs) : okl xs := h.1
/-- Where a limb is read. -/
theorem Rd.at_ (h : Rd w A cap xs) {k : Nat} (hk : k < xs.length) : ∃ b o, A = some ⟨b, o, none⟩ ∧ b < w.heap.size ∧ ∀ i, i < xs.length → w.cell? ⟨b, o + i, none⟩ = some (.int .u32 ((lim xs i : Nat) : Int)) := by
  rcases h.2.2.2 with h0 | h0
  · have := h.len; omega
  · exact h0
theorem Rd.take (h : Rd w A cap xs) (m : Nat) : Rd w A cap (xs.take m) := by
  obtain ⟨h1, h2, h3, h4⟩ := h
  refine ⟨okl_take h1 m, by rw [List.length_take]; omega, h3, ?_⟩
  rcases h4 with h4 | ⟨b, o, hA, hb, hc⟩
  · exact .inl h4
  · refine .inr ⟨b, o, hA, hb, fun i hi => ?_⟩
    rw [List.length_take] at hi
    rw [lim_take (by omega)]
    exact hc i (by omega)
theorem Rd.sig (h : Rd w A cap xs) : Rd w A cap (ofv (val xs)) := by
  rw [← take_len_ofv h.ok]; exact h.take _
theorem Rd.keep {B : Nat} (h : Rd w A cap xs) (hB : w.heap.size ≤ B) (hb : Below B w w') : Rd w' A cap xs := by
  obtain ⟨h1, h2, h3, h4⟩ := h
  refine ⟨h1, h2, h3, ?_⟩
  rcases h4 with h4 | ⟨b, o, hA, hbl, hc⟩
  · exact .inl h4
  · exact .inr ⟨b, o, hA, by have := hb.size; omega, fun i hi => (hb.cell (p := ⟨b, o + i, none⟩) (by show b < B; omega)).trans (hc i hi)⟩
theorem Rd.below (h : Rd w A cap xs) (hb : Below w.heap.size w w') : Rd w' A cap xs := h.keep (Nat.le_refl _) hb
theorem Rd.grown {row : Option Nat} (h : Rd w A cap xs) (hg : w.grownBy w' row) (hr : ∀ b o, 0 < cap → A = some ⟨b, o, none⟩ → some b ≠ row) : Rd w' A cap xs := by
  obtain ⟨h1, h2, h3, h4⟩ := h
  refine ⟨h1, h2, h3, ?_⟩
  rcases Nat.eq_zero_or_pos cap with h0 | h0
  · exact .inl h0
  rcases h4 with h4 | ⟨b, o, hA, hbl, hc⟩
  · exact .inl h4
  · exact .inr ⟨b, o, hA, by have := hg.size; omega, fun i hi => (World.cell?_of_block (a := ⟨b, o + i, none⟩) (hg.block b hbl (hr b o h0 hA))).trans (hc i hi)⟩
theorem Rd.drop {b o m : Nat} (h : Rd w (some ⟨b, o, none⟩) cap xs) (hm : m ≤ xs.length) : Rd w (some ⟨b, o + m, none⟩) (cap - m) (xs.drop m) := by
  obtain ⟨h1, h2, h3, h4⟩ := h
  refine ⟨okl_drop h1 m, by rw [List.length_drop]; omega, by omega, ?_⟩
  rcases h4 with h4 | ⟨b', o', hA, hbl, hc⟩
  · left; omega
  · simp at hA
    obtain ⟨rfl, rfl⟩ := hA
    refine .inr ⟨b, o + m, rfl, hbl, fun i hi => ?_⟩
    rw [List.length_drop] at hi
    rw [lim_drop, Nat.add_assoc]
    exact hc (m + i) (by omega)
/-- Where it lies. -/
theorem Rd.old (h : Rd w A cap xs) : ∀ b o, 0 < cap → A = some ⟨b, o, none⟩ → b < w.heap.size := by
  intro b o h0 hA
  rcases h.2.2.2 with h4 | ⟨b2, o2, hA2, hbl, _⟩
  · omega
  · rw [hA] at hA2
    simp at hA2
    omega
theorem Rd.nil (w : World) (A : Option Addr) : Rd w A 0 [] := ⟨okl_nil, Nat.le_refl _, by omega, .inl rfl⟩

theorem lt_of_heap {w : World} {b : Nat} {x : Obj} (h : w.heap[b]? = some x) : b < w.heap.size := by
  rcases Nat.lt_or_ge b w.heap.size with hlt | hge
  · exact hlt
  · rw [Array.getElem?_eq_none hge] at h; cases h
theorem Own.rd (h : Own w lo A cap xs) : Rd w A cap xs := by
  obtain ⟨h0, h1, h2, h3⟩ := h
  refine ⟨h0, h1, h2, ?_⟩
  rcases h3 with h3 | ⟨b, o, cur, hA, hl, hr, hc⟩
  · exact .inl h3
  · refine .inr ⟨b, o, hA, lt_of_heap hr, fun i hi => ?_⟩
    rw [cell_of_row w b (o + i) _ _ (0, 0) hr, hc i hi]; rfl
theorem Own.below (h : Own w lo A cap xs) (hb : Below w.heap.size w w') : Own w' lo A cap xs := by
  obtain ⟨h0, h1, h2, h3⟩ := h
  refine ⟨h0, h1, h2, ?_⟩
  rcases h3 with h3 | ⟨b, o, cur, hA, hl, hr, hc⟩
  · exact .inl h3
  · exact .inr ⟨b, o, cur, hA, hl, (hb.block b (lt_of_heap hr)).trans hr, hc⟩
theorem Own.mono {lo' : Nat} (h : Own w lo A cap xs) (hl : lo' ≤ lo) : Own w lo' A cap xs := by
  obtain ⟨h0, h1, h2, h3⟩ := h
  refine ⟨h0, h1, h2, ?_⟩
  rcases h3 with h3 | ⟨b, o, cur, hA, hl', r⟩
  · exact .inl h3
  · exact .inr ⟨b, o, cur, hA, by omega, r⟩
theorem Own.take (h : Own w lo A cap xs) (m : Nat) : Own w lo A cap (xs.take m) := by
  obtain ⟨h0, h1, h2, h3⟩ := h
  refine ⟨okl_take h0 m, by rw [List.length_take]; omega, h2, ?_⟩
  rcases h3 with h3 | ⟨b, o, cur, hA, hl', hr, hc⟩
  · exact .inl h3
  · refine .inr ⟨b, o, cur, hA, hl', hr, fun i hi => ?_⟩
    rw [List.length_take] at hi
    rw [lim_take (by omega)]
    exact hc i (by omega)
theorem Own.sig (h : Own w lo A cap xs) : Own w lo A cap (ofv (val xs)) := by
  rw [← take_len_ofv h.1]; exact h.take _
/-- A part of a row. -/
theorem Own.part {o : Nat} (h : Row w g zs) (hk : okl xs) (hl : lo ≤ g) (hm : xs.length ≤ cap) (hc : cap ≤ 9223372036854775807) (hx : ∀ i, i < xs.length → o + i < zs.length ∧ lim zs (o + i) = lim xs i) :
    Own w lo (some ⟨g, o, none⟩) cap xs := by
  refine ⟨hk, hm, hc, .inr ⟨g, o, _, rfl, hl, h, fun i hi => ?_⟩⟩
  obtain ⟨h1, h2⟩ := hx i hi
  rw [← h2]
  unfold lim
  rw [List.getD_eq_getElem?_getD, List.getElem?_eq_getElem h1]
  simp [h1]
/-- A whole row. -/
theorem Own.of_row (h : Row w g zs) (hk : okl zs) (hl : lo ≤ g) (hm : zs.length ≤ 9223372036854775807) : Own w lo (some ⟨g, 0, none⟩) zs.length zs :=
  Own.part h hk hl (Nat.le_refl _) hm (fun i hi => by rw [Nat.zero_add]; exact ⟨hi, rfl⟩)
theorem Own.nil (w : World) (lo : Nat) (A : Option Addr) : Own w lo A 0 [] := ⟨okl_nil, Nat.le_refl _, by omega, .inl rfl⟩
/-- What append leaves. -/
theorem Own.of_owns {base n : Nat} {v : Value} (h : w.ownsRow base 42 1 v n (xs.map lv)) (hk : okl xs) : ∃ R c, v = .slice R n c ∧ xs.length = n ∧ Own w base R c xs := by
  have hlen : xs.length = n := by have := h.1; simpa using this
  rcases h.2 with ⟨hv, hn⟩ | ⟨g, c, cur, hv, hb, hg, hnc, hc, hs, ht⟩
  · subst hn
    obtain rfl : xs = [] := List.eq_nil_of_length_eq_zero hlen
    exact ⟨none, 0, hv, rfl, Own.nil _ _ _⟩
  · refine ⟨_, c, hv, hlen, hk, by omega, hc, .inr ⟨g, 0, cur, rfl, hb, hg, fun i hi => ?_⟩⟩
    have e : cur.toList[i]? = (xs.map lv)[i]? := by rw [← ht, List.getElem?_take_of_lt (by omega)]
    rw [Nat.zero_add, ← Array.getElem?_toList, e, List.getElem?_map, List.getElem?_eq_getElem hi]
    unfold lim
    rw [List.getD_eq_getElem?_getD, List.getElem?_eq_getElem hi]; rfl
end

theorem below_drewN (B : Nat) (w : World) (n : Nat) : Below B w (w.drewN n) := ⟨rfl, rfl, rfl, Nat.le_refl _, fun _ _ => rfl⟩
theorem below_q {w w' : World} (h : ∃ n, w' = w.drewN n) : Below w.heap.size w w' := by
  obtain ⟨n, rfl⟩ := h; exact below_drewN _ _ _
/-- A row of the call's own was written: seen from blocks below it. -/
theorem below_of_grown {w w' : World} {g B : Nat} (h : w.grownBy w' (some g)) (hB : B ≤ g) (hB' : B ≤ w.heap.size) : Below B w w' :=
  (Below.refl _ _).grown h hB' (fun k hk => by cases hk; exact hB)
theorem grown_trans {w w1 w2 : World} {row : Option Nat} (h : w.grownBy w1 row) (k : w1.grownBy w2 row) : w.grownBy w2 row :=
  ⟨k.os.trans h.os, k.tape.trans h.tape, k.output.trans h.output, Nat.le_trans h.size k.size, fun i hi hne => (k.block i (Nat.lt_of_lt_of_le hi h.size) hne).trans (h.block i hi hne)⟩
theorem grown_set (w : World) (g o : Nat) (u : Value) : w.grownBy (w.setCell ⟨g, o, none⟩ u) (some g) :=
  ⟨rfl, rfl, rfl, by simp [World.setCell], fun k _ hne => Below.heap_setCell _ _ _ _ (fun e => hne (by rw [e]))⟩
theorem grown_below {w w' : World} {g : Nat} (h : Below w.heap.size w w') : w.grownBy w' (some g) := ⟨h.os, h.tape, h.output, h.size, fun k hk _ => h.block k hk⟩

theorem Try.info42 : (Try.prog.info? 42).map (fun i => (i.zero, i.size, i.bytes)) = some (some (.int .u32 0), 1, 4) := by kernel_rfl

/-- 'make' of a row of limbs, n of them. -/
theorem make_row {w : World} {ops : Array Oper} {rest : List Oper} {o : Oper} {a : Act} {Q : Exit → Act → World → Prop}
    (hg : o.guard = none) (l c : Operand) (hop : o.op = Op.makeSlice 22 l c) (L C : Int) (n : Nat) (hl : a.eval l = .int .i64 L) (hc : a.eval c = .int .i64 C) (hL : L = (n : Int)) (hC : C = (n : Int)) (hn : n ≤ 70368744177664)
    (hK : ∀ w', Row w' w.heap.size (List.replicate n 0) → Below w.heap.size w w' → wpList Try.prog ops Q rest (a.put o.dst (.slice (some ⟨w.heap.size, 0, none⟩) n n)) w') :
    wpList Try.prog ops Q (o :: rest) a w := by
  obtain ⟨i0, hi, hz0, hz1, hz2⟩ := info_parts Try.info42
  refine wpList_make_full w hg l c 22 hop w.heap.size 42 i0 (.int .u32 0) 1 Try.underlying22 hi hz0 hz1 .i64 .i64 L C n hl hc hL hC (by rw [hz2]; omega) (by unfold maxLen; omega) (Nat.le_refl _) ?_
  intro w' hown hgrow
  refine hK w' (Row.of_own hown rfl ?_) ((Below.refl _ _).grown hgrow (Nat.le_refl _) (fun k h => by cases h))
  have e : (Value.int .u32 0).cells = #[.int .u32 0] := rfl
  rw [e, Nat.mul_one, toList_madeCells_one, List.map_replicate]
  rfl

theorem ones_lv (xs : List Nat) : ∀ u ∈ xs.map lv, u.oneCell' = true := by
  intro u hu
  obtain ⟨_, _, rfl⟩ := List.mem_map.1 hu
  rfl
theorem get_lv {xs : List Nat} {j : Nat} {u : Value} (h : (xs.map lv)[j]? = some u) : j < xs.length ∧ u = lv (lim xs j) := by
  have hj : j < xs.length := by
    rcases Nat.lt_or_ge j xs.length with hj | hj
    · exact hj
    · rw [List.getElem?_eq_none (by simpa using hj)] at h; cases h
  refine ⟨hj, ?_⟩
  rw [List.getElem?_map, List.getElem?_eq_getElem hj] at h
  unfold lim
  rw [List.getD_eq_getElem?_getD, List.getElem?_eq_getElem hj]
  simpa using h.symm
theorem add_addr (b o j : Nat) : (⟨b, o, none⟩ : Addr).add j = ⟨b, o + j, none⟩ := by unfold Addr.add; split <;> simp_all

/-- 'append' of a list that is read, to a row of the call's own. -/
theorem append_rd {w : World} {ops : Array Oper} {rest : List Oper} {o : Oper} {a : Act} {Q : Exit → Act → World → Prop} (hgd : o.guard = none) (s x : Operand)
    (ho : o.op = .call { callee := .builtin .append, args := #[s, x], argTypes := #[22, 22] }) (base : Nat) (v : Value) (n : Nat) (xs : List Nat) (hs : a.eval s = v) (hown : w.ownsRow base 42 1 v n (xs.map lv))
    (A : Option Addr) (m c : Nat) (ys : List Nat) (hx : a.eval x = .slice A m c) (hr : Rd w A c ys) (hm : ys.length = m) (hb : n + m ≤ 35184372088832) (hbase : base ≤ w.heap.size)
    (hK : ∀ v' w', w'.ownsRow base 42 1 v' (n + m) ((xs ++ ys).map lv) → w.grownBy w' v.ownBlock → wpList Try.prog ops Q rest (a.put o.dst v') w') :
    wpList Try.prog ops Q (o :: rest) a w := by
  obtain ⟨i0, hi, hz0, hz1, hz2⟩ := info_parts Try.info42
  have own : ∀ ad, A = some ad → (∀ j u, (ys.map lv)[j]? = some u → w.cell? (ad.add j) = some u) → wpList Try.prog ops Q (o :: rest) a w := by
    intro ad hA hc
    subst hA
    refine wpList_append_own w hgd s x 22 ho base 42 i0 (.int .u32 0) 1 4 Try.underlying22 hi hz0 hz1 hz2 rfl (by decide) v n (xs.map lv) hs hown ad m c (ys.map lv) hx (by simpa using hm) hc (ones_lv ys) (by unfold maxLen; omega) (by omega) hbase ?_
    intro v' w1 hown' hgrow _
    rw [← List.map_append] at hown'
    exact hK v' w1 hown' hgrow
  rcases hr.2.2.2 with h0 | ⟨b, off, hA, hbl, hc⟩
  · subst h0
    have hl := hr.len
    obtain rfl : ys = [] := List.eq_nil_of_length_eq_zero (by omega)
    obtain rfl : m = 0 := by simpa using hm.symm
    match A, own with
    | none, _ =>
      refine wpList_append_own_none hgd s x 22 ho base 42 i0 1 Try.underlying22 hi v n (xs.map lv) hs hown hx ?_
      exact hK v w (by simpa using hown) (World.grownBy.refl w _)
    | some ad, own => exact own ad rfl (fun j u hu => by simp at hu)
  · refine own _ hA fun j u hu => ?_
    obtain ⟨hj, rfl⟩ := get_lv hu
    rw [add_addr]
    exact hc j hj

/-- 'append' of a list that is read, to a whole row of the call's own that is full: where Go's next capacity takes at most 2^48 bytes. -/
theorem append_full {w : World} {ops : Array Oper} {rest : List Oper} {o : Oper} {a : Act} {Q : Exit → Act → World → Prop} (hgd : o.guard = none) (s x : Operand)
    (ho : o.op = .call { callee := .builtin .append, args := #[s, x], argTypes := #[22, 22] }) (base g n : Nat) (xs : List Nat) (hs : a.eval s = .slice (some ⟨g, 0, none⟩) n n) (hrow : Row w g xs) (hok : okl xs) (hxn : xs.length = n) (hbg : base ≤ g)
    (A : Option Addr) (m c : Nat) (ys : List Nat) (hx : a.eval x = .slice A m c) (hr : Rd w A c ys) (hm : ys.length = m) (hn : n ≤ 1048576) (hb : n + m ≤ 70368744177664) (hfit : 0 < m → Builtin.nextslicecap (n + m) n * 4 ≤ 281474976710656)
    (hK : ∀ R c' w', Own w' base R c' (xs ++ ys) → Below base w w' → wpList Try.prog ops Q rest (a.put o.dst (.slice R (n + m) c')) w') :
    wpList Try.prog ops Q (o :: rest) a w := by
  have hbase : base ≤ w.heap.size := by have := hrow.lt; omega
  have hoks : okl (xs ++ ys) := okl_append hok hr.ok
  rcases Nat.eq_zero_or_pos m with h0 | h0
  · subst h0
    have hown : w.ownsRow base 42 1 (.slice (some ⟨g, 0, none⟩) n n) n (xs.map lv) := by
      refine ⟨by simpa using hxn, .inr ⟨g, n, _, rfl, hbg, hrow, Nat.le_refl _, by unfold maxLen; omega, by simpa using hxn, ?_⟩⟩
      rw [List.take_of_length_le (by simp; omega)]
    refine append_rd hgd s x ho base _ n xs hs hown A 0 c ys hx hr hm (by omega) hbase ?_
    intro v' w' hown' hgrow
    obtain ⟨R, c', rfl, _, hO⟩ := Own.of_owns hown' hoks
    exact hK R c' w' hO ((Below.refl _ _).grown hgrow hbase (fun k hk => by cases hk; exact hbg))
  · obtain ⟨i0, hi, hz0, hz1, hz2⟩ := info_parts Try.info42
    obtain ⟨b, off, rfl, hbl, hc⟩ := hr.at_ (k := 0) (by omega)
    have hrun := run_append_grow (P := Try.prog) w 22 o.type 42 i0 (.int .u32 0) Try.underlying22 hi hz0 ⟨g, 0, none⟩ n n (xs.map lv) (by rw [hz1]; simp [hxn]) (fun j u hu => by
        obtain ⟨hj, rfl⟩ := get_lv hu
        rw [add_addr, Nat.zero_add]
        exact hrow.cell hj) ⟨b, off, none⟩ m c (ys.map lv) (by rw [hz1]; simp [hm]) (fun j u hu => by
        obtain ⟨hj, rfl⟩ := get_lv hu
        rw [add_addr]
        exact hc j hj) (by omega) (by omega) (by rw [hz2]; exact hfit h0)
    have hge := grownCap_ge w (n + m) n 42
    have hle := grownCap_le_maxLen w (n + m) n 42 (by unfold maxLen; omega)
    unfold maxLen at hle
    refine wpList_plain hgd fun K hKK => ?_
    unfold Oper.wp execOp
    simp only [ho, resolve, invoke, builtin, Sem.run_bind, Sem.run_pure, Result.andThen_ok, List.map_toArray, List.map_cons, List.map_nil, hs, hx, hrun]
    refine hKK _ _ (hK _ _ _ ⟨hoks, by rw [List.length_append]; omega, by omega, .inr ⟨w.heap.size, 0, _, rfl, hbase, heap_alloc_new w.drew _, fun i hi' => ?_⟩⟩ ((Below.refl _ _).drew.alloc hbase _))
    rw [Nat.zero_add, Array.getElem?_append_left (by simp [hxn, hm]; rw [List.length_append, hxn, hm] at hi'; omega), List.append_toArray, ← List.map_append, List.getElem?_toArray, List.getElem?_map, List.getElem?_eq_getElem hi']
    unfold lim
    rw [List.getD_eq_getElem?_getD, List.getElem?_eq_getElem hi']; rfl

theorem Try.size42 : (Try.prog.info? 42).map (·.size) = some 1 := by kernel_rfl
/-- 'copy' of a list that is read, into a part of a row. -/
theorem copy_row {w : World} {ops : Array Oper} {rest : List Oper} {o : Oper} {a : Act} {Q : Exit → Act → World → Prop} (hgd : o.guard = none) (d s : Operand)
    (ho : o.op = .call { callee := .builtin .copy, args := #[d, s], argTypes := #[22, 22] }) (g off dLen dCap : Nat) (hd : a.eval d = .slice (some ⟨g, off, none⟩) dLen dCap)
    (zs : List Nat) (hrow : Row w g zs) (hfit : off + dLen ≤ zs.length)
    (A : Option Addr) (n c : Nat) (ys : List Nat) (hs : a.eval s = .slice A n c) (hr : Rd w A c ys) (hn : ys.length = n) (hle : n ≤ dLen)
    (hK : ∀ w', Row w' g (zs.take off ++ (ys ++ zs.drop (off + ys.length))) → w.grownBy w' (some g) → wpList Try.prog ops Q rest (a.put o.dst (goInt n)) w') : wpList Try.prog ops Q (o :: rest) a w := by
  have hmin : Nat.min n dLen = n := Nat.min_eq_left hle
  by_cases h0 : n = 0
  · subst h0
    obtain rfl : ys = [] := List.eq_nil_of_length_eq_zero hn
    refine wpList_copy_nothing hgd d s 22 22 ho 42 Try.underlying22 Try.size42 _ _ _ _ _ _ hd hs hmin ?_
    exact hK w (by simpa using hrow) (World.grownBy.refl w _)
  · obtain ⟨b, o', rfl, hb, hc⟩ := hr.at_ (k := 0) (by omega)
    refine wpList_copy_own hgd d s 22 22 ho 42 Try.underlying22 Try.size42 g off dLen dCap _ n c hd hs _ 42 hrow (ys.map lv) (by rw [List.length_map, hmin, hn]) (fun j u hu => ?_) (by simp; omega) (ones_lv ys) ?_
    · obtain ⟨hj, rfl⟩ := get_lv hu
      rw [add_addr]
      exact hc j hj
    · rw [List.length_map, hn]
      refine hK _ ?_ ⟨rfl, rfl, rfl, by simp [World.setRow], fun k _ hne => setRow_other w g k _ (fun e => hne (by rw [e]))⟩
      have := setRow_heap w g _ ((zs.map lv).take off ++ (ys.map lv ++ (zs.map lv).drop (off + n))).toArray _ _ hrow
      unfold Row
      rw [hn]
      simpa [List.map_append, List.map_take, List.map_drop] using this

/-- The address of a cut from the start. -/
theorem cut0 (A : Option Addr) (cap : Nat) (h : cap = 0 ∨ ∃ b o, A = some ⟨b, o, none⟩) : (if cap = 0 then A else A.map (·.add 0)) = A := by
  rcases h with h | ⟨b, o, rfl⟩
  · rw [if_pos h]
  · split
    · rfl
    · simp [Addr.add]
theorem Rd.addr {w : World} {A : Option Addr} {cap : Nat} {xs : List Nat} (h : Rd w A cap xs) : cap = 0 ∨ ∃ b o, A = some ⟨b, o, none⟩ := by
  rcases h.2.2.2 with h | ⟨b, o, h, _⟩
  · exact .inl h
  · exact .inr ⟨b, o, h⟩
theorem ret_slice {A B : Option Addr} {n m c d : Nat} (h : A = B) (hn : n = m) (hc : c = d) : Ending.returned (.slice A n c) = Ending.returned (.slice B m d) := by rw [h, hn, hc]
theorem ret_int {k : IntKind} {a b : Int} (h : a = b) : Ending.returned (.int k a) = Ending.returned (.int k b) := by rw [h]
end Go.Proofs.Ytmmlfmjelhninaa
