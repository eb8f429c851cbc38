/-
  'append' of zeros to a row of the call's own.
-/
import Derived.Test.YtmmlfmjelhninaaMem
import Derived.Lib.AppendZeros
import Derived.Lib.AppendZerosOnto
namespace Go.Proofs.Ytmmlfmjelhninaa
open Go.RowKit
set_option linter.unusedVariables false

theorem own_prefix {w : World} {g lo c : Nat} {ys : List Nat} {rest : List Value} {cur : Array Value} (h : w.heap[g]? = some (.cells cur 42 (0, 0))) (he : cur.toList = ys.map lv ++ rest) (hk : okl ys) (hl : lo ≤ g) (hc : ys.length ≤ c) (hc2 : c ≤ 9223372036854775807) :
    Own w lo (some ⟨g, 0, none⟩) c ys := by
  refine ⟨hk, hc, hc2, .inr ⟨g, 0, cur, rfl, hl, h, fun i hi => ?_⟩⟩
  rw [Nat.zero_add, ← Array.getElem?_toList, he, List.getElem?_append_left (by simpa using hi), List.getElem?_map, List.getElem?_eq_getElem hi]
  unfold lim
  rw [List.getD_eq_getElem?_getD, List.getElem?_eq_getElem hi]; rfl
theorem zero_cells (k : Nat) : (Builtin.zeroCells (Value.int .u32 0).cells k).toList = (List.replicate k 0).map lv := by
  have e : (Value.int .u32 0).cells = #[.int .u32 0] := rfl
  rw [e]
  apply List.ext_getElem
  · simp [Builtin.zeroCells]
  · intro i h1 h2
    simp [Builtin.zeroCells, Nat.mod_one, lv]
theorem next_small {n k c : Nat} (hk : k ≤ 4) (h : c < n + k) (hn : n + k ≤ 35184372088832) (hc : n ≤ c) : Builtin.nextslicecap (n + k) c * 4 ≤ 281474976710656 := by
  unfold Builtin.nextslicecap
  split
  · omega
  · split
    · omega
    · have h1 : ¬ (c ≥ n + k) := by omega
      have h2 : c + (c + 768) / 4 ≥ n + k := by omega
      simp only [Builtin.growBy, if_neg h1, if_pos h2]
      omega

theorem Try.under8 : Try.prog.underlying 5 = some (.int .u8) := by kernel_rfl

set_option maxHeartbeats 1000000 in
theorem append_zeros {w : World} {ops : Array Oper} {rest : List Oper} {o : Oper} {a : Act} {Q : Exit → Act → World → Prop} (hgd : o.guard = none) (s x : Operand)
    (ho : o.op = .call { callee := .builtin .append, args := #[s, x], argTypes := #[22, 5] }) (base : Nat) (v : Value) (n : Nat) (xs : List Nat) (hs : a.eval s = v) (hown : w.ownsRow base 42 1 v n (xs.map lv)) (hok : okl xs)
    (k N : Nat) (z : Int) (hx : a.eval x = .int .u8 z) (hz : z = (k : Int)) (hN : n + k = N) (hk : k ≤ 4) (hb : n + k ≤ 35184372088832) (hbase : base ≤ w.heap.size)
    (hK : ∀ R c' w', Own w' base R c' (xs ++ List.replicate k 0) → Below base w w' → wpList Try.prog ops Q rest (a.put o.dst (.slice R N c')) w') :
    wpList Try.prog ops Q (o :: rest) a w := by
  subst hz hN
  obtain ⟨i0, hi, hz0, hz1, hz2⟩ := info_parts Try.info42
  have hoks : okl (xs ++ List.replicate k 0) := okl_append hok (okl_replicate k)
  have hxn : xs.length = n := by have := hown.1; simpa using this
  have hw : IntKind.i64.wrap (k : Int) = k := by rw [IntKind.wrap_i64]; omega
  rcases hown.2 with ⟨rfl, rfl⟩ | ⟨g, cap, cur, rfl, hbg, hg, hnc, hcm, hsz, htk⟩
  · obtain rfl : xs = [] := List.eq_nil_of_length_eq_zero hxn
    rcases Nat.eq_zero_or_pos k with h0 | h0
    · subst h0
      refine Lib.wpList_append_run w hgd s x _ _ ho _ _ hs hx (.slice none 0 0) w ?_ ?_
      · have hw0 : IntKind.i64.wrap 0 = 0 := by rw [IntKind.wrap_i64]; omega
        simp [Builtin.append_, run_underlying Try.underlying22, run_underlying Try.under8, sizeOf, typeInfo, hi, hz2, asInt, asIntOf, hw0]
      · exact hK none 0 w (Own.nil _ _ _) (Below.refl _ _)
    · have hrun := Lib.run_append_nil_zeros (P := Try.prog) w 22 5 o.type 42 i0 (.int .u32 0) .u8 .u8 Try.underlying22 Try.under8 hi hz0 k h0 (by omega) (by omega) (by rw [hz2]; omega)
      refine Lib.wpList_append_run w hgd s x _ _ ho _ _ hs hx _ _ hrun ?_
      have hle := grownCap_le_maxLen w k 0 42 (by unfold maxLen; omega)
      have hge := grownCap_ge w k 0 42
      unfold maxLen at hle
      have e : (0 + k) = k := by omega
      rw [show (Value.slice (some ⟨w.heap.size, 0, none⟩) k (grownCap w k 0 42)) = Value.slice (some ⟨w.heap.size, 0, none⟩) (0 + k) (grownCap w k 0 42) from by rw [e]]
      refine hK _ _ _ (own_prefix (rest := (Builtin.zeroCells (Value.int .u32 0).cells (grownCap w k 0 42 - k)).toList) (heap_alloc_new w.drew _) ?_ hoks hbase (by simpa using hge) (by omega)) ((Below.refl _ _).drew.alloc hbase _)
      rw [Array.toList_append, zero_cells]; rfl
  · rw [Nat.mul_one] at hsz htk
    rcases Nat.lt_or_ge cap (n + k) with hgr | hroom
    · have hold := run_firstCells_some (P := Try.prog) w.drew i0.size n ⟨g, 0, none⟩ n cap (xs.map lv) (by rw [hz1]; simp [hxn]) (fun j u hu => by
        obtain ⟨hj, rfl⟩ := get_lv hu
        rw [add_addr, Nat.zero_add]
        have hcu : cur[j]? = some (lv (lim xs j)) := by
          have h1 : cur.toList[j]? = (xs.map lv)[j]? := by rw [← htk, List.getElem?_take_of_lt (by omega)]
          rw [Array.getElem?_toList] at h1
          rw [h1]; exact hu
        show w.drew.cell? ⟨g, j, none⟩ = _
        rw [cell_of_row w.drew g j _ _ (0, 0) hg, hcu])
      have hrun := Lib.run_append_grow_zeros (P := Try.prog) w 22 5 o.type 42 i0 (.int .u32 0) .u8 .u8 Try.underlying22 Try.under8 hi hz0 _ n cap _ hold k (by omega) (by omega) hgr (by omega) (by rw [hz2]; omega) (by rw [hz2]; exact next_small hk hgr hb hnc)
      refine Lib.wpList_append_run w hgd s x _ _ ho _ _ hs hx _ _ hrun ?_
      have hle := grownCap_le_maxLen w (n + k) cap 42 (by unfold maxLen; omega)
      have hge := grownCap_ge w (n + k) cap 42
      unfold maxLen at hle
      refine hK _ _ _ (own_prefix (rest := (Builtin.zeroCells (Value.int .u32 0).cells (grownCap w (n + k) cap 42 - (n + k))).toList) (heap_alloc_new w.drew _) ?_ hoks hbase (by rw [List.length_append, List.length_replicate, hxn]; exact hge) (by omega)) ((Below.refl _ _).drew.alloc hbase _)
      rw [Array.toList_append, Array.toList_append, zero_cells k, List.map_append]
    · have hst := run_storeCells_at Try.prog g n 42 ((List.replicate k 0).map lv) 0 cur w hg (by simp; omega) (ones_lv _)
      simp only [Nat.add_zero] at hst
      have hzc := zero_cells k
      rw [← hzc] at hst
      have hrun : (Builtin.append_ #[22, 5] o.type #[.slice (some ⟨g, 0, none⟩) n cap, .int .u8 (k : Int)]).run Try.prog w = .ok (.slice (some ⟨g, 0, none⟩) (n + k) cap)
          (w.setRow g (cur.toList.take n ++ (Builtin.zeroCells (Value.int .u32 0).cells k).toList ++ cur.toList.drop (n + (Builtin.zeroCells (Value.int .u32 0).cells k).toList.length)).toArray) := by
        have hneg : ¬ ((k : Int) < 0) := by omega
        have h48i : ¬ (281474976710656 < (k : Int) * 4) := by omega
        rcases Nat.eq_zero_or_pos k with h0 | h0
        · subst h0
          have hw0 : IntKind.i64.wrap 0 = 0 := by rw [IntKind.wrap_i64]; omega
          have e0 : (Builtin.zeroCells (Value.int .u32 0).cells 0).toList = [] := by rw [zero_cells]; rfl
          rw [e0] at hst
          simp only [e0]
          simp [Builtin.append_, run_underlying Try.underlying22, run_underlying Try.under8, sizeOf, typeInfo, hi, hz2, hz1, asInt, asIntOf, hw0, Addr.add_lit, hnc] at hst ⊢
          rw [hst]
          rfl
        · have hns : ¬ (k * 1 = 0) := by omega
          simp [Builtin.append_, run_underlying Try.underlying22, run_underlying Try.under8, sizeOf, typeInfo, zeroValue, hi, hz0, hz2, hz1, asInt, asIntOf, hw, hneg, h48i, hroom, Addr.add_lit, hst]
          intro e
          omega
      refine Lib.wpList_append_run w hgd s x _ _ ho _ _ hs hx _ _ hrun ?_
      unfold maxLen at hcm
      refine hK _ _ _ (own_prefix (rest := cur.toList.drop (n + k)) (setRow_heap w g cur _ 42 _ hg) ?_ hoks hbg (by rw [List.length_append, List.length_replicate, hxn]; exact hroom) (by omega)) ?_
      · rw [hzc, htk, List.map_append]
        simp
      · have hgw : w.grownBy (w.setRow g (cur.toList.take n ++ (Builtin.zeroCells (Value.int .u32 0).cells k).toList ++ cur.toList.drop (n + (Builtin.zeroCells (Value.int .u32 0).cells k).toList.length)).toArray) (some g) :=
          ⟨rfl, rfl, rfl, by simp [World.setRow], fun j _ hne => setRow_other w g j _ (fun e => hne (by rw [e]))⟩
        exact below_of_grown hgw hbg hbase
end Go.Proofs.Ytmmlfmjelhninaa
