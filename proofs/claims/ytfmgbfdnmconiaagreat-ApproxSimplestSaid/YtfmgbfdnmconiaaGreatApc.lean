/-
  Contract of package approx: Continued.
-/
import Derived.Test.YtfmgbfdnmconiaaGreatApq
namespace Go.Proofs.YtfmgbfdnmconiaaGreat
open Go.RowKit
set_option linter.unusedVariables false

theorem infoZ_some : ∃ i, Tryz.prog.info? 24 = some i := by
  have h := Tryz.sizeZ
  cases hq : Tryz.prog.info? 24 with
  | none => rw [hq] at h; cases h
  | some i => exact ⟨i, rfl⟩
theorem infoZ : ∃ i, Tryz.prog.info? 24 = some i ∧ i.zero = some (.agg #[.bool false, .slice none 0 0]) ∧ i.size = 2 ∧ i.bytes = 32 := by
  have h : (Tryz.prog.info? 24).map (fun i => (i.zero, i.size, i.bytes)) = some (some (.agg #[.bool false, .slice none 0 0]), 2, 32) := by kernel_rfl
  obtain ⟨i, hi⟩ := infoZ_some
  rw [hi] at h
  simp only [Option.map_some, Option.some.injEq, Prod.mk.injEq] at h
  exact ⟨i, hi, h.1, h.2.1, h.2.2⟩
/-- A growing list of integers, from block base on. -/
def Lz (w : World) (base : Nat) (v : Value) (zs : List Int) : Prop := ∃ xs, w.ownsRow base 24 2 v zs.length xs ∧ ∀ i z, zs[i]? = some z → ∃ P k, xs[2 * i]? = some (.bool (decide (z < 0))) ∧ xs[2 * i + 1]? = some (.slice P (ofv z.natAbs).length k) ∧ Own w 0 P k (ofv z.natAbs)
theorem Lz.below {w w' : World} {base : Nat} {v : Value} {zs : List Int} (h : Lz w base v zs) (hb : Below w.heap.size w w') : Lz w' base v zs := by
  obtain ⟨xs, ⟨h1, h2⟩, h3⟩ := h
  refine ⟨xs, ⟨h1, ?_⟩, fun i z hi => ?_⟩
  · rcases h2 with h2 | ⟨g, cap, cur, e1, e2, e3, e4⟩
    · exact .inl h2
    · exact .inr ⟨g, cap, cur, e1, e2, (hb.block g (lt_of_heap e3)).trans e3, e4⟩
  · obtain ⟨P, k, c1, c2, ho⟩ := h3 i z hi
    exact ⟨P, k, c1, c2, ho.below hb⟩
theorem Lz.gr {w w' : World} {base g : Nat} {v : Value} {zs : List Int} (h : Lz w base v zs) (hg : w.grownBy w' (some g)) (ne : g < base) (bx : Bx w g) : Lz w' base v zs := by
  obtain ⟨xs, ⟨h1, h2⟩, h3⟩ := h
  refine ⟨xs, ⟨h1, ?_⟩, fun i z hi => ?_⟩
  · rcases h2 with h2 | ⟨b, cap, cur, e1, e2, e3, e4⟩
    · exact .inl h2
    · exact .inr ⟨b, cap, cur, e1, e2, (hg.block b (lt_of_heap e3) (by simp; omega)).trans e3, e4⟩
  · obtain ⟨P, k, c1, c2, ho⟩ := h3 i z hi
    exact ⟨P, k, c1, c2, ho.grB bx hg⟩
theorem Lz.nil (w : World) (base : Nat) : Lz w base (.slice none 0 0) [] := ⟨[], World.ownsRow_nil w base _ 2, fun i z h => by cases h⟩
/-- What an append to a list of integers leaves. -/
def Ka (base : Nat) (w w' : World) : Prop := (∀ (k : Nat) (cs : Array Value) (t : TypeId) (fz : Nat × Nat), w.heap[k]? = some (.cells cs t fz) → (t ≠ 24 ∨ k < base) → w'.heap[k]? = some (.cells cs t fz)) ∧ Below base w w'
theorem Own.ka {w w' : World} {lo c base : Nat} {A : Option Addr} {xs : List Nat} (h : Own w lo A c xs) (k : Ka base w w') : Own w' lo A c xs := by
  obtain ⟨h0, h1, h2, h3⟩ := h
  refine ⟨h0, h1, h2, ?_⟩
  rcases h3 with h3 | ⟨b, o, cur, hA, hl, hr, hc⟩
  · exact .inl h3
  · exact .inr ⟨b, o, cur, hA, hl, k.1 _ _ _ _ hr (.inl (by decide)), hc⟩
theorem Eo.below {w w' : World} {g L : Nat} {X Y : Int} (h : Eo w g X Y L) (hb : Below w.heap.size w w') : Eo w' g X Y L := by
  obtain ⟨A, c, B, d, h, h1, h2, h3⟩ := h
  exact ⟨A, c, B, d, h.below hb h.lt, h1.below hb, h2.below hb, h3⟩
theorem Eo.ka {w w' : World} {g L base : Nat} {X Y : Int} (h : Eo w g X Y L) (k : Ka base w w') : Eo w' g X Y L := by
  obtain ⟨A, c, B, d, h, h1, h2, h3⟩ := h
  exact ⟨A, c, B, d, k.1 _ _ _ _ h (.inl (by decide)), h1.ka k, h2.ka k, h3⟩
theorem Eo.lt {w : World} {g L : Nat} {X Y : Int} (h : Eo w g X Y L) : g < w.heap.size := h.ex.lt
theorem Eo.bx {w : World} {g L : Nat} {X Y : Int} (h : Eo w g X Y L) : Bx w g := h.ex.bx
theorem append_lz {ops : Array Oper} {rest : List Oper} {o : Oper} {a : Act} {Q : Exit → Act → World → Prop} {w : World} (hgd : o.guard = none) (s x : Operand)
    (ho : o.op = .call { callee := .builtin .append, args := #[s, x], argTypes := #[27, 27] }) {base g k c : Nat} {v : Value} {zs : List Int} {z : Int} {P : Option Addr} (hs : a.eval s = v) (hP : Lz w base v zs)
    (hx : a.eval x = .slice (some ⟨g, 0, none⟩) 1 c) (hz : Zb w g (decide (z < 0)) P (ofv z.natAbs).length k) (hO : Own w 0 P k (ofv z.natAbs)) (hn : zs.length ≤ 1000000000) (hb : base ≤ w.heap.size)
    (h : ∀ v' w', Lz w' base v' (zs ++ [z]) → Ka base w w' → wpList Tryz.prog ops Q rest (a.put o.dst v') w') : wpList Tryz.prog ops Q (o :: rest) a w := by
  obtain ⟨i, hi, hz0, hs2, hb32⟩ := infoZ
  obtain ⟨xs, hown, hel⟩ := hP
  obtain ⟨z1, z2⟩ := hz.cells
  refine wpList_append_own w hgd s x 27 ho base 24 i _ 2 32 Tryz.underlying27 hi hz0 hs2 hb32 rfl (by decide) v zs.length xs hs hown ⟨g, 0, none⟩ 1 c [.bool (decide (z < 0)), .slice P (ofv z.natAbs).length k] hx rfl ?_ ?_ (by unfold maxLen; omega) (by omega) hb ?_
  · intro j u hj
    match j, hj with
    | 0, hj => simp at hj; subst hj; simpa [Addr.add] using z1
    | 1, hj => simp at hj; subst hj; simpa [Addr.add] using z2
  · intro u hu
    simp at hu
    rcases hu with rfl | rfl <;> rfl
  · intro v' w' hown' hgr _
    have hlx : xs.length = zs.length * 2 := hown.1
    have kq : Ka base w w' := by
      rcases hown.2 with ⟨rfl, e⟩ | ⟨b, cap, cur, rfl, hbb, hhb, hr⟩
      · exact ⟨fun q cs t fz hq _ => (hgr.block q (lt_of_heap hq) (by simp [Value.ownBlock])).trans hq, (Below.refl _ _).grown hgr hb (fun q hq => by simp [Value.ownBlock] at hq)⟩
      · refine ⟨fun q cs t fz hq ht => ?_, (Below.refl _ _).grown hgr hb (fun q hq => by simp [Value.ownBlock] at hq; omega)⟩
        refine (hgr.block q (lt_of_heap hq) (fun e => ?_)).trans hq
        simp only [Value.ownBlock, Option.some.injEq] at e
        subst e
        rcases ht with ht | ht
        · rw [hhb] at hq
          simp only [Option.some.injEq, Obj.cells.injEq] at hq
          exact ht hq.2.1.symm
        · omega
    refine h v' w' ⟨_, by rw [List.length_append]; exact hown', fun j zz hj => ?_⟩ kq
    rcases Nat.lt_or_ge j zs.length with hjl | hjl
    · rw [List.getElem?_append_left hjl] at hj
      obtain ⟨P', k', c1, c2, ho'⟩ := hel j zz hj
      refine ⟨P', k', ?_, ?_, ho'.ka kq⟩
      · rw [List.getElem?_append_left (by omega)]; exact c1
      · rw [List.getElem?_append_left (by omega)]; exact c2
    · rw [List.getElem?_append_right hjl] at hj
      obtain ⟨j0, rfl⟩ : j = zs.length ∧ zz = z := by
        rcases Nat.eq_zero_or_pos (j - zs.length) with e | e
        · rw [e] at hj; simp at hj; exact ⟨by omega, hj.symm⟩
        · rw [List.getElem?_eq_none (by simp; omega)] at hj; cases hj
      subst j0
      refine ⟨P, k, ?_, ?_, hO.ka kq⟩
      · rw [List.getElem?_append_right (by omega), hlx, show 2 * zs.length - zs.length * 2 = 0 by omega]; rfl
      · rw [List.getElem?_append_right (by omega), hlx, show 2 * zs.length + 1 - zs.length * 2 = 1 by omega]; rfl
/-- How long a continued fraction can be. -/
theorem pw_two (L : Nat) : pw L = 2 ^ (32 * L) := by rw [Nat.pow_mul]; rfl
theorem steps_le {k v L : Nat} (h : 2 ^ k ≤ v * v) (hv : v < pw L) : k < 64 * L ∨ v = 0 := by
  rcases Nat.eq_zero_or_pos v with e | e
  · exact .inr e
  · refine .inl ?_
    have h1 : v * v < 2 ^ (32 * L) * 2 ^ (32 * L) := by rw [← pw_two]; exact Nat.mul_lt_mul_of_lt_of_le hv (Nat.le_of_lt hv) (Nat.lt_of_lt_of_le e (Nat.le_of_lt hv))
    rw [← Nat.pow_add] at h1
    have := (Nat.pow_lt_pow_iff_right (a := 2) (by decide)).1 (Nat.lt_of_le_of_lt h h1)
    omega
/-- The loop's numbers: how many terms there are. -/
def Cnt (y X Y : Int) (n : Nat) : Prop := 0 ≤ Y ∧ ((n = 0 ∧ Y = y) ∨ (0 < X ∧ Y < X ∧ 0 < n ∧ ((2 ^ (n - 1) : Nat) : Int) * (X * Y) ≤ y * y))
theorem Cnt.step {y X Y : Int} {n : Nat} (h : Cnt y X Y n) (hy : 0 < y) (hY : Y ≠ 0) : Cnt y Y (X % Y) (n + 1) := by
  obtain ⟨h0, h⟩ := h
  have m0 : 0 ≤ X % Y := Int.emod_nonneg _ hY
  have m1 : X % Y < Y := Int.emod_lt_of_pos _ (by omega)
  refine ⟨m0, .inr ⟨by omega, m1, by omega, ?_⟩⟩
  rcases h with ⟨rfl, rfl⟩ | ⟨h1, h2, h3, h4⟩
  · have := Int.mul_le_mul_of_nonneg_left (show X % Y ≤ Y by omega) (show 0 ≤ Y by omega)
    simpa using this
  · obtain ⟨m, rfl⟩ : ∃ m, n = m + 1 := ⟨n - 1, by omega⟩
    have e : ((2 ^ (m + 1 + 1 - 1) : Nat) : Int) = ((2 ^ (m + 1 - 1) : Nat) : Int) * 2 := by
      rw [show m + 1 + 1 - 1 = (m + 1 - 1) + 1 by omega, Nat.pow_succ, Int.natCast_mul]; rfl
    rw [e]
    have t1 : 1 ≤ X / Y := ediv_pos_of (by omega) h2
    have t2 := Int.mul_ediv_add_emod X Y
    have t3 := Int.mul_le_mul_of_nonneg_left t1 (show 0 ≤ Y by omega)
    have t4 : 2 * (Y * (X % Y)) ≤ X * Y := by
      have := Int.mul_le_mul_of_nonneg_left (show 2 * (X % Y) ≤ X by omega) (show 0 ≤ Y by omega)
      have e1 : Y * (2 * (X % Y)) = 2 * (Y * (X % Y)) := by grind
      have e2 : Y * X = X * Y := Int.mul_comm ..
      omega
    have t5 := Int.mul_le_mul_of_nonneg_left t4 (Int.natCast_nonneg (2 ^ (m + 1 - 1)))
    have e3 : ((2 ^ (m + 1 - 1) : Nat) : Int) * 2 * (Y * (X % Y)) = ((2 ^ (m + 1 - 1) : Nat) : Int) * (2 * (Y * (X % Y))) := by grind
    omega
theorem Cnt.bound {y X Y : Int} {n L : Nat} (h : Cnt y X Y n) (hy : 0 < y) (hY : Y ≠ 0) (hl : (ofv y.natAbs).length ≤ L) : n ≤ 64 * L + 1 := by
  obtain ⟨h0, h⟩ := h
  rcases h with ⟨rfl, _⟩ | ⟨h1, h2, h3, h4⟩
  · omega
  · have k1 : 1 ≤ X * Y := by have := Int.mul_pos h1 (show 0 < Y by omega); omega
    have k2 := Int.mul_le_mul_of_nonneg_left k1 (Int.natCast_nonneg (2 ^ (n - 1)))
    have k3 : ((2 ^ (n - 1) : Nat) : Int) ≤ ((y.natAbs * y.natAbs : Nat) : Int) := by
      rw [Int.natCast_mul]
      have e : ((y.natAbs : Nat) : Int) = y := by omega
      rw [e]; omega
    have k4 := steps_le (Int.ofNat_le.1 k3) (Nat.lt_of_lt_of_le (lt_pw_len y.natAbs) (pw_le hl))
    omega
/-- A list of integers that can be read. -/
def Lr (w : World) (v : Value) (zs : List Int) : Prop := ∃ b c, v = .slice (some ⟨b, 0, none⟩) zs.length c ∧ zs.length ≤ c ∧ c ≤ 9223372036854775807 ∧ b < w.heap.size ∧ ∀ i z, zs[i]? = some z → ∃ P k, w.rangeAt b (i * 2) [.bool (decide (z < 0)), .slice P (ofv z.natAbs).length k] ∧ Zo w P k z
theorem Lr.below {w w' : World} {v : Value} {zs : List Int} (h : Lr w v zs) (hb : Below w.heap.size w w') : Lr w' v zs := by
  obtain ⟨b, c, h1, h2, h3, h4, h5⟩ := h
  refine ⟨b, c, h1, h2, h3, Nat.lt_of_lt_of_le h4 hb.size, fun i z hi => ?_⟩
  obtain ⟨P, k, c1, c2⟩ := h5 i z hi
  exact ⟨P, k, fun j u hj => (hb.cell (p := ⟨b, i * 2 + j, none⟩) h4).trans (c1 j u hj), c2.below hb⟩
theorem Lz.lr {w : World} {base : Nat} {v : Value} {zs : List Int} (h : Lz w base v zs) (hn : 0 < zs.length) : Lr w v zs := by
  obtain ⟨xs, ⟨h1, h2⟩, h3⟩ := h
  rcases h2 with ⟨_, h2⟩ | ⟨g, cap, cur, e1, e2, e3, e4, e5, e6, e7⟩
  · omega
  · refine ⟨g, cap, e1, e4, by have : maxLen = 9223372036854775807 := rfl; omega, lt_of_heap e3, fun i z hi => ?_⟩
    obtain ⟨P, k, c1, c2, ho⟩ := h3 i z hi
    have hil : i < zs.length := (List.getElem?_eq_some_iff.1 hi).1
    have at_ : ∀ j, j < zs.length * 2 → cur[j]? = xs[j]? := fun j hj => by
      rw [← e7, List.getElem?_take_of_lt hj, Array.getElem?_toList]
    refine ⟨P, k, fun j u hj => ?_, Zo.of_own ho⟩
    rw [cell_of_row w g _ _ _ (0, 0) e3]
    match j, hj with
    | 0, hj => simp at hj; subst hj; rw [at_ _ (by omega), show i * 2 + 0 = 2 * i by omega]; exact c1
    | 1, hj => simp at hj; subst hj; rw [at_ _ (by omega), show i * 2 + 1 = 2 * i + 1 by omega]; exact c2
set_option maxRecDepth 100000 in
set_option maxHeartbeats 16000000 in
theorem continued_any {s : Bool} {A D : Option Addr} {n c m k : Nat} {x : Int} {p : Nat} {w : World} (h : Zin w s A n c x) (h' : Nin w D m k p) (ln : n ≤ 1048576) (lm : m ≤ 1048576) {z : Int} {d : Nat} (hz : (mkRat x p).num = z) (hd : (mkRat x p).den = d) :
    Calls Tryz.prog 9 #[.agg #[.bool s, .slice A n c, .slice D m k]] w fun e w' => ∃ v zs, e = .returned v ∧ Cf z (d : Int) zs ∧ zs.length ≤ 100000000 ∧ Lr w' v zs ∧ Below w.heap.size w w' := by
  have hb0 := (Below.refl w.heap.size w).alloc (Nat.le_refl _) (.cells #[.bool s, .slice A n c, .slice D m k] 26)
  have B1 := Lib.hid hb0
  have V0 := Lib.hid (Rb.new w s A n c D m k)
  have HX := Lib.hid (h.below hb0)
  have HP := Lib.hid (h'.below hb0)
  have rl := rl_mk (N := 1048576) (Nat.le_trans h.len ln) (Nat.le_trans h'.len lm) (by decide)
  obtain ⟨hg, d0⟩ := gcd_canon (mkRat x p) hz hd
  have lz := rl.1
  have ld := rl.2
  rw [hz] at lz
  rw [hd] at ld
  obtain ⟨y, ey⟩ : ∃ z0 : Int, (d : Int) = z0 := ⟨_, rfl⟩
  have EY := Lib.hid ey
  have Y0 : Hid (0 < y) := by show _ < _; omega
  have LN := Lib.hid ln
  have LM := Lib.hid lm
  have LZ := Lib.hid lz
  have LD : Hid ((ofv y.natAbs).length ≤ 1048576) := by show _ ≤ _; rw [← ey]; exact ld
  have LL : Hid (1 ≤ 1048576 ∧ 1048576 ≤ 70368744177660) := by show _ ∧ _; omega
  have HZ := Lib.hid hz
  have HD := Lib.hid hd
  clear h h' ln lm rl hg d0 lz ld ey hb0
  go_enter Tryz.func9, Tryz.ntmps9
  go_wp2_with fail
  generalize (w.alloc (.cells #[.bool s, .slice A n c, .slice D m k] 26)) = w2 at *
  have pc0 := Lib.hid trivial
  go_wp2_with (first
    | (clear pc0; go_at_call 30; refine Calls.mono (norm_any (L := 1048576) (z := z) (d := d) HX.out HP.out LN.out LM.out LL.out HZ.out HD.out) ?_; rintro e wa ⟨P1, c1, Q1, k1, rfl, ho, ho2, hb⟩; replace V0 := Lib.hid (V0.out.below hb V0.out.lt); replace HX := Lib.hid (HX.out.below hb); replace HP := Lib.hid (HP.out.below hb); replace B1 := Lib.hid (B1.out.trans (hb.mono B1.out.size)); have ZZ := Lib.hid (ho.mono (Nat.zero_le _)); have ND := Lib.hid (ho2.mono (Nat.zero_le _)); clear ho ho2; clear hb; have pc1 := Lib.hid trivial)
    | (clear pc1; go_at_call 44; refine Calls.mono (expand_any _ _ _ _ _ _ _ _) ?_; rintro e wb ⟨rfl, hb⟩; replace V0 := Lib.hid (V0.out.below hb V0.out.lt); replace HX := Lib.hid (HX.out.below hb); replace HP := Lib.hid (HP.out.below hb); replace ZZ := Lib.hid (ZZ.out.below hb); replace ND := Lib.hid (ND.out.below hb); replace B1 := Lib.hid (B1.out.trans (hb.mono B1.out.size)); clear hb; have pc2 := Lib.hid trivial))
  clear pc2
  have LG : Hid (w.heap.size < wb.heap.size) := V0.out.lt
  have hb : Below wb.heap.size wb (wb.alloc (.cells #[.bool (decide (z < 0)), .slice P1 (ofv z.natAbs).length c1, .bool false, .slice Q1 (ofv d).length k1] 62)) := ((Below.refl _ _).alloc (by first | exact Nat.le_refl _ | (simp; done) | (simp; omega)) _)
  replace V0 := Lib.hid (V0.out.below hb V0.out.lt)
  replace HX := Lib.hid (HX.out.below hb)
  replace HP := Lib.hid (HP.out.below hb)
  replace ZZ := Lib.hid (ZZ.out.below hb)
  replace ND := Lib.hid (ND.out.below hb)
  replace B1 := Lib.hid (B1.out.trans (hb.mono B1.out.size))
  have V4 : Hid (Eb (wb.alloc (.cells #[.bool (decide (z < 0)), .slice P1 (ofv z.natAbs).length c1, .bool false, .slice Q1 (ofv d).length k1] 62)) (wb.heap.size) (decide (z < 0)) P1 (ofv z.natAbs).length c1 false Q1 (ofv d).length k1) := by have h := (Eb.new wb (decide (z < 0)) P1 (ofv z.natAbs).length c1 false Q1 (ofv d).length k1); (try simp only [World.size_alloc] at h); exact h
  clear hb
  have LB : Hid (wb.heap.size + 1 ≤ (wb.alloc (.cells #[.bool (decide (z < 0)), .slice P1 (ofv z.natAbs).length c1, .bool false, .slice Q1 (ofv d).length k1] 62)).heap.size) := by show _ ≤ _; simp
  generalize (wb.alloc (.cells #[.bool (decide (z < 0)), .slice P1 (ofv z.natAbs).length c1, .bool false, .slice Q1 (ofv d).length k1] 62)) = wc at *
  generalize wb.heap.size = g4 at *
  have EO : Hid (Eo wc g4 z y 1048576) := by
    have e := EY.out
    refine ⟨P1, c1, Q1, k1, ?_, ZZ.out, ?_, LZ.out, LD.out⟩
    · rw [← e]; have := V4.out; rw [show decide (((d : Nat) : Int) < 0) = false by simp, Int.natAbs_natCast]; exact this
    · rw [← e, Int.natAbs_natCast]; exact ND.out
  clear V0 V4 HX HP ZZ ND
  try simp only [Act.put]
  go_loopw [3] (fun v3 wr => ∃ (X Y : Int) (zs : List Int), Hid (Eo wr g4 X Y 1048576) ∧ Hid (Lz wr (g4 + 1) v3 zs) ∧ Hid (Cnt y X Y zs.length) ∧ Hid (∀ l, Cf X Y l → Cf z y (zs ++ l)) ∧ Hid (Below w.heap.size w wr) ∧ Hid (g4 + 1 ≤ wr.heap.size) ∧ Hid (zs.length ≤ 67108866)) (fun _ wr => rdy wr g4)
  case atStart => exact ⟨z, y, [], EO, Lib.hid (Lz.nil _ _), Lib.hid ⟨Int.le_of_lt Y0.out, .inl ⟨rfl, rfl⟩⟩, Lib.hid (fun l hl => hl), B1, LB, Lib.hid (by decide)⟩
  case round =>
    obtain ⟨X, Y, zs, E4, LZS, CN, CF, B1, LB, LN0⟩ := hrel
    have MS : Hid (rdy wr g4 = Y.natAbs) := rdy_ex E4.out.ex
    obtain ⟨q, eq'⟩ : ∃ z0 : Int, X / Y = z0 := ⟨_, rfl⟩
    obtain ⟨r, er⟩ : ∃ z0 : Int, X % Y = z0 := ⟨_, rfl⟩
    have EQ := Lib.hid eq'
    have ER := Lib.hid er
    clear eq' er
    rcases Int.decEq Y 0 with hY | hY
    · have EB := Lib.hid (show decide (Y = 0) = false by simpa using hY)
      have NY := Lib.hid hY
      have LN1 : Hid (zs.length + 1 ≤ 67108866) := by have := CN.out.bound Y0.out hY LD.out; show _ ≤ _; omega
      have LEN : Hid (zs.length ≤ 1000000000) := Nat.le_trans (CN.out.bound Y0.out hY LD.out) (by decide)
      clear hY
      have pc0 := Lib.hid trivial
      go_wp2_with (first
        | (clear pc0; go_at_call 45; refine Calls.mono (isOver_any (b := false) E4.out.ex EB.out) ?_; rintro e wd ⟨rfl, hb⟩; replace E4 := Lib.hid (E4.out.below hb); replace LZS := Lib.hid (LZS.out.below hb); replace B1 := Lib.hid (B1.out.trans (hb.mono B1.out.size)); replace LB := Lib.hid (Nat.le_trans LB.out hb.size); clear hb; have pc1 := Lib.hid trivial)
        | (clear pc1; go_at_call 46; refine Calls.mono (next_own (q := q) (r := r) E4.out (by decide) NY.out EQ.out ER.out) ?_; rintro e we ⟨PT, cT, rfl, zt, ex, hg⟩; have bx := E4.out.bx; replace LZS := Lib.hid (LZS.out.gr hg (by omega) bx); replace B1 := Lib.hid (Below.gr B1.out (by have := LG.out; omega) hg B1.out.size); replace LB := Lib.hid (Nat.le_trans LB.out hg.size); replace E4 := Lib.hid ex; have ZT := Lib.hid zt; clear bx hg ex zt; have pc2 := Lib.hid trivial)
        | (clear pc2; at_builtin; refine append_lz rfl _ _ rfl rfl (LZS.out.below ((Below.refl _ _).alloc (Nat.le_refl _) _)) rfl (Zb.new we (decide (q < 0)) PT (ofv q.natAbs).length cT) (ZT.out.below ((Below.refl _ _).alloc (Nat.le_refl _) _)) LEN.out (by have := LB.out; simp; omega) ?_; intro v9 wf hlz hk; have hb : Below we.heap.size we (we.alloc (.cells #[.bool (decide (q < 0)), .slice PT (ofv q.natAbs).length cT] 24)) := (Below.refl _ _).alloc (Nat.le_refl _) _; replace E4 := Lib.hid ((E4.out.below hb).ka hk); replace LB : Hid (g4 + 1 ≤ wf.heap.size) := Nat.le_trans LB.out (Nat.le_trans hb.size hk.2.size); replace B1 := Lib.hid ((B1.out.trans (hb.mono B1.out.size)).trans (hk.2.mono (by have := LG.out; omega))); have LZN := Lib.hid hlz; clear hb hk hlz; have pc3 := Lib.hid trivial))
      clear pc3
      have cn := CN.out.step Y0.out NY.out
      rw [ER.out] at cn
      have cf : ∀ l, Cf Y r l → Cf z y ((zs ++ [q]) ++ l) := fun l hl => by
        have := CF.out (q :: l) (by rw [← EQ.out]; exact .cons NY.out (by rw [ER.out]; exact hl))
        simpa using this
      have md : r.natAbs < Y.natAbs := by
        rw [← ER.out]
        have h1 := Int.emod_nonneg X NY.out
        have h2 := Int.emod_lt X NY.out
        omega
      try simp only [Act.put]
      go_roundw
      case rel => exact ⟨Y, r, zs ++ [q], E4, LZN, by rw [List.length_append]; exact Lib.hid cn, Lib.hid cf, B1, LB, by rw [List.length_append]; exact LN1⟩
      case measure => rw [MS.out, rdy_ex E4.out.ex]; exact md
    · have EB := Lib.hid (show decide (Y = 0) = true by simpa using hY)
      have cf := CF.out [] (by rw [hY]; exact .nil X)
      rw [List.append_nil] at cf
      have CFF := Lib.hid cf
      have LEN : Hid (zs.length ≤ 100000000) := Nat.le_trans LN0.out (by decide)
      have NE : Hid (0 < zs.length) := by
        obtain ⟨_, c⟩ := CN.out
        rcases c with ⟨_, e⟩ | ⟨_, _, c3, _⟩
        · have := Y0.out; omega
        · exact c3
      clear hY cf
      have pc0 := Lib.hid trivial
      go_wp2_with (first
        | (clear pc0; go_at_call 45; refine Calls.mono (isOver_any (b := true) E4.out.ex EB.out) ?_; rintro e wd ⟨rfl, hb⟩; replace E4 := Lib.hid (E4.out.below hb); replace LZS := Lib.hid (LZS.out.below hb); replace B1 := Lib.hid (B1.out.trans (hb.mono B1.out.size)); replace LB := Lib.hid (Nat.le_trans LB.out hb.size); clear hb; have pc1 := Lib.hid trivial))
      clear pc1
      go_ret
      exact ⟨_, zs, rfl, by rw [EY.out]; exact CFF.out, LEN.out, LZS.out.lr NE.out, B1.out⟩
end Go.Proofs.YtfmgbfdnmconiaaGreat
