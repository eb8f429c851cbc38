/-
  Contracts of the statements' helpers: Equal, Spare, Kept, Wipe of limbs.
-/
import Derived.Test.YtfmgbfdnmconiaaGreatNA
import Derived.Test.YtfmgbfdnmconiaaGreatNB
namespace Go.Proofs.YtfmgbfdnmconiaaGreat
open Go.RowKit
set_option linter.unusedVariables false
set_option maxRecDepth 100000
theorem okl3k {a b c : Nat} (h : a < 4294967296) (k : b < 4294967296) (l : c < 4294967296) : okl [a, b, c] := by
  intro x hx; simp only [List.mem_cons, List.not_mem_nil, or_false] at hx; rcases hx with rfl | rfl | rfl <;> omega

theorem hequal_same (A B : Option Addr) (ca cb : Nat) (xs : List Nat) (w : World) (h : Rd w A ca xs) (h' : Rd w B cb xs) :
    Calls Tryz.prog 91 #[.slice A xs.length ca, .slice B xs.length cb] w fun e w' => e = .returned (.bool true) ∧ ∃ n, w' = w.drewN n := by
  have hl1 := h.len
  have hm1 := h.capLe
  have hl2 := h'.len
  have hm2 := h'.capLe
  have X := Lib.hid h
  have Y := Lib.hid h'
  have hb : ((xs.length : Int) != (xs.length : Int)) = false := by simp
  clear h h'
  go_enter Tryz.func91, Tryz.ntmps91
  go_wp2
  go_loopw [5] (fun i wr => ∃ k : Nat, k ≤ xs.length ∧ i = .int .i64 k ∧ Hid (∃ q, wr = w.drewN q)) (fun i _ => xs.length - (intOf i).toNat)
  case atStart => exact ⟨0, Nat.zero_le _, rfl, 0, rfl⟩
  case round =>
    obtain ⟨k, hk, rfl, hq⟩ := hrel
    by_cases hlt : k < xs.length
    · obtain ⟨b, o, hA, hb1, hc1⟩ := X.out.at_ hlt
      obtain ⟨b', o', hB, hb2, hc2⟩ := Y.out.at_ hlt
      have c1 : wr.cell? ⟨b, o + k, none⟩ = some (.int .u32 ((lim xs k : Nat) : Int)) := by
        obtain ⟨q, rfl⟩ := hq.out
        exact hc1 k hlt
      have c2 : wr.cell? ⟨b', o' + k, none⟩ = some (.int .u32 ((lim xs k : Nat) : Int)) := by
        obtain ⟨q, rfl⟩ := hq.out
        exact hc2 k hlt
      have r1 := lim_lt X.out.ok k
      have hE : (((lim xs k : Nat) : Int) != ((lim xs k : Nat) : Int)) = false := by simp
      subst hA hB
      clear hc1 hc2
      generalize lim xs k = l1 at *
      go_wp2
      go_quiet (fail)
      go_wp2
      go_roundw
      case rel => exact ⟨k + 1, by omega, by go_num, drew_on hq.out ⟨_, rfl⟩⟩
      case measure => simp [intOf]; omega
    · go_wp2
      go_ret
      exact ⟨rfl, hq.out⟩
theorem hequal_n {A B : Option Addr} {ca cb n m : Nat} {xs : List Nat} {w : World} (h : Rd w A ca xs) (h' : Rd w B cb xs) (hn : xs.length = n) (hm : xs.length = m) :
    Calls Tryz.prog 91 #[.slice A n ca, .slice B m cb] w fun e w' => e = .returned (.bool true) ∧ ∃ n, w' = w.drewN n := by
  subst hn; subst hm; exact hequal_same A B ca cb xs w h h'

theorem spare_empty (w : World) : (w.alloc (.cells #[] 52)).ownsRow w.heap.size 52 1 (.slice (some ⟨w.heap.size, 0, none⟩) 0 0) 0 (([] : List Nat).map lv) :=
  World.ownsRow_made w #[] 0 (Nat.le_refl _) (by unfold maxLen; omega) rfl

/-- A copy with three more places. -/
def SparePost (w : World) (xs : List Nat) (e : Ending) (w' : World) : Prop :=
  ∃ g, e = .returned (.slice (some ⟨g, 0, none⟩) xs.length (xs.length + 3)) ∧ Rd w' (some ⟨g, 0, none⟩) (xs.length + 3) (xs ++ [7, 7, 7]) ∧ Below w.heap.size w w'

set_option maxHeartbeats 2000000 in
theorem spare_any (A : Option Addr) (ca : Nat) (xs : List Nat) (w : World) (h : Rd w A ca xs) (hn : xs.length ≤ 35184372088000) :
    Calls Tryz.prog 26 #[.slice A xs.length ca, .int .u32 7] w (SparePost w xs) := by
  have X := Lib.hid h
  clear h
  go_enter Tryz.func26, Tryz.ntmps26
  go_wp2_with (at_builtin; refine append_rd rfl _ _ rfl w.heap.size (.slice (some ⟨w.heap.size, 0, none⟩) 0 0) 0 [] rfl (spare_empty w) _ _ _ xs rfl (X.out.below ((Below.refl _ _).alloc (Nat.le_refl _) _)) rfl (by omega) (by simp) ?_)
  intro v1 w1 hown hgr
  have HO1 := Lib.hid hown
  have B1 : Hid (Below w.heap.size w w1) := ((Below.refl _ _).alloc (Nat.le_refl _) _).grown hgr (by simp) (fun k hk => by cases hk; exact Nat.le_refl _)
  clear hown hgr
  go_wp2_with (at_builtin; refine append_rd rfl _ _ rfl w.heap.size v1 xs.length xs rfl (HO1.out.alloc _) _ _ _ [7, 7, 7] rfl (rd_row (row_new rfl rfl) (okl3k (by omega) (by omega) (by omega)) rfl (by simp)) rfl (by omega) (by have := B1.out.size; simp; omega) ?_)
  intro v2 w2 hown hgr
  have B2 : Below w.heap.size w w2 := (B1.out.alloc B1.out.size _).grown hgr (by have := B1.out.size; simp; omega) (fun k hk => (HO1.out.lt k hk).1)
  have HB2 := Lib.hid B2
  obtain ⟨hl, hc⟩ := hown
  rcases hc with ⟨_, h0⟩ | ⟨g, cap, cur, rfl, hbg, hg, hnc, hcm, hsz, htk⟩
  · omega
  · have OK : okl (xs ++ [7, 7, 7]) := okl_append X.out.ok (okl3k (by omega) (by omega) (by omega))
    unfold maxLen at hcm
    have FIN : Hid (SparePost w xs (.returned (.slice (some ⟨g, 0, none⟩) xs.length (xs.length + 3))) w2) := by
      refine ⟨g, rfl, ⟨OK, by simp, by omega, .inr ⟨g, 0, rfl, lt_of_heap hg, fun i hi => ?_⟩⟩, HB2.out⟩
      rw [Nat.zero_add, cell_of_row w2 g i _ _ (0, 0) hg]
      rw [Nat.mul_one] at htk
      have e : cur.toList[i]? = ((xs ++ [7, 7, 7]).map lv)[i]? := by rw [show List.map lv (xs ++ [7, 7, 7]) = List.map lv xs ++ [lv 7, lv 7, lv 7] from by simp, ← htk, List.getElem?_take_of_lt (by simp at hi; omega)]
      rw [Array.getElem?_toList] at e
      rw [e, List.getElem?_map, List.getElem?_eq_getElem hi]
      unfold lim
      rw [List.getD_eq_getElem?_getD, List.getElem?_eq_getElem hi]; rfl
    clear hg htk hsz hl B2 hgr
    go_wp2
    go_ret
    exact FIN.out

set_option maxHeartbeats 2000000 in
theorem kept_any (g : Nat) (B : Option Addr) (cb : Nat) (xs : List Nat) (w : World) (h : Rd w (some ⟨g, 0, none⟩) (xs.length + 3) (xs ++ [7, 7, 7])) (h' : Rd w B cb xs) (hn : xs.length ≤ 35184372088000) :
    Calls Tryz.prog 43 #[.slice (some ⟨g, 0, none⟩) xs.length (xs.length + 3), .slice B xs.length cb, .int .u32 7] w fun e w' => e = .returned (.bool true) ∧ ∃ n, w' = w.drewN n := by
  have X : Hid (Rd w (some ⟨g, 0, none⟩) (xs.length + 3) xs) := by
    have := h.take xs.length
    rwa [List.take_left'] at this
    rfl
  have Y := Lib.hid h'
  have hl := h'.len
  have hcb := h'.capLe
  obtain ⟨b, o, hA, hlt, hc⟩ := h.at_ (k := 0) (by simp)
  simp at hA
  obtain ⟨rfl, rfl⟩ := hA
  have q0 := hc xs.length (by simp)
  have q1 := hc (xs.length + 1) (by simp)
  have q2 := hc (xs.length + 2) (by simp)
  rw [Nat.zero_add] at q0 q1 q2
  rw [lim_append_right (by omega), show xs.length - xs.length = 0 from by omega, lim_cons_zero] at q0
  rw [lim_append_right (by omega), show xs.length + 1 - xs.length = 1 from by omega, lim_cons_succ, lim_cons_zero] at q1
  rw [lim_append_right (by omega), show xs.length + 2 - xs.length = 2 from by omega, lim_cons_succ, lim_cons_succ, lim_cons_zero] at q2
  have Q := Lib.hid (And.intro q0 (And.intro q1 q2))
  clear h h' hc q0 q1 q2
  go_enter Tryz.func43, Tryz.ntmps43
  go_wp2_with fail
  refine (hequal_n X.out Y.out rfl rfl).mono ?_
  rintro e w1 ⟨rfl, hq⟩
  have HQ := Lib.hid hq
  obtain ⟨q0, q1, q2⟩ : w1.cell? ⟨g, xs.length, none⟩ = some (.int .u32 7) ∧ w1.cell? ⟨g, xs.length + 1, none⟩ = some (.int .u32 7) ∧ w1.cell? ⟨g, xs.length + 2, none⟩ = some (.int .u32 7) := by
    obtain ⟨n, rfl⟩ := hq
    exact Q.out
  clear hq
  go_wp2
  go_ret
  exact ⟨rfl, HQ.out⟩

/-- A slice of the call's own, from block lo on: its places may be written. -/
def WpS (w : World) (lo : Nat) (A : Option Addr) (n c : Nat) : Prop :=
  n ≤ c ∧ c ≤ 9223372036854775807 ∧ (c = 0 ∨ ∃ b o cur, A = some ⟨b, o, none⟩ ∧ lo ≤ b ∧ w.heap[b]? = some (.cells cur 52 (0, 0)) ∧ ∀ i, i < n → o + i < cur.size)
theorem WpS.of_own {w : World} {lo lo' c n : Nat} {A : Option Addr} {xs : List Nat} (h : Own w lo A c xs) (hn : xs.length = n) (hl : lo' ≤ lo) : WpS w lo' A n c := by
  obtain ⟨h0, h1, h2, h3⟩ := h
  refine ⟨by omega, h2, ?_⟩
  rcases h3 with h3 | ⟨b, o, cur, hA, hb, hg, hc⟩
  · exact .inl h3
  · refine .inr ⟨b, o, cur, hA, by omega, hg, fun i hi => ?_⟩
    have := hc i (by omega)
    rcases Nat.lt_or_ge (o + i) cur.size with h | h
    · exact h
    · rw [Array.getElem?_eq_none h] at this; cases this
theorem WpS.nil (w : World) (lo : Nat) (A : Option Addr) : WpS w lo A 0 0 := ⟨Nat.le_refl _, by omega, .inl rfl⟩
theorem WpS.below {w w' : World} {lo n c : Nat} {A : Option Addr} (h : WpS w lo A n c) (hb : Below w.heap.size w w') : WpS w' lo A n c := by
  obtain ⟨h0, h1, h3⟩ := h
  refine ⟨h0, h1, ?_⟩
  rcases h3 with h3 | ⟨b, o, cur, hA, hl, hg, hc⟩
  · exact .inl h3
  · exact .inr ⟨b, o, cur, hA, hl, (hb.block b (lt_of_heap hg)).trans hg, hc⟩
/-- Memory from block lo on has been written, but no block has changed its kind or size, and no list of slices its contents. -/
def WKeep (lo : Nat) (w w' : World) : Prop :=
  Below lo w w' ∧ (∀ A n c, WpS w lo A n c → WpS w' lo A n c) ∧ (∀ (k : Nat) (cs : Array Value), w.heap[k]? = some (.cells cs 22 (0, 0)) → w'.heap[k]? = some (.cells cs 22 (0, 0)))
theorem WKeep.refl (lo : Nat) (w : World) : WKeep lo w w := ⟨Below.refl _ _, fun _ _ _ h => h, fun _ _ h => h⟩
theorem WKeep.set_ {lo b i : Nat} {w w' : World} {cur : Array Value} {u : Value} (h : WKeep lo w w') (hl : lo ≤ b) (hg : w'.heap[b]? = some (.cells cur 52 (0, 0))) : WKeep lo w (w'.setCell ⟨b, i, none⟩ u) := by
  obtain ⟨h1, h2, h3⟩ := h
  refine ⟨h1.setCell hl _, fun A n c hw => ?_, fun k cs hk => ?_⟩
  · obtain ⟨a0, a1, a2⟩ := h2 A n c hw
    refine ⟨a0, a1, ?_⟩
    rcases a2 with a2 | ⟨b', o', cur', hA, hl', hg', hc'⟩
    · exact .inl a2
    · rcases Nat.lt_or_ge b b' with hlt | hge
      · exact .inr ⟨b', o', cur', hA, hl', (Below.heap_setCell _ _ _ _ (show b' ≠ b by omega)).trans hg', hc'⟩
      · rcases Nat.lt_or_ge b' b with hlt | hge2
        · exact .inr ⟨b', o', cur', hA, hl', (Below.heap_setCell _ _ _ _ (show b' ≠ b by omega)).trans hg', hc'⟩
        · obtain rfl : b' = b := by omega
          exact .inr ⟨b', o', _, hA, hl', heap_setCell_same w' b' i cur' _ u hg', fun j hj => by rw [Array.size_setIfInBounds]; exact hc' j hj⟩
  · have hk' := h3 k cs hk
    refine (Below.heap_setCell _ _ _ _ (show k ≠ b from fun e => ?_)).trans hk'
    subst e
    rw [hk'] at hg
    simp at hg

set_option maxHeartbeats 2000000 in
theorem wipe_any (A : Option Addr) (n c lo : Nat) (w : World) (h : WpS w lo A n c) :
    Calls Tryz.prog 38 #[.slice A n c, .int .u32 5] w fun e w' => e = .returned (.tuple #[]) ∧ WKeep lo w w' := by
  have X := Lib.hid h
  have hl := h.1
  have hm := h.2.1
  clear h
  go_enter Tryz.func38, Tryz.ntmps38
  go_wp2
  go_loopw [4] (fun i wr => ∃ k : Nat, k ≤ n ∧ i = .int .i64 k ∧ Hid (WKeep lo w wr)) (fun i _ => n - (intOf i).toNat)
  case atStart => exact ⟨0, Nat.zero_le _, rfl, WKeep.refl _ _⟩
  case round =>
    obtain ⟨k, hk, rfl, hw⟩ := hrel
    by_cases hlt : k < n
    · obtain ⟨_, _, h2⟩ := hw.out.2.1 _ _ _ X.out
      rcases h2 with h2 | ⟨b, o, cur, rfl, hlb, hg, hc⟩
      · omega
      · obtain ⟨u0, hcw⟩ : ∃ u0, wr.cell? ⟨b, o + k, none⟩ = some u0 :=
          ⟨cur[o + k]'(hc k hlt), by rw [cell_of_row wr b (o + k) _ _ (0, 0) hg, Array.getElem?_eq_getElem (hc k hlt)]⟩
        have hfz : wr.frozen? ⟨b, o + k, none⟩ = false := by simp [World.frozen?, hg]
        have NX : Hid (WKeep lo w (wr.setCell ⟨b, o + k, none⟩ (.int .u32 5))) := hw.out.set_ hlb hg
        clear hg hc
        go_wp2
        go_roundw
        case rel => exact ⟨k + 1, by omega, by go_num, NX.out⟩
        case measure => simp [intOf]; omega
    · go_wp2
      go_end0
      exact ⟨rfl, hw.out⟩
end Go.Proofs.YtfmgbfdnmconiaaGreat
