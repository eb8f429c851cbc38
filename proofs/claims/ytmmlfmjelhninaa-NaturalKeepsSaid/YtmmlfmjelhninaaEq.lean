/-
  Contracts of the reference's Equal (of equal lists) and Trim, and of natural.Trim and both FromUint64.
-/
import Derived.Test.YtmmlfmjelhninaaWin
import Derived.Test.YtmmlfmjelhninaaAdd
namespace Go.Proofs.Ytmmlfmjelhninaa
open Go.RowKit
set_option linter.unusedVariables false

theorem equal_same (A B : Option Addr) (ca cb : Nat) (xs : List Nat) (w : World) (h : Rd w A ca xs) (h' : Rd w B cb xs) :
    Calls Try.prog 18 #[.slice A xs.length ca, .slice B xs.length cb] w fun e w' => e = .returned (.bool true) ∧ ∃ n, w' = w.drewN n := by
  have hl1 := h.len
  have hm1 := h.capLe
  have hl2 := h'.len
  have hm2 := h'.capLe
  have X := Lib.hid h
  have Y := Lib.hid h'
  have hb : ((xs.length : Int) != (xs.length : Int)) = false := by simp
  clear h h'
  go_enter Try.func18, Try.ntmps18
  go_wp2
  go_loopw [5] (fun i wr => ∃ k : Nat, k ≤ xs.length ∧ i = .int .i64 k ∧ Hid (∃ q, wr = w.drewN q)) (fun i _ => xs.length - (intOf i).toNat)
  case atStart => exact ⟨0, Nat.zero_le _, rfl, 0, rfl⟩
  case round =>
    obtain ⟨k, hk, rfl, hq⟩ := hrel
    by_cases hlt : k < xs.length
    · obtain ⟨b, o, hA, hb1, hc1⟩ := X.out.at_ hlt
      obtain ⟨b', o', hB, hb2, hc2⟩ := Y.out.at_ hlt
      have c1 : wr.cell? ⟨b, o + k, none⟩ = some (.int .u32 ((lim xs k : Nat) : Int)) := by
        obtain ⟨q, rfl⟩ := hq.out
        exact hc1 k hlt
      have c2 : wr.cell? ⟨b', o' + k, none⟩ = some (.int .u32 ((lim xs k : Nat) : Int)) := by
        obtain ⟨q, rfl⟩ := hq.out
        exact hc2 k hlt
      have r1 := lim_lt X.out.ok k
      have hE : (((lim xs k : Nat) : Int) != ((lim xs k : Nat) : Int)) = false := by simp
      subst hA hB
      clear hc1 hc2
      generalize lim xs k = l1 at *
      go_wp2
      go_quiet (fail)
      go_wp2
      go_roundw
      case rel => exact ⟨k + 1, by omega, by go_num, drew_on hq.out ⟨_, rfl⟩⟩
      case measure => simp [intOf]; omega
    · go_wp2
      go_ret
      exact ⟨rfl, hq.out⟩
theorem equal_n {A B : Option Addr} {ca cb n m : Nat} {xs ys : List Nat} {w : World} (h : Rd w A ca xs) (h' : Rd w B cb ys) (he : xs = ys) (hn : xs.length = n) (hm : ys.length = m) :
    Calls Try.prog 18 #[.slice A n ca, .slice B m cb] w fun e w' => e = .returned (.bool true) ∧ ∃ n, w' = w.drewN n := by
  subst he hn hm; exact equal_same A B ca cb xs w h h'

/-- The result of a call: a whole row of the call's own, the canonical list of v. -/
def GivesRow (w : World) (v : Nat) (e : Ending) (w' : World) : Prop := ∃ g, e = .returned (.slice (some ⟨g, 0, none⟩) (ofv v).length (ofv v).length) ∧ w.heap.size ≤ g ∧ Row w' g (ofv v) ∧ Below w.heap.size w w'
theorem GivesRow.gives {w w' : World} {v : Nat} {e : Ending} (h : GivesRow w v e w') (hm : (ofv v).length ≤ 9223372036854775807) : Gives w v e w' := by
  obtain ⟨g, he, hg, hr, hb⟩ := h
  exact ⟨_, _, he, Own.of_row hr (okl_ofv v) hg hm, hb⟩

set_option maxHeartbeats 1000000 in
theorem trim_row (A : Option Addr) (cap : Nat) (xs : List Nat) (w : World) (h : Rd w A cap xs) (hn : xs.length ≤ 70368744177664) :
    Calls Try.prog 19 #[.slice A xs.length cap] w (GivesRow w (val xs)) := by
  have S1 := Lib.hid (sig_any A cap xs w h)
  have hl := h.len
  have hc := h.capLe
  have hl2 := len_ofv_le h.ok
  have X := Lib.hid h.sig
  have hv := val_ofv (val xs)
  have ho := okl_ofv (val xs)
  have HV := Lib.hid hv
  have hm : (ofv (val xs)).length ≤ 70368744177664 := by omega
  have hl3 : (ofv (val xs)).length ≤ cap := by omega
  clear h hv hl2
  generalize hus : ofv (val xs) = us at *
  have HU := Lib.hid hus
  clear hus
  go_enter Try.func19, Try.ntmps19
  go_wp2_with fail
  refine S1.out.mono ?_
  rintro e w' ⟨rfl, rfl⟩
  go_wp2_with (at_make; refine make_row rfl _ _ rfl _ _ us.length rfl rfl rfl rfl hm ?_)
  intro w1 hrow hbel
  have HR := Lib.hid hrow
  have X1 := Lib.hid (X.out.below hbel)
  have HB := Lib.hid hbel
  clear hrow hbel
  go_wp2_with (with_reducible refine copy_row rfl (.tmp 9) (.tmp 10) rfl w.heap.size 0 us.length us.length rfl (List.replicate us.length 0) HR.out (by simp) A us.length cap us rfl X1.out rfl (Nat.le_refl _) ?_)
  intro w2 hrow2 hgrow2
  have hrow3 : Row w2 w.heap.size us := by simpa using hrow2
  have hb2 : Below w.heap.size w w2 := HB.out.trans (below_of_grown hgrow2 (Nat.le_refl _) HB.out.size)
  have e : us = ofv (val xs) := HU.out.symm
  have FIN : Hid (GivesRow w (val xs) (.returned (.slice (some ⟨w.heap.size, 0, none⟩) us.length us.length)) w2) := by
    show GivesRow w _ _ w2
    unfold GivesRow
    rw [← e]
    exact ⟨_, rfl, Nat.le_refl _, hrow3, hb2⟩
  clear hrow2 hgrow2 hrow3 hb2 e
  go_wp2
  go_ret
  exact FIN.out

theorem trim_any (A : Option Addr) (cap : Nat) (xs : List Nat) (w : World) (h : Rd w A cap xs) (hn : xs.length ≤ 70368744177664) :
    Calls Try.prog 19 #[.slice A xs.length cap] w (Gives w (val xs)) :=
  (trim_row A cap xs w h hn).mono fun _ _ g => g.gives (by have := len_ofv_le h.ok; omega)
theorem trim_row_n {A : Option Addr} {cap n : Nat} {xs : List Nat} {w : World} (h : Rd w A cap xs) (hn : xs.length = n) (hl : n ≤ 70368744177664) :
    Calls Try.prog 19 #[.slice A n cap] w (GivesRow w (val xs)) := by
  subst hn; exact trim_row A cap xs w h hl
theorem trim_n {A : Option Addr} {cap n : Nat} {xs : List Nat} {w : World} (h : Rd w A cap xs) (hn : xs.length = n) (hl : n ≤ 70368744177664) :
    Calls Try.prog 19 #[.slice A n cap] w (Gives w (val xs)) := by
  subst hn; exact trim_any A cap xs w h hl

theorem row_two (w : World) {zx zy : Int} {x y : Nat} (hx : zx = (x : Int)) (hy : zy = (y : Int)) : Row (w.alloc (.cells #[.int .u32 zx, .int .u32 zy] 42)) w.heap.size [x, y] := by
  subst hx hy; exact heap_alloc_new w _
theorem two_facts {v : Nat} (hv : v < 18446744073709551616) : okl [v % 4294967296, v / 4294967296] ∧ val [v % 4294967296, v / 4294967296] = v := by
  refine ⟨?_, ?_⟩
  · intro x hx
    simp only [List.mem_cons, List.not_mem_nil, or_false] at hx
    rcases hx with rfl | rfl <;> omega
  · rw [val_cons, val_cons, val_nil]; omega

theorem from_any (v : Nat) (w : World) (hv : v < 18446744073709551616) :
    Calls Try.prog 16 #[.int .u64 (v : Int)] w (Gives w v) := by
  obtain ⟨ho, he⟩ := two_facts hv
  have HO := Lib.hid ho
  have HE := Lib.hid he
  have hr := row_two w (zx := (v : Int) % 4294967296) (zy := (v : Int) / 4294967296) (x := v % 4294967296) (y := v / 4294967296) (by omega) (by omega)
  have hb : Below w.heap.size w (w.alloc (.cells #[.int .u32 ((v : Int) % 4294967296), .int .u32 ((v : Int) / 4294967296)] 42)) := (Below.refl _ _).alloc (Nat.le_refl _) _
  have fin := gives_row hr (Nat.le_refl _) ho hb he rfl (by simp)
  have S := sig_n (Own.of_row hr ho (Nat.le_refl w.heap.size) (by simp)).rd rfl
  have FIN := Lib.hid fin
  have HS := Lib.hid S
  clear ho he hr hb fin S
  go_enter Try.func16, Try.ntmps16
  go_wp2_with fail
  refine HS.out.mono ?_
  rintro e w' ⟨rfl, rfl⟩
  go_wp2
  go_ret
  exact FIN.out

theorem from_z {v : Nat} {z : Int} {w : World} (hz : z = (v : Int)) (hv : v < 18446744073709551616) :
    Calls Try.prog 16 #[.int .u64 z] w (Gives w v) := by
  subst hz; exact from_any v w hv

set_option maxHeartbeats 1000000 in
theorem rtrim_any (A : Option Addr) (cap : Nat) (xs : List Nat) (w : World) (h : Rd w A cap xs) (hn : xs.length ≤ 70368744177664) :
    Calls Try.prog 20 #[.slice A xs.length cap] w (Gives w (val xs)) := by
  have hl := h.len
  have hm := h.capLe
  have hok := Lib.hid h.ok
  have H := Lib.hid h
  clear h
  go_enter Try.func20, Try.ntmps20
  go_wp2
  go_loop [3] (fun i => ∃ n : Nat, n ≤ xs.length ∧ i = .int .i64 n ∧ Hid (∀ j, n ≤ j → j < xs.length → lim xs j = 0)) (fun i => (intOf i).toNat)
  case atStart => exact ⟨xs.length, Nat.le_refl _, rfl, fun j h1 h2 => by omega⟩
  case round =>
    obtain ⟨n, hn', rfl, hz⟩ := hrel
    have e1 : n = 0 ∨ (0 < n ∧ lim xs (n - 1) = 0) ∨ (0 < n ∧ lim xs (n - 1) ≠ 0) := by omega
    rcases e1 with rfl | ⟨hp, h0⟩ | ⟨hp, h0⟩
    · have e := take_eq_ofv hok.out (Nat.zero_le _) hz.out (.inl rfl)
      have E := Lib.hid e
      have own : Hid (Row (w.alloc (.cells #[] 42)) w.heap.size []) := heap_alloc_new w _
      have R := Lib.hid ((H.out.take 0).keep (Nat.le_refl _) ((Below.refl _ w).alloc (Nat.le_refl _) (.cells #[] 42)))
      clear e hz
      go_wp2_with (at_builtin; refine append_full rfl _ _ rfl w.heap.size w.heap.size 0 [] rfl own.out okl_nil rfl (Nat.le_refl _) _ _ _ (xs.take 0) rfl R.out (by simp) (by omega) (by omega) (fun h => absurd h (by omega)) ?_)
      intro R' c w' ho hb0
      have hb : Below w.heap.size w w' := ((Below.refl _ w).alloc (Nat.le_refl _) (.cells #[] 42)).trans hb0
      have FIN : Hid (Gives w (val xs) (.returned (.slice R' (0 + 0) c)) w') := by
        show Gives w _ _ w'
        unfold Gives
        rw [← E.out]
        exact ⟨R', c, by simp, by simpa using ho, hb⟩
      clear ho hb hb0
      go_wp2
      go_ret
      exact FIN.out
    · obtain ⟨b, o, rfl, _, hc⟩ := H.out.at_ (k := n - 1) (by omega)
      have c1 := hc (n - 1) (by omega)
      rw [h0] at c1
      have hz' : Hid (∀ j, n - 1 ≤ j → j < xs.length → lim xs j = 0) := by
        intro j h1 h2
        by_cases ej : j = n - 1
        · rw [ej]; exact h0
        · exact hz.out j (by omega) h2
      clear hc h0 hz
      go_wp2
      go_round
      case rel => exact ⟨n - 1, by omega, by first | rfl | (congr 1; omega), hz'⟩
      case measure => simp [intOf]; omega
    · obtain ⟨b, o, rfl, _, hc⟩ := H.out.at_ (k := n - 1) (by omega)
      have c1 := hc (n - 1) (by omega)
      have hb : (((lim xs (n - 1) : Nat) : Int) == 0) = false := by simp; exact h0
      have e := take_eq_ofv hok.out hn' hz.out (.inr h0)
      have E := Lib.hid e
      have own : Hid (Row (w.alloc (.cells #[] 42)) w.heap.size []) := heap_alloc_new w _
      have R := Lib.hid ((H.out.take n).keep (Nat.le_refl _) ((Below.refl _ w).alloc (Nat.le_refl _) (.cells #[] 42)))
      clear hc e h0 hz
      go_wp2_with (at_builtin; refine append_full rfl _ _ rfl w.heap.size w.heap.size 0 [] rfl own.out okl_nil rfl (Nat.le_refl _) _ _ _ (xs.take n) rfl R.out (by simp; omega) (by omega) (by omega) (fun h => by rw [Nat.zero_add, nextslicecap_zero h]; omega) ?_)
      intro R' c w' ho hb0
      have hb : Below w.heap.size w w' := ((Below.refl _ w).alloc (Nat.le_refl _) (.cells #[] 42)).trans hb0
      have FIN : Hid (Gives w (val xs) (.returned (.slice R' n c)) w') := by
        show Gives w _ _ w'
        unfold Gives
        rw [← E.out]
        exact ⟨R', c, by rw [List.length_take, Nat.min_eq_left hn'], by simpa using ho, hb⟩
      clear ho hb hb0
      go_wp2
      go_ret
      exact FIN.out
theorem rtrim_n {A : Option Addr} {cap n : Nat} {xs : List Nat} {w : World} (h : Rd w A cap xs) (hn : xs.length = n) (hl : n ≤ 70368744177664) :
    Calls Try.prog 20 #[.slice A n cap] w (Gives w (val xs)) := by
  subst hn; exact rtrim_any A cap xs w h hl

theorem rfrom_any (v : Nat) (w : World) (hv : v < 18446744073709551616) :
    Calls Try.prog 21 #[.int .u64 (v : Int)] w (Gives w v) := by
  obtain ⟨ho, he⟩ := two_facts hv
  have hr := row_two w (zx := (v : Int) % 4294967296) (zy := (v : Int) / 4294967296) (x := v % 4294967296) (y := v / 4294967296) (by omega) (by omega)
  have hb : Below w.heap.size w (w.alloc (.cells #[.int .u32 ((v : Int) % 4294967296), .int .u32 ((v : Int) / 4294967296)] 42)) := (Below.refl _ _).alloc (Nat.le_refl _) _
  have S := rtrim_n (Own.of_row hr ho (Nat.le_refl w.heap.size) (by simp)).rd rfl (by simp)
  have HS := Lib.hid S
  have HE := Lib.hid he
  have HB := Lib.hid hb
  clear ho he hr hb S
  go_enter Try.func21, Try.ntmps21
  go_wp2_with fail
  refine HS.out.mono ?_
  rintro e w' ⟨R, c, rfl, ho, hb⟩
  have FIN : Hid (Gives w v (.returned (.slice R (ofv (val [v % 4294967296, v / 4294967296])).length c)) w') := by
    have e := HE.out
    rw [e] at ho ⊢
    exact ⟨R, c, rfl, ho.mono (by simp), HB.out.trans (hb.mono (by simp))⟩
  clear ho hb
  go_wp2
  go_ret
  exact FIN.out
end Go.Proofs.Ytmmlfmjelhninaa
