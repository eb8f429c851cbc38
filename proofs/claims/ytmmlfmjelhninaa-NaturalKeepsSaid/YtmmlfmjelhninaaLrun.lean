/-
  Contract of natural.findStep: the run of quotients.
-/
import Derived.Test.YtmmlfmjelhninaaLehm
import Derived.Test.YtmmlfmjelhninaaBits
import Derived.Test.YtmmlfmjelhninaaWin
namespace Go.Proofs.Ytmmlfmjelhninaa
open Go.RowKit
set_option linter.unusedVariables false

/-- What a run is good for. -/
def StepGood (X Y a b c d : Int) : Prop :=
  ((0 ≤ a ∧ b ≤ 0 ∧ c ≤ 0 ∧ 0 ≤ d) ∨ (a ≤ 0 ∧ 0 ≤ b ∧ 0 ≤ c ∧ d ≤ 0)) ∧
  (-1073741824 ≤ a ∧ a ≤ 1073741824 ∧ -1073741824 ≤ b ∧ b ≤ 1073741824 ∧ -1073741824 ≤ c ∧ c ≤ 1073741824 ∧ -1073741824 ≤ d ∧ d ≤ 1073741824) ∧
  (0 ≤ c * X + d * Y ∧ c * X + d * Y ≤ a * X + b * Y ∧ a * X + b * Y ≤ X ∧ Int.gcd (a * X + b * Y) (c * X + d * Y) = Int.gcd X Y) ∧
  (b = 0 ∨ (a * X + b * Y) + (c * X + d * Y) < X + Y)
theorem leh_good {X Y U V a b c d u v : Int} (L : Leh X Y U V a b c d u v) : StepGood X Y a b c d := by
  obtain ⟨hu, hv, hs, hbd, hn, ht, hdec⟩ := L
  refine ⟨by omega, hbd, ht, ?_⟩
  rcases hdec with ⟨_, h, _, _⟩ | h
  · exact .inl h
  · exact .inr h

/-- A run in memory. -/
def St (w : World) (g : Nat) (a b c d : Int) : Prop := w.heap[g]? = some (.cells #[.int .i64 a, .int .i64 b, .int .i64 c, .int .i64 d] 61 (0, 0))
theorem St.cells {w : World} {g : Nat} {a b c d : Int} (h : St w g a b c d) :
    w.cell? ⟨g, 0, none⟩ = some (.int .i64 a) ∧ w.cell? ⟨g, 1, none⟩ = some (.int .i64 b) ∧ w.cell? ⟨g, 2, none⟩ = some (.int .i64 c) ∧ w.cell? ⟨g, 3, none⟩ = some (.int .i64 d) := by
  refine ⟨?_, ?_, ?_, ?_⟩ <;> (rw [cell_of_row w g _ _ _ (0, 0) h]; rfl)

theorem St.frozen {w : World} {g : Nat} {a b c d : Int} (h : St w g a b c d) :
    w.frozen? ⟨g, 0, none⟩ = false ∧ w.frozen? ⟨g, 1, none⟩ = false ∧ w.frozen? ⟨g, 2, none⟩ = false ∧ w.frozen? ⟨g, 3, none⟩ = false := by
  unfold St at h
  refine ⟨?_, ?_, ?_, ?_⟩ <;> simp [World.frozen?, h]
theorem St.lit {w : World} {g : Nat} {a b c d : Int} (h : St w g a b c d) (a' b' c' d' : Int) :
    St ((((w.setCell ⟨g, 0, none⟩ (.int .i64 a')).setCell ⟨g, 1, none⟩ (.int .i64 b')).setCell ⟨g, 2, none⟩ (.int .i64 c')).setCell ⟨g, 3, none⟩ (.int .i64 d')) g a' b' c' d' := by
  unfold St at h ⊢
  have h1 := heap_setCell_same w g 0 _ _ (.int .i64 a') h
  have h2 := heap_setCell_same _ g 1 _ _ (.int .i64 b') h1
  have h3 := heap_setCell_same _ g 2 _ _ (.int .i64 c') h2
  have h4 := heap_setCell_same _ g 3 _ _ (.int .i64 d') h3
  exact h4
theorem Leh.bounds {X Y U V a b c d u v : Int} (L : Leh X Y U V a b c d u v) :
    -1073741824 ≤ a ∧ a ≤ 1073741824 ∧ -1073741824 ≤ b ∧ b ≤ 1073741824 ∧ -1073741824 ≤ c ∧ c ≤ 1073741824 ∧ -1073741824 ≤ d ∧ d ≤ 1073741824 ∧ 0 ≤ v ∧ v ≤ u ∧ u < 1152921504606846976 ∧ 0 ≤ u + a ∧ 0 ≤ u + b ∧ 0 ≤ v + c ∧ 0 ≤ v + d := by
  obtain ⟨hu, hv, hs, hbd, hn, ht, hdec⟩ := L
  omega

set_option maxHeartbeats 4000000 in
theorem findStep_any (A B : Option Addr) (ca cb : Nat) (xs ys : List Nat) (w : World) (h : Rd w A ca xs) (h' : Rd w B cb ys) (hn : xs.length ≤ 70368744177663) (hX : 18446744073709551616 ≤ val xs) (hle : val ys ≤ val xs) :
    Calls Try.prog 55 #[.slice A xs.length ca, .slice B ys.length cb] w fun e w' => ∃ a b c d : Int, e = .returned (.agg #[.int .i64 a, .int .i64 b, .int .i64 c, .int .i64 d]) ∧ StepGood (val xs) (val ys) a b c d ∧ Below w.heap.size w w' := by
  have nb := nbits_lt (val xs)
  have nb1 : 64 < nbits (val xs) := by
    rcases Nat.lt_or_ge 64 (nbits (val xs)) with h1 | h1
    · exact h1
    · have := Nat.pow_le_pow_right (n := 2) (by omega) h1
      have e : (2 : Nat) ^ 64 = 18446744073709551616 := rfl
      omega
  have nb2 : nbits (val xs) ≤ 32 * 70368744177663 := by
    have h1 := nbits_len (val xs)
    have h2 := len_ofv_le h.ok
    omega
  obtain ⟨be, hbe⟩ : ∃ be, nbits (val xs) = be + 60 := ⟨nbits (val xs) - 60, by omega⟩
  rw [hbe] at nb nb1 nb2
  have hp : 0 < 2 ^ be := Nat.pow_pos (by omega)
  have dX := Nat.div_add_mod (val xs) (2 ^ be)
  have dY := Nat.div_add_mod (val ys) (2 ^ be)
  have mX := Nat.mod_lt (val xs) hp
  have mY := Nat.mod_lt (val ys) hp
  have U1 : val xs / 2 ^ be < 1152921504606846976 := by
    apply Nat.div_lt_of_lt_mul
    rw [Nat.pow_add] at nb
    exact nb
  have UV : val ys / 2 ^ be ≤ val xs / 2 ^ be := Nat.div_le_div_right hle
  have HBE := Lib.hid hbe
  have HX := Lib.hid h
  have HY := Lib.hid h'
  have W1 := Lib.hid (Nat.mod_eq_of_lt (show val xs / 2 ^ be < 18446744073709551616 by omega))
  have W2 := Lib.hid (Nat.mod_eq_of_lt (show val ys / 2 ^ be < 18446744073709551616 by omega))
  have hca := h.capLe
  have hcb := h'.capLe
  have hla := h.len
  have hlb := h'.len
  clear h h' hbe nb
  have EX : ((val xs : Nat) : Int) = ((2 ^ be : Nat) : Int) * ((val xs / 2 ^ be : Nat) : Int) + ((val xs % 2 ^ be : Nat) : Int) := by
    rw [← Int.natCast_mul, ← Int.natCast_add, dX]
  have EY : ((val ys : Nat) : Int) = ((2 ^ be : Nat) : Int) * ((val ys / 2 ^ be : Nat) : Int) + ((val ys % 2 ^ be : Nat) : Int) := by
    rw [← Int.natCast_mul, ← Int.natCast_add, dY]
  generalize hU : val xs / 2 ^ be = U at *
  generalize hV : val ys / 2 ^ be = V at *
  have hU60 : (U : Int) < 1152921504606846976 := by omega
  have hV60 : (V : Int) < 1152921504606846976 := by omega
  have hh0 : (0 : Int) < ((2 ^ be : Nat) : Int) := by omega
  have mx1 : ((val xs % 2 ^ be : Nat) : Int) < ((2 ^ be : Nat) : Int) := by omega
  have my1 : ((val ys % 2 ^ be : Nat) : Int) < ((2 ^ be : Nat) : Int) := by omega
  have mx0 : (0 : Int) ≤ ((val xs % 2 ^ be : Nat) : Int) := by omega
  have my0 : (0 : Int) ≤ ((val ys % 2 ^ be : Nat) : Int) := by omega
  have KK := Lib.hid (And.intro EX (And.intro EY (And.intro hh0 (And.intro mx0 (And.intro mx1 (And.intro my0 my1))))))
  clear EX EY hh0 mx0 mx1 my0 my1 mX mY dX dY hp
  have HU := Lib.hid hU
  have HV := Lib.hid hV
  clear hU hV
  go_enter Try.func55, Try.ntmps55
  go_wp2_with fail
  generalize hw1 : w.alloc _ = w1
  have B1 : Hid (Below w.heap.size w w1) := by rw [← hw1]; exact (Below.refl _ _).alloc (Nat.le_refl _) _
  have R1 : Hid (St w1 w.heap.size 0 0 0 0) := by rw [← hw1]; exact heap_alloc_new w _
  have X1 := Lib.hid (HX.out.below B1.out)
  have Y1 := Lib.hid (HY.out.below B1.out)
  clear hw1 HX HY
  refine (bits_n X1.out rfl (by omega)).mono ?_
  rw [HBE.out]
  rintro e w' ⟨rfl, rfl⟩
  go_wp2_with fail
  refine (window_n X1.out rfl be rfl (by omega)).mono ?_
  rw [HU.out, W1.out]
  rintro e w2 ⟨rfl, hq⟩
  have hb := below_q hq
  have B2 : Hid (Below w.heap.size w w2) := B1.out.trans (hb.mono B1.out.size)
  have Y2 := Lib.hid (Y1.out.below hb)
  have R2 : Hid (St w2 w.heap.size 0 0 0 0) := (hb.block _ (lt_of_heap R1.out)).trans R1.out
  clear hb hq
  go_wp2_with fail
  refine (window_n Y2.out rfl be rfl (by omega)).mono ?_
  rw [HV.out, W2.out]
  rintro e w3 ⟨rfl, hq⟩
  have hb := below_q hq
  have B3 : Hid (Below w.heap.size w w3) := B2.out.trans (hb.mono B2.out.size)
  have R3 : Hid (St w3 w.heap.size 0 0 0 0) := (hb.block _ (lt_of_heap R2.out)).trans R2.out
  clear hb hq X1 Y1 Y2 B1 B2 R1 R2
  go_wp2
  generalize hw4 : w3.alloc _ = w4
  have G4 : Hid (w3.heap.size < w4.heap.size) := by rw [← hw4]; show _ < _; simp
  have B4 : Hid (Below w.heap.size w w4) := by rw [← hw4]; exact B3.out.alloc B3.out.size _
  have S4 : Hid (St w4 w3.heap.size 1 0 0 1) := by rw [← hw4]; exact heap_alloc_new w3 _
  have R4 : Hid (St w4 w.heap.size 0 0 0 0) := by rw [← hw4]; exact (Below.heap_alloc w3 _ _ (lt_of_heap R3.out)).trans R3.out
  have GL : w.heap.size < w3.heap.size := lt_of_heap R3.out
  clear hw4 B3 R3
  generalize w3.heap.size = gs at *
  have L0 : Hid (Leh (val xs) (val ys) U V 1 0 0 1 U V) := leh_start (by omega) (by omega) (by omega) (by omega) (by omega)
  go_loopw [6, 7] (fun uu vv wr => ∃ a b c d u v : Int, uu = .int .i64 u ∧ vv = .int .i64 v ∧ Hid (Leh (val xs) (val ys) U V a b c d u v) ∧ Hid (St wr gs a b c d) ∧ Hid (w4.grownBy wr (some gs))) (fun _ v _ => (intOf v).toNat)
  case atStart => exact ⟨1, 0, 0, 1, U, V, rfl, rfl, L0.out, S4.out, World.grownBy.refl _ _⟩
  case round =>
    obtain ⟨a, b, c, d, u, v, rfl, rfl, HL, HS, HG⟩ := hrel
    obtain ⟨a1, a2, b1, b2, c1, c2, d1, d2, n1, n2, n3, n4, n5, n6, n7⟩ := HL.out.bounds
    obtain ⟨m1, m2, m3, m4⟩ := HS.out.cells
    have GOOD := Lib.hid (leh_good HL.out)
    have hne : w.heap.size ≠ gs := by omega
    have RW : Hid (St wr w.heap.size 0 0 0 0) := (HG.out.block _ (lt_of_heap R4.out) (by simpa using hne)).trans R4.out
    have BR : Hid (Below w.heap.size w wr) := B4.out.trans (below_of_grown HG.out (by omega) B4.out.size)
    by_cases hP : v + c = 0
    · skip
      obtain ⟨k1, k2, k3, k4⟩ := RW.out.cells
      obtain ⟨f1, f2, f3, f4⟩ := RW.out.frozen
      have SZ := RW.out.lit a b c d
      have BZ : Below w.heap.size w _ := (((BR.out.setCell (p := ⟨w.heap.size, 0, none⟩) (by simp) (.int .i64 a)).setCell (p := ⟨w.heap.size, 1, none⟩) (by simp) (.int .i64 b)).setCell (p := ⟨w.heap.size, 2, none⟩) (by simp) (.int .i64 c)).setCell (p := ⟨w.heap.size, 3, none⟩) (by simp) (.int .i64 d)
      have HSZ := Lib.hid SZ
      have HBZ := Lib.hid BZ
      clear SZ BZ
      go_wp2
      generalize (((wr.setCell ⟨w.heap.size, 0, none⟩ (.int .i64 a)).setCell ⟨w.heap.size, 1, none⟩ (.int .i64 b)).setCell ⟨w.heap.size, 2, none⟩ (.int .i64 c)).setCell ⟨w.heap.size, 3, none⟩ (.int .i64 d) = wz at *
      obtain ⟨z1, z2, z3, z4⟩ := HSZ.out.cells
      refine bodyPost_ret (v := .agg #[.int .i64 a, .int .i64 b, .int .i64 c, .int .i64 d]) (by simp [results, Try.results55, go_sem, z1, z2, z3, z4]) rfl ⟨a, b, c, d, rfl, GOOD.out, HBZ.out⟩
    · have hP' : (v + c != 0) = true := by simpa using hP
      by_cases hQ : v + d = 0
      · skip
        obtain ⟨k1, k2, k3, k4⟩ := RW.out.cells
        obtain ⟨f1, f2, f3, f4⟩ := RW.out.frozen
        have SZ := RW.out.lit a b c d
        have BZ : Below w.heap.size w _ := (((BR.out.setCell (p := ⟨w.heap.size, 0, none⟩) (by simp) (.int .i64 a)).setCell (p := ⟨w.heap.size, 1, none⟩) (by simp) (.int .i64 b)).setCell (p := ⟨w.heap.size, 2, none⟩) (by simp) (.int .i64 c)).setCell (p := ⟨w.heap.size, 3, none⟩) (by simp) (.int .i64 d)
        have HSZ := Lib.hid SZ
        have HBZ := Lib.hid BZ
        clear SZ BZ
        go_wp2
        generalize (((wr.setCell ⟨w.heap.size, 0, none⟩ (.int .i64 a)).setCell ⟨w.heap.size, 1, none⟩ (.int .i64 b)).setCell ⟨w.heap.size, 2, none⟩ (.int .i64 c)).setCell ⟨w.heap.size, 3, none⟩ (.int .i64 d) = wz at *
        obtain ⟨z1, z2, z3, z4⟩ := HSZ.out.cells
        refine bodyPost_ret (v := .agg #[.int .i64 a, .int .i64 b, .int .i64 c, .int .i64 d]) (by simp [results, Try.results55, go_sem, z1, z2, z3, z4]) rfl ⟨a, b, c, d, rfl, GOOD.out, HBZ.out⟩
      · have hQ' : (v + d != 0) = true := by simpa using hQ
        by_cases hq : (u + a) / (v + c) = (u + b) / (v + d)
        · obtain ⟨EX, EY, hh0, mx0, mx1, my0, my1⟩ := KK.out
          obtain ⟨NL, NM⟩ := leh_step HL.out EX EY hh0 mx0 mx1 my0 my1 hU60 hV60 hP hQ hq.symm rfl
          obtain ⟨_, _, _, _, e1, e2, e3, e4, e5, e6, e7, _⟩ := NL.bounds
          have HNL := Lib.hid NL
          have hq' : ((u + a) / (v + c) != (u + b) / (v + d)) = false := by simpa using hq
          have SZ := HS.out.lit c d (a - (u + b) / (v + d) * c) (b - (u + b) / (v + d) * d)
          have HSZ := Lib.hid SZ
          obtain ⟨f1, f2, f3, f4⟩ := HS.out.frozen
          clear SZ NL EX EY hh0 mx0 mx1 my0 my1
          go_wp2
          go_roundw
          case rel => exact ⟨c, d, _, _, v, _, rfl, rfl, HNL.out, HSZ.out, grown_trans HG.out (grown_trans (grown_set _ _ _ _) (grown_trans (grown_set _ _ _ _) (grown_trans (grown_set _ _ _ _) (grown_set _ _ _ _))))⟩
          case measure => simp only [intOf]; omega
        · have hq' : ((u + a) / (v + c) != (u + b) / (v + d)) = true := by simpa using hq
          obtain ⟨k1, k2, k3, k4⟩ := RW.out.cells
          obtain ⟨f1, f2, f3, f4⟩ := RW.out.frozen
          have SZ := RW.out.lit a b c d
          have BZ : Below w.heap.size w _ := (((BR.out.setCell (p := ⟨w.heap.size, 0, none⟩) (by simp) (.int .i64 a)).setCell (p := ⟨w.heap.size, 1, none⟩) (by simp) (.int .i64 b)).setCell (p := ⟨w.heap.size, 2, none⟩) (by simp) (.int .i64 c)).setCell (p := ⟨w.heap.size, 3, none⟩) (by simp) (.int .i64 d)
          have HSZ := Lib.hid SZ
          have HBZ := Lib.hid BZ
          clear SZ BZ
          go_wp2
          generalize (((wr.setCell ⟨w.heap.size, 0, none⟩ (.int .i64 a)).setCell ⟨w.heap.size, 1, none⟩ (.int .i64 b)).setCell ⟨w.heap.size, 2, none⟩ (.int .i64 c)).setCell ⟨w.heap.size, 3, none⟩ (.int .i64 d) = wz at *
          obtain ⟨z1, z2, z3, z4⟩ := HSZ.out.cells
          refine bodyPost_ret (v := .agg #[.int .i64 a, .int .i64 b, .int .i64 c, .int .i64 d]) (by simp [results, Try.results55, go_sem, z1, z2, z3, z4]) rfl ⟨a, b, c, d, rfl, GOOD.out, HBZ.out⟩
theorem findStep_n {A B : Option Addr} {ca cb n m : Nat} {xs ys : List Nat} {w : World} (h : Rd w A ca xs) (h' : Rd w B cb ys) (hn : xs.length = n) (hm : ys.length = m) (hl : n ≤ 70368744177663) (hX : 18446744073709551616 ≤ val xs) (hle : val ys ≤ val xs) :
    Calls Try.prog 55 #[.slice A n ca, .slice B m cb] w fun e w' => ∃ a b c d : Int, e = .returned (.agg #[.int .i64 a, .int .i64 b, .int .i64 c, .int .i64 d]) ∧ StepGood (val xs) (val ys) a b c d ∧ Below w.heap.size w w' := by
  subst hn hm; exact findStep_any A B ca cb xs ys w h h' hl hX hle
end Go.Proofs.Ytmmlfmjelhninaa
