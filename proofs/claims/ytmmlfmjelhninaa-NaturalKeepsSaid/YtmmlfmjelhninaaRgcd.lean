/-
  Contract of the reference's GCD.
-/
import Derived.Test.YtmmlfmjelhninaaRdmt
namespace Go.Proofs.Ytmmlfmjelhninaa
open Go.RowKit
set_option linter.unusedVariables false

/-- The number that a slice of limbs reads as. -/
def limbsOf (w : World) : Value → List Nat
  | .slice (some ⟨b, o, none⟩) n _ => (List.range n).map fun i => match w.cell? ⟨b, o + i, none⟩ with
    | some (.int .u32 x) => x.toNat
    | _ => 0
  | _ => []
def rdv (w : World) (v : Value) : Nat := val (limbsOf w v)
theorem limbsOf_rd {w : World} {A : Option Addr} {c n : Nat} {xs : List Nat} (h : Rd w A c xs) (hn : xs.length = n) : limbsOf w (.slice A n c) = xs := by
  subst hn
  rcases Nat.eq_zero_or_pos xs.length with h0 | h0
  · obtain rfl := List.eq_nil_of_length_eq_zero h0
    unfold limbsOf
    split <;> simp_all
  · obtain ⟨b, o, rfl, _, hc⟩ := h.at_ h0
    unfold limbsOf
    simp only
    apply List.ext_getElem
    · simp
    · intro i h1 h2
      simp only [List.getElem_map, List.getElem_range, hc i h2]
      unfold lim
      rw [List.getD_eq_getElem?_getD, List.getElem?_eq_getElem h2]
      simp
theorem rdv_rd {w : World} {A : Option Addr} {c n : Nat} {xs : List Nat} (h : Rd w A c xs) (hn : xs.length = n) : rdv w (.slice A n c) = val xs := by
  unfold rdv; rw [limbsOf_rd h hn]

set_option maxHeartbeats 4000000 in
theorem rgcd_any (A B : Option Addr) (ca cb : Nat) (xs ys : List Nat) (w : World) (h : Rd w A ca xs) (h' : Rd w B cb ys) (hn : xs.length ≤ 70368744177000) (hn' : ys.length ≤ 70368744177000) :
    Calls Try.prog 39 #[.slice A xs.length ca, .slice B ys.length cb] w (Gives w (Nat.gcd (val xs) (val ys))) := by
  have S1 := Lib.hid (rtrim_any A ca xs w h (by omega))
  have Y := Lib.hid h'
  have l1 := len_ofv_le h.ok
  have l2 := len_ofv_le h'.ok
  clear h
  have hcy := h'.capLe
  have hly := h'.len
  clear h'
  go_enter Try.func39, Try.ntmps39
  go_wp2_with fail
  refine S1.out.mono ?_
  rintro e w1 ⟨R1, c1, rfl, ho1, hb1⟩
  have B1 := Lib.hid hb1
  have X1 := Lib.hid ho1
  have Y1 := Lib.hid (Y.out.below hb1)
  clear ho1 hb1
  go_wp2_with fail
  refine (rtrim_n Y1.out rfl (by omega)).mono ?_
  rintro e w2 ⟨R2, c2, rfl, ho2, hb2⟩
  have B2 : Hid (Below w.heap.size w w2) := B1.out.trans (hb2.mono B1.out.size)
  have X2 := Lib.hid (X1.out.below hb2)
  have Y2 := Lib.hid (ho2.mono B1.out.size)
  clear ho2 hb2 X1 Y1 B1
  go_wp2
  go_loopw [0, 1] (fun a b wr => ∃ (x y : Nat) (P : Option Addr) (cp : Nat) (Q : Option Addr) (cq : Nat), a = .slice P (ofv x).length cp ∧ b = .slice Q (ofv y).length cq ∧ (ofv x).length ≤ 70368744177000 ∧ (ofv y).length ≤ 70368744177000 ∧ Hid (Nat.gcd x y = Nat.gcd (val xs) (val ys)) ∧ Hid (Own wr w.heap.size P cp (ofv x)) ∧ Hid (Own wr w.heap.size Q cq (ofv y)) ∧ Hid (Below w.heap.size w wr)) (fun _ b wr => rdv wr b)
  case atStart => exact ⟨_, _, _, _, _, _, rfl, rfl, by omega, by omega, rfl, X2.out, Y2.out, B2.out⟩
  case round =>
    obtain ⟨x, y, P, cp, Q, cq, rfl, rfl, hx, hy, hg, hP, hQ, hB⟩ := hrel
    have k1 := hP.out.rd.len
    have k2 := hP.out.rd.capLe
    have k3 := hQ.out.rd.len
    have k4 := hQ.out.rd.capLe
    rcases Nat.eq_zero_or_pos y with h0 | h0
    · subst h0
      have e0 : (ofv 0).length = 0 := by rw [ofv_zero]; rfl
      have hg' := hg.out
      rw [Nat.gcd_zero_right] at hg'
      subst hg'
      rw [e0] at *
      have FIN : Hid (Gives w (Nat.gcd (val xs) (val ys)) (.returned (.slice P (ofv (Nat.gcd (val xs) (val ys))).length cp)) wr) := ⟨P, cp, rfl, hP.out, hB.out⟩
      go_wp2
      go_ret
      exact FIN.out
    · have hp := len_pos h0
      have ylt := Nat.mod_lt x h0
      have LM := len_ofv_le_of_lt (Nat.lt_trans ylt (lt_pw_len y))
      have M1 := Lib.hid (rdv_rd hQ.out.rd rfl)
      have HG : Hid (Nat.gcd y (x % y) = Nat.gcd (val xs) (val ys)) := by
        show _ = _
        rw [← hg.out, Nat.gcd_comm y, ← Nat.gcd_rec, Nat.gcd_comm]
      have HY := Lib.hid h0
      have YLT := Lib.hid ylt
      clear ylt h0
      go_wp2_with fail
      refine (rdm_n hP.out.rd hQ.out.rd rfl rfl (by omega) (by omega) (by rw [val_ofv]; exact HY.out)).mono ?_
      rw [val_ofv, val_ofv]
      rintro e w3 ⟨D, cd, M, cm, rfl, ho, ho2, hb⟩
      have HB3 : Hid (Below w.heap.size w w3) := hB.out.trans (hb.mono hB.out.size)
      have HQ3 := Lib.hid (hQ.out.below hb)
      have HM3 := Lib.hid (ho2.mono hB.out.size)
      have M2 := Lib.hid (rdv_rd ho2.rd rfl)
      clear ho ho2 hb
      go_wp2
      go_roundw
      case rel => exact ⟨y, x % y, _, _, _, _, rfl, rfl, by omega, by omega, HG, HQ3, HM3, HB3⟩
      case measure =>
        have m1 := M1.out
        have m2 := M2.out
        rw [val_ofv] at m1 m2
        have := YLT.out
        rw [m2, m1]
        exact this
theorem rgcd_n {A B : Option Addr} {ca cb n m : Nat} {xs ys : List Nat} {w : World} (h : Rd w A ca xs) (h' : Rd w B cb ys) (hn : xs.length = n) (hm : ys.length = m) (hl : n ≤ 70368744177000) (hl' : m ≤ 70368744177000) :
    Calls Try.prog 39 #[.slice A n ca, .slice B m cb] w (Gives w (Nat.gcd (val xs) (val ys))) := by
  subst hn hm; exact rgcd_any A B ca cb xs ys w h h' hl hl'
end Go.Proofs.Ytmmlfmjelhninaa
