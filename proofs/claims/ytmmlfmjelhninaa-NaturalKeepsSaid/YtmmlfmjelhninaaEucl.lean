/-
  Contract of natural.euclid: one step of Euclid's algorithm in two rows.
-/
import Derived.Test.YtmmlfmjelhninaaLapp
import Derived.Test.YtmmlfmjelhninaaDmany
import Derived.Lib.SliceRun
namespace Go.Proofs.Ytmmlfmjelhninaa
open Go.RowKit
set_option linter.unusedVariables false

theorem row_zeros (g : Nat) : ∀ (n o : Nat) (w : World) (zs : List Nat), Row w g zs → okl zs →
    ∃ us, Row (w.setCells g o (List.replicate n (.int .u32 0))) g us ∧ us.length = zs.length ∧ okl us ∧ (∀ j, o ≤ j → j < o + n → lim us j = 0) ∧ (∀ j, j < o ∨ o + n ≤ j → lim us j = lim zs j) ∧
      w.grownBy (w.setCells g o (List.replicate n (.int .u32 0))) (some g) := by
  intro n
  induction n with
  | zero => intro o w zs h hz; exact ⟨zs, h, rfl, hz, fun j h1 h2 => by omega, fun j _ => rfl, World.grownBy.refl _ _⟩
  | succ n ih =>
    intro o w zs h hz
    obtain ⟨us, h1, h2, h3, h4, h5, h6⟩ := ih (o + 1) _ _ (h.set_ o 0) (okl_set hz (by omega) o)
    have e : w.setCells g o (List.replicate (n + 1) (.int .u32 0)) = (w.setCell ⟨g, o, none⟩ (.int .u32 ((0 : Nat) : Int))).setCells g (o + 1) (List.replicate n (.int .u32 0)) := rfl
    rw [e]
    refine ⟨us, h1, by rw [h2, List.length_set], h3, fun j hj hj2 => ?_, fun j hj => ?_, grown_trans (grown_set _ _ _ _) h6⟩
    · rcases Nat.eq_or_lt_of_le hj with rfl | hlt
      · rw [h5 o (.inl (by omega))]
        rcases Nat.lt_or_ge o zs.length with h0 | h0
        · exact lim_set_same h0
        · exact lim_out (by rw [List.length_set]; exact h0)
      · exact h4 j hlt (by omega)
    · rw [h5 j (by omega), lim_set_other (by omega)]

theorem Try.zero42 (w : World) : (zeroValue 42).run Try.prog w = .ok (.int .u32 0) w := by
  simp [zeroValue, Try.t42]

/-- 'clear' of the first n places of a row. -/
theorem clear_row {w : World} {ops : Array Oper} {rest : List Oper} {o : Oper} {a : Act} {Q : Exit → Act → World → Prop} (hgd : o.guard = none) (s : Operand)
    (ho : o.op = .call { callee := .builtin .clear, args := #[s], argTypes := #[22] }) (g n c : Nat) (hs : a.eval s = .slice (some ⟨g, 0, none⟩) n c)
    (zs : List Nat) (hrow : Row w g zs) (hz : okl zs) (hn : 0 < n) (hfit : n ≤ zs.length)
    (hK : ∀ w' us, Row w' g us → us.length = zs.length → okl us → (∀ j, j < n → lim us j = 0) → (∀ j, n ≤ j → lim us j = lim zs j) → w.grownBy w' (some g) → wpList Try.prog ops Q rest (a.put o.dst (.tuple #[])) w') : wpList Try.prog ops Q (o :: rest) a w := by
  have hrun := Lib.run_clear_slice (P := Try.prog) w 22 42 o.type (.int .u32 0) Try.underlying22 Try.zero42 rfl rfl g 0 n c hn
    (fun j hj => by rw [Nat.zero_add, hrow.cell (by omega)]; rfl) (fun j hj => by rw [Nat.zero_add]; exact hrow.frozen j)
  obtain ⟨us, h1, h2, h3, h4, h5, h6⟩ := row_zeros g n 0 w zs hrow hz
  refine wpList_plain hgd fun K hKK => ?_
  unfold Oper.wp
  simp [execOp, ho, resolve, invoke, builtin, hs, hrun, Result.andThen]
  exact hKK _ _ (hK _ us h1 h2 h3 (fun j hj => h4 j (by omega) (by omega)) (fun j hj => h5 j (by omega)) h6)

/-- What euclid leaves: the rows have changed places. -/
def EuPost (w : World) (p q n cx cy lo : Nat) (zs ws : List Nat) (e : Ending) (w' : World) : Prop :=
  e = .returned (.tuple #[.slice (some ⟨q, 0, none⟩) n cy, .slice (some ⟨p, 0, none⟩) n cx]) ∧ ∃ us, Row w' p us ∧ Row w' q ws ∧ us.length = zs.length ∧ okl us ∧ val (us.take n) = val (zs.take n) % val (ws.take n) ∧ Below lo w w'

theorem rd_part {w : World} {g n c : Nat} {zs : List Nat} (h : Row w g zs) (hz : okl zs) (hn : n ≤ zs.length) (hc : n ≤ c) (hc2 : c ≤ 9223372036854775807) : Rd w (some ⟨g, 0, none⟩) c (zs.take n) :=
  (Own.part (lo := 0) h (okl_take hz n) (Nat.zero_le _) (by rw [List.length_take]; omega) hc2 (fun i hi => by
    rw [List.length_take] at hi
    rw [Nat.zero_add]
    exact ⟨by omega, (lim_take (by omega)).symm⟩)).rd

theorem Own.far {w : World} {lo cap p : Nat} {A : Option Addr} {xs : List Nat} (h : Own w lo A cap xs) (hp : p < lo) : ∀ b o, 0 < cap → A = some ⟨b, o, none⟩ → some b ≠ some p := by
  intro b o h0 hA e
  rcases h.2.2.2 with h3 | ⟨b', o', cur, hA', hl, _⟩
  · omega
  · rw [hA] at hA'
    simp at hA' e
    omega
theorem val_of_zeros {us : List Nat} {k : Nat} (h : ∀ j, k ≤ j → j < us.length → lim us j = 0) : val us = val (us.take k) := (val_take_of_zeros h).symm

set_option maxHeartbeats 4000000 in
theorem euclid_any (w : World) (p q n cx cy lo : Nat) (zs ws : List Nat) (h1 : Row w p zs) (h2 : Row w q ws) (hz : okl zs) (hw : okl ws) (hpq : p ≠ q) (hn1 : n ≤ zs.length) (hn2 : n ≤ ws.length) (hn : n ≤ 70368744177663) (hcx : n ≤ cx) (hcx2 : cx ≤ 9223372036854775807) (hcy : n ≤ cy) (hcy2 : cy ≤ 9223372036854775807) (hlp : lo ≤ p) (hlq : lo ≤ q)
    (hv : 0 < val (ws.take n)) (hn0 : 0 < n) (hle : val (ws.take n) ≤ val (zs.take n)) :
    Calls Try.prog 56 #[.slice (some ⟨p, 0, none⟩) n cx, .slice (some ⟨q, 0, none⟩) n cy] w (EuPost w p q n cx cy lo zs ws) := by
  have X := Lib.hid (rd_part h1 hz hn1 hcx hcx2)
  have Y := Lib.hid (rd_part h2 hw hn2 hcy hcy2)
  have hpl := h1.lt
  have hql := h2.lt
  have HR1 := Lib.hid h1
  have HR2 := Lib.hid h2
  have HZ := Lib.hid hz
  have HV := Lib.hid hv
  have LM : (ofv (val (zs.take n) % val (ws.take n))).length ≤ n := by
    apply len_ofv_le_of_lt
    have := val_lt (okl_take hw n)
    rw [List.length_take, Nat.min_eq_left hn2] at this
    exact Nat.lt_trans (Nat.mod_lt _ hv) this
  have LX : (zs.take n).length = n := by rw [List.length_take]; omega
  have LY : (ws.take n).length = n := by rw [List.length_take]; omega
  clear h1 h2 hz hw hv hle
  go_enter Try.func56, Try.ntmps56
  go_wp2_with fail
  refine (dm_n X.out Y.out LX LY hn HV.out).mono ?_
  rintro e w1 ⟨D, cD, M, cM, rfl, ho, ho2, hb⟩
  have B1 := Lib.hid hb
  have P1 := Lib.hid (HR1.out.below hb hpl)
  have Q1 := Lib.hid (HR2.out.below hb hql)
  have M1 := Lib.hid ho2.rd
  have ML := Lib.hid (ho2)
  clear ho ho2 hb X Y
  go_wp2_with (with_reducible refine clear_row rfl (.tmp 16) rfl p n cx rfl zs P1.out HZ.out hn0 hn1 ?_)
  intro w2 us hus hul huo hu0 hu1 hgr
  have M2 := Lib.hid (M1.out.grown hgr (ML.out.far hpl))
  have Q2 := Lib.hid (Q1.out.grown hgr (by simpa using hpq.symm))
  have B2 : Hid (Below lo w w2) := (B1.out.mono (by omega)).trans (below_of_grown hgr hlp (by have := B1.out.size; omega))
  have HU := Lib.hid hus
  have HUO := Lib.hid huo
  have HU0 := Lib.hid hu0
  clear hgr hus hu1 huo hu0 M1 ML P1 Q1 B1
  generalize hr : val (zs.take n) % val (ws.take n) = r at *
  have HRR := Lib.hid hr
  clear hr
  go_wp2_with (with_reducible refine copy_row rfl (.tmp 17) (.tmp 18) rfl p 0 n cx rfl us HU.out (by omega) _ (ofv r).length _ (ofv r) rfl M2.out rfl LM ?_)
  intro w3 hr3 hgr3
  have FIN : Hid (EuPost w p q n cx cy lo zs ws (.returned (.tuple #[.slice (some ⟨q, 0, none⟩) n cy, .slice (some ⟨p, 0, none⟩) n cx])) w3) := by
    have hl := hul
    refine ⟨rfl, _, hr3, Q2.out.grown hgr3 (by simpa using hpq.symm), ?_, ?_, ?_, B2.out.trans (below_of_grown hgr3 hlp (by have := HU.out.lt; omega))⟩
    · simp; omega
    · exact okl_append (okl_ofv _) (okl_drop HUO.out _)
    · rw [HRR.out]
      have z : ∀ i, (ofv r).length ≤ i → i < ((ofv r ++ us.drop (ofv r).length).take n).length → lim ((ofv r ++ us.drop (ofv r).length).take n) i = 0 := by
        intro i hi hi2
        rw [List.length_take] at hi2
        rw [lim_take (by omega), lim_append_right hi, lim_drop, show (ofv r).length + (i - (ofv r).length) = i from by omega]
        exact HU0.out i (by omega)
      show val ((ofv r ++ us.drop (ofv r).length).take n) = r
      rw [← val_take_of_zeros z, List.take_take, Nat.min_eq_left LM, List.take_left', val_ofv]
      rfl
  clear hr3 hgr3
  go_wp2
  go_ret2
  exact FIN.out
end Go.Proofs.Ytmmlfmjelhninaa
