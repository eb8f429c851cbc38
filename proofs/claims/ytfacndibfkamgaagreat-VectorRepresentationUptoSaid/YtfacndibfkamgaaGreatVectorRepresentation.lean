/-
  The law VectorRepresentation, walked: results depend on the vectors only, not on their entries.
-/
import Derived.Test.YtfacndibfkamgaaGreatVectorSpace
import Derived.Test.YtfacndibfkamgaaGreatKF
namespace Go.Proofs.YtfacndibfkamgaaGreat
open Go.RowKit
set_option linter.unusedVariables false

/-- The loop that turns the list: j entries are left. -/
def Trl (rs : List (Int × Nt)) (wn : World) (v8 v9 : Value) (wr : World) : Prop := ∃ (j : Nat) (i : Int), v9 = .int .i64 i ∧ i + 1 = (j : Int) ∧ j ≤ rs.length ∧ Lg encE 4 58 wr wn.heap.size v8 (rs.drop j).reverse ∧ Below wn.heap.size wn wr
theorem drop_rev {α : Type} {rs : List α} {k : Nat} {x : α} (h : rs[k]? = some x) : (rs.drop k).reverse = (rs.drop (k + 1)).reverse ++ [x] := by
  obtain ⟨hk, hx⟩ := List.getElem?_eq_some_iff.1 h
  rw [List.drop_eq_getElem_cons hk, List.reverse_cons, hx]
theorem cpt_reverse (rs : List (Int × Nt)) (i : Int) : cpt (ev rs.reverse) i = cpt (ev rs) i := cpt_perm ((List.reverse_perm rs).map _) i
set_option maxRecDepth 100000 in
set_option maxHeartbeats 16000000 in
theorem vectorRepresentation_walk (w : World) {A0 A1 A2 D : Option Addr} {c0 c1 c2 n m k p : Nat} {s : Bool} {z : Int} {a0 a1 : List (Int × Nt)} (h0 : Inl w A0 c0 a0) (h1 : Inl w A1 c1 a1) (zq : Zin w s A2 n c2 z) (hn : n ≤ 1048576) (nq : Nin w D m k p) (hm : m ≤ 1048576) : Calls Tryz.prog 7 #[.slice A0 a0.length c0, .slice A1 a1.length c1, .agg #[.bool s, .slice A2 n c2, .slice D m k]] w fun e w' => e = .returned (.bool true) ∧ Below w.heap.size w w' := by
  have B1 : Hid (Below w.heap.size w (w.alloc (.cells #[.bool s, .slice A2 n c2, .slice D m k] 29))) := (Below.refl _ _).alloc (Nat.le_refl _) _
  have F0 : Hid (Rb (w.alloc (.cells #[.bool s, .slice A2 n c2, .slice D m k] 29)) w.heap.size s A2 n c2 D m k) := Rb.new w s A2 n c2 D m k
  have NF : Hid (Nok w (⟨s, A2, n, c2, D, m, k, z, p⟩ : Nt) 1048576) := ⟨zq, nq, hn, hm⟩
  have H0 := Lib.hid h0
  have H1 := Lib.hid h1
  have HH0 := Lib.hid (h0.below B1.out)
  have HH1 := Lib.hid (h1.below B1.out)
  clear h0 h1 zq hn nq hm H0 H1
  go_enter Tryz.func7, Tryz.ntmps7
  have pc0 := Lib.hid trivial
  go_wp2_with (first
    | (clear pc0; generalize w.alloc (.cells #[.bool s, .slice A2 n c2, .slice D m k] 29) = wa at *; go_at_call 10; refine Calls.mono (short_any HH0.out.1 HH0.out.2) ?_; rintro e ws0 ⟨AX, cX, rX, rfl, h1, h2, h3, hb⟩; replace HH0 := Lib.hid (HH0.out.below hb); replace HH1 := Lib.hid (HH1.out.below hb); replace F0 := Lib.hid (F0.out.below hb F0.out.lt); replace B1 := Lib.hid (B1.out.trans (hb.mono B1.out.size)); have X : Hid (Isl ws0 AX cX rX 1048576) := ⟨h1, h2, h3⟩; clear h1 h2 h3; clear hb; have pc1 := Lib.hid trivial)
    | (clear pc1; go_at_call 10; refine Calls.mono (short_any HH1.out.1 HH1.out.2) ?_; rintro e ws1 ⟨AY, cY, rY, rfl, h1, h2, h3, hb⟩; replace HH0 := Lib.hid (HH0.out.below hb); replace HH1 := Lib.hid (HH1.out.below hb); replace F0 := Lib.hid (F0.out.below hb F0.out.lt); replace X := Lib.hid (X.out.below hb); replace B1 := Lib.hid (B1.out.trans (hb.mono B1.out.size)); have Y : Hid (Isl ws1 AY cY rY 1048576) := ⟨h1, h2, h3⟩; clear h1 h2 h3; clear hb; have pc2 := Lib.hid trivial)
    | (clear pc2; go_at_call 31; refine Calls.mono (vnorm_any (L := 1048576) (S := 41943120) X.out.1 X.out.2.2 (by decide) (by decide) (by have := X.out.2.1; omega) (by decide) (by have := X.out.2.1; omega)) ?_; rintro e wn ⟨gx, rN, rfl, h1, h2, h3, h4, h5, h6, hb⟩; replace HH0 := Lib.hid (HH0.out.below hb); replace HH1 := Lib.hid (HH1.out.below hb); replace F0 := Lib.hid (F0.out.below hb F0.out.lt); replace X := Lib.hid (X.out.below hb); replace Y := Lib.hid (Y.out.below hb); replace B1 := Lib.hid (B1.out.trans (hb.mono B1.out.size)); have LNN : Hid (rN.length ≤ 40) := Nat.le_trans h6 X.out.2.1; have N : Hid (Rsl wn (some ⟨gx, 0, none⟩) rN.length rN 41943120) := ⟨h1.sl (by have := LNN.out; omega), fun r hr => ⟨(h5 r hr).1.can, (h5 r hr).2⟩⟩; have CN := Lib.hid h4; clear h1 h2 h3 h4 h5 h6; clear hb; have pc3 := Lib.hid trivial))
  clear pc3
  obtain ⟨n1, hn1⟩ : ∃ q, rX.length = q := ⟨_, rfl⟩
  have HN := Lib.hid hn1
  have LN : Hid (n1 ≤ 40) := by show _ ≤ _; rw [← hn1]; exact X.out.2.1
  rw [hn1]
  clear hn1
  have lq : (n1 : Int) ≤ 40 := by have := LN.out; omega
  have wq : IntKind.i64.wrap ((n1 : Int) - 1) = (n1 : Int) - 1 := IntWalk.i64_in _ (by omega)
  have pc0 := Lib.hid trivial
  go_wp2_with fail
  clear pc0
  go_loopw [8, 9] (fun v8 v9 wr => Hid (Trl rX wn v8 v9 wr)) (fun _ v9 _ => (intOf v9 + 1).toNat)
  case atStart => exact Lib.hid ⟨n1, (n1 : Int) - 1, congrArg (Value.int .i64) (by unfold wrap64; omega), by omega, by have := HN.out; omega, by rw [List.drop_eq_nil_of_le (by have := HN.out; omega)]; exact Lg.nil _ _, Below.refl _ _⟩
  case round =>
    obtain ⟨j, i, rfl, hij, hjn, hlg, hbb⟩ := hrel.out
    have LG := Lib.hid hlg
    have BN := Lib.hid hbb
    have HJ := Lib.hid hjn
    clear hlg hbb hjn hrel
    rcases j with _ | k1
    · have hi : i = -1 := by omega
      subst hi
      clear hij
      have hb := BN.out
      have LG2 : Hid (Lg encE 4 58 wr wn.heap.size u8 rX.reverse) := LG.out
      have NT : Hid (∀ r ∈ rX.reverse, Nok wr r.2 1048576) := fun r hr => (X.out.2.2 r (List.mem_reverse.1 hr)).below hb
      have CT : Hid (∀ i, cpt (ev rX.reverse) i = cpt (ev rX) i) := cpt_reverse rX
      have LT : Hid (rX.reverse.length ≤ 40) := by show _ ≤ _; rw [List.length_reverse]; exact X.out.2.1
      clear LG HJ
      replace F0 := Lib.hid (F0.out.below hb F0.out.lt)
      replace N := Lib.hid (N.out.below hb)
      replace Y := Lib.hid (Y.out.below hb)
      replace B1 := Lib.hid (B1.out.trans (hb.mono B1.out.size))
      clear hb BN X HH0 HH1
      obtain ⟨rT, hT⟩ : ∃ q, rX.reverse = q := ⟨_, rfl⟩
      rw [hT] at LG2 NT CT LT
      clear hT
      go_wp2_with fail
      obtain ⟨A3, c3, rfl, hs3⟩ := LG2.out.sl encE_len
      have T : Hid (Isl wr A3 c3 rT 1048576) := ⟨hs3, LT.out, NT.out⟩
      clear hs3 LG2 LT NT
      have hb : Below wr.heap.size wr wr.drew := below_drewN _ wr 1
      replace F0 := Lib.hid (F0.out.below hb F0.out.lt)
      replace N := Lib.hid (N.out.below hb)
      replace Y := Lib.hid (Y.out.below hb)
      replace T := Lib.hid (T.out.below hb)
      replace B1 := Lib.hid (B1.out.trans (hb.mono B1.out.size))
      clear hb
      refine wp_region_held_drew (S := fun w' => Rb w' w.heap.size s A2 n c2 D m k) (by kernel_rfl) (F0.out) (fun hHeld => ?_)
      generalize wr.drew = wrd at *
      refine wpAnyH_ready (rs := [0]) (by kernel_rfl) (by simp) ?_
      refine AllReadyH.consL (o := _) rfl (fun K hK => ?_) AllReadyH.nil
      clear hHeld
      go_simp
      go_at_call 15
      refine Calls.mono (awake6_any _) ?_
      rintro e w30 ⟨rfl, hb⟩
      replace F0 := Lib.hid (F0.out.below hb F0.out.lt)
      replace N := Lib.hid (N.out.below hb)
      replace Y := Lib.hid (Y.out.below hb)
      replace T := Lib.hid (T.out.below hb)
      replace B1 := Lib.hid (B1.out.trans (hb.mono B1.out.size))
      clear hb
      refine hK.out _ _ (F0.out) (fun hHeld => ?_)
      clear hK K
      try simp only [Act.put, List.setIfInBounds_toArray, List.set_cons_zero, List.set_cons_succ]
      refine wpAnyH_takeL (i := 1) (oi := _) (v := ?_) rfl (by kernel_rfl) (by kernel_rfl) (by kernel_rfl) (fun _ _ _ h => h) (Or.inl ⟨by rfl, ?_⟩) hHeld ?_
      rotate_left
      · (intro w' hSw; (try dsimp only at hSw); go_simp; try (with_reducible rfl))
      try simp only [Act.put, List.setIfInBounds_toArray, List.set_cons_zero, List.set_cons_succ]
      refine wpAnyH_takeL (i := 2) (oi := _) (v := ?_) rfl (by kernel_rfl) (by kernel_rfl) (by kernel_rfl) (fun _ _ _ h => h) (Or.inl ⟨by rfl, ?_⟩) hHeld ?_
      rotate_left
      · (intro w' hSw; (try dsimp only at hSw); go_simp; try (with_reducible rfl))
      try simp only [Act.put, List.setIfInBounds_toArray, List.set_cons_zero, List.set_cons_succ]
      refine wpAnyH_takeL (i := 3) (oi := _) rfl (by kernel_rfl) (by kernel_rfl) (by kernel_rfl) (fun _ _ _ h => h) (yields_ldR (by rfl) _ rfl (by rfl) (fun _ hS => hS)) hHeld ?_
      try simp only [Act.put, List.setIfInBounds_toArray, List.set_cons_zero, List.set_cons_succ]
      refine wpAnyH_takeL (i := 4) (oi := _) (v := ?_) rfl (by kernel_rfl) (by kernel_rfl) (by kernel_rfl) (fun _ _ _ h => h) (Or.inl ⟨by rfl, ?_⟩) hHeld ?_
      rotate_left
      · (intro w' hSw; (try dsimp only at hSw); go_simp; try (with_reducible rfl))
      try simp only [Act.put, List.setIfInBounds_toArray, List.set_cons_zero, List.set_cons_succ]
      refine wpAnyH_takeL (i := 6) (oi := _) (v := ?_) rfl (by kernel_rfl) (by kernel_rfl) (by kernel_rfl) (fun _ _ _ h => h) (Or.inl ⟨by rfl, ?_⟩) hHeld ?_
      rotate_left
      · (intro w' hSw; (try dsimp only at hSw); go_simp; try (with_reducible rfl))
      try simp only [Act.put, List.setIfInBounds_toArray, List.set_cons_zero, List.set_cons_succ]
      refine wpAnyH_takeL (i := 7) (oi := _) rfl (by kernel_rfl) (by kernel_rfl) (by kernel_rfl) (fun _ _ _ h => h) (yields_ldR (by rfl) _ rfl (by rfl) (fun _ hS => hS)) hHeld ?_
      try simp only [Act.put, List.setIfInBounds_toArray, List.set_cons_zero, List.set_cons_succ]
      refine wpAnyH_takeL (i := 8) (oi := _) (v := ?_) rfl (by kernel_rfl) (by kernel_rfl) (by kernel_rfl) (fun _ _ _ h => h) (Or.inl ⟨by rfl, ?_⟩) hHeld ?_
      rotate_left
      · (intro w' hSw; (try dsimp only at hSw); go_simp; try (with_reducible rfl))
      try simp only [Act.put, List.setIfInBounds_toArray, List.set_cons_zero, List.set_cons_succ]
      refine wpAnyH_ready (rs := [5]) (by kernel_rfl) (by simp) ?_
      refine AllReadyH.consL (o := _) rfl (fun K hK => ?_) AllReadyH.nil
      clear hHeld
      go_simp
      go_at_call 29
      refine Calls.mono (vscaled_any (L := 41943120) (S := 1677724880) (f := (⟨s, A2, n, c2, D, m, k, z, p⟩ : Nt)) N.out.1 (fun r hr => N.out.nok r hr) Y.out.1 (fun r hr => (Y.out.2.2 r hr).le (by decide)) (by decide) (by decide) (by have := LNN.out; omega) (by have := Y.out.2.1; omega) (by decide) (by have := LNN.out; omega) (by have := Y.out.2.1; omega) ((NF.out.below B1.out).le (by decide))) ?_
      rintro e w31 ⟨AU, cU, rU, rfl, h1, h2, h3, h4, h5, hb⟩
      replace F0 := Lib.hid (F0.out.below hb F0.out.lt)
      replace N := Lib.hid (N.out.below hb)
      replace Y := Lib.hid (Y.out.below hb)
      replace T := Lib.hid (T.out.below hb)
      replace B1 := Lib.hid (B1.out.trans (hb.mono B1.out.size))
      have U : Hid (Rsl w31 AU cU rU 5033174641) := ⟨h1, h4⟩
      have PU := Lib.hid h2
      have QU := Lib.hid h3
      have LU := Lib.hid h5
      clear h1 h2 h3 h4 h5
      clear hb
      refine hK.out _ _ (F0.out) (fun hHeld => ?_)
      clear hK K
      try simp only [Act.put, List.setIfInBounds_toArray, List.set_cons_zero, List.set_cons_succ]
      refine wpAnyH_ready (rs := [9]) (by kernel_rfl) (by simp) ?_
      refine AllReadyH.consL (o := _) rfl (fun K hK => ?_) AllReadyH.nil
      clear hHeld
      go_simp
      go_at_call 29
      refine Calls.mono (vscaled_any (L := 41943120) (S := 1677724880) (f := (⟨s, A2, n, c2, D, m, k, z, p⟩ : Nt)) T.out.1 (fun r hr => (T.out.2.2 r hr).le (by decide)) Y.out.1 (fun r hr => (Y.out.2.2 r hr).le (by decide)) (by decide) (by decide) (by have := T.out.2.1; omega) (by have := Y.out.2.1; omega) (by decide) (by have := T.out.2.1; omega) (by have := Y.out.2.1; omega) ((NF.out.below B1.out).le (by decide))) ?_
      rintro e w32 ⟨AZ, cZ, rZ, rfl, h1, h2, h3, h4, h5, hb⟩
      replace F0 := Lib.hid (F0.out.below hb F0.out.lt)
      replace N := Lib.hid (N.out.below hb)
      replace Y := Lib.hid (Y.out.below hb)
      replace T := Lib.hid (T.out.below hb)
      replace U := Lib.hid (U.out.below hb)
      replace B1 := Lib.hid (B1.out.trans (hb.mono B1.out.size))
      have Z : Hid (Rsl w32 AZ cZ rZ 5033174641) := ⟨h1, h4⟩
      have PZ := Lib.hid h2
      have QZ := Lib.hid h3
      have LZ := Lib.hid h5
      clear h1 h2 h3 h4 h5
      clear hb
      refine hK.out _ _ (F0.out) (fun hHeld => ?_)
      clear hK K
      try simp only [Act.put, List.setIfInBounds_toArray, List.set_cons_zero, List.set_cons_succ]
      refine wpAnyH_ready (rs := [10]) (by kernel_rfl) (by simp) ?_
      refine AllReadyH.consL (o := _) rfl (fun K hK => ?_) AllReadyH.nil
      clear hHeld
      go_simp
      go_at_call 16
      refine Calls.mono (identical_yes U.out.1 Z.out.1 (U.out.le (by decide)) (Z.out.le (by decide)) (asc_uniq _ _ PU.out PZ.out (fun i => by rw [QU.out i, QZ.out i, CN.out i, CT.out i])) (by have := LU.out; have := LNN.out; have := Y.out.2.1; omega)) ?_
      rintro e w33 ⟨rfl, hb⟩
      replace F0 := Lib.hid (F0.out.below hb F0.out.lt)
      replace N := Lib.hid (N.out.below hb)
      replace Y := Lib.hid (Y.out.below hb)
      replace T := Lib.hid (T.out.below hb)
      replace U := Lib.hid (U.out.below hb)
      replace Z := Lib.hid (Z.out.below hb)
      replace B1 := Lib.hid (B1.out.trans (hb.mono B1.out.size))
      clear hb
      refine hK.out _ _ (F0.out) (fun hHeld => ?_)
      clear hK K
      try simp only [Act.put, List.setIfInBounds_toArray, List.set_cons_zero, List.set_cons_succ]
      refine wpAnyH_takeL (i := 11) (oi := _) (v := ?_) rfl (by kernel_rfl) (by kernel_rfl) (by kernel_rfl) (fun _ _ _ h => h) (Or.inl ⟨by rfl, ?_⟩) hHeld ?_
      rotate_left
      · (intro w' hSw; (try dsimp only at hSw); go_simp; try (with_reducible rfl))
      try simp only [Act.put, List.setIfInBounds_toArray, List.set_cons_zero, List.set_cons_succ]
      refine wpAnyH_takeL (i := 12) (oi := _) (v := ?_) rfl (by kernel_rfl) (by kernel_rfl) (by kernel_rfl) (fun _ _ _ h => h) (Or.inl ⟨by rfl, ?_⟩) hHeld ?_
      rotate_left
      · (intro w' hSw; (try dsimp only at hSw); go_simp; try (with_reducible rfl))
      try simp only [Act.put, List.setIfInBounds_toArray, List.set_cons_zero, List.set_cons_succ]
      refine wpAnyH_takeL (i := 13) (oi := _) (v := ?_) rfl (by kernel_rfl) (by kernel_rfl) (by kernel_rfl) (fun _ _ _ h => h) (Or.inl ⟨by rfl, ?_⟩) hHeld ?_
      rotate_left
      · (intro w' hSw; (try dsimp only at hSw); go_simp; try (with_reducible rfl))
      try simp only [Act.put, List.setIfInBounds_toArray, List.set_cons_zero, List.set_cons_succ]
      refine wpAnyH_takeL (i := 14) (oi := _) (v := ?_) rfl (by kernel_rfl) (by kernel_rfl) (by kernel_rfl) (fun _ _ _ h => h) (Or.inl ⟨by rfl, ?_⟩) hHeld ?_
      rotate_left
      · (intro w' hSw; (try dsimp only at hSw); go_simp; try (with_reducible rfl))
      try simp only [Act.put, List.setIfInBounds_toArray, List.set_cons_zero, List.set_cons_succ]
      refine wpAnyH_takeL (i := 16) (oi := _) (v := ?_) rfl (by kernel_rfl) (by kernel_rfl) (by kernel_rfl) (fun _ _ _ h => h) (Or.inl ⟨by rfl, ?_⟩) hHeld ?_
      rotate_left
      · (intro w' hSw; (try dsimp only at hSw); go_simp; try (with_reducible rfl))
      try simp only [Act.put, List.setIfInBounds_toArray, List.set_cons_zero, List.set_cons_succ]
      refine wpAnyH_takeL (i := 17) (oi := _) (v := ?_) rfl (by kernel_rfl) (by kernel_rfl) (by kernel_rfl) (fun _ _ _ h => h) (Or.inl ⟨by rfl, ?_⟩) hHeld ?_
      rotate_left
      · (intro w' hSw; (try dsimp only at hSw); go_simp; try (with_reducible rfl))
      try simp only [Act.put, List.setIfInBounds_toArray, List.set_cons_zero, List.set_cons_succ]
      refine wpAnyH_ready (rs := [15]) (by kernel_rfl) (by simp) ?_
      refine AllReadyH.consL (o := _) rfl (fun K hK => ?_) AllReadyH.nil
      clear hHeld
      go_simp
      go_at_call 27
      refine Calls.mono (dot_all (L := 41943120) (S := 1677724880) N.out.1 (fun r hr => N.out.nok r hr) Y.out.1 (fun r hr => (Y.out.2.2 r hr).le (by decide)) (by decide) (by decide) (by have := LNN.out; omega) (by have := Y.out.2.1; omega) (by decide) (by have := LNN.out; omega) (by have := Y.out.2.1; omega) (by decide)) ?_
      rintro e w34 ⟨⟨s7, A7, n7, c7, D7, m7, k7, x7, p7⟩, rfl, ow, he, hrl, hb⟩
      replace F0 := Lib.hid (F0.out.below hb F0.out.lt)
      replace N := Lib.hid (N.out.below hb)
      replace Y := Lib.hid (Y.out.below hb)
      replace T := Lib.hid (T.out.below hb)
      replace U := Lib.hid (U.out.below hb)
      replace Z := Lib.hid (Z.out.below hb)
      replace B1 := Lib.hid (B1.out.trans (hb.mono B1.out.size))
      have OD7 := Lib.hid ow
      have ED7 := Lib.hid he
      clear ow he hrl
      clear hb
      refine hK.out _ _ (F0.out) (fun hHeld => ?_)
      clear hK K
      try simp only [Act.put, List.setIfInBounds_toArray, List.set_cons_zero, List.set_cons_succ]
      refine wpAnyH_ready (rs := [18]) (by kernel_rfl) (by simp) ?_
      refine AllReadyH.consL (o := _) rfl (fun K hK => ?_) AllReadyH.nil
      clear hHeld
      go_simp
      go_at_call 27
      refine Calls.mono (dot_all (L := 41943120) (S := 1677724880) T.out.1 (fun r hr => (T.out.2.2 r hr).le (by decide)) Y.out.1 (fun r hr => (Y.out.2.2 r hr).le (by decide)) (by decide) (by decide) (by have := T.out.2.1; omega) (by have := Y.out.2.1; omega) (by decide) (by have := T.out.2.1; omega) (by have := Y.out.2.1; omega) (by decide)) ?_
      rintro e w35 ⟨⟨s8, A8, n8, c8, D8, m8, k8, x8, p8⟩, rfl, ow, he, hrl, hb⟩
      replace F0 := Lib.hid (F0.out.below hb F0.out.lt)
      replace N := Lib.hid (N.out.below hb)
      replace Y := Lib.hid (Y.out.below hb)
      replace T := Lib.hid (T.out.below hb)
      replace U := Lib.hid (U.out.below hb)
      replace Z := Lib.hid (Z.out.below hb)
      replace OD7 := Lib.hid (OD7.out.below hb)
      replace B1 := Lib.hid (B1.out.trans (hb.mono B1.out.size))
      have OD8 := Lib.hid ow
      have ED8 := Lib.hid he
      clear ow he hrl
      have EQ : Hid (Nt.q ⟨s7, A7, n7, c7, D7, m7, k7, x7, p7⟩ = Nt.q ⟨s8, A8, n8, c8, D8, m8, k8, x8, p8⟩) := (by obtain ⟨l, a1, b1, e1⟩ := ED7.out; obtain ⟨l2, a2, b2, e2⟩ := ED8.out; exact e1.trans ((tot_eq (fun i => by rw [b1, b2, CN.out i, CT.out i])).trans e2.symm))
      clear ED7 ED8
      clear hb
      refine hK.out _ _ (F0.out) (fun hHeld => ?_)
      clear hK K
      try simp only [Act.put, List.setIfInBounds_toArray, List.set_cons_zero, List.set_cons_succ]
      refine wpAnyH_ready (rs := [19]) (by kernel_rfl) (by simp) ?_
      refine AllReadyH.consL (o := _) rfl (fun K hK => ?_) AllReadyH.nil
      clear hHeld
      go_simp
      go_at_call 26
      refine Calls.mono (equal_can (x := ⟨s7, A7, n7, c7, D7, m7, k7, x7, p7⟩) (y := ⟨s8, A8, n8, c8, D8, m8, k8, x8, p8⟩) OD7.out.can OD8.out.can EQ.out) ?_
      rintro e w36 ⟨rfl, hb⟩
      replace F0 := Lib.hid (F0.out.below hb F0.out.lt)
      replace N := Lib.hid (N.out.below hb)
      replace Y := Lib.hid (Y.out.below hb)
      replace T := Lib.hid (T.out.below hb)
      replace U := Lib.hid (U.out.below hb)
      replace Z := Lib.hid (Z.out.below hb)
      replace OD7 := Lib.hid (OD7.out.below hb)
      replace OD8 := Lib.hid (OD8.out.below hb)
      replace B1 := Lib.hid (B1.out.trans (hb.mono B1.out.size))
      clear hb
      refine hK.out _ _ (F0.out) (fun hHeld => ?_)
      clear hK K
      try simp only [Act.put, List.setIfInBounds_toArray, List.set_cons_zero, List.set_cons_succ]
      refine wpAnyH_takeL (i := 20) (oi := _) (v := ?_) rfl (by kernel_rfl) (by kernel_rfl) (by kernel_rfl) (fun _ _ _ h => h) (Or.inl ⟨by rfl, ?_⟩) hHeld ?_
      rotate_left
      · (intro w' hSw; (try dsimp only at hSw); go_simp; try (with_reducible rfl))
      try simp only [Act.put, List.setIfInBounds_toArray, List.set_cons_zero, List.set_cons_succ]
      refine wpAnyH_takeL (i := 21) (oi := _) (v := ?_) rfl (by kernel_rfl) (by kernel_rfl) (by kernel_rfl) (fun _ _ _ h => h) (Or.inl ⟨by rfl, ?_⟩) hHeld ?_
      rotate_left
      · (intro w' hSw; (try dsimp only at hSw); go_simp; try (with_reducible rfl))
      try simp only [Act.put, List.setIfInBounds_toArray, List.set_cons_zero, List.set_cons_succ]
      refine wpAnyH_takeL (i := 22) (oi := _) (v := ?_) rfl (by kernel_rfl) (by kernel_rfl) (by kernel_rfl) (fun _ _ _ h => h) (Or.inl ⟨by rfl, ?_⟩) hHeld ?_
      rotate_left
      · (intro w' hSw; (try dsimp only at hSw); go_simp; try (with_reducible rfl))
      try simp only [Act.put, List.setIfInBounds_toArray, List.set_cons_zero, List.set_cons_succ]
      refine wpAnyH_takeL (i := 23) (oi := _) (v := ?_) rfl (by kernel_rfl) (by kernel_rfl) (by kernel_rfl) (fun _ _ _ h => h) (Or.inl ⟨by rfl, ?_⟩) hHeld ?_
      rotate_left
      · (intro w' hSw; (try dsimp only at hSw); go_simp; try (with_reducible rfl))
      try simp only [Act.put, List.setIfInBounds_toArray, List.set_cons_zero, List.set_cons_succ]
      refine wpAnyH_ready (rs := [24]) (by kernel_rfl) (by simp) ?_
      refine AllReadyH.consL (o := _) rfl (fun K hK => ?_) AllReadyH.nil
      clear hHeld
      go_simp
      go_at_call 32
      refine Calls.mono (vequal_yes (L := 41943120) (S := 1677724880) N.out.1 (fun r hr => N.out.nok r hr) T.out.1 (fun r hr => (T.out.2.2 r hr).le (by decide)) (by decide) (by decide) (by have := LNN.out; omega) (by have := T.out.2.1; omega) (by decide) (by have := LNN.out; omega) (by have := T.out.2.1; omega) (fun i => (CN.out i).trans (CT.out i).symm)) ?_
      rintro e w37 ⟨rfl, hb⟩
      replace F0 := Lib.hid (F0.out.below hb F0.out.lt)
      replace N := Lib.hid (N.out.below hb)
      replace Y := Lib.hid (Y.out.below hb)
      replace T := Lib.hid (T.out.below hb)
      replace U := Lib.hid (U.out.below hb)
      replace Z := Lib.hid (Z.out.below hb)
      replace OD7 := Lib.hid (OD7.out.below hb)
      replace OD8 := Lib.hid (OD8.out.below hb)
      replace B1 := Lib.hid (B1.out.trans (hb.mono B1.out.size))
      clear hb
      refine hK.out _ _ (F0.out) (fun hHeld => ?_)
      clear hK K
      try simp only [Act.put, List.setIfInBounds_toArray, List.set_cons_zero, List.set_cons_succ]
      refine wpAnyH_takeL (i := 25) (oi := _) (v := ?_) rfl (by kernel_rfl) (by kernel_rfl) (by kernel_rfl) (fun _ _ _ h => h) (Or.inl ⟨by rfl, ?_⟩) hHeld ?_
      rotate_left
      · (intro w' hSw; (try dsimp only at hSw); go_simp; try (with_reducible rfl))
      try simp only [Act.put, List.setIfInBounds_toArray, List.set_cons_zero, List.set_cons_succ]
      refine wpAnyH_takeL (i := 26) (oi := _) (v := ?_) rfl (by kernel_rfl) (by kernel_rfl) (by kernel_rfl) (fun _ _ _ h => h) (Or.inl ⟨by rfl, ?_⟩) hHeld ?_
      rotate_left
      · (intro w' hSw; (try dsimp only at hSw); go_simp; try (with_reducible rfl))
      try simp only [Act.put, List.setIfInBounds_toArray, List.set_cons_zero, List.set_cons_succ]
      refine wpAnyH_takeL (i := 27) (oi := _) (v := ?_) rfl (by kernel_rfl) (by kernel_rfl) (by kernel_rfl) (fun _ _ _ h => h) (Or.inl ⟨by rfl, ?_⟩) hHeld ?_
      rotate_left
      · (intro w' hSw; (try dsimp only at hSw); go_simp; try (with_reducible rfl))
      try simp only [Act.put, List.setIfInBounds_toArray, List.set_cons_zero, List.set_cons_succ]
      refine wpAnyH_takeL (i := 29) (oi := _) (v := ?_) rfl (by kernel_rfl) (by kernel_rfl) (by kernel_rfl) (fun _ _ _ h => h) (Or.inl ⟨by rfl, ?_⟩) hHeld ?_
      rotate_left
      · (intro w' hSw; (try dsimp only at hSw); go_simp; try (with_reducible rfl))
      try simp only [Act.put, List.setIfInBounds_toArray, List.set_cons_zero, List.set_cons_succ]
      refine wpAnyH_ready (rs := [28]) (by kernel_rfl) (by simp) ?_
      refine AllReadyH.consL (o := _) rfl (fun K hK => ?_) AllReadyH.nil
      clear hHeld
      go_simp
      go_at_call 34
      refine Calls.mono (support_any (L := 41943120) (M := 1677724880) N.out.1 (fun r hr => N.out.nok r hr) (by decide) (by decide) (by have := LNN.out; omega) (by decide) (by have := LNN.out; omega)) ?_
      rintro e w38 ⟨AI1, cI1, is1, rfl, h1, h2, h3, hb⟩
      replace F0 := Lib.hid (F0.out.below hb F0.out.lt)
      replace N := Lib.hid (N.out.below hb)
      replace Y := Lib.hid (Y.out.below hb)
      replace T := Lib.hid (T.out.below hb)
      replace U := Lib.hid (U.out.below hb)
      replace Z := Lib.hid (Z.out.below hb)
      replace OD7 := Lib.hid (OD7.out.below hb)
      replace OD8 := Lib.hid (OD8.out.below hb)
      replace B1 := Lib.hid (B1.out.trans (hb.mono B1.out.size))
      have SI1 := Lib.hid h1
      have LI1 := Lib.hid h2
      have EI1 := Lib.hid h3
      clear h1 h2 h3
      clear hb
      refine hK.out _ _ (F0.out) (fun hHeld => ?_)
      clear hK K
      try simp only [Act.put, List.setIfInBounds_toArray, List.set_cons_zero, List.set_cons_succ]
      refine wpAnyH_ready (rs := [30]) (by kernel_rfl) (by simp) ?_
      refine AllReadyH.consL (o := _) rfl (fun K hK => ?_) AllReadyH.nil
      clear hHeld
      go_simp
      go_at_call 34
      refine Calls.mono (support_any (L := 41943120) (M := 1677724880) T.out.1 (fun r hr => (T.out.2.2 r hr).le (by decide)) (by decide) (by decide) (by have := T.out.2.1; omega) (by decide) (by have := T.out.2.1; omega)) ?_
      rintro e w39 ⟨AI2, cI2, is2, rfl, h1, h2, h3, hb⟩
      replace F0 := Lib.hid (F0.out.below hb F0.out.lt)
      replace N := Lib.hid (N.out.below hb)
      replace Y := Lib.hid (Y.out.below hb)
      replace T := Lib.hid (T.out.below hb)
      replace U := Lib.hid (U.out.below hb)
      replace Z := Lib.hid (Z.out.below hb)
      replace OD7 := Lib.hid (OD7.out.below hb)
      replace OD8 := Lib.hid (OD8.out.below hb)
      replace SI1 := Lib.hid (SI1.out.below hb)
      replace B1 := Lib.hid (B1.out.trans (hb.mono B1.out.size))
      have SI2 := Lib.hid h1
      have LI2 := Lib.hid h2
      have EI2 := Lib.hid h3
      clear h1 h2 h3
      obtain rfl : is2 = is1 := (by obtain ⟨l, a1, b1, e1⟩ := EI1.out; obtain ⟨l2, a2, b2, e2⟩ := EI2.out; rw [e1, e2, asc_uniq l2 l a2 a1 (fun i => by rw [b1, b2, CN.out i, CT.out i])])
      clear hb
      refine hK.out _ _ (F0.out) (fun hHeld => ?_)
      clear hK K
      try simp only [Act.put, List.setIfInBounds_toArray, List.set_cons_zero, List.set_cons_succ]
      refine wpAnyH_ready (rs := [31]) (by kernel_rfl) (by simp) ?_
      refine AllReadyH.consL (o := _) rfl (fun K hK => ?_) AllReadyH.nil
      clear hHeld
      go_simp
      go_at_call 33
      refine Calls.mono (equalInts_yes SI1.out SI2.out (by have := LI1.out; have := LNN.out; omega)) ?_
      rintro e w40 ⟨rfl, hb⟩
      replace F0 := Lib.hid (F0.out.below hb F0.out.lt)
      replace N := Lib.hid (N.out.below hb)
      replace Y := Lib.hid (Y.out.below hb)
      replace T := Lib.hid (T.out.below hb)
      replace U := Lib.hid (U.out.below hb)
      replace Z := Lib.hid (Z.out.below hb)
      replace OD7 := Lib.hid (OD7.out.below hb)
      replace OD8 := Lib.hid (OD8.out.below hb)
      replace SI1 := Lib.hid (SI1.out.below hb)
      replace SI2 := Lib.hid (SI2.out.below hb)
      replace B1 := Lib.hid (B1.out.trans (hb.mono B1.out.size))
      clear hb
      refine hK.out _ _ (F0.out) (fun hHeld => ?_)
      clear hK K
      try simp only [Act.put, List.setIfInBounds_toArray, List.set_cons_zero, List.set_cons_succ]
      refine wpAnyH_takeL (i := 32) (oi := _) (v := ?_) rfl (by kernel_rfl) (by kernel_rfl) (by kernel_rfl) (fun _ _ _ h => h) (Or.inl ⟨by rfl, ?_⟩) hHeld ?_
      rotate_left
      · (intro w' hSw; (try dsimp only at hSw); go_simp; try (with_reducible rfl))
      try simp only [Act.put, List.setIfInBounds_toArray, List.set_cons_zero, List.set_cons_succ]
      refine wpAnyH_takeL (i := 33) (oi := _) (v := ?_) rfl (by kernel_rfl) (by kernel_rfl) (by kernel_rfl) (fun _ _ _ h => h) (Or.inl ⟨by rfl, ?_⟩) hHeld ?_
      rotate_left
      · (intro w' hSw; (try dsimp only at hSw); go_simp; try (with_reducible rfl))
      try simp only [Act.put, List.setIfInBounds_toArray, List.set_cons_zero, List.set_cons_succ]
      clear hHeld
      refine wpAnyH_done (by kernel_rfl) ?_ _
      go_wp2_with fail
      exact ret_t rfl rfl rfl ⟨rfl, B1.out⟩
    · have hi : i = (k1 : Int) := by omega
      subst hi
      have c1 : (0 : Int) ≤ (k1 : Int) := by omega
      have kk : (k1 : Int) ≤ 40 := by have := HJ.out; have := HN.out; omega
      have w1' : IntKind.i64.wrap ((k1 : Int) - 1) = (k1 : Int) - 1 := IntWalk.i64_in _ (by omega)
      obtain ⟨x, hx⟩ : ∃ x, rX[k1]? = some x := ⟨_, List.getElem?_eq_getElem (by have := HJ.out; omega)⟩
      have DR := Lib.hid (drop_rev hx)
      obtain ⟨b, o, hA, hb, hr⟩ := (X.out.1.below BN.out).at_ (by have := HJ.out; omega)
      subst hA
      obtain ⟨xi, xr⟩ := x
      have R0 := Lib.hid (hr k1 _ hx)
      have kn : (k1 : Int) < (n1 : Int) := by have := HJ.out; have := HN.out; omega
      have LO : Hid ((rX.drop (k1 + 1)).reverse.length ≤ 1000000000) := by have := X.out.2.1; simp only [List.length_reverse, List.length_drop]; show _ ≤ _; omega
      clear hb hr hx hij
      have pc0 := Lib.hid trivial
      go_wp2_with (first
        | (clear pc0; refine wpList_ld4 (by rfl) _ rfl (by rfl) R0.out ?_; have pc1 := Lib.hid trivial)
        | (clear pc1; refine append_E rfl _ _ rfl (xi, xr) rfl (LG.out.below ((Below.refl wr.heap.size wr).alloc (Nat.le_refl _) (.cells #[.int .i64 xi, .bool xr.s, .slice xr.A xr.n xr.c, .slice xr.D xr.m xr.k] 58))) rfl (Vb.new wr xi xr.s xr.A xr.n xr.c xr.D xr.m xr.k).range LO.out (by have := BN.out.size; simp; omega) ?_; intro v9 w6 hlg hkt; have LGN := Lib.hid hlg; have BNN : Hid (Below wn.heap.size wn w6) := (BN.out.trans (((Below.refl wr.heap.size wr).alloc (Nat.le_refl _) (.cells #[.int .i64 xi, .bool xr.s, .slice xr.A xr.n xr.c, .slice xr.D xr.m xr.k] 58)).mono BN.out.size)).trans hkt.2; clear hlg hkt; have pc2 := Lib.hid trivial))
      go_roundw
      case rel => exact Lib.hid ⟨k1, (k1 : Int) - 1, by go_num, by omega, by have := HJ.out; omega, by rw [DR.out]; exact LGN.out, BNN.out⟩
      case measure => simp [intOf]
end Go.Proofs.YtfacndibfkamgaaGreat
