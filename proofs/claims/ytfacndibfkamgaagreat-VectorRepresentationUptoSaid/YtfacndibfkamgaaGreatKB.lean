/-
  Vt, Vf, Vp, Vg.
-/
import Derived.Test.YtfacndibfkamgaaGreatKA
import Derived.Test.YtfacndibfkamgaaGreatRato
/-
  Contracts of package rational: total and Sum of a list.
-/
namespace Go.Proofs.YtfacndibfkamgaaGreat
open Go.RowKit
set_option linter.unusedVariables false

theorem Sl.take {α : Type} {enc : α → List Value} {k : Nat} {w : World} {A : Option Addr} {c : Nat} {rs : List α} (h : Sl enc k w A c rs) (m : Nat) : Sl enc k w A c (rs.take m) := by
  obtain ⟨h1, h2, h3⟩ := h
  refine ⟨by rw [List.length_take]; omega, h2, ?_⟩
  rcases h3 with rfl | ⟨b, o, rfl, h4, h5⟩
  · exact .inl (by simp)
  · refine .inr ⟨b, o, rfl, h4, fun j r hj => h5 j r ?_⟩
    rw [List.getElem?_take] at hj
    split at hj
    · exact hj
    · cases hj
theorem Sl.drop {α : Type} {enc : α → List Value} {k : Nat} {w : World} {A : Option Addr} {c : Nat} {rs : List α} (h : Sl enc k w A c rs) (m : Nat) (hm : m ≤ rs.length) : Sl enc k w (if c = m then A else A.map (·.add (m * k))) (c - m) (rs.drop m) := by
  obtain ⟨h1, h2, h3⟩ := h
  refine ⟨by rw [List.length_drop]; omega, by omega, ?_⟩
  rcases h3 with rfl | ⟨b, o, rfl, h4, h5⟩
  · exact .inl (by simp)
  · by_cases e : c = m
    · left
      exact List.eq_nil_of_length_eq_zero (by rw [List.length_drop]; omega)
    · right
      rw [if_neg e]
      refine ⟨b, o + m * k, by simp [Addr.add_mid], h4, fun j r hj => ?_⟩
      rw [List.getElem?_drop] at hj
      have := h5 (m + j) r hj
      rwa [Nat.add_mul, ← Nat.add_assoc] at this
set_option maxRecDepth 100000 in
set_option maxHeartbeats 16000000 in
theorem total_nil {w : World} {A : Option Addr} {c : Nat} : Calls Tryz.prog 100 #[.slice A 0 c] w (GivesR w 0 1) := by
  obtain ⟨B1, V0⟩ := start_R0 w
  go_enter Tryz.func100, Tryz.ntmps100
  have pc0 := Lib.hid trivial
  go_wp2_with (first
    | (clear pc0; generalize (w.alloc (.cells #[.bool false, .slice none 0 0, .slice none 0 0] 29)) = w2 at *; have SZ := Lib.hid B1.out.size; go_at_call 124; refine Calls.mono (qfromInt_any (v := 0) (z := 0) (by omega) rfl _) ?_; rintro e w4 ⟨P, cP, R, cR, rfl, ho, ho2, hb⟩; replace V0 := Lib.hid (V0.out.below hb V0.out.lt); replace B1 := Lib.hid (B1.out.trans (hb.mono B1.out.size)); have OZ := Lib.hid (ho.mono SZ.out); have OD := Lib.hid (ho2.mono SZ.out); clear ho ho2 SZ; clear hb; have pc1 := Lib.hid trivial)
    | (clear pc1; refine wpList_stR (by rfl) _ _ rfl (by rfl) (by rfl) V0.out ?_; intro w5 hz hg; have tx := V0.out.tx; replace OZ := Lib.hid (OZ.out.grT tx hg); replace OD := Lib.hid (OD.out.grT tx hg); replace B1 := Lib.hid (Below.gr B1.out (Nat.le_refl _) hg B1.out.size); clear tx; replace V0 := Lib.hid hz; clear hz hg; have pc2 := Lib.hid trivial))
  clear pc2
  exact ret_rb Tryz.results100 rfl rfl V0.out ⟨_, _, _, _, rfl, OZ.out, OD.out, B1.out⟩
set_option maxRecDepth 100000 in
set_option maxHeartbeats 16000000 in
theorem total_one1 {w : World} {A : Option Addr} {c : Nat} {r : Nt} (h : Sl encR 3 w A c [r]) : Calls Tryz.prog 100 #[.slice A 1 c] w fun e w' => e = .returned (.agg #[.bool r.s, .slice r.A r.n r.c, .slice r.D r.m r.k]) ∧ Below w.heap.size w w' := by
  obtain ⟨B1, V0⟩ := start_R0 w
  obtain ⟨b, o, rfl, hb, hr⟩ := (h.below B1.out).head
  have R0 := Lib.hid hr
  clear hr hb h
  go_enter Tryz.func100, Tryz.ntmps100
  have pc0 := Lib.hid trivial
  go_wp2_with (first
    | (clear pc0; generalize (w.alloc (.cells #[.bool false, .slice none 0 0, .slice none 0 0] 29)) = w2 at *; refine wpList_ld3 (by rfl) _ rfl (by rfl) R0.out ?_; have pc1 := Lib.hid trivial)
    | (clear pc1; refine wpList_stR (by rfl) _ _ rfl (by rfl) (by rfl) V0.out ?_; intro w5 hz hg; have tx := V0.out.tx; replace B1 := Lib.hid (Below.gr B1.out (Nat.le_refl _) hg B1.out.size); clear tx; replace V0 := Lib.hid hz; clear hz hg; have pc2 := Lib.hid trivial))
  clear pc2
  exact ret_rb Tryz.results100 rfl rfl V0.out ⟨rfl, B1.out⟩
def Tot (n L : Nat) (q : Rat) (w : World) (e : Ending) (w' : World) : Prop := ∃ r : Nt, e = .returned (.agg #[.bool r.s, .slice r.A r.n r.c, .slice r.D r.m r.k]) ∧ Nok w' r (n * (L + 2) - 1) ∧ r.q = q ∧ Below w.heap.size w w'
set_option maxRecDepth 100000 in
set_option maxHeartbeats 16000000 in
theorem total_step {N : Nat} (ih : ∀ {w : World} {A : Option Addr} {c L : Nat} {rs : List Nt}, rs.length ≤ N → 1 ≤ rs.length → Sl encR 3 w A c rs → (∀ r ∈ rs, Nok w r L) → 1 ≤ L → rs.length * (L + 2) ≤ 35184372088829 → rs.length ≤ 1000000 → Calls Tryz.prog 100 #[.slice A rs.length c] w (Tot rs.length L (sumq (rs.map Nt.q)) w))
    {w : World} {A : Option Addr} {c L n : Nat} {rs : List Nt} (hn : rs.length = n) (hN : n ≤ N + 1) (h2 : 2 ≤ n) (h : Sl encR 3 w A c rs) (hv : ∀ r ∈ rs, Nok w r L) (hL : 1 ≤ L) (hB : n * (L + 2) ≤ 35184372088829) (hM : n ≤ 1000000) : Calls Tryz.prog 100 #[.slice A n c] w (Tot n L (sumq (rs.map Nt.q)) w) := by
  obtain ⟨B1, V0⟩ := start_R0 w
  obtain ⟨m, hm⟩ : ∃ m, n / 2 = m := ⟨_, rfl⟩
  have hm1 : 1 ≤ m ∧ m ≤ N ∧ n - m ≤ N ∧ 1 ≤ n - m ∧ m ≤ n := by omega
  have l1 : (rs.take m).length = m := by rw [List.length_take]; omega
  have l2 : (rs.drop m).length = n - m := by rw [List.length_drop, hn]
  have HL : Hid (m * (L + 2) + (n - m) * (L + 2) = n * (L + 2)) := by show _ = _; rw [← Nat.add_mul]; congr 1; omega
  have C1 : Hid (∀ W, Below w.heap.size w W → Calls Tryz.prog 100 #[.slice A m c] W (Tot m L (sumq ((rs.take m).map Nt.q)) W)) := fun W hb => by
    have := ih (L := L) (by rw [l1]; exact hm1.2.1) (by rw [l1]; exact hm1.1) ((h.below hb).take m) (fun r hr => (hv r (List.mem_of_mem_take hr)).below hb) hL (by rw [l1]; have := HL.out; omega) (by omega)
    rwa [l1] at this
  have C2 : Hid (∀ W, Below w.heap.size w W → Calls Tryz.prog 100 #[.slice (if c = m then A else A.map (·.add (m * 3))) (n - m) (c - m)] W (Tot (n - m) L (sumq ((rs.drop m).map Nt.q)) W)) := fun W hb => by
    have := ih (L := L) (by rw [l2]; exact hm1.2.2.1) (by rw [l2]; exact hm1.2.2.2.1) ((h.below hb).drop m (by omega)) (fun r hr => (hv r (List.mem_of_mem_drop hr)).below hb) hL (by rw [l2]; have := HL.out; omega) (by omega)
    rwa [l2] at this
  have SQ : Hid (sumq ((rs.take m).map Nt.q) + sumq ((rs.drop m).map Nt.q) = sumq (rs.map Nt.q)) := by
    show _ = _
    rw [← sumq_append, ← List.map_append, List.take_append_drop]
  obtain ⟨b, o, rfl, hb, _⟩ := h.at_ (by omega)
  have hc : n ≤ c := by rw [← hn]; exact h.1
  simp only [Option.map_some, Addr.add_mid] at C2
  generalize sumq ((rs.take m).map Nt.q) = q1 at *
  generalize sumq ((rs.drop m).map Nt.q) = q2 at *
  generalize sumq (rs.map Nt.q) = q at *
  clear ih h hv hb l1 l2 hN hn
  have HB1 : Hid (1 ≤ n * (L + 2) ∧ n * (L + 2) ≤ 35184372088829) := ⟨by have := Nat.mul_le_mul h2 (Nat.le_add_left 2 L); omega, hB⟩
  have GE1 : Hid (2 ≤ m * (L + 2)) := by have := Nat.mul_le_mul hm1.1 (Nat.le_add_left 2 L); show _ ≤ _; omega
  have GE2 : Hid (2 ≤ (n - m) * (L + 2)) := by have := Nat.mul_le_mul hm1.2.2.2.1 (Nat.le_add_left 2 L); show _ ≤ _; omega
  have LE1 : Hid (m * (L + 2) - 1 ≤ n * (L + 2)) := by have := HL.out; show _ ≤ _; omega
  have LE2 : Hid ((n - m) * (L + 2) - 1 ≤ n * (L + 2)) := by have := HL.out; show _ ≤ _; omega
  have n0 : ¬ ((n : Int) = 0) := by omega
  have n1 : ¬ ((n : Int) = 1) := by omega
  have n2 : Int.tdiv (n : Int) 2 = (m : Int) := by rw [← hm]; rfl
  have n3 : (n : Int) ≤ 1000000 := by omega
  have n4 : (m : Int) ≤ (n : Int) := by omega
  have n5 : (m : Int) ≤ (c : Int) := by omega
  have HM1 := Lib.hid hm1
  have E := Lib.hid hm
  clear hm hm1 hM h2 hB hL
  go_enter Tryz.func100, Tryz.ntmps100
  go_wp2_with fail
  generalize (w.alloc (.cells #[.bool false, .slice none 0 0, .slice none 0 0] 29)) = w2 at *
  have hb := below_drewN w2.heap.size w2 1
  replace V0 := Lib.hid (V0.out.below hb V0.out.lt)
  replace B1 := Lib.hid (B1.out.trans (hb.mono B1.out.size))
  clear hb
  refine wp_region_held_drew (S := fun w' => True) (by kernel_rfl) trivial (fun hHeld => ?_)
  refine wpAnyH_takeL (i := 0) (oi := _) (v := ?_) rfl (by kernel_rfl) (by kernel_rfl) (by kernel_rfl) (fun _ _ _ h => h) (Or.inl ⟨by rfl, ?_⟩) hHeld ?_
  rotate_left
  · (intro w' hSw; (try dsimp only at hSw); go_simp; try (with_reducible rfl))
  try simp only [Act.put, List.setIfInBounds_toArray, List.set_cons_zero, List.set_cons_succ]
  refine wpAnyH_takeL (i := 1) (oi := _) (v := ?_) rfl (by kernel_rfl) (by kernel_rfl) (by kernel_rfl) (fun _ _ _ h => h) (Or.inl ⟨by rfl, ?_⟩) hHeld ?_
  rotate_left
  · (intro w' hSw; (try dsimp only at hSw); go_simp; try (with_reducible rfl))
  try simp only [Act.put, List.setIfInBounds_toArray, List.set_cons_zero, List.set_cons_succ]
  refine wpAnyH_takeL (i := 2) (oi := _) (v := ?_) rfl (by kernel_rfl) (by kernel_rfl) (by kernel_rfl) (fun _ _ _ h => h) (Or.inl ⟨by rfl, ?_⟩) hHeld ?_
  rotate_left
  · (intro w' hSw; (try dsimp only at hSw); go_simp; try (with_reducible rfl))
  try simp only [Act.put, List.setIfInBounds_toArray, List.set_cons_zero, List.set_cons_succ]
  refine wpAnyH_takeL (i := 4) (oi := _) (v := ?_) rfl (by kernel_rfl) (by kernel_rfl) (by kernel_rfl) (fun _ _ _ h => h) (Or.inl ⟨by rfl, ?_⟩) hHeld ?_
  rotate_left
  · (intro w' hSw; (try dsimp only at hSw); go_simp; try (with_reducible rfl))
  try simp only [Act.put, List.setIfInBounds_toArray, List.set_cons_zero, List.set_cons_succ]
  refine wpAnyH_takeL (i := 5) (oi := _) (v := ?_) rfl (by kernel_rfl) (by kernel_rfl) (by kernel_rfl) (fun _ _ _ h => h) (Or.inl ⟨by rfl, ?_⟩) hHeld ?_
  rotate_left
  · (intro w' hSw; (try dsimp only at hSw); go_simp; try (with_reducible rfl))
  try simp only [Act.put, List.setIfInBounds_toArray, List.set_cons_zero, List.set_cons_succ]
  refine wpAnyH_takeL (i := 6) (oi := _) (v := ?_) rfl (by kernel_rfl) (by kernel_rfl) (by kernel_rfl) (fun _ _ _ h => h) (Or.inl ⟨by rfl, ?_⟩) hHeld ?_
  rotate_left
  · (intro w' hSw; (try dsimp only at hSw); go_simp; try (with_reducible rfl))
  try simp only [Act.put, List.setIfInBounds_toArray, List.set_cons_zero, List.set_cons_succ]
  refine wpAnyH_ready (rs := [3]) (by kernel_rfl) (by simp) ?_
  refine AllReadyH.consL (o := _) rfl (fun K hK => ?_) AllReadyH.nil
  clear hHeld
  go_simp
  go_at_call 100
  refine Calls.mono (C1.out _ B1.out) ?_
  rintro e w3 ⟨⟨s1, A1, n1, c1, D1, m1, k1, x1, p1⟩, rfl, ok1, hq1, hb⟩
  replace V0 := Lib.hid (V0.out.below hb V0.out.lt)
  replace B1 := Lib.hid (B1.out.trans (hb.mono B1.out.size))
  have N1 := Lib.hid ok1
  have Q1 := Lib.hid hq1
  clear ok1 hq1
  clear hb
  refine hK.out _ _ trivial (fun hHeld => ?_)
  clear hK K
  try simp only [Act.put, List.setIfInBounds_toArray, List.set_cons_zero, List.set_cons_succ]
  refine wpAnyH_ready (rs := [7]) (by kernel_rfl) (by simp) ?_
  refine AllReadyH.consL (o := _) rfl (fun K hK => ?_) AllReadyH.nil
  clear hHeld
  go_simp
  go_at_call 100
  refine Calls.mono (C2.out _ B1.out) ?_
  rintro e w4 ⟨⟨s2, A2, n2, c2, D2, m2, k2, x2, p2⟩, rfl, ok2, hq2, hb⟩
  replace V0 := Lib.hid (V0.out.below hb V0.out.lt)
  replace B1 := Lib.hid (B1.out.trans (hb.mono B1.out.size))
  replace N1 := Lib.hid (N1.out.below hb)
  have N2 := Lib.hid ok2
  have Q2 := Lib.hid hq2
  clear ok2 hq2
  clear hb
  refine hK.out _ _ trivial (fun hHeld => ?_)
  clear hK K
  try simp only [Act.put, List.setIfInBounds_toArray, List.set_cons_zero, List.set_cons_succ]
  refine wpAnyH_ready (rs := [8]) (by kernel_rfl) (by simp) ?_
  refine AllReadyH.consL (o := _) rfl (fun K hK => ?_) AllReadyH.nil
  clear hHeld
  have SUM : Hid (mkRat x1 p1 + mkRat x2 p2 = q) := by show _ = _; have a := Q1.out; have b := Q2.out; have c := SQ.out; unfold Nt.q at a b; dsimp only at a b; rw [a, b, c]
  have rlq : RL q (n * (L + 2) - 1) := by have a := rl_add (N1.out.rl (by have := GE1.out; omega)) (N2.out.rl (by have := GE2.out; omega)); rw [Q1.out, Q2.out, SQ.out] at a; exact a.le (by have := HL.out; have := GE1.out; have := GE2.out; omega)
  go_simp
  go_at_call 62
  refine Calls.mono (qadd_any (L := n * (L + 2)) N1.out.1 N1.out.2.1 N2.out.1 N2.out.2.1 (Nat.le_trans N1.out.2.2.1 LE1.out) (Nat.le_trans N1.out.2.2.2 LE1.out) (Nat.le_trans N2.out.2.2.1 LE2.out) (Nat.le_trans N2.out.2.2.2 LE2.out) HB1.out (z := q.num) (d := q.den) (by rw [SUM.out]) (by rw [SUM.out])) ?_
  rintro e w5 ⟨P, cP, R, cR, rfl, ho, ho2, hb⟩
  replace V0 := Lib.hid (V0.out.below hb V0.out.lt)
  replace B1 := Lib.hid (B1.out.trans (hb.mono B1.out.size))
  have RLQ := Lib.hid rlq
  have OZ := Lib.hid (ho.mono (Nat.zero_le _))
  have OD := Lib.hid (ho2.mono (Nat.zero_le _))
  clear ho ho2 rlq
  clear hb
  refine hK.out _ _ trivial (fun hHeld => ?_)
  clear hK K
  try simp only [Act.put, List.setIfInBounds_toArray, List.set_cons_zero, List.set_cons_succ]
  refine wpAnyH_ready (rs := [9]) (by kernel_rfl) (by simp) ?_
  refine AllReadyH.consL (o := _) rfl (fun K hK => ?_) AllReadyH.nil
  clear hHeld
  rw [if_pos (by rfl)]
  refine wp_stR _ _ rfl (by rfl) (by rfl) V0.out ?_
  intro wv0 hz hg
  have tx := V0.out.tx
  replace OZ := Lib.hid (OZ.out.grT tx hg)
  replace OD := Lib.hid (OD.out.grT tx hg)
  replace B1 := Lib.hid (Below.gr B1.out (Nat.le_refl _) hg B1.out.size)
  clear tx
  replace V0 := Lib.hid hz
  refine hK.out _ _ trivial (fun hHeld => ?_)
  clear hK K hg hz
  try simp only [Act.put]
  clear hHeld
  refine wpAnyH_done (by kernel_rfl) ?_ _
  go_wp2_with fail
  all_goals refine ret_rb Tryz.results100 rfl rfl V0.out ⟨mkN q.num q.den P cP R cR, rfl, ?_, q_mk _ _ _ _ _, B1.out⟩
  all_goals exact (nown_mk OZ.out OD.out).can.ok (by rw [q_mk]; exact RLQ.out)
theorem total_any (N : Nat) : ∀ {w : World} {A : Option Addr} {c L : Nat} {rs : List Nt}, rs.length ≤ N → 1 ≤ rs.length → Sl encR 3 w A c rs → (∀ r ∈ rs, Nok w r L) → 1 ≤ L → rs.length * (L + 2) ≤ 35184372088829 → rs.length ≤ 1000000 → Calls Tryz.prog 100 #[.slice A rs.length c] w (Tot rs.length L (sumq (rs.map Nt.q)) w) := by
  induction N with
  | zero => intro w A c L rs h1 h2; omega
  | succ N ih =>
    intro w A c L rs h1 h2 h hv hL hB hM
    rcases Nat.lt_or_ge rs.length 2 with h3 | h3
    · obtain ⟨r, rfl⟩ : ∃ r, rs = [r] := List.length_eq_one_iff.1 (by omega)
      refine (total_one1 h).mono ?_
      rintro e w' ⟨rfl, hb⟩
      exact ⟨r, rfl, ((hv r (by simp)).below hb).le (by simp), by simp [sumq, Rat.add_zero], hb⟩
    · exact total_step ih rfl h1 h3 h hv hL hB hM
/-- What Sum gives: the sum in lowest terms. -/
def Sumd (L : Nat) (q : Rat) (w : World) (e : Ending) (w' : World) : Prop := ∃ r : Nt, e = .returned (.agg #[.bool r.s, .slice r.A r.n r.c, .slice r.D r.m r.k]) ∧ Nown w' r ∧ r.q = q ∧ RL q L ∧ Below w.heap.size w w'
set_option maxRecDepth 100000 in
set_option maxHeartbeats 16000000 in
theorem sum_any {w : World} {A : Option Addr} {c L : Nat} {rs : List Nt} (h : Sl encR 3 w A c rs) (hv : ∀ r ∈ rs, Nok w r L) (h1 : 1 ≤ rs.length) (hL : 1 ≤ L) (hB : rs.length * (L + 2) ≤ 35184372088829) (hM : rs.length ≤ 1000000) : Calls Tryz.prog 61 #[.slice A rs.length c] w (Sumd (rs.length * (L + 2)) (sumq (rs.map Nt.q)) w) := by
  obtain ⟨B1, V0⟩ := start_R0 w
  have C1 : Hid (∀ W, Below w.heap.size w W → Calls Tryz.prog 100 #[.slice A rs.length c] W (Tot rs.length L (sumq (rs.map Nt.q)) W)) := fun W hb => total_any rs.length (Nat.le_refl _) h1 (h.below hb) (fun r hr => (hv r hr).below hb) hL hB hM
  have G : Hid (3 ≤ rs.length * (L + 2)) := by have := Nat.mul_le_mul h1 (Nat.add_le_add_right hL 2); show _ ≤ _; omega
  have LB := Lib.hid hB
  generalize sumq (rs.map Nt.q) = q at *
  generalize rs.length = n at *
  clear h hv h1 hL hB hM
  go_enter Tryz.func61, Tryz.ntmps61
  go_wp2_with fail
  generalize (w.alloc (.cells #[.bool false, .slice none 0 0, .slice none 0 0] 29)) = w2 at *
  have pc0 := Lib.hid trivial
  go_wp2_with (first
    | (clear pc0; go_at_call 100; refine Calls.mono (C1.out _ B1.out) ?_; rintro e w3 ⟨⟨s1, A1, n1, c1, D1, m1, k1, x1, p1⟩, rfl, ok1, hq1, hb⟩; replace V0 := Lib.hid (V0.out.below hb V0.out.lt); replace B1 := Lib.hid (B1.out.trans (hb.mono B1.out.size)); have N1 := Lib.hid ok1; have Q1 := Lib.hid hq1; have N1q := Lib.hid ((ok1.rl (by have := G.out; omega)).le (Nat.sub_le _ _)); clear ok1 hq1; clear hb; have pc1 := Lib.hid trivial)
    | (clear pc1; go_at_call 47; refine Calls.mono (norm_any (L := n * (L + 2)) (z := q.num) (d := q.den) N1.out.1 N1.out.2.1 (Nat.le_trans N1.out.2.2.1 (Nat.sub_le _ _)) (Nat.le_trans N1.out.2.2.2 (Nat.sub_le _ _)) ⟨by have := G.out; omega, by have := LB.out; omega⟩ (by rw [← Q1.out]; rfl) (by rw [← Q1.out]; rfl)) ?_; rintro e w4 ⟨P, cP, R, cR, rfl, ho, ho2, hb⟩; replace V0 := Lib.hid (V0.out.below hb V0.out.lt); replace B1 := Lib.hid (B1.out.trans (hb.mono B1.out.size)); have OZ := Lib.hid (ho.mono (Nat.zero_le _)); have OD := Lib.hid (ho2.mono (Nat.zero_le _)); clear ho ho2; clear hb; have pc2 := Lib.hid trivial)
    | (clear pc2; refine wpList_stR (by rfl) _ _ rfl (by rfl) (by rfl) V0.out ?_; intro w5 hz hg; have tx := V0.out.tx; replace OZ := Lib.hid (OZ.out.grT tx hg); replace OD := Lib.hid (OD.out.grT tx hg); replace B1 := Lib.hid (Below.gr B1.out (Nat.le_refl _) hg B1.out.size); clear tx; replace V0 := Lib.hid hz; clear hz hg; have pc3 := Lib.hid trivial))
  clear pc3
  exact ret_rb Tryz.results61 rfl rfl V0.out ⟨mkN q.num q.den P cP R cR, rfl, nown_mk OZ.out OD.out, q_mk _ _ _ _ _, by rw [← Q1.out]; exact (N1q.out), B1.out⟩
end Go.Proofs.YtfacndibfkamgaaGreat

/-
  Contracts of package vector: first, least, take, product.
-/
namespace Go.Proofs.YtfacndibfkamgaaGreat
open Go.RowKit
set_option linter.unusedVariables false

set_option maxRecDepth 100000 in
set_option maxHeartbeats 16000000 in
theorem least_ab {w : World} {A B : Option Addr} {c d : Nat} {ra rb : List (Int × Nt)} {x : Int × Nt} {ta : List (Int × Nt)} (ea : ra = x :: ta) (ha : Sl encE 4 w A c ra) {y : Int × Nt} {tb : List (Int × Nt)} (eb : rb = y :: tb) (hb : Sl encE 4 w B d rb) (h : x.1 ≤ y.1) : Calls Tryz.prog 98 #[.slice A ra.length c, .slice B rb.length d] w fun e w' => e = .returned (.int .i64 x.1) ∧ Below w.heap.size w w' := by
  subst ea
  subst eb
  obtain ⟨b1, o1, rfl, hb1, hr1⟩ := (ha : Sl encE 4 w A c (x :: ta)).head
  have B1 := Lib.hid hb1
  have C1 : Hid (w.cell? ⟨b1, o1, none⟩ = some (.int .i64 x.1)) := hr1 0 _ rfl
  clear hb1 hr1
  obtain ⟨b2, o2, rfl, hb2, hr2⟩ := (hb : Sl encE 4 w B d (y :: tb)).head
  have B2 := Lib.hid hb2
  have C2 : Hid (w.cell? ⟨b2, o2, none⟩ = some (.int .i64 y.1)) := hr2 0 _ rfl
  clear hb2 hr2
  obtain ⟨na, hna⟩ : ∃ n, ta.length + 1 = n := ⟨_, rfl⟩
  obtain ⟨nb, hnb⟩ : ∃ n, tb.length + 1 = n := ⟨_, rfl⟩
  simp only [List.length_cons, hna, hnb]
  have n1 : ¬ ((na : Int) = 0) := by omega
  have p1 : 0 < na := by omega
  have n2 : ¬ ((nb : Int) = 0) := by omega
  have p2 : 0 < nb := by omega
  clear ha hb hna hnb
  go_enter Tryz.func98, Tryz.ntmps98
  go_wp2_with fail
  have HB : Hid (Below w.heap.size w w.drew) := below_drewN _ w 1
  refine wp_region_held_drew (S := fun w' => Below w.heap.size w w') (by kernel_rfl) (HB.out) (fun hHeld => ?_)
  refine wpAnyH_takeL (i := 0) (oi := _) (v := ?_) rfl (by kernel_rfl) (by kernel_rfl) (by kernel_rfl) (fun _ _ _ h => h) (Or.inl ⟨by rfl, ?_⟩) hHeld ?_
  rotate_left
  · (intro w' hSw; (try dsimp only at hSw); go_simp; try (with_reducible rfl))
  try simp only [Act.put, List.setIfInBounds_toArray, List.set_cons_zero, List.set_cons_succ]
  refine wpAnyH_takeL (i := 1) (oi := _) (v := ?_) rfl (by kernel_rfl) (by kernel_rfl) (by kernel_rfl) (fun _ _ _ h => h) (Or.inl ⟨by rfl, ?_⟩) hHeld ?_
  rotate_left
  · (intro w' hSw; (try dsimp only at hSw); go_simp; try (with_reducible rfl))
  try simp only [Act.put, List.setIfInBounds_toArray, List.set_cons_zero, List.set_cons_succ]
  refine wpAnyH_takeL (i := 2) (oi := _) (v := ?_) rfl (by kernel_rfl) (by kernel_rfl) (by kernel_rfl) (fun _ _ _ h => h) (Or.inl ⟨by rfl, ?_⟩) hHeld ?_
  rotate_left
  · (intro w' hSw; (try dsimp only at hSw); go_simp; try (with_reducible rfl))
  try simp only [Act.put, List.setIfInBounds_toArray, List.set_cons_zero, List.set_cons_succ]
  rw [beq_false_of_ne (show (nb : Int) ≠ 0 by omega)]
  refine wpAnyH_takeL (i := 3) (oi := _) (v := ?_) rfl (by kernel_rfl) (by kernel_rfl) (by kernel_rfl) (fun _ _ _ h => h) (Or.inl ⟨by rfl, ?_⟩) hHeld ?_
  rotate_left
  · (intro w' hSw; (try dsimp only at hSw); go_simp; try (with_reducible rfl))
  try simp only [Act.put, List.setIfInBounds_toArray, List.set_cons_zero, List.set_cons_succ]
  refine wpAnyH_takeL (i := 4) (oi := _) (v := ?_) rfl (by kernel_rfl) (by kernel_rfl) (by kernel_rfl) (fun _ _ _ h => h) (Or.inl ⟨by rfl, ?_⟩) hHeld ?_
  rotate_left
  · (intro w' hSw; (try dsimp only at hSw); go_simp; try (with_reducible rfl))
  try simp only [Act.put, List.setIfInBounds_toArray, List.set_cons_zero, List.set_cons_succ]
  refine wpAnyH_takeL (i := 5) (oi := _) (v := ?_) rfl (by kernel_rfl) (by kernel_rfl) (by kernel_rfl) (fun _ _ _ h => h) (Or.inl ⟨by rfl, ?_⟩) hHeld ?_
  rotate_left
  · (intro w' hSw; (try dsimp only at hSw); go_simp; try (with_reducible rfl))
  try simp only [Act.put, List.setIfInBounds_toArray, List.set_cons_zero, List.set_cons_succ]
  refine wpAnyH_takeL (i := 6) (oi := _) (v := ?_) rfl (by kernel_rfl) (by kernel_rfl) (by kernel_rfl) (fun _ _ _ h => h) (Or.inl ⟨by rfl, ?_⟩) hHeld ?_
  rotate_left
  · (intro w' hSw; (try dsimp only at hSw); go_simp; try (with_reducible rfl))
  try simp only [Act.put, List.setIfInBounds_toArray, List.set_cons_zero, List.set_cons_succ]
  skip
  refine wpAnyH_takeL (i := 7) (oi := _) (v := ?_) rfl (by kernel_rfl) (by kernel_rfl) (by kernel_rfl) (fun _ _ _ h => h) (Or.inl ⟨by rfl, ?_⟩) hHeld ?_
  rotate_left
  · (intro w' hSw; (try dsimp only at hSw); go_simp; try (with_reducible rfl))
  try simp only [Act.put, List.setIfInBounds_toArray, List.set_cons_zero, List.set_cons_succ]
  refine wpAnyH_takeL (i := 8) (oi := _) (v := ?_) rfl (by kernel_rfl) (by kernel_rfl) (by kernel_rfl) (fun _ _ _ h => h) (Or.inl ⟨by rfl, ?_⟩) hHeld ?_
  rotate_left
  · (intro w' hSw; (try dsimp only at hSw); go_simp; try (with_reducible rfl))
  try simp only [Act.put, List.setIfInBounds_toArray, List.set_cons_zero, List.set_cons_succ]
  refine wpAnyH_takeL (i := 9) (oi := _) (v := ?_) rfl (by kernel_rfl) (by kernel_rfl) (by kernel_rfl) (fun _ _ _ h => h) (Or.inl ⟨by rfl, ?_⟩) hHeld ?_
  rotate_left
  · (intro w' hSw; (try dsimp only at hSw); go_simp; try (with_reducible rfl))
  try simp only [Act.put, List.setIfInBounds_toArray, List.set_cons_zero, List.set_cons_succ]
  refine wpAnyH_takeL (i := 10) (oi := _) (v := ?_) rfl (by kernel_rfl) (by kernel_rfl) (by kernel_rfl) (fun _ _ _ h => h) (Or.inl ⟨by rfl, ?_⟩) hHeld ?_
  rotate_left
  · (intro w' hSw; (try dsimp only at hSw); go_simp; try (with_reducible rfl))
  try simp only [Act.put, List.setIfInBounds_toArray, List.set_cons_zero, List.set_cons_succ]
  refine wpAnyH_takeL (i := 11) (oi := _) rfl (by kernel_rfl) (by kernel_rfl) (by kernel_rfl) (fun _ _ _ h => h) (yields_ldI (by rfl) _ rfl (by rfl) (fun _ hb => (hb.cell (p := ⟨b1, o1, none⟩) B1.out).trans C1.out)) hHeld ?_
  try simp only [Act.put, List.setIfInBounds_toArray, List.set_cons_zero, List.set_cons_succ]
  refine wpAnyH_takeL (i := 12) (oi := _) (v := ?_) rfl (by kernel_rfl) (by kernel_rfl) (by kernel_rfl) (fun _ _ _ h => h) (Or.inl ⟨by rfl, ?_⟩) hHeld ?_
  rotate_left
  · (intro w' hSw; (try dsimp only at hSw); go_simp; try (with_reducible rfl))
  try simp only [Act.put, List.setIfInBounds_toArray, List.set_cons_zero, List.set_cons_succ]
  refine wpAnyH_takeL (i := 13) (oi := _) (v := ?_) rfl (by kernel_rfl) (by kernel_rfl) (by kernel_rfl) (fun _ _ _ h => h) (Or.inl ⟨by rfl, ?_⟩) hHeld ?_
  rotate_left
  · (intro w' hSw; (try dsimp only at hSw); go_simp; try (with_reducible rfl))
  try simp only [Act.put, List.setIfInBounds_toArray, List.set_cons_zero, List.set_cons_succ]
  refine wpAnyH_takeL (i := 14) (oi := _) (v := ?_) rfl (by kernel_rfl) (by kernel_rfl) (by kernel_rfl) (fun _ _ _ h => h) (Or.inl ⟨by rfl, ?_⟩) hHeld ?_
  rotate_left
  · (intro w' hSw; (try dsimp only at hSw); go_simp; try (with_reducible rfl))
  try simp only [Act.put, List.setIfInBounds_toArray, List.set_cons_zero, List.set_cons_succ]
  refine wpAnyH_takeL (i := 15) (oi := _) rfl (by kernel_rfl) (by kernel_rfl) (by kernel_rfl) (fun _ _ _ h => h) (yields_ldI (by rfl) _ rfl (by rfl) (fun _ hb => (hb.cell (p := ⟨b2, o2, none⟩) B2.out).trans C2.out)) hHeld ?_
  try simp only [Act.put, List.setIfInBounds_toArray, List.set_cons_zero, List.set_cons_succ]
  refine wpAnyH_takeL (i := 16) (oi := _) (v := ?_) rfl (by kernel_rfl) (by kernel_rfl) (by kernel_rfl) (fun _ _ _ h => h) (Or.inl ⟨by rfl, ?_⟩) hHeld ?_
  rotate_left
  · (intro w' hSw; (try dsimp only at hSw); go_simp; try (with_reducible rfl))
  try simp only [Act.put, List.setIfInBounds_toArray, List.set_cons_zero, List.set_cons_succ]
  try rw [decide_eq_true (show x.1 ≤ y.1 from h)]
  refine wpAnyH_takeL (i := 17) (oi := _) (v := ?_) rfl (by kernel_rfl) (by kernel_rfl) (by kernel_rfl) (fun _ _ _ h => h) (Or.inl ⟨by rfl, ?_⟩) hHeld ?_
  rotate_left
  · (intro w' hSw; (try dsimp only at hSw); go_simp; try (with_reducible rfl))
  try simp only [Act.put, List.setIfInBounds_toArray, List.set_cons_zero, List.set_cons_succ]
  refine wpAnyH_takeL (i := 18) (oi := _) (v := ?_) rfl (by kernel_rfl) (by kernel_rfl) (by kernel_rfl) (fun _ _ _ h => h) (Or.inl ⟨by rfl, ?_⟩) hHeld ?_
  rotate_left
  · (intro w' hSw; (try dsimp only at hSw); go_simp; try (with_reducible rfl))
  try simp only [Act.put, List.setIfInBounds_toArray, List.set_cons_zero, List.set_cons_succ]
  refine wpAnyH_done (by kernel_rfl) ?_ _
  have cc : (w.drew).cell? ⟨b1, o1, none⟩ = some (.int .i64 x.1) := by rw [World.cell?_drew]; exact C1.out
  go_wp2_with fail
  refine ret_t rfl rfl rfl ?_
  exact ⟨rfl, HB.out⟩
set_option maxRecDepth 100000 in
set_option maxHeartbeats 16000000 in
theorem least_ba {w : World} {A B : Option Addr} {c d : Nat} {ra rb : List (Int × Nt)} {x : Int × Nt} {ta : List (Int × Nt)} (ea : ra = x :: ta) (ha : Sl encE 4 w A c ra) {y : Int × Nt} {tb : List (Int × Nt)} (eb : rb = y :: tb) (hb : Sl encE 4 w B d rb) (h : y.1 < x.1) : Calls Tryz.prog 98 #[.slice A ra.length c, .slice B rb.length d] w fun e w' => e = .returned (.int .i64 y.1) ∧ Below w.heap.size w w' := by
  subst ea
  subst eb
  obtain ⟨b1, o1, rfl, hb1, hr1⟩ := (ha : Sl encE 4 w A c (x :: ta)).head
  have B1 := Lib.hid hb1
  have C1 : Hid (w.cell? ⟨b1, o1, none⟩ = some (.int .i64 x.1)) := hr1 0 _ rfl
  clear hb1 hr1
  obtain ⟨b2, o2, rfl, hb2, hr2⟩ := (hb : Sl encE 4 w B d (y :: tb)).head
  have B2 := Lib.hid hb2
  have C2 : Hid (w.cell? ⟨b2, o2, none⟩ = some (.int .i64 y.1)) := hr2 0 _ rfl
  clear hb2 hr2
  obtain ⟨na, hna⟩ : ∃ n, ta.length + 1 = n := ⟨_, rfl⟩
  simp only [List.length_cons, hna]
  have p1 : 0 < na := by omega
  clear ha hna
  obtain ⟨nb, hnb⟩ : ∃ n, tb.length + 1 = n := ⟨_, rfl⟩
  simp only [List.length_cons, hnb]
  have p2 : 0 < nb := by omega
  clear hb hnb
  have hn : ¬ x.1 ≤ y.1 := by omega
  go_enter Tryz.func98, Tryz.ntmps98
  go_wp2_with fail
  have HB : Hid (Below w.heap.size w w.drew) := below_drewN _ w 1
  refine wp_region_held_drew (S := fun w' => Below w.heap.size w w') (by kernel_rfl) (HB.out) (fun hHeld => ?_)
  refine wpAnyH_takeL (i := 0) (oi := _) (v := ?_) rfl (by kernel_rfl) (by kernel_rfl) (by kernel_rfl) (fun _ _ _ h => h) (Or.inl ⟨by rfl, ?_⟩) hHeld ?_
  rotate_left
  · (intro w' hSw; (try dsimp only at hSw); go_simp; try (with_reducible rfl))
  try simp only [Act.put, List.setIfInBounds_toArray, List.set_cons_zero, List.set_cons_succ]
  refine wpAnyH_takeL (i := 1) (oi := _) (v := ?_) rfl (by kernel_rfl) (by kernel_rfl) (by kernel_rfl) (fun _ _ _ h => h) (Or.inl ⟨by rfl, ?_⟩) hHeld ?_
  rotate_left
  · (intro w' hSw; (try dsimp only at hSw); go_simp; try (with_reducible rfl))
  try simp only [Act.put, List.setIfInBounds_toArray, List.set_cons_zero, List.set_cons_succ]
  refine wpAnyH_takeL (i := 2) (oi := _) (v := ?_) rfl (by kernel_rfl) (by kernel_rfl) (by kernel_rfl) (fun _ _ _ h => h) (Or.inl ⟨by rfl, ?_⟩) hHeld ?_
  rotate_left
  · (intro w' hSw; (try dsimp only at hSw); go_simp; try (with_reducible rfl))
  try simp only [Act.put, List.setIfInBounds_toArray, List.set_cons_zero, List.set_cons_succ]
  rw [beq_false_of_ne (show (nb : Int) ≠ 0 by omega)]
  refine wpAnyH_takeL (i := 3) (oi := _) (v := ?_) rfl (by kernel_rfl) (by kernel_rfl) (by kernel_rfl) (fun _ _ _ h => h) (Or.inl ⟨by rfl, ?_⟩) hHeld ?_
  rotate_left
  · (intro w' hSw; (try dsimp only at hSw); go_simp; try (with_reducible rfl))
  try simp only [Act.put, List.setIfInBounds_toArray, List.set_cons_zero, List.set_cons_succ]
  refine wpAnyH_takeL (i := 4) (oi := _) (v := ?_) rfl (by kernel_rfl) (by kernel_rfl) (by kernel_rfl) (fun _ _ _ h => h) (Or.inl ⟨by rfl, ?_⟩) hHeld ?_
  rotate_left
  · (intro w' hSw; (try dsimp only at hSw); go_simp; try (with_reducible rfl))
  try simp only [Act.put, List.setIfInBounds_toArray, List.set_cons_zero, List.set_cons_succ]
  refine wpAnyH_takeL (i := 5) (oi := _) (v := ?_) rfl (by kernel_rfl) (by kernel_rfl) (by kernel_rfl) (fun _ _ _ h => h) (Or.inl ⟨by rfl, ?_⟩) hHeld ?_
  rotate_left
  · (intro w' hSw; (try dsimp only at hSw); go_simp; try (with_reducible rfl))
  try simp only [Act.put, List.setIfInBounds_toArray, List.set_cons_zero, List.set_cons_succ]
  refine wpAnyH_takeL (i := 6) (oi := _) (v := ?_) rfl (by kernel_rfl) (by kernel_rfl) (by kernel_rfl) (fun _ _ _ h => h) (Or.inl ⟨by rfl, ?_⟩) hHeld ?_
  rotate_left
  · (intro w' hSw; (try dsimp only at hSw); go_simp; try (with_reducible rfl))
  try simp only [Act.put, List.setIfInBounds_toArray, List.set_cons_zero, List.set_cons_succ]
  refine wpAnyH_takeL (i := 7) (oi := _) (v := ?_) rfl (by kernel_rfl) (by kernel_rfl) (by kernel_rfl) (fun _ _ _ h => h) (Or.inl ⟨by rfl, ?_⟩) hHeld ?_
  rotate_left
  · (intro w' hSw; (try dsimp only at hSw); go_simp; try (with_reducible rfl))
  try simp only [Act.put, List.setIfInBounds_toArray, List.set_cons_zero, List.set_cons_succ]
  refine wpAnyH_takeL (i := 8) (oi := _) (v := ?_) rfl (by kernel_rfl) (by kernel_rfl) (by kernel_rfl) (fun _ _ _ h => h) (Or.inl ⟨by rfl, ?_⟩) hHeld ?_
  rotate_left
  · (intro w' hSw; (try dsimp only at hSw); go_simp; try (with_reducible rfl))
  try simp only [Act.put, List.setIfInBounds_toArray, List.set_cons_zero, List.set_cons_succ]
  refine wpAnyH_takeL (i := 9) (oi := _) (v := ?_) rfl (by kernel_rfl) (by kernel_rfl) (by kernel_rfl) (fun _ _ _ h => h) (Or.inl ⟨by rfl, ?_⟩) hHeld ?_
  rotate_left
  · (intro w' hSw; (try dsimp only at hSw); go_simp; try (with_reducible rfl))
  try simp only [Act.put, List.setIfInBounds_toArray, List.set_cons_zero, List.set_cons_succ]
  refine wpAnyH_takeL (i := 10) (oi := _) (v := ?_) rfl (by kernel_rfl) (by kernel_rfl) (by kernel_rfl) (fun _ _ _ h => h) (Or.inl ⟨by rfl, ?_⟩) hHeld ?_
  rotate_left
  · (intro w' hSw; (try dsimp only at hSw); go_simp; try (with_reducible rfl))
  try simp only [Act.put, List.setIfInBounds_toArray, List.set_cons_zero, List.set_cons_succ]
  refine wpAnyH_takeL (i := 11) (oi := _) rfl (by kernel_rfl) (by kernel_rfl) (by kernel_rfl) (fun _ _ _ h => h) (yields_ldI (by rfl) _ rfl (by rfl) (fun _ hb => (hb.cell (p := ⟨b1, o1, none⟩) B1.out).trans C1.out)) hHeld ?_
  try simp only [Act.put, List.setIfInBounds_toArray, List.set_cons_zero, List.set_cons_succ]
  refine wpAnyH_takeL (i := 12) (oi := _) (v := ?_) rfl (by kernel_rfl) (by kernel_rfl) (by kernel_rfl) (fun _ _ _ h => h) (Or.inl ⟨by rfl, ?_⟩) hHeld ?_
  rotate_left
  · (intro w' hSw; (try dsimp only at hSw); go_simp; try (with_reducible rfl))
  try simp only [Act.put, List.setIfInBounds_toArray, List.set_cons_zero, List.set_cons_succ]
  refine wpAnyH_takeL (i := 13) (oi := _) (v := ?_) rfl (by kernel_rfl) (by kernel_rfl) (by kernel_rfl) (fun _ _ _ h => h) (Or.inl ⟨by rfl, ?_⟩) hHeld ?_
  rotate_left
  · (intro w' hSw; (try dsimp only at hSw); go_simp; try (with_reducible rfl))
  try simp only [Act.put, List.setIfInBounds_toArray, List.set_cons_zero, List.set_cons_succ]
  refine wpAnyH_takeL (i := 14) (oi := _) (v := ?_) rfl (by kernel_rfl) (by kernel_rfl) (by kernel_rfl) (fun _ _ _ h => h) (Or.inl ⟨by rfl, ?_⟩) hHeld ?_
  rotate_left
  · (intro w' hSw; (try dsimp only at hSw); go_simp; try (with_reducible rfl))
  try simp only [Act.put, List.setIfInBounds_toArray, List.set_cons_zero, List.set_cons_succ]
  refine wpAnyH_takeL (i := 15) (oi := _) rfl (by kernel_rfl) (by kernel_rfl) (by kernel_rfl) (fun _ _ _ h => h) (yields_ldI (by rfl) _ rfl (by rfl) (fun _ hb => (hb.cell (p := ⟨b2, o2, none⟩) B2.out).trans C2.out)) hHeld ?_
  try simp only [Act.put, List.setIfInBounds_toArray, List.set_cons_zero, List.set_cons_succ]
  refine wpAnyH_takeL (i := 16) (oi := _) (v := ?_) rfl (by kernel_rfl) (by kernel_rfl) (by kernel_rfl) (fun _ _ _ h => h) (Or.inl ⟨by rfl, ?_⟩) hHeld ?_
  rotate_left
  · (intro w' hSw; (try dsimp only at hSw); go_simp; try (with_reducible rfl))
  try simp only [Act.put, List.setIfInBounds_toArray, List.set_cons_zero, List.set_cons_succ]
  refine wpAnyH_takeL (i := 17) (oi := _) (v := ?_) rfl (by kernel_rfl) (by kernel_rfl) (by kernel_rfl) (fun _ _ _ h => h) (Or.inl ⟨by rfl, ?_⟩) hHeld ?_
  rotate_left
  · (intro w' hSw; (try dsimp only at hSw); go_simp; try (with_reducible rfl))
  try simp only [Act.put, List.setIfInBounds_toArray, List.set_cons_zero, List.set_cons_succ]
  refine wpAnyH_takeL (i := 18) (oi := _) (v := ?_) rfl (by kernel_rfl) (by kernel_rfl) (by kernel_rfl) (fun _ _ _ h => h) (Or.inl ⟨by rfl, ?_⟩) hHeld ?_
  rotate_left
  · (intro w' hSw; (try dsimp only at hSw); go_simp; try (with_reducible rfl))
  try simp only [Act.put, List.setIfInBounds_toArray, List.set_cons_zero, List.set_cons_succ]
  refine wpAnyH_done (by kernel_rfl) ?_ _
  have cc : (w.drew).cell? ⟨b2, o2, none⟩ = some (.int .i64 y.1) := by rw [World.cell?_drew]; exact C2.out
  go_wp2_with fail
  refine ret_t rfl rfl rfl ?_
  exact ⟨rfl, HB.out⟩
set_option maxRecDepth 100000 in
set_option maxHeartbeats 16000000 in
theorem least_a {w : World} {A B : Option Addr} {c d : Nat} {ra rb : List (Int × Nt)} {x : Int × Nt} {ta : List (Int × Nt)} (ea : ra = x :: ta) (ha : Sl encE 4 w A c ra) (eb : rb = []) : Calls Tryz.prog 98 #[.slice A ra.length c, .slice B rb.length d] w fun e w' => e = .returned (.int .i64 x.1) ∧ Below w.heap.size w w' := by
  subst ea
  subst eb
  obtain ⟨b1, o1, rfl, hb1, hr1⟩ := (ha : Sl encE 4 w A c (x :: ta)).head
  have B1 := Lib.hid hb1
  have C1 : Hid (w.cell? ⟨b1, o1, none⟩ = some (.int .i64 x.1)) := hr1 0 _ rfl
  clear hb1 hr1
  obtain ⟨na, hna⟩ : ∃ n, ta.length + 1 = n := ⟨_, rfl⟩
  simp only [List.length_cons, hna]
  have p1 : 0 < na := by omega
  clear ha hna
  go_enter Tryz.func98, Tryz.ntmps98
  go_wp2_with fail
  have HB : Hid (Below w.heap.size w w.drew) := below_drewN _ w 1
  refine wp_region_held_drew (S := fun w' => Below w.heap.size w w') (by kernel_rfl) (HB.out) (fun hHeld => ?_)
  refine wpAnyH_takeL (i := 0) (oi := _) (v := ?_) rfl (by kernel_rfl) (by kernel_rfl) (by kernel_rfl) (fun _ _ _ h => h) (Or.inl ⟨by rfl, ?_⟩) hHeld ?_
  rotate_left
  · (intro w' hSw; (try dsimp only at hSw); go_simp; try (with_reducible rfl))
  try simp only [Act.put, List.setIfInBounds_toArray, List.set_cons_zero, List.set_cons_succ]
  refine wpAnyH_takeL (i := 1) (oi := _) (v := ?_) rfl (by kernel_rfl) (by kernel_rfl) (by kernel_rfl) (fun _ _ _ h => h) (Or.inl ⟨by rfl, ?_⟩) hHeld ?_
  rotate_left
  · (intro w' hSw; (try dsimp only at hSw); go_simp; try (with_reducible rfl))
  try simp only [Act.put, List.setIfInBounds_toArray, List.set_cons_zero, List.set_cons_succ]
  refine wpAnyH_takeL (i := 2) (oi := _) (v := ?_) rfl (by kernel_rfl) (by kernel_rfl) (by kernel_rfl) (fun _ _ _ h => h) (Or.inl ⟨by rfl, ?_⟩) hHeld ?_
  rotate_left
  · (intro w' hSw; (try dsimp only at hSw); go_simp; try (with_reducible rfl))
  try simp only [Act.put, List.setIfInBounds_toArray, List.set_cons_zero, List.set_cons_succ]
  refine wpAnyH_takeL (i := 3) (oi := _) (v := ?_) rfl (by kernel_rfl) (by kernel_rfl) (by kernel_rfl) (fun _ _ _ h => h) (Or.inl ⟨by rfl, ?_⟩) hHeld ?_
  rotate_left
  · (intro w' hSw; (try dsimp only at hSw); go_simp; try (with_reducible rfl))
  try simp only [Act.put, List.setIfInBounds_toArray, List.set_cons_zero, List.set_cons_succ]
  refine wpAnyH_takeL (i := 4) (oi := _) (v := undef) rfl (by kernel_rfl) (by kernel_rfl) (by kernel_rfl) (fun _ _ _ h => h) (Or.inr ⟨by rfl, rfl⟩) hHeld ?_
  try simp only [Act.put, List.setIfInBounds_toArray, List.set_cons_zero, List.set_cons_succ]
  refine wpAnyH_takeL (i := 5) (oi := _) (v := undef) rfl (by kernel_rfl) (by kernel_rfl) (by kernel_rfl) (fun _ _ _ h => h) (Or.inr ⟨by rfl, rfl⟩) hHeld ?_
  try simp only [Act.put, List.setIfInBounds_toArray, List.set_cons_zero, List.set_cons_succ]
  refine wpAnyH_takeL (i := 6) (oi := _) (v := undef) rfl (by kernel_rfl) (by kernel_rfl) (by kernel_rfl) (fun _ _ _ h => h) (Or.inr ⟨by rfl, rfl⟩) hHeld ?_
  try simp only [Act.put, List.setIfInBounds_toArray, List.set_cons_zero, List.set_cons_succ]
  refine wpAnyH_takeL (i := 7) (oi := _) (v := undef) rfl (by kernel_rfl) (by kernel_rfl) (by kernel_rfl) (fun _ _ _ h => h) (Or.inr ⟨by rfl, rfl⟩) hHeld ?_
  try simp only [Act.put, List.setIfInBounds_toArray, List.set_cons_zero, List.set_cons_succ]
  refine wpAnyH_takeL (i := 8) (oi := _) (v := undef) rfl (by kernel_rfl) (by kernel_rfl) (by kernel_rfl) (fun _ _ _ h => h) (Or.inr ⟨by rfl, rfl⟩) hHeld ?_
  try simp only [Act.put, List.setIfInBounds_toArray, List.set_cons_zero, List.set_cons_succ]
  refine wpAnyH_takeL (i := 9) (oi := _) (v := undef) rfl (by kernel_rfl) (by kernel_rfl) (by kernel_rfl) (fun _ _ _ h => h) (Or.inr ⟨by rfl, rfl⟩) hHeld ?_
  try simp only [Act.put, List.setIfInBounds_toArray, List.set_cons_zero, List.set_cons_succ]
  refine wpAnyH_takeL (i := 10) (oi := _) (v := undef) rfl (by kernel_rfl) (by kernel_rfl) (by kernel_rfl) (fun _ _ _ h => h) (Or.inr ⟨by rfl, rfl⟩) hHeld ?_
  try simp only [Act.put, List.setIfInBounds_toArray, List.set_cons_zero, List.set_cons_succ]
  refine wpAnyH_takeL (i := 11) (oi := _) (v := undef) rfl (by kernel_rfl) (by kernel_rfl) (by kernel_rfl) (fun _ _ _ h => h) (Or.inr ⟨by rfl, rfl⟩) hHeld ?_
  try simp only [Act.put, List.setIfInBounds_toArray, List.set_cons_zero, List.set_cons_succ]
  refine wpAnyH_takeL (i := 12) (oi := _) (v := undef) rfl (by kernel_rfl) (by kernel_rfl) (by kernel_rfl) (fun _ _ _ h => h) (Or.inr ⟨by rfl, rfl⟩) hHeld ?_
  try simp only [Act.put, List.setIfInBounds_toArray, List.set_cons_zero, List.set_cons_succ]
  refine wpAnyH_takeL (i := 13) (oi := _) (v := undef) rfl (by kernel_rfl) (by kernel_rfl) (by kernel_rfl) (fun _ _ _ h => h) (Or.inr ⟨by rfl, rfl⟩) hHeld ?_
  try simp only [Act.put, List.setIfInBounds_toArray, List.set_cons_zero, List.set_cons_succ]
  refine wpAnyH_takeL (i := 14) (oi := _) (v := undef) rfl (by kernel_rfl) (by kernel_rfl) (by kernel_rfl) (fun _ _ _ h => h) (Or.inr ⟨by rfl, rfl⟩) hHeld ?_
  try simp only [Act.put, List.setIfInBounds_toArray, List.set_cons_zero, List.set_cons_succ]
  refine wpAnyH_takeL (i := 15) (oi := _) (v := undef) rfl (by kernel_rfl) (by kernel_rfl) (by kernel_rfl) (fun _ _ _ h => h) (Or.inr ⟨by rfl, rfl⟩) hHeld ?_
  try simp only [Act.put, List.setIfInBounds_toArray, List.set_cons_zero, List.set_cons_succ]
  refine wpAnyH_takeL (i := 16) (oi := _) (v := undef) rfl (by kernel_rfl) (by kernel_rfl) (by kernel_rfl) (fun _ _ _ h => h) (Or.inr ⟨by rfl, rfl⟩) hHeld ?_
  try simp only [Act.put, List.setIfInBounds_toArray, List.set_cons_zero, List.set_cons_succ]
  refine wpAnyH_takeL (i := 17) (oi := _) (v := undef) rfl (by kernel_rfl) (by kernel_rfl) (by kernel_rfl) (fun _ _ _ h => h) (Or.inr ⟨by rfl, rfl⟩) hHeld ?_
  try simp only [Act.put, List.setIfInBounds_toArray, List.set_cons_zero, List.set_cons_succ]
  refine wpAnyH_takeL (i := 18) (oi := _) (v := ?_) rfl (by kernel_rfl) (by kernel_rfl) (by kernel_rfl) (fun _ _ _ h => h) (Or.inl ⟨by rfl, ?_⟩) hHeld ?_
  rotate_left
  · (intro w' hSw; (try dsimp only at hSw); go_simp; try (with_reducible rfl))
  try simp only [Act.put, List.setIfInBounds_toArray, List.set_cons_zero, List.set_cons_succ]
  refine wpAnyH_done (by kernel_rfl) ?_ _
  have cc : (w.drew).cell? ⟨b1, o1, none⟩ = some (.int .i64 x.1) := by rw [World.cell?_drew]; exact C1.out
  go_wp2_with fail
  refine ret_t rfl rfl rfl ?_
  exact ⟨rfl, HB.out⟩
set_option maxRecDepth 100000 in
set_option maxHeartbeats 16000000 in
theorem least_b {w : World} {A B : Option Addr} {c d : Nat} {ra rb : List (Int × Nt)} {y : Int × Nt} {tb : List (Int × Nt)} (eb : rb = y :: tb) (hb : Sl encE 4 w B d rb) (ea : ra = []) : Calls Tryz.prog 98 #[.slice A ra.length c, .slice B rb.length d] w fun e w' => e = .returned (.int .i64 y.1) ∧ Below w.heap.size w w' := by
  subst ea
  subst eb
  obtain ⟨b2, o2, rfl, hb2, hr2⟩ := (hb : Sl encE 4 w B d (y :: tb)).head
  have B2 := Lib.hid hb2
  have C2 : Hid (w.cell? ⟨b2, o2, none⟩ = some (.int .i64 y.1)) := hr2 0 _ rfl
  clear hb2 hr2
  obtain ⟨nb, hnb⟩ : ∃ n, tb.length + 1 = n := ⟨_, rfl⟩
  simp only [List.length_cons, hnb]
  have p2 : 0 < nb := by omega
  clear hb hnb
  go_enter Tryz.func98, Tryz.ntmps98
  go_wp2_with fail
  have HB : Hid (Below w.heap.size w w.drew) := below_drewN _ w 1
  refine wp_region_held_drew (S := fun w' => Below w.heap.size w w') (by kernel_rfl) (HB.out) (fun hHeld => ?_)
  refine wpAnyH_takeL (i := 0) (oi := _) (v := ?_) rfl (by kernel_rfl) (by kernel_rfl) (by kernel_rfl) (fun _ _ _ h => h) (Or.inl ⟨by rfl, ?_⟩) hHeld ?_
  rotate_left
  · (intro w' hSw; (try dsimp only at hSw); go_simp; try (with_reducible rfl))
  try simp only [Act.put, List.setIfInBounds_toArray, List.set_cons_zero, List.set_cons_succ]
  refine wpAnyH_takeL (i := 1) (oi := _) (v := ?_) rfl (by kernel_rfl) (by kernel_rfl) (by kernel_rfl) (fun _ _ _ h => h) (Or.inl ⟨by rfl, ?_⟩) hHeld ?_
  rotate_left
  · (intro w' hSw; (try dsimp only at hSw); go_simp; try (with_reducible rfl))
  try simp only [Act.put, List.setIfInBounds_toArray, List.set_cons_zero, List.set_cons_succ]
  refine wpAnyH_takeL (i := 2) (oi := _) (v := ?_) rfl (by kernel_rfl) (by kernel_rfl) (by kernel_rfl) (fun _ _ _ h => h) (Or.inl ⟨by rfl, ?_⟩) hHeld ?_
  rotate_left
  · (intro w' hSw; (try dsimp only at hSw); go_simp; try (with_reducible rfl))
  try simp only [Act.put, List.setIfInBounds_toArray, List.set_cons_zero, List.set_cons_succ]
  rw [beq_false_of_ne (show (nb : Int) ≠ 0 by omega)]
  refine wpAnyH_takeL (i := 3) (oi := _) (v := ?_) rfl (by kernel_rfl) (by kernel_rfl) (by kernel_rfl) (fun _ _ _ h => h) (Or.inl ⟨by rfl, ?_⟩) hHeld ?_
  rotate_left
  · (intro w' hSw; (try dsimp only at hSw); go_simp; try (with_reducible rfl))
  try simp only [Act.put, List.setIfInBounds_toArray, List.set_cons_zero, List.set_cons_succ]
  refine wpAnyH_takeL (i := 4) (oi := _) (v := ?_) rfl (by kernel_rfl) (by kernel_rfl) (by kernel_rfl) (fun _ _ _ h => h) (Or.inl ⟨by rfl, ?_⟩) hHeld ?_
  rotate_left
  · (intro w' hSw; (try dsimp only at hSw); go_simp; try (with_reducible rfl))
  try simp only [Act.put, List.setIfInBounds_toArray, List.set_cons_zero, List.set_cons_succ]
  refine wpAnyH_takeL (i := 5) (oi := _) (v := ?_) rfl (by kernel_rfl) (by kernel_rfl) (by kernel_rfl) (fun _ _ _ h => h) (Or.inl ⟨by rfl, ?_⟩) hHeld ?_
  rotate_left
  · (intro w' hSw; (try dsimp only at hSw); go_simp; try (with_reducible rfl))
  try simp only [Act.put, List.setIfInBounds_toArray, List.set_cons_zero, List.set_cons_succ]
  refine wpAnyH_takeL (i := 6) (oi := _) (v := ?_) rfl (by kernel_rfl) (by kernel_rfl) (by kernel_rfl) (fun _ _ _ h => h) (Or.inl ⟨by rfl, ?_⟩) hHeld ?_
  rotate_left
  · (intro w' hSw; (try dsimp only at hSw); go_simp; try (with_reducible rfl))
  try simp only [Act.put, List.setIfInBounds_toArray, List.set_cons_zero, List.set_cons_succ]
  refine wpAnyH_takeL (i := 7) (oi := _) (v := ?_) rfl (by kernel_rfl) (by kernel_rfl) (by kernel_rfl) (fun _ _ _ h => h) (Or.inl ⟨by rfl, ?_⟩) hHeld ?_
  rotate_left
  · (intro w' hSw; (try dsimp only at hSw); go_simp; try (with_reducible rfl))
  try simp only [Act.put, List.setIfInBounds_toArray, List.set_cons_zero, List.set_cons_succ]
  refine wpAnyH_takeL (i := 8) (oi := _) (v := undef) rfl (by kernel_rfl) (by kernel_rfl) (by kernel_rfl) (fun _ _ _ h => h) (Or.inr ⟨by rfl, rfl⟩) hHeld ?_
  try simp only [Act.put, List.setIfInBounds_toArray, List.set_cons_zero, List.set_cons_succ]
  refine wpAnyH_takeL (i := 9) (oi := _) (v := undef) rfl (by kernel_rfl) (by kernel_rfl) (by kernel_rfl) (fun _ _ _ h => h) (Or.inr ⟨by rfl, rfl⟩) hHeld ?_
  try simp only [Act.put, List.setIfInBounds_toArray, List.set_cons_zero, List.set_cons_succ]
  refine wpAnyH_takeL (i := 10) (oi := _) (v := undef) rfl (by kernel_rfl) (by kernel_rfl) (by kernel_rfl) (fun _ _ _ h => h) (Or.inr ⟨by rfl, rfl⟩) hHeld ?_
  try simp only [Act.put, List.setIfInBounds_toArray, List.set_cons_zero, List.set_cons_succ]
  refine wpAnyH_takeL (i := 11) (oi := _) (v := undef) rfl (by kernel_rfl) (by kernel_rfl) (by kernel_rfl) (fun _ _ _ h => h) (Or.inr ⟨by rfl, rfl⟩) hHeld ?_
  try simp only [Act.put, List.setIfInBounds_toArray, List.set_cons_zero, List.set_cons_succ]
  refine wpAnyH_takeL (i := 12) (oi := _) (v := undef) rfl (by kernel_rfl) (by kernel_rfl) (by kernel_rfl) (fun _ _ _ h => h) (Or.inr ⟨by rfl, rfl⟩) hHeld ?_
  try simp only [Act.put, List.setIfInBounds_toArray, List.set_cons_zero, List.set_cons_succ]
  refine wpAnyH_takeL (i := 13) (oi := _) (v := undef) rfl (by kernel_rfl) (by kernel_rfl) (by kernel_rfl) (fun _ _ _ h => h) (Or.inr ⟨by rfl, rfl⟩) hHeld ?_
  try simp only [Act.put, List.setIfInBounds_toArray, List.set_cons_zero, List.set_cons_succ]
  refine wpAnyH_takeL (i := 14) (oi := _) (v := undef) rfl (by kernel_rfl) (by kernel_rfl) (by kernel_rfl) (fun _ _ _ h => h) (Or.inr ⟨by rfl, rfl⟩) hHeld ?_
  try simp only [Act.put, List.setIfInBounds_toArray, List.set_cons_zero, List.set_cons_succ]
  refine wpAnyH_takeL (i := 15) (oi := _) (v := undef) rfl (by kernel_rfl) (by kernel_rfl) (by kernel_rfl) (fun _ _ _ h => h) (Or.inr ⟨by rfl, rfl⟩) hHeld ?_
  try simp only [Act.put, List.setIfInBounds_toArray, List.set_cons_zero, List.set_cons_succ]
  refine wpAnyH_takeL (i := 16) (oi := _) (v := undef) rfl (by kernel_rfl) (by kernel_rfl) (by kernel_rfl) (fun _ _ _ h => h) (Or.inr ⟨by rfl, rfl⟩) hHeld ?_
  try simp only [Act.put, List.setIfInBounds_toArray, List.set_cons_zero, List.set_cons_succ]
  refine wpAnyH_takeL (i := 17) (oi := _) (v := ?_) rfl (by kernel_rfl) (by kernel_rfl) (by kernel_rfl) (fun _ _ _ h => h) (Or.inl ⟨by rfl, ?_⟩) hHeld ?_
  rotate_left
  · (intro w' hSw; (try dsimp only at hSw); go_simp; try (with_reducible rfl))
  try simp only [Act.put, List.setIfInBounds_toArray, List.set_cons_zero, List.set_cons_succ]
  refine wpAnyH_takeL (i := 18) (oi := _) (v := ?_) rfl (by kernel_rfl) (by kernel_rfl) (by kernel_rfl) (fun _ _ _ h => h) (Or.inl ⟨by rfl, ?_⟩) hHeld ?_
  rotate_left
  · (intro w' hSw; (try dsimp only at hSw); go_simp; try (with_reducible rfl))
  try simp only [Act.put, List.setIfInBounds_toArray, List.set_cons_zero, List.set_cons_succ]
  refine wpAnyH_done (by kernel_rfl) ?_ _
  have cc : (w.drew).cell? ⟨b2, o2, none⟩ = some (.int .i64 y.1) := by rw [World.cell?_drew]; exact C2.out
  go_wp2_with fail
  refine ret_t rfl rfl rfl ?_
  exact ⟨rfl, HB.out⟩
set_option maxRecDepth 100000 in
set_option maxHeartbeats 16000000 in
theorem take_nil {w : World} {A : Option Addr} {c : Nat} {i : Int} {rs : List (Int × Nt)} (e : rs = []) : Calls Tryz.prog 46 #[.slice A rs.length c, .int .i64 i] w fun e w' => e = .returned (.tuple #[.agg #[.bool false, .slice none 0 0, .slice none 0 0], .slice A rs.length c]) ∧ Below w.heap.size w w' := by
  obtain ⟨B1, V0⟩ := start_R0 w
  subst e
  go_enter Tryz.func46, Tryz.ntmps46
  have pc0 := Lib.hid trivial
  go_wp2_with (first
    | (clear pc0; generalize (w.alloc (.cells #[.bool false, .slice none 0 0, .slice none 0 0] 29)) = w2 at *; refine wpList_stR (by rfl) _ _ rfl (by rfl) (by rfl) V0.out ?_; intro w5 hz hg; have tx := V0.out.tx; replace B1 := Lib.hid (Below.gr B1.out (Nat.le_refl _) hg B1.out.size); clear tx; replace V0 := Lib.hid hz; clear hz hg; have pc1 := Lib.hid trivial))
  clear pc1
  refine ret_rt rfl rfl rfl rfl V0.out ⟨rfl, B1.out⟩
set_option maxRecDepth 100000 in
set_option maxHeartbeats 16000000 in
theorem take_miss {w : World} {A : Option Addr} {c : Nat} {i : Int} {rs : List (Int × Nt)} {x : Int × Nt} {t : List (Int × Nt)} (e : rs = x :: t) (h : Sl encE 4 w A c rs) (hi : x.1 ≠ i) : Calls Tryz.prog 46 #[.slice A rs.length c, .int .i64 i] w fun e w' => e = .returned (.tuple #[.agg #[.bool false, .slice none 0 0, .slice none 0 0], .slice A rs.length c]) ∧ Below w.heap.size w w' := by
  obtain ⟨B1, V0⟩ := start_R0 w
  subst e
  obtain ⟨b, o, rfl, hb, hr⟩ := h.head
  obtain ⟨n, hn⟩ : ∃ n, t.length + 1 = n := ⟨_, rfl⟩
  have LT := Lib.hid hb
  have R0 := Lib.hid hr
  have c0 : (w.alloc (.cells #[.bool false, .slice none 0 0, .slice none 0 0] 29)).cell? ⟨b, o, none⟩ = some (.int .i64 x.1) := (B1.out.cell (p := ⟨b, o, none⟩) hb).trans (hr 0 _ rfl)
  have p1 : 0 < n := by omega
  have e1 : ((n : Int) == 0) = false := beq_false_of_ne (by omega)
  simp only [List.length_cons, hn]
  have e2 : (x.1 != i) = true := bne_iff_ne.2 hi
  clear hr hb h hn
  go_enter Tryz.func46, Tryz.ntmps46
  have pc0 := Lib.hid trivial
  go_wp2_with (first
    | (clear pc0; generalize (w.alloc (.cells #[.bool false, .slice none 0 0, .slice none 0 0] 29)) = w2 at *; refine wpList_stR (by rfl) _ _ rfl (by rfl) (by rfl) V0.out ?_; intro w5 hz hg; have tx := V0.out.tx; replace B1 := Lib.hid (Below.gr B1.out (Nat.le_refl _) hg B1.out.size); clear tx; replace V0 := Lib.hid hz; clear hz hg; have pc1 := Lib.hid trivial))
  clear pc1
  refine ret_rt rfl rfl rfl rfl V0.out ⟨rfl, B1.out⟩
set_option maxRecDepth 100000 in
set_option maxHeartbeats 16000000 in
theorem take_hit {w : World} {A : Option Addr} {c : Nat} {i : Int} {rs : List (Int × Nt)} {x : Nt} {t : List (Int × Nt)} (e : rs = (i, x) :: t) (h : Sl encE 4 w A c rs) : Calls Tryz.prog 46 #[.slice A rs.length c, .int .i64 i] w fun e w' => e = .returned (.tuple #[.agg #[.bool x.s, .slice x.A x.n x.c, .slice x.D x.m x.k], .slice (if c = 1 then A else A.map (·.add (1 * 4))) t.length (c - 1)]) ∧ Below w.heap.size w w' := by
  obtain ⟨B1, V0⟩ := start_R0 w
  subst e
  obtain ⟨b, o, rfl, hb, hr⟩ := h.head
  obtain ⟨n, hn⟩ : ∃ n, t.length + 1 = n := ⟨_, rfl⟩
  have LT := Lib.hid hb
  have R0 := Lib.hid hr
  have c0 : (w.alloc (.cells #[.bool false, .slice none 0 0, .slice none 0 0] 29)).cell? ⟨b, o, none⟩ = some (.int .i64 i) := (B1.out.cell (p := ⟨b, o, none⟩) hb).trans (hr 0 _ rfl)
  have p1 : 0 < n := by omega
  have e1 : ((n : Int) == 0) = false := beq_false_of_ne (by omega)
  have hc : 1 ≤ c := by have := h.1; simp at this; omega
  have NE1 : Hid (b ≠ w.heap.size) := by intro e; omega
  have R1 : Hid ((w.alloc (.cells #[.bool false, .slice none 0 0, .slice none 0 0] 29)).rangeAt b (o + 1) [.bool x.s, .slice x.A x.n x.c, .slice x.D x.m x.k]) := fun j u hj => by
    have := hr (1 + j) u (by rw [Nat.add_comm]; exact hj)
    rw [← Nat.add_assoc] at this
    exact (B1.out.cell (p := ⟨b, o + 1 + j, none⟩) hb).trans this
  have tl : n - 1 = t.length := by omega
  have p2 : (1 : Int) ≤ (n : Int) := by omega
  simp only [List.length_cons, hn, Option.map_some, Addr.add_mid, Nat.one_mul]
  rw [← tl]
  clear hr hb h hn
  go_enter Tryz.func46, Tryz.ntmps46
  go_wp2_with fail
  generalize (w.alloc (.cells #[.bool false, .slice none 0 0, .slice none 0 0] 29)) = w2 at *
  have HB : Hid (Below w2.heap.size w2 w2.drew) := below_drewN _ w2 1
  refine wp_region_held_drew (S := fun w' => w2.grownBy w' (some (w.heap.size))) (by kernel_rfl) ((grown_below HB.out : World.grownBy _ _ (some (w.heap.size)))) (fun hHeld => ?_)
  refine wpAnyH_takeL (i := 0) (oi := _) (v := ?_) rfl (by kernel_rfl) (by kernel_rfl) (by kernel_rfl) (fun _ _ _ h => h) (Or.inl ⟨by rfl, ?_⟩) hHeld ?_
  rotate_left
  · (intro w' hSw; (try dsimp only at hSw); go_simp; try (with_reducible rfl))
  try simp only [Act.put, List.setIfInBounds_toArray, List.set_cons_zero, List.set_cons_succ]
  refine wpAnyH_takeL (i := 1) (oi := _) (v := ?_) rfl (by kernel_rfl) (by kernel_rfl) (by kernel_rfl) (fun _ _ _ h => h) (Or.inl ⟨by rfl, ?_⟩) hHeld ?_
  rotate_left
  · (intro w' hSw; (try dsimp only at hSw); go_simp; try (with_reducible rfl))
  try simp only [Act.put, List.setIfInBounds_toArray, List.set_cons_zero, List.set_cons_succ]
  refine wpAnyH_takeL (i := 2) (oi := _) (v := ?_) rfl (by kernel_rfl) (by kernel_rfl) (by kernel_rfl) (fun _ _ _ h => h) (Or.inl ⟨by rfl, ?_⟩) hHeld ?_
  rotate_left
  · (intro w' hSw; (try dsimp only at hSw); go_simp; try (with_reducible rfl))
  try simp only [Act.put, List.setIfInBounds_toArray, List.set_cons_zero, List.set_cons_succ]
  refine wpAnyH_takeL (i := 3) (oi := _) rfl (by kernel_rfl) (by kernel_rfl) (by kernel_rfl) (fun _ _ _ h => h) (yields_ld3 (by rfl) _ rfl (by rfl) (fun _ hb => range_gro R1.out hb NE1.out)) hHeld ?_
  try simp only [Act.put, List.setIfInBounds_toArray, List.set_cons_zero, List.set_cons_succ]
  refine wpAnyH_takeL (i := 4) (oi := _) (v := ?_) rfl (by kernel_rfl) (by kernel_rfl) (by kernel_rfl) (fun _ _ _ h => h) (Or.inl ⟨by rfl, ?_⟩) hHeld ?_
  rotate_left
  · (intro w' hSw; (try dsimp only at hSw); go_simp; try (with_reducible rfl))
  try simp only [Act.put, List.setIfInBounds_toArray, List.set_cons_zero, List.set_cons_succ]
  refine wpAnyH_takeL (i := 5) (oi := _) (v := ?_) rfl (by kernel_rfl) (by kernel_rfl) (by kernel_rfl) (fun _ _ _ h => h) (Or.inl ⟨by rfl, ?_⟩) hHeld ?_
  rotate_left
  · (intro w' hSw; (try dsimp only at hSw); go_simp; try (with_reducible rfl))
  try simp only [Act.put, List.setIfInBounds_toArray, List.set_cons_zero, List.set_cons_succ]
  refine wpAnyH_ready (rs := [6]) (by kernel_rfl) (by simp) ?_
  refine AllReadyH.consL (o := _) rfl (fun K hK => ?_) AllReadyH.nil
  clear hHeld
  have hb := HB.out
  replace V0 := Lib.hid (V0.out.below hb V0.out.lt)
  replace B1 := Lib.hid (B1.out.trans (hb.mono B1.out.size))
  rw [if_pos (by rfl)]
  refine wp_stR _ _ rfl (by rfl) (by rfl) V0.out ?_
  intro w5 hz hg
  have tx := V0.out.tx
  replace B1 := Lib.hid (Below.gr B1.out (Nat.le_refl _) hg B1.out.size)
  clear tx
  replace V0 := Lib.hid hz
  refine hK.out _ _ (World.grownBy.trans (grown_below hb) hg) (fun hHeld => ?_)
  clear hK K hg hb HB hz
  try simp only [Act.put]
  refine wpAnyH_takeL (i := 7) (oi := _) (v := ?_) rfl (by kernel_rfl) (by kernel_rfl) (by kernel_rfl) (fun _ _ _ h => h) (Or.inl ⟨by rfl, ?_⟩) hHeld ?_
  rotate_left
  · (intro w' hSw; (try dsimp only at hSw); go_simp; try (with_reducible rfl))
  try simp only [Act.put, List.setIfInBounds_toArray, List.set_cons_zero, List.set_cons_succ]
  refine wpAnyH_done (by kernel_rfl) ?_ _
  go_wp2_with fail
  all_goals refine ret_rt rfl rfl rfl rfl V0.out ⟨?_, B1.out⟩
  all_goals simp [*]
end Go.Proofs.YtfacndibfkamgaaGreat

/-
  Contract of package vector: product; what an operation on components gives.
-/
namespace Go.Proofs.YtfacndibfkamgaaGreat
open Go.RowKit
set_option linter.unusedVariables false

/-- What an operation on components gives: a number, in lowest terms unless it is 0. -/
def Opd (M : Nat) (q : Rat) (w : World) (e : Ending) (w' : World) : Prop := ∃ r : Nt, e = .returned (.agg #[.bool r.s, .slice r.A r.n r.c, .slice r.D r.m r.k]) ∧ Nok w' r M ∧ r.q = q ∧ (q ≠ 0 → Nown w' r) ∧ Below w.heap.size w w'
theorem Opd.give {M : Nat} {q : Rat} {w w' : World} {P Q : Option Addr} {c k : Nat} (h1 : Own w' 0 P c (ofv q.num.natAbs)) (h2 : Own w' 0 Q k (ofv q.den)) (hl : RL q M) (hb : Below w.heap.size w w') : Opd M q w (.returned (.agg #[.bool (decide (q.num < 0)), .slice P (ofv q.num.natAbs).length c, .slice Q (ofv q.den).length k])) w' :=
  ⟨mkN q.num q.den P c Q k, rfl, (nown_mk h1 h2).can.ok (by rw [q_mk]; exact hl), q_mk _ _ _ _ _, fun _ => nown_mk h1 h2, hb⟩
theorem Opd.zero {M : Nat} {w w' : World} (hb : Below w.heap.size w w') : Opd M 0 w (.returned (.agg #[.bool false, .slice none 0 0, .slice none 0 0])) w' :=
  ⟨⟨false, none, 0, 0, none, 0, 0, 0, 0⟩, rfl, ⟨⟨[], Rd.nil _ _, rfl, rfl⟩, ⟨[], Rd.nil _ _, rfl, rfl⟩, Nat.zero_le _, Nat.zero_le _⟩, by rfl, fun h => absurd rfl h, hb⟩
theorem start_VP (w : World) (s0 : Bool) (A0 : Option Addr) (n0 c0 : Nat) (D0 : Option Addr) (m0 k0 : Nat) (s1 : Bool) (A1 : Option Addr) (n1 c1 : Nat) (D1 : Option Addr) (m1 k1 : Nat) :
    Hid (Below w.heap.size w (((w.alloc (.cells #[.bool s0, .slice A0 n0 c0, .slice D0 m0 k0] 29)).alloc (.cells #[.bool s1, .slice A1 n1 c1, .slice D1 m1 k1] 29)).alloc (.cells #[.bool false, .slice none 0 0, .slice none 0 0] 29))) ∧ Hid (Rb (((w.alloc (.cells #[.bool s0, .slice A0 n0 c0, .slice D0 m0 k0] 29)).alloc (.cells #[.bool s1, .slice A1 n1 c1, .slice D1 m1 k1] 29)).alloc (.cells #[.bool false, .slice none 0 0, .slice none 0 0] 29)) (w.heap.size) s0 A0 n0 c0 D0 m0 k0) ∧ Hid (Rb (((w.alloc (.cells #[.bool s0, .slice A0 n0 c0, .slice D0 m0 k0] 29)).alloc (.cells #[.bool s1, .slice A1 n1 c1, .slice D1 m1 k1] 29)).alloc (.cells #[.bool false, .slice none 0 0, .slice none 0 0] 29)) (w.heap.size + 1) s1 A1 n1 c1 D1 m1 k1) ∧ Hid (Rb (((w.alloc (.cells #[.bool s0, .slice A0 n0 c0, .slice D0 m0 k0] 29)).alloc (.cells #[.bool s1, .slice A1 n1 c1, .slice D1 m1 k1] 29)).alloc (.cells #[.bool false, .slice none 0 0, .slice none 0 0] 29)) (w.heap.size + 2) false none 0 0 none 0 0) := by
  refine ⟨?_, ?_, ?_, ?_⟩
  · exact ((((Below.refl _ _).alloc (by first | exact Nat.le_refl _ | (simp; done) | (simp; omega)) _).alloc (by first | exact Nat.le_refl _ | (simp; done) | (simp; omega)) _).alloc (by first | exact Nat.le_refl _ | (simp; done) | (simp; omega)) _)
  · have := Rb.new w s0 A0 n0 c0 D0 m0 k0
    exact ((this.alloc _).alloc _)
  · have := Rb.new (w.alloc (.cells #[.bool s0, .slice A0 n0 c0, .slice D0 m0 k0] 29)) s1 A1 n1 c1 D1 m1 k1
    simp only [World.size_alloc] at this
    exact (this.alloc _)
  · have := Rb.new ((w.alloc (.cells #[.bool s0, .slice A0 n0 c0, .slice D0 m0 k0] 29)).alloc (.cells #[.bool s1, .slice A1 n1 c1, .slice D1 m1 k1] 29)) false none 0 0 none 0 0
    simp only [World.size_alloc] at this
    exact this
set_option maxRecDepth 100000 in
set_option maxHeartbeats 16000000 in
theorem product_x0 {w : World} {L : Nat} {s t : Bool} {A D B E : Option Addr} {n c m k n2 c2 m2 k2 : Nat} {x y : Int} {p q : Nat} (h : Zin w s A n c x) (hp : Nin w D m k p) (h' : Zin w t B n2 c2 y) (hq : Nin w E m2 k2 q) (hn : n ≤ L) (hm : m ≤ L) (hn2 : n2 ≤ L) (hm2 : m2 ≤ L) (hL : 1 ≤ L ∧ L ≤ 35184372088829) (hx : mkRat x p = 0) : Calls Tryz.prog 60 #[.agg #[.bool s, .slice A n c, .slice D m k], .agg #[.bool t, .slice B n2 c2, .slice E m2 k2]] w (Opd (L + L) (mkRat x p * mkRat y q) w) := by
  obtain ⟨B1, V0, V1, V2⟩ := start_VP w s A n c D m k t B n2 c2 E m2 k2
  have HX := Lib.hid (h.below B1.out)
  have HP := Lib.hid (hp.below B1.out)
  have HY := Lib.hid (h'.below B1.out)
  have HQ := Lib.hid (hq.below B1.out)
  have LN := Lib.hid hn
  have LM := Lib.hid hm
  have LN2 := Lib.hid hn2
  have LM2 := Lib.hid hm2
  have LL := Lib.hid hL
  have LS : Hid (1 ≤ L ∧ L ≤ 70368744177660) := by show _ ∧ _; omega
  have SX : Hid (sgR (mkRat x p) = 0) := (sgR_nil _).2 hx
  have EZ : Hid (mkRat x p * mkRat y q = 0) := by show _ = _; rw [hx, Rat.zero_mul]
  clear h hp h' hq hn hm hn2 hm2 hL
  go_enter Tryz.func60, Tryz.ntmps60
  have pc0 := Lib.hid trivial
  go_wp2_with (first
    | (clear pc0; generalize (((w.alloc (.cells #[.bool s, .slice A n c, .slice D m k] 29)).alloc (.cells #[.bool t, .slice B n2 c2, .slice E m2 k2] 29)).alloc (.cells #[.bool false, .slice none 0 0, .slice none 0 0] 29)) = w2 at *; refine wpList_ldR (by rfl) _ rfl (by rfl) V0.out ?_; have pc1 := Lib.hid trivial)
    | (clear pc1; go_at_call 52; refine Calls.mono (qsign_any HX.out HP.out LN.out LM.out LS.out SX.out) ?_; rintro e w3 ⟨rfl, hb⟩; replace V0 := Lib.hid (V0.out.below hb V0.out.lt); replace V1 := Lib.hid (V1.out.below hb V1.out.lt); replace V2 := Lib.hid (V2.out.below hb V2.out.lt); replace HX := Lib.hid (HX.out.below hb); replace HP := Lib.hid (HP.out.below hb); replace HY := Lib.hid (HY.out.below hb); replace HQ := Lib.hid (HQ.out.below hb); replace B1 := Lib.hid (B1.out.trans (hb.mono B1.out.size)); clear hb; have pc2 := Lib.hid trivial)
    | (clear pc2; refine wpList_stR (by rfl) _ _ rfl (by rfl) (by rfl) V2.out ?_; intro w6 hz hg; have tx := V2.out.tx; replace V0 := Lib.hid (V0.out.gro hg (by omega)); replace V1 := Lib.hid (V1.out.gro hg (by omega)); clear HX; clear HP; clear HY; clear HQ; replace B1 := Lib.hid (Below.gr B1.out (by omega) hg B1.out.size); clear tx; replace V2 := Lib.hid hz; clear hz hg; have pc3 := Lib.hid trivial))
  clear pc3
  exact ret_rb Tryz.results60 rfl rfl V2.out (by rw [EZ.out]; exact Opd.zero B1.out)
set_option maxRecDepth 100000 in
set_option maxHeartbeats 16000000 in
theorem product_y0 {w : World} {L : Nat} {s t : Bool} {A D B E : Option Addr} {n c m k n2 c2 m2 k2 : Nat} {x y : Int} {p q : Nat} (h : Zin w s A n c x) (hp : Nin w D m k p) (h' : Zin w t B n2 c2 y) (hq : Nin w E m2 k2 q) (hn : n ≤ L) (hm : m ≤ L) (hn2 : n2 ≤ L) (hm2 : m2 ≤ L) (hL : 1 ≤ L ∧ L ≤ 35184372088829) (hx : mkRat x p ≠ 0) (hy : mkRat y q = 0) : Calls Tryz.prog 60 #[.agg #[.bool s, .slice A n c, .slice D m k], .agg #[.bool t, .slice B n2 c2, .slice E m2 k2]] w (Opd (L + L) (mkRat x p * mkRat y q) w) := by
  obtain ⟨B1, V0, V1, V2⟩ := start_VP w s A n c D m k t B n2 c2 E m2 k2
  have HX := Lib.hid (h.below B1.out)
  have HP := Lib.hid (hp.below B1.out)
  have HY := Lib.hid (h'.below B1.out)
  have HQ := Lib.hid (hq.below B1.out)
  have LN := Lib.hid hn
  have LM := Lib.hid hm
  have LN2 := Lib.hid hn2
  have LM2 := Lib.hid hm2
  have LL := Lib.hid hL
  have LS : Hid (1 ≤ L ∧ L ≤ 70368744177660) := by show _ ∧ _; omega
  obtain ⟨sx, hsx⟩ : ∃ z, sgR (mkRat x p) = z := ⟨_, rfl⟩
  have e1 : (sx == 0) = false := beq_false_of_ne fun e => hx ((sgR_nil _).1 (hsx.trans e))
  have SX := Lib.hid hsx
  have SY : Hid (sgR (mkRat y q) = 0) := (sgR_nil _).2 hy
  have EZ : Hid (mkRat x p * mkRat y q = 0) := by show _ = _; rw [hy, Rat.mul_zero]
  clear h hp h' hq hn hm hn2 hm2 hL hsx
  go_enter Tryz.func60, Tryz.ntmps60
  have pc0 := Lib.hid trivial
  go_wp2_with (first
    | (clear pc0; generalize (((w.alloc (.cells #[.bool s, .slice A n c, .slice D m k] 29)).alloc (.cells #[.bool t, .slice B n2 c2, .slice E m2 k2] 29)).alloc (.cells #[.bool false, .slice none 0 0, .slice none 0 0] 29)) = w2 at *; refine wpList_ldR (by rfl) _ rfl (by rfl) V0.out ?_; have pc1 := Lib.hid trivial)
    | (clear pc1; go_at_call 52; refine Calls.mono (qsign_any HX.out HP.out LN.out LM.out LS.out SX.out) ?_; rintro e w3 ⟨rfl, hb⟩; replace V0 := Lib.hid (V0.out.below hb V0.out.lt); replace V1 := Lib.hid (V1.out.below hb V1.out.lt); replace V2 := Lib.hid (V2.out.below hb V2.out.lt); replace HX := Lib.hid (HX.out.below hb); replace HP := Lib.hid (HP.out.below hb); replace HY := Lib.hid (HY.out.below hb); replace HQ := Lib.hid (HQ.out.below hb); replace B1 := Lib.hid (B1.out.trans (hb.mono B1.out.size)); clear hb; have pc2 := Lib.hid trivial)
    | (clear pc2; refine wpList_ldR (by rfl) _ rfl (by rfl) V1.out ?_; have pc3 := Lib.hid trivial)
    | (clear pc3; go_at_call 52; refine Calls.mono (qsign_any HY.out HQ.out LN2.out LM2.out LS.out SY.out) ?_; rintro e w4 ⟨rfl, hb⟩; replace V0 := Lib.hid (V0.out.below hb V0.out.lt); replace V1 := Lib.hid (V1.out.below hb V1.out.lt); replace V2 := Lib.hid (V2.out.below hb V2.out.lt); replace HX := Lib.hid (HX.out.below hb); replace HP := Lib.hid (HP.out.below hb); replace HY := Lib.hid (HY.out.below hb); replace HQ := Lib.hid (HQ.out.below hb); replace B1 := Lib.hid (B1.out.trans (hb.mono B1.out.size)); clear hb; have pc4 := Lib.hid trivial)
    | (clear pc4; refine wpList_stR (by rfl) _ _ rfl (by rfl) (by rfl) V2.out ?_; intro w6 hz hg; have tx := V2.out.tx; replace V0 := Lib.hid (V0.out.gro hg (by omega)); replace V1 := Lib.hid (V1.out.gro hg (by omega)); clear HX; clear HP; clear HY; clear HQ; replace B1 := Lib.hid (Below.gr B1.out (by omega) hg B1.out.size); clear tx; replace V2 := Lib.hid hz; clear hz hg; have pc5 := Lib.hid trivial))
  clear pc5
  exact ret_rb Tryz.results60 rfl rfl V2.out (by rw [EZ.out]; exact Opd.zero B1.out)
set_option maxRecDepth 100000 in
set_option maxHeartbeats 16000000 in
theorem product_xy {w : World} {L : Nat} {s t : Bool} {A D B E : Option Addr} {n c m k n2 c2 m2 k2 : Nat} {x y : Int} {p q : Nat} (h : Zin w s A n c x) (hp : Nin w D m k p) (h' : Zin w t B n2 c2 y) (hq : Nin w E m2 k2 q) (hn : n ≤ L) (hm : m ≤ L) (hn2 : n2 ≤ L) (hm2 : m2 ≤ L) (hL : 1 ≤ L ∧ L ≤ 35184372088829) (hx : mkRat x p ≠ 0) (hy : mkRat y q ≠ 0) : Calls Tryz.prog 60 #[.agg #[.bool s, .slice A n c, .slice D m k], .agg #[.bool t, .slice B n2 c2, .slice E m2 k2]] w (Opd (L + L) (mkRat x p * mkRat y q) w) := by
  obtain ⟨B1, V0, V1, V2⟩ := start_VP w s A n c D m k t B n2 c2 E m2 k2
  have HX := Lib.hid (h.below B1.out)
  have HP := Lib.hid (hp.below B1.out)
  have HY := Lib.hid (h'.below B1.out)
  have HQ := Lib.hid (hq.below B1.out)
  have LN := Lib.hid hn
  have LM := Lib.hid hm
  have LN2 := Lib.hid hn2
  have LM2 := Lib.hid hm2
  have LL := Lib.hid hL
  have LS : Hid (1 ≤ L ∧ L ≤ 70368744177660) := by show _ ∧ _; omega
  obtain ⟨sx, hsx⟩ : ∃ z, sgR (mkRat x p) = z := ⟨_, rfl⟩
  have e1 : (sx == 0) = false := beq_false_of_ne fun e => hx ((sgR_nil _).1 (hsx.trans e))
  obtain ⟨sy, hsy⟩ : ∃ z, sgR (mkRat y q) = z := ⟨_, rfl⟩
  have e2 : (sy == 0) = false := beq_false_of_ne fun e => hy ((sgR_nil _).1 (hsy.trans e))
  have SX := Lib.hid hsx
  have SY := Lib.hid hsy
  obtain ⟨z, hz⟩ : ∃ z, mkRat x p * mkRat y q = z := ⟨_, rfl⟩
  have EZ := Lib.hid hz
  have RZ : Hid (RL z (L + L)) := by
    show RL _ _
    rw [← hz]
    exact rl_mul (rl_mk (Nat.le_trans h.len hn) (Nat.le_trans hp.len hm) hL.1) (rl_mk (Nat.le_trans h'.len hn2) (Nat.le_trans hq.len hm2) hL.1)
  rw [hz]
  clear h hp h' hq hn hm hn2 hm2 hL hsx hsy hz
  go_enter Tryz.func60, Tryz.ntmps60
  have pc0 := Lib.hid trivial
  go_wp2_with (first
    | (clear pc0; generalize (((w.alloc (.cells #[.bool s, .slice A n c, .slice D m k] 29)).alloc (.cells #[.bool t, .slice B n2 c2, .slice E m2 k2] 29)).alloc (.cells #[.bool false, .slice none 0 0, .slice none 0 0] 29)) = w2 at *; refine wpList_ldR (by rfl) _ rfl (by rfl) V0.out ?_; have pc1 := Lib.hid trivial)
    | (clear pc1; go_at_call 52; refine Calls.mono (qsign_any HX.out HP.out LN.out LM.out LS.out SX.out) ?_; rintro e w3 ⟨rfl, hb⟩; replace V0 := Lib.hid (V0.out.below hb V0.out.lt); replace V1 := Lib.hid (V1.out.below hb V1.out.lt); replace V2 := Lib.hid (V2.out.below hb V2.out.lt); replace HX := Lib.hid (HX.out.below hb); replace HP := Lib.hid (HP.out.below hb); replace HY := Lib.hid (HY.out.below hb); replace HQ := Lib.hid (HQ.out.below hb); replace B1 := Lib.hid (B1.out.trans (hb.mono B1.out.size)); clear hb; have pc2 := Lib.hid trivial)
    | (clear pc2; refine wpList_ldR (by rfl) _ rfl (by rfl) V1.out ?_; have pc3 := Lib.hid trivial)
    | (clear pc3; go_at_call 52; refine Calls.mono (qsign_any HY.out HQ.out LN2.out LM2.out LS.out SY.out) ?_; rintro e w4 ⟨rfl, hb⟩; replace V0 := Lib.hid (V0.out.below hb V0.out.lt); replace V1 := Lib.hid (V1.out.below hb V1.out.lt); replace V2 := Lib.hid (V2.out.below hb V2.out.lt); replace HX := Lib.hid (HX.out.below hb); replace HP := Lib.hid (HP.out.below hb); replace HY := Lib.hid (HY.out.below hb); replace HQ := Lib.hid (HQ.out.below hb); replace B1 := Lib.hid (B1.out.trans (hb.mono B1.out.size)); clear hb; have pc4 := Lib.hid trivial)
    | (clear pc4; refine wpList_ldR (by rfl) _ rfl (by rfl) V0.out ?_; have pc5 := Lib.hid trivial)
    | (clear pc5; refine wpList_ldR (by rfl) _ rfl (by rfl) V1.out ?_; have pc6 := Lib.hid trivial)
    | (clear pc6; go_at_call 99; refine Calls.mono (qmul_any (z := z.num) (d := z.den) HX.out HP.out HY.out HQ.out LN.out LM.out LN2.out LM2.out LL.out (by rw [EZ.out]) (by rw [EZ.out])) ?_; rintro e w5 ⟨P, cP, R, cR, rfl, ho, ho2, hb⟩; replace V0 := Lib.hid (V0.out.below hb V0.out.lt); replace V1 := Lib.hid (V1.out.below hb V1.out.lt); replace V2 := Lib.hid (V2.out.below hb V2.out.lt); replace HX := Lib.hid (HX.out.below hb); replace HP := Lib.hid (HP.out.below hb); replace HY := Lib.hid (HY.out.below hb); replace HQ := Lib.hid (HQ.out.below hb); replace B1 := Lib.hid (B1.out.trans (hb.mono B1.out.size)); have OZ := Lib.hid (ho.mono (Nat.zero_le _)); have OD := Lib.hid (ho2.mono (Nat.zero_le _)); clear ho ho2; clear hb; have pc7 := Lib.hid trivial)
    | (clear pc7; refine wpList_stR (by rfl) _ _ rfl (by rfl) (by rfl) V2.out ?_; intro w6 hz hg; have tx := V2.out.tx; replace V0 := Lib.hid (V0.out.gro hg (by omega)); replace V1 := Lib.hid (V1.out.gro hg (by omega)); clear HX; clear HP; clear HY; clear HQ; replace OZ := Lib.hid (OZ.out.grT tx hg); replace OD := Lib.hid (OD.out.grT tx hg); replace B1 := Lib.hid (Below.gr B1.out (by omega) hg B1.out.size); clear tx; replace V2 := Lib.hid hz; clear hz hg; have pc8 := Lib.hid trivial))
  clear pc8
  exact ret_rb Tryz.results60 rfl rfl V2.out (Opd.give OZ.out OD.out RZ.out B1.out)
theorem product_any {w : World} {L : Nat} {x y : Nt} (hx : Nok w x L) (hy : Nok w y L) (hL : 1 ≤ L ∧ L ≤ 35184372088829) : Calls Tryz.prog 60 #[.agg #[.bool x.s, .slice x.A x.n x.c, .slice x.D x.m x.k], .agg #[.bool y.s, .slice y.A y.n y.c, .slice y.D y.m y.k]] w (Opd (L + L) (x.q * y.q) w) := by
  by_cases h1 : x.q = 0
  · exact product_x0 hx.1 hx.2.1 hy.1 hy.2.1 hx.2.2.1 hx.2.2.2 hy.2.2.1 hy.2.2.2 hL h1
  · by_cases h2 : y.q = 0
    · exact product_y0 hx.1 hx.2.1 hy.1 hy.2.1 hx.2.2.1 hx.2.2.2 hy.2.2.1 hy.2.2.2 hL h1 h2
    · exact product_xy hx.1 hx.2.1 hy.1 hy.2.1 hx.2.2.1 hx.2.2.2 hy.2.2.1 hy.2.2.2 hL h1 h2
end Go.Proofs.YtfacndibfkamgaaGreat

/-
  Contract of package vector: first.
-/
namespace Go.Proofs.YtfacndibfkamgaaGreat
open Go.RowKit
set_option linter.unusedVariables false

def lenV (v : Value) : Nat := match v with
  | .slice _ n _ => n
  | _ => 0
theorem Rb.range0 {w : World} {g : Nat} {s : Bool} {A D : Option Addr} {n c m k : Nat} (h : Rb w g s A n c D m k) : w.rangeAt g 0 [.bool s, .slice A n c, .slice D m k] := range_of h (fun j v hv => by simpa using hv)
theorem wp_append_R {o : Oper} {a : Act} {Q : Exit → Act → World → Prop} {K : Act → World → Prop} {w : World} (s x : Operand)
    (ho : o.op = .call { callee := .builtin .append, args := #[s, x], argTypes := #[22, 22] }) {base g c : Nat} {v : Value} {rs : List Nt} (r : Nt) (hs : a.eval s = v) (hP : Lg encR 3 29 w base v rs)
    (hx : a.eval x = .slice (some ⟨g, 0, none⟩) 1 c) (hz : w.rangeAt g 0 (encR r)) (hn : rs.length ≤ 1000000000) (hb : base ≤ w.heap.size)
    (h : ∀ v' w', Lg encR 3 29 w' base v' (rs ++ [r]) → Kt 29 base w w' → K (a.put o.dst v') w') : o.wp Tryz.prog a w K Q := by
  obtain ⟨i, hi, hz0, hs2, hb32⟩ := infoRt
  refine wp_append_own w s x 22 ho base 29 i _ 3 56 Tryz.underlying22 hi hz0 hs2 hb32 rfl (by decide) v rs.length (rs.flatMap encR) hs hP ⟨g, 0, none⟩ 1 c (encR r) hx rfl ?_ ?_ (by unfold maxLen; omega) (by omega) hb ?_
  · intro j u hj
    rw [Addr.add_mid]
    exact hz j u hj
  · intro u hu
    simp [encR] at hu
    rcases hu with rfl | rfl | rfl <;> rfl
  · intro v' w' hown' hgr _
    exact h v' w' (by unfold Lg; rw [List.length_append, List.flatMap_append]; simpa using hown') (kt_of hb hP hgr)
theorem wp_append_E {o : Oper} {a : Act} {Q : Exit → Act → World → Prop} {K : Act → World → Prop} {w : World} (s x : Operand)
    (ho : o.op = .call { callee := .builtin .append, args := #[s, x], argTypes := #[23, 23] }) {base g c : Nat} {v : Value} {rs : List (Int × Nt)} (r : Int × Nt) (hs : a.eval s = v) (hP : Lg encE 4 58 w base v rs)
    (hx : a.eval x = .slice (some ⟨g, 0, none⟩) 1 c) (hz : w.rangeAt g 0 (encE r)) (hn : rs.length ≤ 1000000000) (hb : base ≤ w.heap.size)
    (h : ∀ v' w', Lg encE 4 58 w' base v' (rs ++ [r]) → Kt 58 base w w' → K (a.put o.dst v') w') : o.wp Tryz.prog a w K Q := by
  obtain ⟨i, hi, hz0, hs2, hb32⟩ := infoV
  refine wp_append_own w s x 23 ho base 58 i _ 4 64 Tryz.underlying23 hi hz0 hs2 hb32 rfl (by decide) v rs.length (rs.flatMap encE) hs hP ⟨g, 0, none⟩ 1 c (encE r) hx rfl ?_ ?_ (by unfold maxLen; omega) (by omega) hb ?_
  · intro j u hj
    rw [Addr.add_mid]
    exact hz j u hj
  · intro u hu
    exact oneE r u hu
  · intro v' w' hown' hgr _
    exact h v' w' (by unfold Lg; rw [List.length_append, List.flatMap_append]; simpa using hown') (kt_of hb hP hgr)
/-- What first gives: the first run of entries added up, and the rest. -/
def Firsts (A0 : Option Addr) (c0 : Nat) (w : World) (rs : List (Int × Nt)) (L : Nat) (e : Ending) (w' : World) : Prop := ∃ (j : Int) (r : Nt) (A : Option Addr) (c : Nat) (pre rest : List (Int × Nt)), e = .returned (.tuple #[.agg #[.int .i64 j, .bool r.s, .slice r.A r.n r.c, .slice r.D r.m r.k], .slice A rest.length c]) ∧ rs = pre ++ rest ∧ pre ≠ [] ∧ (∀ e ∈ pre, e.1 = j) ∧ (∀ e l, rest = e :: l → e.1 ≠ j) ∧ (∀ W, Sl encE 4 W A0 c0 rs → Sl encE 4 W A c rest) ∧ Nown w' r ∧ r.q = tot (ev pre) ∧ RL r.q (rs.length * (L + 2)) ∧ Below w.heap.size w w'
set_option maxRecDepth 100000 in
set_option maxHeartbeats 16000000 in
theorem first_any {w : World} {A : Option Addr} {c L : Nat} {x : Int × Nt} {t rs : List (Int × Nt)} (e : rs = x :: t) (h : Sl encE 4 w A c rs) (hv : ∀ r ∈ rs, Nok w r.2 L) (hL : 1 ≤ L) (hB : rs.length * (L + 2) ≤ 35184372088829) (hM : rs.length ≤ 1000000) : Calls Tryz.prog 88 #[.slice A rs.length c] w (Firsts A c w rs L) := by
  have B1 : Hid (Below w.heap.size w (w.alloc (.cells #[.int .i64 0, .bool false, .slice none 0 0, .slice none 0 0] 58))) := (Below.refl _ _).alloc (Nat.le_refl _) _
  have V0 : Hid (Vb (w.alloc (.cells #[.int .i64 0, .bool false, .slice none 0 0, .slice none 0 0] 58)) w.heap.size 0 false none 0 0 none 0 0) := Vb.new w 0 false none 0 0 none 0 0
  have H := Lib.hid h
  have HV := Lib.hid hv
  have LB := Lib.hid hB
  have LM := Lib.hid hM
  have L1 := Lib.hid hL
  have HE := Lib.hid e
  obtain ⟨n, hn⟩ : ∃ n, rs.length = n := ⟨_, rfl⟩
  have HN := Lib.hid hn
  have SH : Hid (∃ b o, A = some ⟨b, o, none⟩ ∧ b < w.heap.size ∧ w.rangeAt b o (encE x)) := by
    have h2 := h
    rw [e] at h2
    exact h2.head
  have n1 : 0 < n := by rw [← hn, e]; simp
  rw [hn]
  obtain ⟨b, o, rfl, hb, hr⟩ := SH.out
  have c0 : (w.alloc (.cells #[.int .i64 0, .bool false, .slice none 0 0, .slice none 0 0] 58)).cell? ⟨b, o, none⟩ = some (.int .i64 x.1) := (B1.out.cell (p := ⟨b, o, none⟩) hb).trans (hr 0 _ rfl)
  clear h hv hL hB hM e hb hr hn SH
  go_enter Tryz.func88, Tryz.ntmps88
  go_wp2_with fail
  generalize w.alloc (.cells #[.int .i64 0, .bool false, .slice none 0 0, .slice none 0 0] 58) = w2 at *
  have SZ : Hid (w.heap.size + 1 ≤ w2.heap.size) := V0.out.lt
  clear c0
  go_loopw [0, 4] (fun v0 v4 wr => ∃ (A' : Option Addr) (c' : Nat) (pre rest : List (Int × Nt)), v0 = .slice A' rest.length c' ∧ Hid (rs = pre ++ rest) ∧ Hid (∀ e ∈ pre, e.1 = x.1) ∧ Hid (∀ W, Sl encE 4 W (some ⟨b, o, none⟩) c rs → Sl encE 4 W A' c' rest) ∧ Hid (Lg encR 3 29 wr (w.heap.size + 1) v4 (pre.map (·.2))) ∧ Hid (Vb wr w.heap.size 0 false none 0 0 none 0 0) ∧ Hid (Below w.heap.size w wr) ∧ Hid (w.heap.size + 1 ≤ wr.heap.size)) (fun v0 _ _ => lenV v0)
  case atStart => exact ⟨_, _, [], rs, by rw [HN.out], Lib.hid rfl, Lib.hid (fun e he => by cases he), Lib.hid (fun W h => h), Lib.hid (Lg.nil _ _), V0, B1, SZ⟩
  case round =>
    obtain ⟨A1, c1, pre, rest, rfl, RS, PR, SLW, LG, V0, B1, SZ⟩ := hrel
    have SL := Lib.hid (SLW.out w H.out)
    have exit_ : pre ≠ [] → (∀ e l, rest = e :: l → e.1 ≠ x.1) → ∃ (vs : List Nt) (A2 : Option Addr) (c2 m : Nat), u4 = .slice A2 vs.length c2 ∧ vs.length = m ∧ 1 ≤ m ∧ m ≤ n ∧ Sl encR 3 wr A2 c2 vs ∧ (∀ r ∈ vs, Nok wr r L) ∧ sumq (vs.map Nt.q) = tot (ev pre) ∧ vs.length * (L + 2) ≤ rs.length * (L + 2) ∧ vs.length ≤ 1000000 := fun hp hr => by
      obtain ⟨A2, c2, hA, hs⟩ := LG.out.sl encR_len
      have hpl : pre.length ≤ rs.length := by rw [RS.out, List.length_append]; omega
      have hp1 : 1 ≤ pre.length := by cases pre with | nil => exact absurd rfl hp | cons a l => simp
      refine ⟨pre.map (·.2), A2, c2, pre.length, hA, by simp, hp1, by rw [← HN.out]; exact hpl, hs, fun r hr => ?_, ?_, ?_, ?_⟩
      · obtain ⟨e, he, rfl⟩ := List.mem_map.1 hr
        exact (HV.out e (by rw [RS.out]; simp [he])).below B1.out
      · rw [tot_sumq]; simp [ev, Function.comp_def]
      · rw [List.length_map]; exact Nat.mul_le_mul_right _ hpl
      · rw [List.length_map]; have := LM.out; omega
    have EX := Lib.hid exit_
    clear exit_
    have done : pre ≠ [] → (∀ e l, rest = e :: l → e.1 ≠ x.1) → ∀ (r : Nt) (w' : World), Nown w' r → r.q = tot (ev pre) → RL r.q (rs.length * (L + 2)) → Below w.heap.size w w' → Firsts (some ⟨b, o, none⟩) c w rs L (.returned (.tuple #[.agg #[.int .i64 x.1, .bool r.s, .slice r.A r.n r.c, .slice r.D r.m r.k], .slice A1 rest.length c1])) w' := fun hp hr r w' h1 h2 h3 h4 => ⟨x.1, r, A1, c1, pre, rest, rfl, RS.out, hp, PR.out, hr, SLW.out, h1, h2, h3, h4⟩
    have DN := Lib.hid done
    clear done
    rcases rest with _ | ⟨y, r⟩
    · have hp : pre ≠ [] := by
        intro e
        have := RS.out
        rw [e] at this
        rw [HE.out] at this
        cases this
      have hr : ∀ (e : Int × Nt) (l : List (Int × Nt)), ([] : List (Int × Nt)) = e :: l → e.1 ≠ x.1 := fun e l h => by cases h
      obtain ⟨vs, A2, c2, m, rfl, hm, hm1, hmn, sv, ov, sq, lq, lm⟩ := EX.out hp hr
      have SV := Lib.hid sv
      have OV := Lib.hid ov
      have SQ := Lib.hid sq
      have LQ := Lib.hid lq
      have LMM := Lib.hid lm
      have HM := Lib.hid hm
      have M1 := Lib.hid hm1
      have DNX := Lib.hid (DN.out hp hr)
      clear sv ov sq lq lm DN EX RS PR SL SLW LG hm hm1 hmn hr hp
      have pc0 := Lib.hid trivial
      go_wp2_with (first
        | (clear pc0; go_at_call 61; refine Calls.mono (sum_any SV.out OV.out (by rw [HM.out]; exact M1.out) L1.out (Nat.le_trans LQ.out LB.out) LMM.out) ?_; rintro e w3 ⟨⟨s1, A3, n3, c3, D3, m3, k3, x3, p3⟩, rfl, ow, hq, hrl, hb⟩; replace V0 := Lib.hid (V0.out.below hb V0.out.lt); replace B1 := Lib.hid (B1.out.trans (hb.mono B1.out.size)); have OW := Lib.hid ow; have QQ := Lib.hid hq; have RQ := Lib.hid hrl; clear ow hq hrl; clear hb; have pc1 := Lib.hid trivial)
        | (clear pc1; refine wpList_stV (by rfl) _ _ rfl (by rfl) (by rfl) V0.out ?_; intro w5 hz hg; have tx := V0.out.tx; replace OW := Lib.hid (OW.out.grT tx hg); replace B1 := Lib.hid (Below.gr B1.out (Nat.le_refl _) hg B1.out.size); clear tx; replace V0 := Lib.hid hz; clear hz hg; have pc2 := Lib.hid trivial))
      clear pc2
      exact ret_vt rfl rfl rfl rfl V0.out (DNX.out _ _ OW.out (by rw [QQ.out, SQ.out]) (by rw [QQ.out]; exact RQ.out.le LQ.out) B1.out)
    · by_cases hy : y.1 = x.1
      · skip
        obtain ⟨i1, r1⟩ := y
        dsimp only at hy
        subst hy
        obtain ⟨b1, o1, rfl, hb1, hr1⟩ := SL.out.head
        have LT := Lib.hid hb1
        have R1 : Hid (w.rangeAt b1 (o1 + 1) [.bool r1.s, .slice r1.A r1.n r1.c, .slice r1.D r1.m r1.k]) := fun j u hj => by
          have := hr1 (1 + j) u (by rw [Nat.add_comm]; exact hj)
          rwa [← Nat.add_assoc] at this
        have c3 : wr.cell? ⟨b1, o1, none⟩ = some (.int .i64 x.1) := (B1.out.cell (p := ⟨b1, o1, none⟩) hb1).trans (hr1 0 _ rfl)
        obtain ⟨k, hk⟩ : ∃ k, ((x.1, r1) :: r).length = k := ⟨_, rfl⟩
        obtain ⟨m, hm⟩ : ∃ m, r.length = m := ⟨_, rfl⟩
        have hkm : k = m + 1 := by rw [← hk, ← hm]; rfl
        have p1 : 0 < k := by omega
        have p2 : (1 : Int) ≤ (k : Int) := by omega
        have p3 : k - 1 = m := by omega
        have SC : Hid (∀ W, Sl encE 4 W (some ⟨b, o, none⟩) c rs → Sl encE 4 W _ _ r) := fun W h => (SLW.out W h).cut
        simp only [Option.map_some, Addr.add_mid, Nat.one_mul] at SC
        obtain ⟨Aq, hAq⟩ : ∃ z, (if c1 = 1 then some ⟨b1, o1, none⟩ else some (⟨b1, o1 + 4, none⟩ : Addr)) = z := ⟨_, rfl⟩
        rw [hAq] at SC
        have LEN : Hid ((pre.map (·.2)).length ≤ 1000000000) := by
          show _ ≤ _
          have h1 : pre.length ≤ rs.length := by rw [RS.out, List.length_append]; omega
          have h2 := LM.out
          rw [List.length_map]
          omega
        have HK := Lib.hid hkm
        have HMM := Lib.hid hm
        simp only [hk]
        clear hb1 hr1 hk hm hkm EX DN SL SLW
        go_wp2_with fail
        have hb : Below wr.heap.size wr wr.drew := below_drewN _ wr 1
        replace V0 := Lib.hid (V0.out.below hb V0.out.lt)
        replace LG := Lib.hid (LG.out.below hb)
        replace B1 := Lib.hid (B1.out.trans (hb.mono B1.out.size))
        clear hb
        refine wp_region_held_drew (S := fun w' => Below w.heap.size w w') (by kernel_rfl) B1.out (fun hHeld => ?_)
        generalize wr.drew = wrd at *
        refine wpAnyH_takeL (i := 0) (oi := _) (v := ?_) rfl (by kernel_rfl) (by kernel_rfl) (by kernel_rfl) (fun _ _ _ h => h) (Or.inl ⟨by rfl, ?_⟩) hHeld ?_
        rotate_left
        · (intro w' hSw; (try dsimp only at hSw); go_simp; try (with_reducible rfl))
        try simp only [Act.put, List.setIfInBounds_toArray, List.set_cons_zero, List.set_cons_succ]
        refine wpAnyH_takeL (i := 1) (oi := _) (v := ?_) rfl (by kernel_rfl) (by kernel_rfl) (by kernel_rfl) (fun _ _ _ h => h) (Or.inl ⟨by rfl, ?_⟩) hHeld ?_
        rotate_left
        · (intro w' hSw; (try dsimp only at hSw); go_simp; try (with_reducible rfl))
        try simp only [Act.put, List.setIfInBounds_toArray, List.set_cons_zero, List.set_cons_succ]
        refine wpAnyH_takeL (i := 2) (oi := _) (v := ?_) rfl (by kernel_rfl) (by kernel_rfl) (by kernel_rfl) (fun _ _ _ h => h) (Or.inl ⟨by rfl, ?_⟩) hHeld ?_
        rotate_left
        · (intro w' hSw; (try dsimp only at hSw); go_simp; try (with_reducible rfl))
        try simp only [Act.put, List.setIfInBounds_toArray, List.set_cons_zero, List.set_cons_succ]
        refine wpAnyH_takeL (i := 3) (oi := _) (v := ?_) rfl (by kernel_rfl) (by kernel_rfl) (by kernel_rfl) (fun _ _ _ h => h) (Or.inl ⟨by rfl, ?_⟩) hHeld ?_
        rotate_left
        · (intro w' hSw; (try dsimp only at hSw); go_simp; try (with_reducible rfl))
        try simp only [Act.put, List.setIfInBounds_toArray, List.set_cons_zero, List.set_cons_succ]
        refine wpAnyH_takeL (i := 4) (oi := _) rfl (by kernel_rfl) (by kernel_rfl) (by kernel_rfl) (fun _ _ _ h => h) (yields_ld3 (by rfl) _ rfl (by rfl) (fun _ hS => range_bel R1.out LT.out hS)) hHeld ?_
        try simp only [Act.put, List.setIfInBounds_toArray, List.set_cons_zero, List.set_cons_succ]
        refine wpAnyH_takeL (i := 7) (oi := _) (v := ?_) rfl (by kernel_rfl) (by kernel_rfl) (by kernel_rfl) (fun _ _ _ h => h) (Or.inl ⟨by rfl, ?_⟩) hHeld ?_
        rotate_left
        · (intro w' hSw; (try dsimp only at hSw); go_simp; try (with_reducible rfl))
        try simp only [Act.put, List.setIfInBounds_toArray, List.set_cons_zero, List.set_cons_succ]
        refine wpAnyH_takeL (i := 8) (oi := _) (v := ?_) rfl (by kernel_rfl) (by kernel_rfl) (by kernel_rfl) (fun _ _ _ h => h) (Or.inl ⟨by rfl, ?_⟩) hHeld ?_
        rotate_left
        · (intro w' hSw; (try dsimp only at hSw); go_simp; try (with_reducible rfl))
        try simp only [Act.put, List.setIfInBounds_toArray, List.set_cons_zero, List.set_cons_succ]
        refine wpAnyH_ready (rs := [5]) (by kernel_rfl) (by simp) ?_
        refine AllReadyH.consL (o := _) rfl (fun K hK => ?_) AllReadyH.nil
        clear hHeld
        go_simp
        have SZ1 : Hid (w.heap.size + 1 ≤ wrd.heap.size) := V0.out.lt
        have SZZ : Hid (wrd.heap.size ≤ (wrd.alloc (.cells #[.bool r1.s, .slice r1.A r1.n r1.c, .slice r1.D r1.m r1.k] 29)).heap.size) := by show _ ≤ _; simp
        have hb : Below wrd.heap.size wrd (wrd.alloc (.cells #[.bool r1.s, .slice r1.A r1.n r1.c, .slice r1.D r1.m r1.k] 29)) := ((Below.refl _ _).alloc (by first | exact Nat.le_refl _ | (simp; done) | (simp; omega)) _)
        replace V0 := Lib.hid (V0.out.below hb V0.out.lt)
        replace LG := Lib.hid (LG.out.below hb)
        replace B1 := Lib.hid (B1.out.trans (hb.mono B1.out.size))
        have TB : Hid (Rb (wrd.alloc (.cells #[.bool r1.s, .slice r1.A r1.n r1.c, .slice r1.D r1.m r1.k] 29)) (wrd.heap.size) r1.s r1.A r1.n r1.c r1.D r1.m r1.k) := (by have h := (Rb.new wrd r1.s r1.A r1.n r1.c r1.D r1.m r1.k); (try simp only [World.size_alloc] at h); exact h)
        clear hb
        generalize (wrd.alloc (.cells #[.bool r1.s, .slice r1.A r1.n r1.c, .slice r1.D r1.m r1.k] 29)) = wb at *
        have SZ2 : Hid (w.heap.size + 1 ≤ wb.heap.size) := Nat.le_trans SZ1.out SZZ.out
        refine hK.out _ _ B1.out (fun hHeld => ?_)
        clear hK K
        try simp only [Act.put, List.setIfInBounds_toArray, List.set_cons_zero, List.set_cons_succ]
        refine wpAnyH_ready (rs := [6]) (by kernel_rfl) (by simp) ?_
        refine AllReadyH.consL (o := _) rfl (fun K hK => ?_) AllReadyH.nil
        clear hHeld
        rw [if_pos (by rfl)]
        refine wp_append_R _ _ rfl r1 (by rfl) LG.out (by rfl) TB.out.range0 LEN.out SZ2.out ?_
        intro v9 wc hlg hkt
        clear LG TB
        have LG := Lib.hid hlg
        replace V0 := Lib.hid (V0.out.kt hkt (.inr (Nat.lt_succ_self _)))
        replace B1 := Lib.hid (B1.out.trans (hkt.2.mono (Nat.le_succ _)))
        have SZ3 : Hid (w.heap.size + 1 ≤ wc.heap.size) := Nat.le_trans SZ2.out hkt.2.size
        clear hlg hkt
        refine hK.out _ _ B1.out (fun hHeld => ?_)
        clear hK K
        try simp only [Act.put, List.setIfInBounds_toArray, List.set_cons_zero, List.set_cons_succ]
        refine wpAnyH_takeL (i := 9) (oi := _) (v := ?_) rfl (by kernel_rfl) (by kernel_rfl) (by kernel_rfl) (fun _ _ _ h => h) (Or.inl ⟨by rfl, ?_⟩) hHeld ?_
        rotate_left
        · (intro w' hSw; (try dsimp only at hSw); go_simp; try (with_reducible rfl))
        try simp only [Act.put, List.setIfInBounds_toArray, List.set_cons_zero, List.set_cons_succ]
        refine wpAnyH_takeL (i := 10) (oi := _) (v := ?_) rfl (by kernel_rfl) (by kernel_rfl) (by kernel_rfl) (fun _ _ _ h => h) (Or.inl ⟨by rfl, ?_⟩) hHeld ?_
        rotate_left
        · (intro w' hSw; (try dsimp only at hSw); go_simp; try (with_reducible rfl))
        try simp only [Act.put, List.setIfInBounds_toArray, List.set_cons_zero]
        clear hHeld
        refine wpAnyH_done (by kernel_rfl) ?_ _
        go_wp2_with fail
        go_roundw
        case rel => exact ⟨Aq, c1 - 1, pre ++ [(x.1, r1)], r, by rw [HMM.out], by rw [List.append_assoc]; exact RS, Lib.hid (fun e he => by rcases List.mem_append.1 he with he | he; exact PR.out e he; simp at he; rw [he]), SC, by rw [List.map_append]; exact LG, V0, B1, SZ3⟩
        case measure => have := HK.out; simp [lenV]; omega
      · have hp : pre ≠ [] := by
          intro e
          have := RS.out
          rw [e] at this
          rw [HE.out] at this
          simp only [List.nil_append, List.cons.injEq] at this
          exact hy (by rw [this.1])
        have hr : ∀ (e : Int × Nt) (l : List (Int × Nt)), y :: r = e :: l → e.1 ≠ x.1 := fun e l h => by cases h; exact hy
        obtain ⟨vs, A2, c2, m, rfl, hm, hm1, hmn, sv, ov, sq, lq, lm⟩ := EX.out hp hr
        obtain ⟨b1, o1, rfl, hb1, hr1⟩ := (SL.out.below B1.out).head
        have c3 : wr.cell? ⟨b1, o1, none⟩ = some (.int .i64 y.1) := hr1 0 _ rfl
        have e2 : (y.1 == x.1) = false := beq_false_of_ne hy
        obtain ⟨k, hk⟩ : ∃ k, (y :: r).length = k := ⟨_, rfl⟩
        have p1 : 0 < k := by rw [← hk]; simp
        have DN2 := Lib.hid (DN.out hp hr)
        rw [hk] at DN2 ⊢
        clear hb1 hr1 hk
        have SV := Lib.hid sv
        have OV := Lib.hid ov
        have SQ := Lib.hid sq
        have LQ := Lib.hid lq
        have LMM := Lib.hid lm
        have HM := Lib.hid hm
        have M1 := Lib.hid hm1
        have DNX := Lib.hid (DN2.out)
        clear sv ov sq lq lm DN DN2 EX RS PR SL SLW LG hm hm1 hmn hr hp
        have pc0 := Lib.hid trivial
        go_wp2_with (first
          | (clear pc0; go_at_call 61; refine Calls.mono (sum_any SV.out OV.out (by rw [HM.out]; exact M1.out) L1.out (Nat.le_trans LQ.out LB.out) LMM.out) ?_; rintro e w3 ⟨⟨s1, A3, n3, c3, D3, m3, k3, x3, p3⟩, rfl, ow, hq, hrl, hb⟩; replace V0 := Lib.hid (V0.out.below hb V0.out.lt); replace B1 := Lib.hid (B1.out.trans (hb.mono B1.out.size)); have OW := Lib.hid ow; have QQ := Lib.hid hq; have RQ := Lib.hid hrl; clear ow hq hrl; clear hb; have pc1 := Lib.hid trivial)
          | (clear pc1; refine wpList_stV (by rfl) _ _ rfl (by rfl) (by rfl) V0.out ?_; intro w5 hz hg; have tx := V0.out.tx; replace OW := Lib.hid (OW.out.grT tx hg); replace B1 := Lib.hid (Below.gr B1.out (Nat.le_refl _) hg B1.out.size); clear tx; replace V0 := Lib.hid hz; clear hz hg; have pc2 := Lib.hid trivial))
        clear pc2
        exact ret_vt rfl rfl rfl rfl V0.out (DNX.out _ _ OW.out (by rw [QQ.out, SQ.out]) (by rw [QQ.out]; exact RQ.out.le LQ.out) B1.out)
end Go.Proofs.YtfacndibfkamgaaGreat
