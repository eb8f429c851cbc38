/-
  Vs, Vx, Vy, Vw.
-/
import Derived.Test.YtfacndibfkamgaaGreatKA
import Derived.Test.YtfacndibfkamgaaGreatVsl
import Derived.Test.YtfacndibfkamgaaGreatKB
/-
  Contract of package vector: sorted.
-/
namespace Go.Proofs.YtfacndibfkamgaaGreat
open Go.RowKit Go.Sort
set_option linter.unusedVariables false

theorem Tryz.isAggV : ∀ w, (isAgg 58).run Tryz.prog w = .ok true w := fun w => by
  unfold isAgg
  rw [Sem.run_bind, run_underlying Tryz.underlying58 w]
  rfl
theorem Tryz.sizeOfV : ∀ w, (Go.sizeOf 58).run Tryz.prog w = .ok 4 w := fun w => by
  obtain ⟨i, hi, _, h2, _⟩ := infoV
  simp [sizeOf, typeInfo, hi, h2]
def cfE (x y : Int × Nt) : Int := Lib.compareInt x.1 y.1
theorem ltE (x y : Int × Nt) : ltOf cfE x y = decide (x.1 < y.1) := by
  unfold ltOf cfE Lib.compareInt
  by_cases h1 : x.1 < y.1
  · simp [h1]
  · by_cases h2 : y.1 < x.1 <;> simp [h1, h2]
theorem swoE : SWO (ltOf cfE) where
  irrefl x := by rw [ltE]; simp
  trans x y z h1 h2 := by rw [ltE] at *; simp at *; omega
  ntrans x y z h1 h2 := by rw [ltE] at *; simp at *; omega
set_option maxHeartbeats 1000000 in
theorem closure_any (x y : Int × Nt) (W : World) : Calls Tryz.prog 96 #[.agg (encE x).toArray, .agg (encE y).toArray] W fun e w' => e = .returned (.int .i64 (cfE x y)) ∧ ∃ q os', w' = grow (W.drewN q) os' := by
  obtain ⟨i, s, A, n, c, D, m, k, x0, p⟩ := x
  obtain ⟨i', s', A', n', c', D', m', k', x0', p'⟩ := y
  have hcon := fun W' => AnyG.cmp_Compare_int Tryz.cmpInt i i' W'
  change ∀ W', Calls Tryz.prog 97 _ _ _ at hcon
  show Calls _ _ _ _ fun e w' => e = .returned (.int .i64 (Lib.compareInt i i')) ∧ _
  generalize Lib.compareInt i i' = r at hcon ⊢
  show Calls _ _ #[.agg #[.int .i64 i, .bool s, .slice A n c, .slice D m k], .agg #[.int .i64 i', .bool s', .slice A' n' c', .slice D' m' k']] _ _
  go_enter Tryz.func96, Tryz.ntmps96
  go_wp2_with (go_at_call 97; refine (hcon _).mono ?_; rintro e w' ⟨rfl, rfl⟩)
  go_ret
  exact ⟨rfl, 0, _, by rw [alloc_eq_grow, alloc_eq_grow, grow_grow]; rfl⟩
theorem holdsE {w : World} {g : Nat} {rs : List (Int × Nt)} (h : Er w g rs) : HoldsK encE 4 w g 0 rs.toArray := by
  intro t ht
  rw [size_flatK] at ht
  have ht' : t < rs.length * 4 := by simpa using ht
  have hj : t / 4 < rs.length := by omega
  have e : (rs.flatMap encE)[t]? = some ((encE rs[t / 4])[t % 4]'(by rw [encE_len]; omega)) := by
    have := flat_at encE_len rs (t / 4) _ (List.getElem?_eq_getElem hj) (t % 4) (by omega)
    rw [Nat.div_add_mod' t 4] at this
    rw [this, List.getElem?_eq_getElem]
  have e2 : (flatK encE 4 rs.toArray)[t]! = (encE rs[t / 4])[t % 4]'(by rw [encE_len]; omega) := by
    rw [get_flatK _ _ _ _ ht]
    rw [getElem!_pos rs.toArray (t / 4) (by simpa using hj), getElem!_pos _ (t % 4) (by rw [encE_len]; omega)]
    simp
  rw [Nat.zero_add]
  constructor
  · rw [cell_of_row w g t _ _ (0, 0) h, List.getElem?_toArray, e, ← e2]; rfl
  · have h' : w.heap[g]? = _ := h
    simp [World.frozen?, h']
theorem er_of_sort {w : World} {g n : Nat} {rs : List (Int × Nt)} {d : Array (Int × Nt)} {os : Array Obj} (h : Er w g rs) (hd : d.size = rs.length) (hn : rs.length ≤ 1000000000) : Sl encE 4 (sortWorldK encE 4 w g 0 n d os) (some ⟨g, 0, none⟩) rs.length d.toList := by
  have hH := holdsE h
  have hg := h.lt
  have h1 : HoldsK encE 4 (sortWorldK encE 4 w g 0 n d os) g 0 d := by
    unfold sortWorldK
    exact holdsK_grow encE 4 _ os g 0 d (by unfold putRowK; rw [size_putRow]; exact hg) (holdsK_putRowK encE 4 (Go.Sort.ahead w n) g 0 rs.toArray d (holdsK_ahead encE 4 w n g 0 _ hH) (by simpa using hd))
  refine ⟨by simp [hd], by omega, ?_⟩
  rcases Nat.eq_zero_or_pos d.size with e | e
  · left; exact List.eq_nil_of_length_eq_zero (by simpa using e)
  · right
    refine ⟨g, 0, rfl, ?_, fun j r hj i u hi => ?_⟩
    · have := (h1.cell (i := 0) (c := 0) e (by decide)).1
      exact block_lt_of_cell this
    · have hjl : j < d.size := by have := (List.getElem?_eq_some_iff.1 hj).1; simpa using this
      have hil : i < 4 := by have := (List.getElem?_eq_some_iff.1 hi).1; rwa [encE_len] at this
      have := (h1.cell (i := j) (c := i) hjl hil).1
      rw [this]
      have e3 : d[j]! = r := by
        rw [getElem!_pos d j hjl]
        have := (List.getElem?_eq_some_iff.1 hj).2
        simpa using this
      rw [e3, getElem!_pos _ i (by rw [encE_len]; exact hil)]
      obtain ⟨hx, hy⟩ := List.getElem?_eq_some_iff.1 hi
      rw [hy]
theorem below_grow {w : World} {B : Nat} {os : Array Obj} (hw : B ≤ w.heap.size) : Below B w (grow w os) :=
  ⟨rfl, rfl, rfl, by simp [grow], fun k hk => by simp only [grow]; rw [Array.getElem?_append_left (by omega)]⟩
theorem below_sort {w : World} {B g n : Nat} {d : Array (Int × Nt)} {os : Array Obj} (hg : B ≤ g) (hw : B ≤ w.heap.size) : Below B w (sortWorldK encE 4 w g 0 n d os) := by
  have h1 : Below B w (putRowK encE 4 (Go.Sort.ahead w n) g 0 d) := ⟨rfl, rfl, rfl, by simp [putRowK, putRow, mapBlock, Go.Sort.ahead], fun k hk => by simp [putRowK, putRow, mapBlock, Go.Sort.ahead, Array.getElem?_modify, show g ≠ k by omega]⟩
  exact h1.trans (below_grow (Nat.le_trans hw h1.size))
theorem sorted_perm {d d' : Array (Int × Nt)} (h : PermIn 0 d.size d d') (hs : SortedIn (ltOf cfE) 0 d.size d') : d'.toList.Perm d.toList ∧ d'.toList.Pairwise (fun a b => a.1 ≤ b.1) := by
  obtain ⟨h1, _, h3⟩ := h
  refine ⟨?_, List.pairwise_iff_getElem.2 fun i j hi hj hij => ?_⟩
  · have e1 : d'.extract 0 d.size = d' := by rw [← h1]; simp
    have e2 : d.extract 0 d.size = d := by simp
    rwa [e1, e2] at h3
  · have := hs i j (Nat.zero_le _) hij (by rw [← h1]; simpa using hj)
    rw [ltE, getElem!_pos d' j (by simpa using hj), getElem!_pos d' i (by simpa using hi)] at this
    simp at this
    simpa using this
set_option maxRecDepth 100000 in
set_option maxHeartbeats 16000000 in
theorem sorted_any {w : World} {A : Option Addr} {c : Nat} {rs : List (Int × Nt)} (h : Sl encE 4 w A c rs) (hn : rs.length ≤ 1000000000) :
    Calls Tryz.prog 55 #[.slice A rs.length c] w fun e w' => ∃ g, e = .returned (.slice (some ⟨g, 0, none⟩) rs.length rs.length) ∧ ∃ rs', rs'.length = rs.length ∧ Sl encE 4 w' (some ⟨g, 0, none⟩) rs.length rs' ∧ rs'.Perm rs ∧ rs'.Pairwise (fun a b => a.1 ≤ b.1) ∧ Below w.heap.size w w' := by
  have H := Lib.hid h
  have LN := Lib.hid hn
  clear h
  have HC : Hid (∀ W, Er W w.heap.size rs → Calls Tryz.prog 95 #[.slice (some ⟨w.heap.size, 0, none⟩) rs.length rs.length, .func (.func 96) #[] #[]] W fun e w' => e = .returned (.tuple #[]) ∧ ∃ d' n os, PermIn 0 rs.toArray.size rs.toArray d' ∧ SortedIn (ltOf cfE) 0 rs.toArray.size d' ∧ w' = sortWorldK encE 4 W w.heap.size 0 n d' os) := fun W hE => by
    have eg : ∀ args w, (callFunc 96 args).run Tryz.prog w = .ok (.enter 96 args) w := enters_of Tryz.func96 (by kernel_rfl) rfl
    have hcon := AnyQ.slices_SortFunc Tryz.sortEn 4 Tryz.isAggV Tryz.sizeOfV encE encE_len oneE cfE swoE 96 #[] w.heap.size 0 rs.length rs.toArray W eg (fun _ _ _ _ x y => closure_any x y _) (holdsE hE) hE.lt (by simp; omega)
    change Calls Tryz.prog 95 _ _ _ at hcon
    have e : rs.toArray.size = rs.length := by simp
    rw [e] at hcon
    rw [e]
    exact hcon
  go_enter Tryz.func55, Tryz.ntmps55
  have pc0 := Lib.hid trivial
  go_wp2_with (first
    | (clear pc0; refine wpList_make_E rfl _ _ rfl rs.length (by rfl) (by rfl) LN.out ?_; intro w2 cur hc hs hb; have C0 := Lib.hid hc; have CS := Lib.hid hs; have B2 := Lib.hid hb; clear hc hs hb; have pc1 := Lib.hid trivial)
    | (clear pc1; refine wpList_copy_E rfl _ _ rfl (by rfl) (by rfl) C0.out CS.out (H.out.below B2.out) ?_; intro w3 he hg; have B3 : Hid (Below w.heap.size w w3) := Below.gr B2.out (Nat.le_refl _) hg B2.out.size; have E3 := Lib.hid he; clear he hg; have pc2 := Lib.hid trivial)
    | (clear pc2; go_at_call 95; refine (HC.out _ E3.out).mono ?_; rintro e w4 ⟨rfl, d', n, os, hp, hs, rfl⟩; have pc3 := Lib.hid trivial))
  clear pc3
  obtain ⟨p1, p2⟩ := sorted_perm (d := rs.toArray) hp hs
  have hd : d'.size = rs.length := hp.1
  have sl := er_of_sort (n := n) (os := os) E3.out hd LN.out
  have bs : Below w.heap.size w3 (sortWorldK encE 4 w3 w.heap.size 0 n d' os) := below_sort (Nat.le_refl _) B3.out.size
  generalize sortWorldK encE 4 w3 w.heap.size 0 n d' os = w5 at *
  generalize w.heap.size = g at *
  go_wp2_with fail
  refine ret_t rfl rfl rfl ?_
  exact ⟨g, rfl, d'.toList, by simpa using hd, sl, p1, p2, B3.out.trans bs⟩
end Go.Proofs.YtfacndibfkamgaaGreat

/-
  Contract of package vector: sparse.
-/
namespace Go.Proofs.YtfacndibfkamgaaGreat
open Go.RowKit
set_option linter.unusedVariables false

theorem ev_append (a b : List (Int × Nt)) : ev (a ++ b) = ev a ++ ev b := List.map_append
theorem pair_ev {rs : List (Int × Nt)} (h : rs.Pairwise (fun a b => a.1 ≤ b.1)) : (ev rs).Pairwise (fun a b => a.1 ≤ b.1) := List.pairwise_map.2 h
/-- What sparse gives. -/
def Sps (rs : List (Int × Nt)) (M : Nat) (w : World) (e : Ending) (w' : World) : Prop := ∃ (A : Option Addr) (c : Nat) (rs' : List (Int × Nt)), e = .returned (.slice A rs'.length c) ∧ Sl encE 4 w' A c rs' ∧ Asc (ev rs') ∧ (∀ i, cpt (ev rs') i = cpt (ev rs) i) ∧ (∀ r ∈ rs', Nok w' r.2 M) ∧ rs'.length ≤ rs.length ∧ Below w.heap.size w w'
/-- The loop of sparse. -/
def Spl (rs rsS : List (Int × Nt)) (M : Nat) (w1 : World) (v3 v4 : Value) (wr : World) : Prop := ∃ (A : Option Addr) (c : Nat) (out rest : List (Int × Nt)), v4 = .slice A rest.length c ∧ Sl encE 4 w1 A c rest ∧ Lg encE 4 58 wr w1.heap.size v3 out ∧ (∀ r ∈ out, Nown wr r.2 ∧ RL r.2.q M) ∧ Sg (cpt (ev rs)) (ev out) (ev rest) ∧ Below w1.heap.size w1 wr ∧ out.length + rest.length ≤ rs.length ∧ (∀ r ∈ rest, r ∈ rsS)
set_option maxRecDepth 100000 in
set_option maxHeartbeats 16000000 in
theorem sparse_yes {w : World} {A : Option Addr} {c L M : Nat} {rs : List (Int × Nt)} (h : Sl encE 4 w A c rs) (hv : ∀ r ∈ rs, Nok w r.2 L) (hL : 1 ≤ L) (hM : L ≤ M) (hR : rs.length * (L + 2) ≤ M) (hB : M ≤ 35184372088829) (hn : rs.length ≤ 1000000) (ha : Asc (ev rs)) : Calls Tryz.prog 44 #[.slice A rs.length c] w (Sps rs M w) := by
  have H := Lib.hid h
  have HV := Lib.hid hv
  have L1 := Lib.hid hL
  have LM := Lib.hid hM
  have LR := Lib.hid hR
  have LB := Lib.hid hB
  have LN := Lib.hid hn
  have HA := Lib.hid ha
  clear h hv hL hM hR hB hn ha
  go_enter Tryz.func44, Tryz.ntmps44
  have pc0 := Lib.hid trivial
  go_wp2_with (first
    | (clear pc0; go_at_call 87; refine Calls.mono (isSparse_any (ans := true) H.out HV.out ⟨L1.out, by have := LM.out; have := LB.out; omega⟩ (by have := LN.out; omega) ⟨fun _ => HA.out, fun _ => rfl⟩) ?_; rintro e w3 ⟨rfl, hb⟩; have B1 := Lib.hid hb; clear hb; have pc1 := Lib.hid trivial))
  clear pc1
  exact ret_t rfl rfl rfl ⟨A, c, rs, rfl, H.out.below B1.out, HA.out, fun _ => rfl, fun r hr => ((HV.out r hr).below B1.out).le LM.out, Nat.le_refl _, B1.out⟩
set_option maxRecDepth 100000 in
set_option maxHeartbeats 16000000 in
theorem sparse_no {w : World} {A : Option Addr} {c L M : Nat} {rs : List (Int × Nt)} (h : Sl encE 4 w A c rs) (hv : ∀ r ∈ rs, Nok w r.2 L) (hL : 1 ≤ L) (hM : L ≤ M) (hR : rs.length * (L + 2) ≤ M) (hB : M ≤ 35184372088829) (hn : rs.length ≤ 1000000) (ha : ¬ Asc (ev rs)) : Calls Tryz.prog 44 #[.slice A rs.length c] w (Sps rs M w) := by
  have H := Lib.hid h
  have HV := Lib.hid hv
  have L1 := Lib.hid hL
  have LM := Lib.hid hM
  have LR := Lib.hid hR
  have LB := Lib.hid hB
  have LN := Lib.hid hn
  have HA : Hid (false = true ↔ Asc (ev rs)) := ⟨fun h => absurd h (by decide), fun h => absurd h ha⟩
  clear h hv hL hM hR hB hn ha
  go_enter Tryz.func44, Tryz.ntmps44
  have pc0 := Lib.hid trivial
  go_wp2_with (first
    | (clear pc0; go_at_call 87; refine Calls.mono (isSparse_any (ans := false) H.out HV.out ⟨L1.out, by have := LM.out; have := LB.out; omega⟩ (by have := LN.out; omega) HA.out) ?_; rintro e w3 ⟨rfl, hb⟩; have B1 := Lib.hid hb; clear hb; have pc1 := Lib.hid trivial)
    | (clear pc1; go_at_call 55; refine Calls.mono (sorted_any (H.out.below B1.out) (by have := LN.out; omega)) ?_; rintro e w1 ⟨g, rfl, rsS, hl, hs, hp, hw, hb⟩; have SL := Lib.hid hs; have PM := Lib.hid hp; have PW := Lib.hid hw; have LE := Lib.hid hl; replace B1 := Lib.hid (B1.out.trans (hb.mono B1.out.size)); clear hl hs hp hw hb; have pc2 := Lib.hid trivial))
  clear pc2
  go_loopw [3, 4] (fun v3 v4 wr => Hid (Spl rs rsS M w1 v3 v4 wr)) (fun _ v4 _ => lenV v4)
  case atStart =>
    refine Lib.hid ⟨_, _, [], rsS, (by rw [LE.out]), SL.out, Lg.nil _ _, (fun r hr => by cases hr), ?_, Below.refl _ _, (by rw [LE.out]; simp), fun r hr => hr⟩
    have := Sg.start (pair_ev PW.out)
    have e : cpt (ev rsS) = cpt (ev rs) := funext fun i => cpt_perm (PM.out.map _) i
    rw [e] at this
    exact this
  case round =>
    obtain ⟨A1, c1, out, rest, rfl, sl, lg, no, sg, bb, ln, sub⟩ := hrel.out
    have SR := Lib.hid sl
    have LG := Lib.hid lg
    have NO := Lib.hid no
    have SG := Lib.hid sg
    have B2 := Lib.hid bb
    have LL := Lib.hid ln
    have SB := Lib.hid sub
    clear sl lg no sg bb ln sub hrel
    rcases rest with _ | ⟨x, t⟩
    · go_wp2_with fail
      obtain ⟨A2, c2, rfl, hs2⟩ := LG.out.sl encE_len
      refine ret_t rfl rfl rfl ⟨A2, c2, out, rfl, hs2, SG.out.oo, SG.out.done, fun r hr => (NO.out r hr).1.can.ok (NO.out r hr).2, by have := LL.out; simp at this; exact this, B1.out.trans (B2.out.mono B1.out.size)⟩
    · obtain ⟨n, hn⟩ : ∃ n, (x :: t).length = n := ⟨_, rfl⟩
      have p1 : 0 < n := by rw [← hn]; simp
      have C1 : Hid (∀ W, Below w1.heap.size w1 W → Calls Tryz.prog 88 #[.slice A1 n c1] W (Firsts A1 c1 W (x :: t) L)) := fun W hb => by
        have hlen : (x :: t).length ≤ rs.length := by have := LL.out; omega
        have hm : (x :: t).length * (L + 2) ≤ M := Nat.le_trans (Nat.mul_le_mul_right _ hlen) LR.out
        have := first_any (L := L) rfl (SR.out.below hb) (fun r hr => (((HV.out r (PM.out.subset (SB.out r hr))).below B1.out).below hb)) L1.out (Nat.le_trans hm LB.out) (Nat.le_trans hlen LN.out)
        rwa [hn] at this
      rw [hn]
      have HN := Lib.hid hn
      have X0 : Hid (Vb (wr.alloc (.cells #[.int .i64 0, .bool false, .slice none 0 0, .slice none 0 0] 58)) wr.heap.size 0 false none 0 0 none 0 0) := Vb.new wr 0 false none 0 0 none 0 0
      have B3 : Hid (Below wr.heap.size wr (wr.alloc (.cells #[.int .i64 0, .bool false, .slice none 0 0, .slice none 0 0] 58))) := (Below.refl _ _).alloc (Nat.le_refl _) _
      clear hn
      have pc0 := Lib.hid trivial
      go_wp2_with (first
        | (clear pc0; generalize wr.alloc (.cells #[.int .i64 0, .bool false, .slice none 0 0, .slice none 0 0] 58) = w2 at *; go_at_call 88; refine Calls.mono (C1.out _ (B2.out.trans (B3.out.mono B2.out.size))) ?_; rintro e w3 ⟨j, ⟨s1, A3, n3, c3, D3, m3, k3, x3, p3⟩, A4, c4, pre, rst, rfl, hrs, hne, hpe, hre, hsl, how, hq, hrl, hb⟩; replace X0 := Lib.hid (X0.out.below hb X0.out.lt); replace B3 := Lib.hid (B3.out.trans (hb.mono B3.out.size)); have RS := Lib.hid hrs; have NE := Lib.hid hne; have PE := Lib.hid hpe; have RE := Lib.hid hre; have SLW := Lib.hid hsl; have OW := Lib.hid how; have QQ := Lib.hid hq; have RQ := Lib.hid hrl; clear hrs hne hpe hre hsl how hq hrl; clear hb; have pc1 := Lib.hid trivial)
        | (clear pc1; refine wpList_stV (by rfl) _ _ rfl (by rfl) (by rfl) X0.out ?_; intro w4 hz hg; have tx := X0.out.tx; replace OW := Lib.hid (OW.out.grT tx hg); replace B3 := Lib.hid (Below.gr B3.out (Nat.le_refl _) hg B3.out.size); clear tx; replace X0 := Lib.hid hz; clear hz hg; have pc2 := Lib.hid trivial)
        | (clear pc2; refine wpList_ld3 (by rfl) _ rfl (by rfl) X0.out.rangeV ?_; have pd := OW.out.can.ok (RQ.out.le (Nat.le_trans (Nat.mul_le_mul_right _ (by have := LL.out; omega)) LR.out)); have PD := Lib.hid pd; clear pd; have hsv : ∃ z, sgR (mkRat x3 p3) = z := ⟨_, rfl⟩; obtain ⟨sv, hsv⟩ := hsv; have SV := Lib.hid hsv; clear hsv; have pc3 := Lib.hid trivial))
      clear pc3
      have SG2 : Hid (Sg (cpt (ev rs)) (ev out) (ev pre ++ ev rst)) := by have := SG.out; rw [RS.out, ev_append] at this; exact this
      have PE2 : Hid (∀ e ∈ ev pre, e.1 = j) := fun e he => by obtain ⟨r, hr, rfl⟩ := List.mem_map.1 he; exact PE.out r hr
      have NE2 : Hid (ev pre ≠ []) := fun h => NE.out (List.map_eq_nil_iff.1 h)
      have RE2 : Hid (∀ e r, ev rst = e :: r → e.1 ≠ j) := fun e r h => by
        cases rst with
        | nil => cases h
        | cons a l => cases h; exact RE.out a l rfl
      have LEN : Hid (pre.length + rst.length = n) := by have := HN.out; rw [RS.out, List.length_append] at this; exact this
      have PL : Hid (1 ≤ pre.length) := by have := NE.out; cases pre with | nil => exact absurd rfl this | cons a l => (show 1 ≤ _; simp)
      have LL2 : Hid (out.length + n ≤ rs.length) := by have := LL.out; rw [HN.out] at this; exact this
      have SLR : Hid (Sl encE 4 w1 A4 c4 rst) := SLW.out w1 SR.out
      have SB2 : Hid (∀ r ∈ rst, r ∈ rsS) := fun r hr => SB.out r (by rw [RS.out]; simp [hr])
      by_cases hz : mkRat x3 p3 = 0
      · obtain rfl : sv = 0 := by rw [← SV.out]; exact (sgR_nil _).2 hz
        have pc0 := Lib.hid trivial
        go_wp2_with (first
          | (clear pc0; go_at_call 52; refine Calls.mono (qsign_any PD.out.1 PD.out.2.1 PD.out.2.2.1 PD.out.2.2.2 ⟨Nat.le_trans (by have := L1.out; omega) (Nat.le_trans LM.out (Nat.le_refl M)), by have := LB.out; omega⟩ SV.out) ?_; rintro e w5 ⟨rfl, hb⟩; replace X0 := Lib.hid (X0.out.below hb X0.out.lt); replace OW := Lib.hid (OW.out.below hb); replace B3 := Lib.hid (B3.out.trans (hb.mono B3.out.size)); have BW : Hid (Below w1.heap.size w1 w5) := B2.out.trans (B3.out.mono B2.out.size); clear hb; have pc1 := Lib.hid trivial))
        clear pc1
        have SGN : Hid (Sg (cpt (ev rs)) (ev out) (ev rst)) := SG2.out.drop PE2.out NE2.out RE2.out (by rw [← QQ.out]; exact hz)
        replace LG := Lib.hid (LG.out.below B3.out)
        have NO2 : Hid (∀ r ∈ out, Nown w5 r.2 ∧ RL r.2.q M) := fun r hr => ⟨(NO.out r hr).1.below B3.out, (NO.out r hr).2⟩
        go_wp2_with fail
        go_roundw
        case rel => exact Lib.hid ⟨A4, c4, out, rst, rfl, SLR.out, LG.out, NO2.out, SGN.out, BW.out, by have := LEN.out; have := LL2.out; omega, SB2.out⟩
        case measure => have := LEN.out; have := PL.out; simp [lenV]; omega
      · have e1 : (sv == 0) = false := beq_false_of_ne fun e => hz ((sgR_nil _).1 (SV.out.trans e))
        have e2 : (sv != 0) = true := by rw [bne, e1]; rfl
        have SGN : Hid (Sg (cpt (ev rs)) (ev (out ++ [(j, ⟨s1, A3, n3, c3, D3, m3, k3, x3, p3⟩)])) (ev rst)) := by
          show Sg _ _ _
          rw [ev_append]
          have := SG2.out.keep PE2.out NE2.out RE2.out (by rw [← QQ.out]; exact hz)
          rw [← QQ.out] at this
          exact this
        have RQ2 : Hid (RL (mkRat x3 p3) M) := RQ.out.le (Nat.le_trans (Nat.mul_le_mul_right _ (by have := LL.out; omega)) LR.out)
        have LO : Hid (out.length ≤ 1000000000) := by have := LL2.out; have := LN.out; show _ ≤ _; omega
        clear SG SG2 RE RE2 RQ SLW SR RS NE PE PE2 NE2 SB
        have pc0 := Lib.hid trivial
        go_wp2_with (first
          | (clear pc0; go_at_call 52; refine Calls.mono (qsign_any PD.out.1 PD.out.2.1 PD.out.2.2.1 PD.out.2.2.2 ⟨Nat.le_trans (by have := L1.out; omega) (Nat.le_trans LM.out (Nat.le_refl M)), by have := LB.out; omega⟩ SV.out) ?_; rintro e w5 ⟨rfl, hb⟩; replace X0 := Lib.hid (X0.out.below hb X0.out.lt); replace OW := Lib.hid (OW.out.below hb); replace B3 := Lib.hid (B3.out.trans (hb.mono B3.out.size)); have BW : Hid (Below w1.heap.size w1 w5) := B2.out.trans (B3.out.mono B2.out.size); clear hb; have pc1 := Lib.hid trivial)
          | (clear pc1; refine wpList_ld4 (by rfl) _ rfl (by rfl) X0.out.range ?_; have pc2 := Lib.hid trivial)
          | (clear pc2; refine append_E rfl _ _ rfl (j, ⟨s1, A3, n3, c3, D3, m3, k3, x3, p3⟩) rfl (LG.out.below (B3.out.trans ((Below.refl w5.heap.size w5).alloc (Nat.le_refl _) (.cells #[.int .i64 j, .bool s1, .slice A3 n3 c3, .slice D3 m3 k3] 58) |>.mono B3.out.size))) rfl (Vb.new w5 j s1 A3 n3 c3 D3 m3 k3).range LO.out (by have := BW.out.size; simp; omega) ?_; intro v9 w6 hlg hkt; have LGN := Lib.hid hlg; have ba : Below w5.heap.size w5 (w5.alloc (.cells #[.int .i64 j, .bool s1, .slice A3 n3 c3, .slice D3 m3 k3] 58)) := (Below.refl _ _).alloc (Nat.le_refl _) _; have NON : Hid (∀ r ∈ out ++ [(j, (⟨s1, A3, n3, c3, D3, m3, k3, x3, p3⟩ : Nt))], Nown w6 r.2 ∧ RL r.2.q M) := (fun r hr => (List.mem_append.1 hr).elim (fun hr => ⟨(((NO.out r hr).1.below B3.out).below ba).kt hkt (by decide), (NO.out r hr).2⟩) (fun hr => by simp at hr; rw [hr]; exact ⟨(OW.out.below ba).kt hkt (by decide), RQ2.out⟩)); have BWN : Hid (Below w1.heap.size w1 w6) := (BW.out.trans (ba.mono BW.out.size)).trans hkt.2; clear hlg hkt ba; have pc3 := Lib.hid trivial))
        clear pc3
        go_wp2_with fail
        go_roundw
        case rel => exact Lib.hid ⟨A4, c4, out ++ [(j, ⟨s1, A3, n3, c3, D3, m3, k3, x3, p3⟩)], rst, rfl, SLR.out, LGN.out, NON.out, SGN.out, BWN.out, by have := LEN.out; have := LL2.out; have := PL.out; simp; omega, SB2.out⟩
        case measure => have := LEN.out; have := PL.out; simp [lenV]; omega
theorem sparse_any {w : World} {A : Option Addr} {c L M : Nat} {rs : List (Int × Nt)} (h : Sl encE 4 w A c rs) (hv : ∀ r ∈ rs, Nok w r.2 L) (hL : 1 ≤ L) (hM : L ≤ M) (hR : rs.length * (L + 2) ≤ M) (hB : M ≤ 35184372088829) (hn : rs.length ≤ 1000000) : Calls Tryz.prog 44 #[.slice A rs.length c] w (Sps rs M w) := by
  by_cases ha : Asc (ev rs)
  · exact sparse_yes h hv hL hM hR hB hn ha
  · exact sparse_no h hv hL hM hR hB hn ha
end Go.Proofs.YtfacndibfkamgaaGreat

/-
  Contract of package vector: merge.
-/
namespace Go.Proofs.YtfacndibfkamgaaGreat
open Go.RowKit
set_option linter.unusedVariables false

/-- What is asked of an operation on components. -/
def OpAt (g : Nat) (cb : Array Value) (f : Rat → Rat → Rat) (S M : Nat) (w : World) : Prop := ∀ W, Below w.heap.size w W → ∀ x y : Nt, Nok W x S → Nok W y S → Calls Tryz.prog g (#[.agg #[.bool x.s, .slice x.A x.n x.c, .slice x.D x.m x.k], .agg #[.bool y.s, .slice y.A y.n y.c, .slice y.D y.m y.k]] ++ cb) W (Opd M (f x.q y.q) W)
/-- What merge gives. -/
def Mgd (a b : List (Int × Nt)) (f : Rat → Rat → Rat) (M : Nat) (w : World) (e : Ending) (w' : World) : Prop := ∃ (A : Option Addr) (c : Nat) (rs : List (Int × Nt)), e = .returned (.slice A rs.length c) ∧ Sl encE 4 w' A c rs ∧ Asc (ev rs) ∧ (∀ i, cpt (ev rs) i = f (cpt (ev a) i) (cpt (ev b) i)) ∧ (∀ r ∈ rs, Ncan w' r.2 ∧ RL r.2.q M) ∧ rs.length ≤ a.length + b.length ∧ Below w.heap.size w w'
/-- The loop of merge. -/
def Mgl (a b : List (Int × Nt)) (f : Rat → Rat → Rat) (S M : Nat) (w1 : World) (v0 v1 v7 : Value) (wr : World) : Prop := ∃ (A : Option Addr) (c : Nat) (ra : List (Int × Nt)) (B : Option Addr) (d : Nat) (rb out : List (Int × Nt)), v0 = .slice A ra.length c ∧ v1 = .slice B rb.length d ∧ Sl encE 4 w1 A c ra ∧ Sl encE 4 w1 B d rb ∧ (∀ r ∈ ra, Nok w1 r.2 S) ∧ (∀ r ∈ rb, Nok w1 r.2 S) ∧ Lg encE 4 58 wr w1.heap.size v7 out ∧ (∀ r ∈ out, Nown wr r.2 ∧ RL r.2.q M) ∧ Mg f (cpt (ev a)) (cpt (ev b)) (ev out) (ev ra) (ev rb) ∧ Below w1.heap.size w1 wr ∧ out.length + (ra.length + rb.length) ≤ a.length + b.length
def Nt.z : Nt := ⟨false, none, 0, 0, none, 0, 0, 0, 0⟩
theorem z_ok (w : World) (S : Nat) : Nok w Nt.z S := ⟨⟨[], Rd.nil _ _, rfl, rfl⟩, ⟨[], Rd.nil _ _, rfl, rfl⟩, Nat.zero_le _, Nat.zero_le _⟩
theorem z_q : Nt.z.q = 0 := rfl
/-- What one round takes. -/
def Pick (w1 : World) (A : Option Addr) (c : Nat) (ra : List (Int × Nt)) (j : Int) (S : Nat) : Prop := ∃ (x : Nt) (A' : Option Addr) (c' : Nat) (ra' : List (Int × Nt)), (∀ W, Below w1.heap.size w1 W → Calls Tryz.prog 46 #[.slice A ra.length c, .int .i64 j] W fun e w' => e = .returned (.tuple #[.agg #[.bool x.s, .slice x.A x.n x.c, .slice x.D x.m x.k], .slice A' ra'.length c']) ∧ Below W.heap.size W w') ∧ Sl encE 4 w1 A' c' ra' ∧ Nok w1 x S ∧ Tk (ev ra) j x.q (ev ra') ∧ (∀ r ∈ ra', r ∈ ra) ∧ ra'.length ≤ ra.length ∧ (∀ y t, ra = y :: t → y.1 = j → ra'.length + 1 = ra.length)
theorem pick_nil {w1 : World} {A : Option Addr} {c : Nat} {j : Int} {S : Nat} (h : Sl encE 4 w1 A c []) : Pick w1 A c [] j S :=
  ⟨Nt.z, A, c, [], fun W _ => take_nil rfl, h, z_ok _ _, Tk.miss ⟨List.Pairwise.nil, fun e he => by cases he⟩ (fun e he => by cases he), fun r hr => hr, Nat.le_refl _, fun y t h => by cases h⟩
theorem pick_hit {w1 : World} {A : Option Addr} {c : Nat} {j : Int} {S : Nat} {x : Nt} {t : List (Int × Nt)} (h : Sl encE 4 w1 A c ((j, x) :: t)) (hv : ∀ r ∈ (j, x) :: t, Nok w1 r.2 S) (ha : Asc (ev ((j, x) :: t))) : Pick w1 A c ((j, x) :: t) j S :=
  ⟨x, _, _, t, fun W hb => take_hit rfl (h.below hb), h.cut, hv (j, x) (by simp), Tk.hit ha, fun r hr => by simp [hr], by simp, fun y t' _ _ => by simp⟩
theorem pick_miss {w1 : World} {A : Option Addr} {c : Nat} {j : Int} {S : Nat} {x : Int × Nt} {t : List (Int × Nt)} (h : Sl encE 4 w1 A c (x :: t)) (ha : Asc (ev (x :: t))) (hj : j < x.1) : Pick w1 A c (x :: t) j S :=
  ⟨Nt.z, A, c, x :: t, fun W hb => take_miss rfl (h.below hb) (by omega), h, z_ok _ _, Tk.miss ha (fun e he => by
    have := Asc.le_all (j := x.1) ha (Int.le_refl _) e he
    omega), fun r hr => hr, Nat.le_refl _, fun y t' h' hy => by cases h'; omega⟩
/-- One round: the least index, and what stands there. -/
theorem merge_pick {w1 : World} {A B : Option Addr} {c d S : Nat} {ra rb : List (Int × Nt)} (ha : Sl encE 4 w1 A c ra) (hb : Sl encE 4 w1 B d rb) (va : ∀ r ∈ ra, Nok w1 r.2 S) (vb : ∀ r ∈ rb, Nok w1 r.2 S) (aa : Asc (ev ra)) (ab : Asc (ev rb)) (hne : 0 < ra.length + rb.length) :
    ∃ j, (∀ W, Below w1.heap.size w1 W → Calls Tryz.prog 98 #[.slice A ra.length c, .slice B rb.length d] W fun e w' => e = .returned (.int .i64 j) ∧ Below W.heap.size W w') ∧ Pick w1 A c ra j S ∧ Pick w1 B d rb j S ∧ ((∃ y t, ra = y :: t ∧ y.1 = j) ∨ ∃ y t, rb = y :: t ∧ y.1 = j) ∧ (∀ out : List (Int × Rat), (∀ e ∈ out, (∀ x ∈ ev ra, e.1 < x.1) ∧ ∀ x ∈ ev rb, e.1 < x.1) → ∀ e ∈ out, e.1 < j) := by
  rcases ra with _ | ⟨⟨i, x⟩, ta⟩
  · rcases rb with _ | ⟨⟨k, y⟩, tb⟩
    · simp at hne
    · exact ⟨k, fun W h => least_b (y := (k, y)) rfl (hb.below h) rfl, pick_nil ha, pick_hit hb vb ab, .inr ⟨_, _, rfl, rfl⟩, fun out h e he => (h e he).2 (k, y.q) (by simp [ev])⟩
  · rcases rb with _ | ⟨⟨k, y⟩, tb⟩
    · exact ⟨i, fun W h => least_a (x := (i, x)) rfl (ha.below h) rfl, pick_hit ha va aa, pick_nil hb, .inl ⟨_, _, rfl, rfl⟩, fun out h e he => (h e he).1 (i, x.q) (by simp [ev])⟩
    · rcases Int.lt_or_le k i with g | g
      · exact ⟨k, fun W h => least_ba (x := (i, x)) (y := (k, y)) rfl (ha.below h) rfl (hb.below h) g, pick_miss ha aa g, pick_hit hb vb ab, .inr ⟨_, _, rfl, rfl⟩, fun out h e he => (h e he).2 (k, y.q) (by simp [ev])⟩
      · have L := fun W h => least_ab (w := W) (x := (i, x)) (y := (k, y)) rfl (ha.below h) rfl (hb.below h) g
        rcases Int.lt_or_le i k with g2 | g2
        · exact ⟨i, L, pick_hit ha va aa, pick_miss hb ab g2, .inl ⟨_, _, rfl, rfl⟩, fun out h e he => (h e he).1 (i, x.q) (by simp [ev])⟩
        · obtain rfl : i = k := by omega
          exact ⟨i, L, pick_hit ha va aa, pick_hit hb vb ab, .inl ⟨_, _, rfl, rfl⟩, fun out h e he => (h e he).1 (i, x.q) (by simp [ev])⟩
end Go.Proofs.YtfacndibfkamgaaGreat

/-
  Contract of package vector: merge, walked.
-/
namespace Go.Proofs.YtfacndibfkamgaaGreat
open Go.RowKit
set_option linter.unusedVariables false

theorem start_0R0R (w : World) :
    Hid (Below w.heap.size w ((w.alloc (.cells #[.bool false, .slice none 0 0, .slice none 0 0] 29)).alloc (.cells #[.bool false, .slice none 0 0, .slice none 0 0] 29))) ∧ Hid (Rb ((w.alloc (.cells #[.bool false, .slice none 0 0, .slice none 0 0] 29)).alloc (.cells #[.bool false, .slice none 0 0, .slice none 0 0] 29)) (w.heap.size) false none 0 0 none 0 0) ∧ Hid (Rb ((w.alloc (.cells #[.bool false, .slice none 0 0, .slice none 0 0] 29)).alloc (.cells #[.bool false, .slice none 0 0, .slice none 0 0] 29)) (w.heap.size + 1) false none 0 0 none 0 0) := by
  refine ⟨?_, ?_, ?_⟩
  · exact (((Below.refl _ _).alloc (by first | exact Nat.le_refl _ | (simp; done) | (simp; omega)) _).alloc (by first | exact Nat.le_refl _ | (simp; done) | (simp; omega)) _)
  · have := Rb.new w false none 0 0 none 0 0
    exact (this.alloc _)
  · have := Rb.new (w.alloc (.cells #[.bool false, .slice none 0 0, .slice none 0 0] 29)) false none 0 0 none 0 0
    simp only [World.size_alloc] at this
    exact this
set_option maxRecDepth 100000 in
set_option maxHeartbeats 16000000 in
theorem merge_any {w : World} {A B : Option Addr} {c d L S M g : Nat} {cb : Array Value} {f : Rat → Rat → Rat} {a b : List (Int × Nt)} (eg : ∀ args w, (callFunc g args).run Tryz.prog w = .ok (.enter g args) w) (hop : OpAt g cb f S M w) (h00 : f 0 0 = 0)
    (ha : Sl encE 4 w A c a) (va : ∀ r ∈ a, Nok w r.2 L) (hb : Sl encE 4 w B d b) (vb : ∀ r ∈ b, Nok w r.2 L) (hL : 1 ≤ L) (hM : L ≤ S) (hR : a.length * (L + 2) ≤ S) (hR2 : b.length * (L + 2) ≤ S) (hB : S ≤ 35184372088829) (hB2 : 1 ≤ M ∧ M ≤ 70368744177660) (hn : a.length ≤ 1000000) (hn2 : b.length ≤ 1000000) :
    Calls Tryz.prog 59 #[.slice A a.length c, .slice B b.length d, .func (.func g) #[] cb] w (Mgd a b f M w) := by
  have HA := Lib.hid ha
  have HVA := Lib.hid va
  have HB := Lib.hid hb
  have HVB := Lib.hid vb
  have L1 := Lib.hid hL
  have LM := Lib.hid hM
  have LR := Lib.hid hR
  have LR2 := Lib.hid hR2
  have LB := Lib.hid hB
  have LB2 := Lib.hid hB2
  have LN := Lib.hid hn
  have LN2 := Lib.hid hn2
  have HOP := Lib.hid hop
  have H0 := Lib.hid h00
  clear hop h00 ha va hb vb hL hM hR hR2 hB hB2 hn hn2
  go_enter Tryz.func59, Tryz.ntmps59
  have pc0 := Lib.hid trivial
  go_wp2_with (first
    | (clear pc0; go_at_call 44; refine Calls.mono (sparse_any HA.out HVA.out L1.out LM.out LR.out LB.out LN.out) ?_; rintro e w2 ⟨A1, c1, ra, rfl, hs, hasc, hcp, hok, hlen, hbl⟩; have B1 := Lib.hid hbl; have SA := Lib.hid hs; have AA := Lib.hid hasc; have CA := Lib.hid hcp; have OA := Lib.hid hok; have NA := Lib.hid hlen; clear hs hasc hcp hok hlen hbl; have pc1 := Lib.hid trivial)
    | (clear pc1; go_at_call 44; refine Calls.mono (sparse_any (HB.out.below B1.out) (fun r hr => (HVB.out r hr).below B1.out) L1.out LM.out LR2.out LB.out LN2.out) ?_; rintro e w1 ⟨A2, c2, rb, rfl, hs, hasc, hcp, hok, hlen, hbl⟩; replace SA := Lib.hid (SA.out.below hbl); replace OA : Hid (∀ r ∈ ra, Nok w1 r.2 S) := fun r hr => (OA.out r hr).below hbl; replace B1 := Lib.hid (B1.out.trans (hbl.mono B1.out.size)); have SB := Lib.hid hs; have AB := Lib.hid hasc; have CB := Lib.hid hcp; have OB := Lib.hid hok; have NB := Lib.hid hlen; clear hs hasc hcp hok hlen hbl; have pc2 := Lib.hid trivial))
  clear pc2
  go_loopw [0, 1, 7] (fun v0 v1 v7 wr => Hid (Mgl a b f S M w1 v0 v1 v7 wr)) (fun v0 v1 _ _ => lenV v0 + lenV v1)
  case atStart =>
    refine Lib.hid ⟨_, _, ra, _, _, rb, [], rfl, rfl, SA.out, SB.out, OA.out, OB.out, Lg.nil _ _, (fun r hr => by cases hr), ?_, Below.refl _ _, by have := NA.out; have := NB.out; simp; omega⟩
    have := Mg.start (op := f) AA.out AB.out
    rw [show cpt (ev ra) = cpt (ev a) from funext CA.out, show cpt (ev rb) = cpt (ev b) from funext CB.out] at this
    exact this
  case round =>
    clear SA AA CA OA NA SB AB CB OB NB
    obtain ⟨A3, c3, ra, B3, d3, rb, out, rfl, rfl, sa, sb, oa, ob, lg, no, mg, bb, ln⟩ := hrel.out
    have SA := Lib.hid sa
    have SB := Lib.hid sb
    have OA := Lib.hid oa
    have OB := Lib.hid ob
    have LG := Lib.hid lg
    have NO := Lib.hid no
    have MG := Lib.hid mg
    have B2 := Lib.hid bb
    have LL := Lib.hid ln
    clear sa sb oa ob lg no mg bb ln hrel
    rcases Nat.eq_zero_or_pos (ra.length + rb.length) with h0 | h0
    · obtain rfl : ra = [] := List.eq_nil_of_length_eq_zero (by omega)
      obtain rfl : rb = [] := List.eq_nil_of_length_eq_zero (by omega)
      go_wp2_with fail
      obtain ⟨A5, c5, rfl, hs5⟩ := LG.out.sl encE_len
      refine ret_t rfl rfl rfl ⟨A5, c5, out, rfl, hs5, MG.out.oo, MG.out.done H0.out, fun r hr => ⟨(NO.out r hr).1.can, (NO.out r hr).2⟩, by have := LL.out; simp at this; exact this, B1.out.trans (B2.out.mono B1.out.size)⟩
    · obtain ⟨j, hle, ⟨x, A6, c6, ra', hta, sa', ox, tka, suba, lena, hita⟩, ⟨y, B6, d6, rb', htb, sb', oy, tkb, subb, lenb, hitb⟩, hwho, hout⟩ := merge_pick SA.out SB.out OA.out OB.out MG.out.la MG.out.lb h0
      have dec : ra'.length + rb'.length + 1 ≤ ra.length + rb.length := by
        rcases hwho with ⟨p, t, h1, h2⟩ | ⟨p, t, h1, h2⟩
        · have := hita p t h1 h2; omega
        · have := hitb p t h1 h2; omega
      have JO := Lib.hid (hout (ev out) MG.out.lo)
      have TKA := Lib.hid tka
      have TKB := Lib.hid tkb
      have LEAST := Lib.hid hle
      have TA := Lib.hid hta
      have TB := Lib.hid htb
      have SA' := Lib.hid sa'
      have SB' := Lib.hid sb'
      have OX := Lib.hid ox
      have OY := Lib.hid oy
      have OA' : Hid (∀ r ∈ ra', Nok w1 r.2 S) := fun r hr => OA.out r (suba r hr)
      have OB' : Hid (∀ r ∈ rb', Nok w1 r.2 S) := fun r hr => OB.out r (subb r hr)
      have DEC := Lib.hid dec
      have LO : Hid (out.length ≤ 1000000000) := by have := LL.out; have := LN.out; have := LN2.out; show _ ≤ _; omega
      have ON : Hid (out.length + 1 + (ra'.length + rb'.length) ≤ a.length + b.length) := by have := LL.out; show _ ≤ _; omega
      obtain ⟨B4, X0, Y0⟩ := start_0R0R wr
      clear hle hta htb sa' sb' ox oy tka tkb suba subb lena lenb hita hitb hwho hout dec SA SB OA OB
      obtain ⟨n, hn⟩ : ∃ n, ra.length = n := ⟨_, rfl⟩
      obtain ⟨m, hm⟩ : ∃ m, rb.length = m := ⟨_, rfl⟩
      rw [hn] at LEAST TA ⊢
      rw [hm] at LEAST TB ⊢
      have HN := Lib.hid hn
      have HM := Lib.hid hm
      rw [hn, hm] at h0
      clear hn hm
      rcases Nat.eq_zero_or_pos n with hn0 | hn0
      · subst hn0
        have p1 : 0 < m := by omega
        clear h0
        have pc0 := Lib.hid trivial
        go_wp2_with (first
          | (clear pc0; generalize ((wr.alloc (.cells #[.bool false, .slice none 0 0, .slice none 0 0] 29)).alloc (.cells #[.bool false, .slice none 0 0, .slice none 0 0] 29)) = w2 at *; go_at_call 98; refine Calls.mono (LEAST.out _ (B2.out.trans (B4.out.mono B2.out.size))) ?_; rintro e w3 ⟨rfl, hb⟩; replace X0 := Lib.hid (X0.out.below hb X0.out.lt); replace Y0 := Lib.hid (Y0.out.below hb Y0.out.lt); replace B4 := Lib.hid (B4.out.trans (hb.mono B4.out.size)); clear hb; have pc1 := Lib.hid trivial)
          | (clear pc1; go_at_call 46; refine Calls.mono (TA.out _ (B2.out.trans (B4.out.mono B2.out.size))) ?_; rintro e w4 ⟨rfl, hb⟩; replace X0 := Lib.hid (X0.out.below hb X0.out.lt); replace Y0 := Lib.hid (Y0.out.below hb Y0.out.lt); replace B4 := Lib.hid (B4.out.trans (hb.mono B4.out.size)); clear hb; have pc2 := Lib.hid trivial)
          | (clear pc2; refine wpList_stR (by rfl) _ _ rfl (by rfl) (by rfl) X0.out ?_; intro w5 hz hg; have tx := X0.out.tx; replace Y0 := Lib.hid (Y0.out.gro hg (by omega)); replace B4 := Lib.hid (Below.gr B4.out (by omega) hg B4.out.size); clear tx; replace X0 := Lib.hid hz; clear hz hg; have pc3 := Lib.hid trivial)
          | (clear pc3; go_at_call 46; refine Calls.mono (TB.out _ (B2.out.trans (B4.out.mono B2.out.size))) ?_; rintro e w6 ⟨rfl, hb⟩; replace X0 := Lib.hid (X0.out.below hb X0.out.lt); replace Y0 := Lib.hid (Y0.out.below hb Y0.out.lt); replace B4 := Lib.hid (B4.out.trans (hb.mono B4.out.size)); clear hb; have pc4 := Lib.hid trivial)
          | (clear pc4; refine wpList_stR (by rfl) _ _ rfl (by rfl) (by rfl) Y0.out ?_; intro w5b hz hg; have tx := Y0.out.tx; replace X0 := Lib.hid (X0.out.gro hg (by omega)); replace B4 := Lib.hid (Below.gr B4.out (by omega) hg B4.out.size); clear tx; replace Y0 := Lib.hid hz; clear hz hg; have pc5 := Lib.hid trivial)
          | (clear pc5; refine wpList_ldR (by rfl) _ rfl (by rfl) X0.out ?_; have pc6 := Lib.hid trivial)
          | (clear pc6; refine wpList_ldR (by rfl) _ rfl (by rfl) Y0.out ?_; have pc7 := Lib.hid trivial)
          | (clear pc7; go_at_fn g; refine Calls.mono (HOP.out _ (B1.out.trans ((B2.out.trans (B4.out.mono B2.out.size)).mono B1.out.size)) x y (OX.out.below (B2.out.trans (B4.out.mono B2.out.size))) (OY.out.below (B2.out.trans (B4.out.mono B2.out.size)))) ?_; rintro e w5c ⟨⟨s3, A7, n3, c7, D3, m3, k3, x3, p3⟩, rfl, hok, hqr, hown, hb⟩; replace X0 := Lib.hid (X0.out.below hb X0.out.lt); replace Y0 := Lib.hid (Y0.out.below hb Y0.out.lt); replace B4 := Lib.hid (B4.out.trans (hb.mono B4.out.size)); have OR := Lib.hid hok; have QR := Lib.hid hqr; have OWN := Lib.hid hown; clear hok hqr hown; clear hb; have pc8 := Lib.hid trivial))
        clear pc8
        have hb : Below w5c.heap.size w5c (w5c.alloc (.cells #[.bool s3, .slice A7 n3 c7, .slice D3 m3 k3] 29)) := (Below.refl _ _).alloc (Nat.le_refl _) _
        have V0 : Hid (Rb (w5c.alloc (.cells #[.bool s3, .slice A7 n3 c7, .slice D3 m3 k3] 29)) w5c.heap.size s3 A7 n3 c7 D3 m3 k3) := Rb.new w5c s3 A7 n3 c7 D3 m3 k3
        replace OR := Lib.hid (OR.out.below hb)
        have hown := OWN.out
        replace OWN : Hid (f x.q y.q ≠ 0 → Nown (w5c.alloc (.cells #[.bool s3, .slice A7 n3 c7, .slice D3 m3 k3] 29)) ⟨s3, A7, n3, c7, D3, m3, k3, x3, p3⟩) := (fun h => (hown h).below hb)
        replace B4 := Lib.hid (B4.out.trans (hb.mono B4.out.size))
        clear hb hown X0 Y0
        generalize w5c.alloc (.cells #[.bool s3, .slice A7 n3 c7, .slice D3 m3 k3] 29) = w6v at *
        obtain ⟨q, eq⟩ : ∃ q, f x.q y.q = q := ⟨_, rfl⟩
        have QF := Lib.hid eq
        rw [eq] at QR OWN
        clear eq
        by_cases hz : q = 0
        · obtain ⟨sv, hsv⟩ : ∃ z, sgR (mkRat x3 p3) = z := ⟨_, rfl⟩
          obtain rfl : sv = 0 := by rw [← hsv]; exact (sgR_nil _).2 (QR.out.trans hz)
          have SV := Lib.hid hsv
          have MGN : Hid (Mg f (cpt (ev a)) (cpt (ev b)) (ev out) (ev ra') (ev rb')) := MG.out.drop H0.out TKA.out TKB.out JO.out (by rw [QF.out]; exact hz)
          clear hsv MG JO TKA TKB
          have pc0 := Lib.hid trivial
          go_wp2_with (first
            | (clear pc0; go_at_call 52; refine Calls.mono (qsign_any OR.out.1 OR.out.2.1 OR.out.2.2.1 OR.out.2.2.2 LB2.out SV.out) ?_; rintro e w7 ⟨rfl, hb⟩; replace V0 := Lib.hid (V0.out.below hb V0.out.lt); replace OR := Lib.hid (OR.out.below hb); replace B4 := Lib.hid (B4.out.trans (hb.mono B4.out.size)); have BW : Hid (Below w1.heap.size w1 w7) := (B2.out.trans (B4.out.mono B2.out.size)); clear hb; have pc1 := Lib.hid trivial))
          clear pc1
          replace LG := Lib.hid (LG.out.below B4.out)
          have NO2 : Hid (∀ r ∈ out, Nown w7 r.2 ∧ RL r.2.q M) := fun r hr => ⟨(NO.out r hr).1.below B4.out, (NO.out r hr).2⟩
          go_wp2_with fail
          go_roundw
          case rel => exact Lib.hid ⟨A6, c6, ra', B6, d6, rb', out, rfl, rfl, SA'.out, SB'.out, OA'.out, OB'.out, LG.out, NO2.out, MGN.out, BW.out, by have := ON.out; omega⟩
          case measure => have := DEC.out; have := HN.out; have := HM.out; simp [lenV]; omega
        · obtain ⟨sv, hsv⟩ : ∃ z, sgR (mkRat x3 p3) = z := ⟨_, rfl⟩
          have e1 : (sv == 0) = false := beq_false_of_ne fun e => hz (QR.out.symm.trans ((sgR_nil _).1 (hsv.trans e)))
          have e2 : (sv != 0) = true := by rw [bne, e1]; rfl
          have SV := Lib.hid hsv
          have OWR := Lib.hid (OWN.out hz)
          have RQ : Hid (RL (mkRat x3 p3) M) := OR.out.rl LB2.out.1
          have MGN : Hid (Mg f (cpt (ev a)) (cpt (ev b)) (ev (out ++ [(j, ⟨s3, A7, n3, c7, D3, m3, k3, x3, p3⟩)])) (ev ra') (ev rb')) := by
            show Mg _ _ _ _ _ _
            rw [ev_append]
            have := MG.out.keep H0.out TKA.out TKB.out JO.out (by rw [QF.out]; exact hz)
            rw [QF.out, ← QR.out] at this
            exact this
          clear hsv MG JO TKA TKB
          have pc0 := Lib.hid trivial
          go_wp2_with (first
            | (clear pc0; go_at_call 52; refine Calls.mono (qsign_any OR.out.1 OR.out.2.1 OR.out.2.2.1 OR.out.2.2.2 LB2.out SV.out) ?_; rintro e w7 ⟨rfl, hb⟩; replace V0 := Lib.hid (V0.out.below hb V0.out.lt); replace OR := Lib.hid (OR.out.below hb); replace OWR := Lib.hid (OWR.out.below hb); replace B4 := Lib.hid (B4.out.trans (hb.mono B4.out.size)); have BW : Hid (Below w1.heap.size w1 w7) := (B2.out.trans (B4.out.mono B2.out.size)); clear hb; have pc1 := Lib.hid trivial)
            | (clear pc1; refine wpList_ldR (by rfl) _ rfl (by rfl) V0.out ?_; have pc2 := Lib.hid trivial)
            | (clear pc2; refine append_E rfl _ _ rfl (j, ⟨s3, A7, n3, c7, D3, m3, k3, x3, p3⟩) rfl (LG.out.below (B4.out.trans ((Below.refl w7.heap.size w7).alloc (Nat.le_refl _) (.cells #[.int .i64 j, .bool s3, .slice A7 n3 c7, .slice D3 m3 k3] 58) |>.mono B4.out.size))) rfl (Vb.new w7 j s3 A7 n3 c7 D3 m3 k3).range LO.out (by have := BW.out.size; simp; omega) ?_; intro v9 w8 hlg hkt; have LGN := Lib.hid hlg; have ba : Below w7.heap.size w7 (w7.alloc (.cells #[.int .i64 j, .bool s3, .slice A7 n3 c7, .slice D3 m3 k3] 58)) := (Below.refl _ _).alloc (Nat.le_refl _) _; have NON : Hid (∀ r ∈ out ++ [(j, (⟨s3, A7, n3, c7, D3, m3, k3, x3, p3⟩ : Nt))], Nown w8 r.2 ∧ RL r.2.q M) := (fun r hr => (List.mem_append.1 hr).elim (fun hr => ⟨(((NO.out r hr).1.below B4.out).below ba).kt hkt (by decide), (NO.out r hr).2⟩) (fun hr => by simp at hr; rw [hr]; exact ⟨(OWR.out.below ba).kt hkt (by decide), RQ.out⟩)); have BWN : Hid (Below w1.heap.size w1 w8) := (BW.out.trans (ba.mono BW.out.size)).trans hkt.2; clear hlg hkt ba; have pc3 := Lib.hid trivial))
          clear pc3
          go_wp2_with fail
          go_roundw
          case rel => exact Lib.hid ⟨A6, c6, ra', B6, d6, rb', out ++ [(j, ⟨s3, A7, n3, c7, D3, m3, k3, x3, p3⟩)], rfl, rfl, SA'.out, SB'.out, OA'.out, OB'.out, LGN.out, NON.out, MGN.out, BWN.out, by have := ON.out; rw [List.length_append]; simp; omega⟩
          case measure => have := DEC.out; have := HN.out; have := HM.out; simp [lenV]; omega
      · clear h0
        have pc0 := Lib.hid trivial
        go_wp2_with (first
          | (clear pc0; generalize ((wr.alloc (.cells #[.bool false, .slice none 0 0, .slice none 0 0] 29)).alloc (.cells #[.bool false, .slice none 0 0, .slice none 0 0] 29)) = w2 at *; go_at_call 98; refine Calls.mono (LEAST.out _ (B2.out.trans (B4.out.mono B2.out.size))) ?_; rintro e w3 ⟨rfl, hb⟩; replace X0 := Lib.hid (X0.out.below hb X0.out.lt); replace Y0 := Lib.hid (Y0.out.below hb Y0.out.lt); replace B4 := Lib.hid (B4.out.trans (hb.mono B4.out.size)); clear hb; have pc1 := Lib.hid trivial)
          | (clear pc1; go_at_call 46; refine Calls.mono (TA.out _ (B2.out.trans (B4.out.mono B2.out.size))) ?_; rintro e w4 ⟨rfl, hb⟩; replace X0 := Lib.hid (X0.out.below hb X0.out.lt); replace Y0 := Lib.hid (Y0.out.below hb Y0.out.lt); replace B4 := Lib.hid (B4.out.trans (hb.mono B4.out.size)); clear hb; have pc2 := Lib.hid trivial)
          | (clear pc2; refine wpList_stR (by rfl) _ _ rfl (by rfl) (by rfl) X0.out ?_; intro w5 hz hg; have tx := X0.out.tx; replace Y0 := Lib.hid (Y0.out.gro hg (by omega)); replace B4 := Lib.hid (Below.gr B4.out (by omega) hg B4.out.size); clear tx; replace X0 := Lib.hid hz; clear hz hg; have pc3 := Lib.hid trivial)
          | (clear pc3; go_at_call 46; refine Calls.mono (TB.out _ (B2.out.trans (B4.out.mono B2.out.size))) ?_; rintro e w6 ⟨rfl, hb⟩; replace X0 := Lib.hid (X0.out.below hb X0.out.lt); replace Y0 := Lib.hid (Y0.out.below hb Y0.out.lt); replace B4 := Lib.hid (B4.out.trans (hb.mono B4.out.size)); clear hb; have pc4 := Lib.hid trivial)
          | (clear pc4; refine wpList_stR (by rfl) _ _ rfl (by rfl) (by rfl) Y0.out ?_; intro w5b hz hg; have tx := Y0.out.tx; replace X0 := Lib.hid (X0.out.gro hg (by omega)); replace B4 := Lib.hid (Below.gr B4.out (by omega) hg B4.out.size); clear tx; replace Y0 := Lib.hid hz; clear hz hg; have pc5 := Lib.hid trivial)
          | (clear pc5; refine wpList_ldR (by rfl) _ rfl (by rfl) X0.out ?_; have pc6 := Lib.hid trivial)
          | (clear pc6; refine wpList_ldR (by rfl) _ rfl (by rfl) Y0.out ?_; have pc7 := Lib.hid trivial)
          | (clear pc7; go_at_fn g; refine Calls.mono (HOP.out _ (B1.out.trans ((B2.out.trans (B4.out.mono B2.out.size)).mono B1.out.size)) x y (OX.out.below (B2.out.trans (B4.out.mono B2.out.size))) (OY.out.below (B2.out.trans (B4.out.mono B2.out.size)))) ?_; rintro e w5c ⟨⟨s3, A7, n3, c7, D3, m3, k3, x3, p3⟩, rfl, hok, hqr, hown, hb⟩; replace X0 := Lib.hid (X0.out.below hb X0.out.lt); replace Y0 := Lib.hid (Y0.out.below hb Y0.out.lt); replace B4 := Lib.hid (B4.out.trans (hb.mono B4.out.size)); have OR := Lib.hid hok; have QR := Lib.hid hqr; have OWN := Lib.hid hown; clear hok hqr hown; clear hb; have pc8 := Lib.hid trivial))
        clear pc8
        have hb : Below w5c.heap.size w5c (w5c.alloc (.cells #[.bool s3, .slice A7 n3 c7, .slice D3 m3 k3] 29)) := (Below.refl _ _).alloc (Nat.le_refl _) _
        have V0 : Hid (Rb (w5c.alloc (.cells #[.bool s3, .slice A7 n3 c7, .slice D3 m3 k3] 29)) w5c.heap.size s3 A7 n3 c7 D3 m3 k3) := Rb.new w5c s3 A7 n3 c7 D3 m3 k3
        replace OR := Lib.hid (OR.out.below hb)
        have hown := OWN.out
        replace OWN : Hid (f x.q y.q ≠ 0 → Nown (w5c.alloc (.cells #[.bool s3, .slice A7 n3 c7, .slice D3 m3 k3] 29)) ⟨s3, A7, n3, c7, D3, m3, k3, x3, p3⟩) := (fun h => (hown h).below hb)
        replace B4 := Lib.hid (B4.out.trans (hb.mono B4.out.size))
        clear hb hown X0 Y0
        generalize w5c.alloc (.cells #[.bool s3, .slice A7 n3 c7, .slice D3 m3 k3] 29) = w6v at *
        obtain ⟨q, eq⟩ : ∃ q, f x.q y.q = q := ⟨_, rfl⟩
        have QF := Lib.hid eq
        rw [eq] at QR OWN
        clear eq
        by_cases hz : q = 0
        · obtain ⟨sv, hsv⟩ : ∃ z, sgR (mkRat x3 p3) = z := ⟨_, rfl⟩
          obtain rfl : sv = 0 := by rw [← hsv]; exact (sgR_nil _).2 (QR.out.trans hz)
          have SV := Lib.hid hsv
          have MGN : Hid (Mg f (cpt (ev a)) (cpt (ev b)) (ev out) (ev ra') (ev rb')) := MG.out.drop H0.out TKA.out TKB.out JO.out (by rw [QF.out]; exact hz)
          clear hsv MG JO TKA TKB
          have pc0 := Lib.hid trivial
          go_wp2_with (first
            | (clear pc0; go_at_call 52; refine Calls.mono (qsign_any OR.out.1 OR.out.2.1 OR.out.2.2.1 OR.out.2.2.2 LB2.out SV.out) ?_; rintro e w7 ⟨rfl, hb⟩; replace V0 := Lib.hid (V0.out.below hb V0.out.lt); replace OR := Lib.hid (OR.out.below hb); replace B4 := Lib.hid (B4.out.trans (hb.mono B4.out.size)); have BW : Hid (Below w1.heap.size w1 w7) := (B2.out.trans (B4.out.mono B2.out.size)); clear hb; have pc1 := Lib.hid trivial))
          clear pc1
          replace LG := Lib.hid (LG.out.below B4.out)
          have NO2 : Hid (∀ r ∈ out, Nown w7 r.2 ∧ RL r.2.q M) := fun r hr => ⟨(NO.out r hr).1.below B4.out, (NO.out r hr).2⟩
          go_wp2_with fail
          go_roundw
          case rel => exact Lib.hid ⟨A6, c6, ra', B6, d6, rb', out, rfl, rfl, SA'.out, SB'.out, OA'.out, OB'.out, LG.out, NO2.out, MGN.out, BW.out, by have := ON.out; omega⟩
          case measure => have := DEC.out; have := HN.out; have := HM.out; simp [lenV]; omega
        · obtain ⟨sv, hsv⟩ : ∃ z, sgR (mkRat x3 p3) = z := ⟨_, rfl⟩
          have e1 : (sv == 0) = false := beq_false_of_ne fun e => hz (QR.out.symm.trans ((sgR_nil _).1 (hsv.trans e)))
          have e2 : (sv != 0) = true := by rw [bne, e1]; rfl
          have SV := Lib.hid hsv
          have OWR := Lib.hid (OWN.out hz)
          have RQ : Hid (RL (mkRat x3 p3) M) := OR.out.rl LB2.out.1
          have MGN : Hid (Mg f (cpt (ev a)) (cpt (ev b)) (ev (out ++ [(j, ⟨s3, A7, n3, c7, D3, m3, k3, x3, p3⟩)])) (ev ra') (ev rb')) := by
            show Mg _ _ _ _ _ _
            rw [ev_append]
            have := MG.out.keep H0.out TKA.out TKB.out JO.out (by rw [QF.out]; exact hz)
            rw [QF.out, ← QR.out] at this
            exact this
          clear hsv MG JO TKA TKB
          have pc0 := Lib.hid trivial
          go_wp2_with (first
            | (clear pc0; go_at_call 52; refine Calls.mono (qsign_any OR.out.1 OR.out.2.1 OR.out.2.2.1 OR.out.2.2.2 LB2.out SV.out) ?_; rintro e w7 ⟨rfl, hb⟩; replace V0 := Lib.hid (V0.out.below hb V0.out.lt); replace OR := Lib.hid (OR.out.below hb); replace OWR := Lib.hid (OWR.out.below hb); replace B4 := Lib.hid (B4.out.trans (hb.mono B4.out.size)); have BW : Hid (Below w1.heap.size w1 w7) := (B2.out.trans (B4.out.mono B2.out.size)); clear hb; have pc1 := Lib.hid trivial)
            | (clear pc1; refine wpList_ldR (by rfl) _ rfl (by rfl) V0.out ?_; have pc2 := Lib.hid trivial)
            | (clear pc2; refine append_E rfl _ _ rfl (j, ⟨s3, A7, n3, c7, D3, m3, k3, x3, p3⟩) rfl (LG.out.below (B4.out.trans ((Below.refl w7.heap.size w7).alloc (Nat.le_refl _) (.cells #[.int .i64 j, .bool s3, .slice A7 n3 c7, .slice D3 m3 k3] 58) |>.mono B4.out.size))) rfl (Vb.new w7 j s3 A7 n3 c7 D3 m3 k3).range LO.out (by have := BW.out.size; simp; omega) ?_; intro v9 w8 hlg hkt; have LGN := Lib.hid hlg; have ba : Below w7.heap.size w7 (w7.alloc (.cells #[.int .i64 j, .bool s3, .slice A7 n3 c7, .slice D3 m3 k3] 58)) := (Below.refl _ _).alloc (Nat.le_refl _) _; have NON : Hid (∀ r ∈ out ++ [(j, (⟨s3, A7, n3, c7, D3, m3, k3, x3, p3⟩ : Nt))], Nown w8 r.2 ∧ RL r.2.q M) := (fun r hr => (List.mem_append.1 hr).elim (fun hr => ⟨(((NO.out r hr).1.below B4.out).below ba).kt hkt (by decide), (NO.out r hr).2⟩) (fun hr => by simp at hr; rw [hr]; exact ⟨(OWR.out.below ba).kt hkt (by decide), RQ.out⟩)); have BWN : Hid (Below w1.heap.size w1 w8) := (BW.out.trans (ba.mono BW.out.size)).trans hkt.2; clear hlg hkt ba; have pc3 := Lib.hid trivial))
          clear pc3
          go_wp2_with fail
          go_roundw
          case rel => exact Lib.hid ⟨A6, c6, ra', B6, d6, rb', out ++ [(j, ⟨s3, A7, n3, c7, D3, m3, k3, x3, p3⟩)], rfl, rfl, SA'.out, SB'.out, OA'.out, OB'.out, LGN.out, NON.out, MGN.out, BWN.out, by have := ON.out; rw [List.length_append]; simp; omega⟩
          case measure => have := DEC.out; have := HN.out; have := HM.out; simp [lenV]; omega
end Go.Proofs.YtfacndibfkamgaaGreat
