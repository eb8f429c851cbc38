/-
  Contracts of the reference's Equal of lists, integers and rational numbers, equal or not.
-/
import Derived.Test.YtfacndibfkamgaaGreatRatp
import Derived.Test.YtfacndibfkamgaaGreatNC
namespace Go.Proofs.YtfacndibfkamgaaGreat
open Go.RowKit
set_option linter.unusedVariables false

theorem lists_ext {xs ys : List Nat} (hl : xs.length = ys.length) (h : ∀ j, j < xs.length → lim xs j = lim ys j) : xs = ys := by
  apply List.ext_getElem hl
  intro i h1 h2
  have := h i h1
  unfold lim at this
  rw [List.getD_eq_getElem?_getD, List.getD_eq_getElem?_getD, List.getElem?_eq_getElem h1, List.getElem?_eq_getElem h2] at this
  exact this
set_option maxHeartbeats 1000000 in
theorem equal_not (A B : Option Addr) (ca cb : Nat) (xs ys : List Nat) (w : World) (h : Rd w A ca xs) (h' : Rd w B cb ys) (hne : xs ≠ ys) :
    Calls Tryz.prog 58 #[.slice A xs.length ca, .slice B ys.length cb] w fun e w' => e = .returned (.bool false) ∧ ∃ n, w' = w.drewN n := by
  have hl1 := h.len
  have hm1 := h.capLe
  have hl2 := h'.len
  have hm2 := h'.capLe
  have X := Lib.hid h
  have Y := Lib.hid h'
  by_cases hlen : xs.length = ys.length
  · have hb : ((xs.length : Int) != (ys.length : Int)) = false := by simp [hlen]
    have HL := Lib.hid hlen
    have NE := Lib.hid hne
    clear h h' hlen hne
    go_enter Tryz.func58, Tryz.ntmps58
    go_wp2
    go_loopw [5] (fun i wr => ∃ k : Nat, k ≤ xs.length ∧ i = .int .i64 k ∧ Hid (∃ q, wr = w.drewN q) ∧ Hid (∀ j, j < k → lim xs j = lim ys j)) (fun i _ => xs.length - (intOf i).toNat)
    case atStart => exact ⟨0, Nat.zero_le _, rfl, ⟨0, rfl⟩, fun j hj => by omega⟩
    case round =>
      obtain ⟨k, hk, rfl, hq, hpre⟩ := hrel
      by_cases hlt : k < xs.length
      · have hlt2 : k < ys.length := by have := HL.out; omega
        obtain ⟨b, o, hA, hb1, hc1⟩ := X.out.at_ hlt
        obtain ⟨b', o', hB, hb2, hc2⟩ := Y.out.at_ hlt2
        have c1 : wr.cell? ⟨b, o + k, none⟩ = some (.int .u32 ((lim xs k : Nat) : Int)) := by
          obtain ⟨q, rfl⟩ := hq.out
          exact hc1 k hlt
        have c2 : wr.cell? ⟨b', o' + k, none⟩ = some (.int .u32 ((lim ys k : Nat) : Int)) := by
          obtain ⟨q, rfl⟩ := hq.out
          exact hc2 k hlt2
        have r1 := lim_lt X.out.ok k
        have r2 := lim_lt Y.out.ok k
        have PRE := Lib.hid hpre
        subst hA hB
        clear hc1 hc2 hpre
        by_cases heq : lim xs k = lim ys k
        · have hE : (((lim xs k : Nat) : Int) != ((lim ys k : Nat) : Int)) = false := by simp [heq]
          have NXT : Hid (∀ j, j < k + 1 → lim xs j = lim ys j) := fun j hj => by
            rcases Nat.lt_or_ge j k with h | h
            · exact PRE.out.out j h
            · have : j = k := by omega
              rw [this]; exact heq
          clear heq
          generalize lim xs k = l1 at *
          generalize lim ys k = l2 at *
          go_wp2
          go_quiet (fail)
          go_wp2
          go_roundw
          case rel => exact ⟨k + 1, by omega, by go_num, drew_on hq.out ⟨_, rfl⟩, NXT⟩
          case measure => simp [intOf]; omega
        · have hE : (((lim xs k : Nat) : Int) != ((lim ys k : Nat) : Int)) = true := by simp; omega
          clear heq
          generalize lim xs k = l1 at *
          generalize lim ys k = l2 at *
          go_wp2
          go_quiet (fail)
          go_wp2
          go_ret
          exact ⟨rfl, drew_on hq.out ⟨_, rfl⟩⟩
      · exact (NE.out (lists_ext HL.out fun j hj => hpre.out j (by omega))).elim
  · have hb : ((xs.length : Int) != (ys.length : Int)) = true := by simp; omega
    clear h h' hne
    go_enter Tryz.func58, Tryz.ntmps58
    go_wp2
    go_ret
    exact ⟨rfl, 0, rfl⟩
theorem equal_d {w : World} {A B : Option Addr} {n c m k a b : Nat} {e : Bool} (h : Rd w A c (ofv a)) (h' : Rd w B k (ofv b)) (hn : (ofv a).length = n) (hm : (ofv b).length = m) (he : decide (a = b) = e) :
    Calls Tryz.prog 58 #[.slice A n c, .slice B m k] w fun x w' => x = .returned (.bool e) ∧ Below w.heap.size w w' := by
  subst hn hm he
  by_cases hab : a = b
  · subst hab
    exact (equal_same A B c k (ofv a) w h h').mono fun x w' ⟨hx, hw⟩ => ⟨by rw [hx]; simp, below_q hw⟩
  · have hne : ofv a ≠ ofv b := fun e => hab (by rw [← val_ofv a, ← val_ofv b, e])
    exact (equal_not A B c k (ofv a) (ofv b) w h h' hne).mono fun x w' ⟨hx, hw⟩ => ⟨by rw [hx]; simp [hab], below_q hw⟩
theorem start_Z2 (w : World) (s0 : Bool) (A0 : Option Addr) (n0 c0 : Nat) (s1 : Bool) (A1 : Option Addr) (n1 c1 : Nat) :
    Hid (Below w.heap.size w ((w.alloc (.cells #[.bool s0, .slice A0 n0 c0] 27)).alloc (.cells #[.bool s1, .slice A1 n1 c1] 27))) ∧ Hid (Zb ((w.alloc (.cells #[.bool s0, .slice A0 n0 c0] 27)).alloc (.cells #[.bool s1, .slice A1 n1 c1] 27)) (w.heap.size) s0 A0 n0 c0) ∧ Hid (Zb ((w.alloc (.cells #[.bool s0, .slice A0 n0 c0] 27)).alloc (.cells #[.bool s1, .slice A1 n1 c1] 27)) (w.heap.size + 1) s1 A1 n1 c1) := by
  refine ⟨?_, ?_, ?_⟩
  · exact (((Below.refl _ _).alloc (by first | exact Nat.le_refl _ | (simp; done) | (simp; omega)) _).alloc (by first | exact Nat.le_refl _ | (simp; done) | (simp; omega)) _)
  · have := Zb.new w s0 A0 n0 c0
    exact (this.alloc _)
  · have := Zb.new (w.alloc (.cells #[.bool s0, .slice A0 n0 c0] 27)) s1 A1 n1 c1
    simp only [World.size_alloc] at this
    exact this
set_option maxRecDepth 100000 in
set_option maxHeartbeats 16000000 in
theorem requal_same {P Q : Option Addr} {c k : Nat} {z y : Int} {b : Bool} {w : World} (h : Zo w P c z) (h' : Zo w Q k y) (hs : (decide (z < 0) == decide (y < 0)) = true) (hb : decide (z = y) = b) :
    Calls Tryz.prog 57 #[.agg #[.bool (decide (z < 0)), .slice P (ofv z.natAbs).length c], .agg #[.bool (decide (y < 0)), .slice Q (ofv y.natAbs).length k]] w fun e w' => e = .returned (.bool b) ∧ Below w.heap.size w w' := by
  obtain ⟨dz, edz⟩ : ∃ b, decide (z < 0) = b := ⟨_, rfl⟩
  obtain ⟨dy, edy⟩ : ∃ b, decide (y < 0) = b := ⟨_, rfl⟩
  rw [edz, edy] at hs ⊢
  obtain ⟨B1, V0, V1⟩ := start_Z2 w dz P (ofv z.natAbs).length c dy Q (ofv y.natAbs).length k
  have HX := Lib.hid (h.below B1.out)
  have HY := Lib.hid (h'.below B1.out)
  have EB : Hid (decide (z.natAbs = y.natAbs) = b) := by
    show _ = _
    rw [← hb]
    rw [← edz, ← edy] at hs
    simp at hs
    rw [Bool.eq_iff_iff]
    simp
    omega
  clear h h' hb edz edy
  go_enter Tryz.func57, Tryz.ntmps57
  go_wp2_with fail
  generalize ((w.alloc (.cells #[.bool dz, .slice P (ofv z.natAbs).length c] 27)).alloc (.cells #[.bool dy, .slice Q (ofv y.natAbs).length k] 27)) = w2 at *
  have pc0 := Lib.hid trivial
  go_wp2_with (first
    | (clear pc0; go_at_call 58; refine Calls.mono (equal_d HX.out HY.out rfl rfl EB.out) ?_; rintro e w3 ⟨rfl, hb⟩; replace V0 := Lib.hid (V0.out.below hb V0.out.lt); replace V1 := Lib.hid (V1.out.below hb V1.out.lt); replace HX := Lib.hid (HX.out.below hb); replace HY := Lib.hid (HY.out.below hb); replace B1 := Lib.hid (B1.out.trans (hb.mono B1.out.size)); clear hb; have pc1 := Lib.hid trivial))
  clear pc1
  go_ret
  exact ⟨rfl, B1.out⟩
set_option maxRecDepth 100000 in
set_option maxHeartbeats 16000000 in
theorem requal_apart {P Q : Option Addr} {c k : Nat} {z y : Int} {b : Bool} {w : World} (h : Zo w P c z) (h' : Zo w Q k y) (hs : (decide (z < 0) == decide (y < 0)) = false) (hb : decide (z = y) = b) :
    Calls Tryz.prog 57 #[.agg #[.bool (decide (z < 0)), .slice P (ofv z.natAbs).length c], .agg #[.bool (decide (y < 0)), .slice Q (ofv y.natAbs).length k]] w fun e w' => e = .returned (.bool b) ∧ Below w.heap.size w w' := by
  obtain ⟨dz, edz⟩ : ∃ b, decide (z < 0) = b := ⟨_, rfl⟩
  obtain ⟨dy, edy⟩ : ∃ b, decide (y < 0) = b := ⟨_, rfl⟩
  rw [edz, edy] at hs ⊢
  obtain ⟨B1, V0, V1⟩ := start_Z2 w dz P (ofv z.natAbs).length c dy Q (ofv y.natAbs).length k
  have HX := Lib.hid (h.below B1.out)
  have HY := Lib.hid (h'.below B1.out)
  have EB : b = false := by
    rw [← hb]
    rw [← edz, ← edy] at hs
    simp at hs
    simp
    intro e
    subst e
    exact hs (by simp)
  subst EB
  clear h h' hb edz edy
  go_enter Tryz.func57, Tryz.ntmps57
  go_wp2_with fail
  go_ret
  exact ⟨rfl, B1.out⟩
theorem requal_d {P Q : Option Addr} {c k : Nat} {z y : Int} {b : Bool} {w : World} (h : Zo w P c z) (h' : Zo w Q k y) (hb : decide (z = y) = b) :
    Calls Tryz.prog 57 #[.agg #[.bool (decide (z < 0)), .slice P (ofv z.natAbs).length c], .agg #[.bool (decide (y < 0)), .slice Q (ofv y.natAbs).length k]] w fun e w' => e = .returned (.bool b) ∧ Below w.heap.size w w' := by
  cases hs : (decide (z < 0) == decide (y < 0)) with
  | true => exact requal_same h h' hs hb
  | false => exact requal_apart h h' hs hb
theorem start_R2e (w : World) (s0 : Bool) (A0 : Option Addr) (n0 c0 : Nat) (D0 : Option Addr) (m0 k0 : Nat) (s1 : Bool) (A1 : Option Addr) (n1 c1 : Nat) (D1 : Option Addr) (m1 k1 : Nat) :
    Hid (Below w.heap.size w ((w.alloc (.cells #[.bool s0, .slice A0 n0 c0, .slice D0 m0 k0] 29)).alloc (.cells #[.bool s1, .slice A1 n1 c1, .slice D1 m1 k1] 29))) ∧ Hid (Rb ((w.alloc (.cells #[.bool s0, .slice A0 n0 c0, .slice D0 m0 k0] 29)).alloc (.cells #[.bool s1, .slice A1 n1 c1, .slice D1 m1 k1] 29)) (w.heap.size) s0 A0 n0 c0 D0 m0 k0) ∧ Hid (Rb ((w.alloc (.cells #[.bool s0, .slice A0 n0 c0, .slice D0 m0 k0] 29)).alloc (.cells #[.bool s1, .slice A1 n1 c1, .slice D1 m1 k1] 29)) (w.heap.size + 1) s1 A1 n1 c1 D1 m1 k1) := by
  refine ⟨?_, ?_, ?_⟩
  · exact (((Below.refl _ _).alloc (by first | exact Nat.le_refl _ | (simp; done) | (simp; omega)) _).alloc (by first | exact Nat.le_refl _ | (simp; done) | (simp; omega)) _)
  · have := Rb.new w s0 A0 n0 c0 D0 m0 k0
    exact (this.alloc _)
  · have := Rb.new (w.alloc (.cells #[.bool s0, .slice A0 n0 c0, .slice D0 m0 k0] 29)) s1 A1 n1 c1 D1 m1 k1
    simp only [World.size_alloc] at this
    exact this
set_option maxRecDepth 100000 in
set_option maxHeartbeats 16000000 in
theorem r3equal_same {P Q D E : Option Addr} {c k m n : Nat} {z y : Int} {d e : Nat} {b : Bool} {w : World} (h : Zo w P c z) (h' : Zo w Q k y) (hd : Rd w D m (ofv d)) (he : Rd w E n (ofv e)) (hs : decide (z = y) = true) (hb : decide (z = y ∧ d = e) = b) :
    Calls Tryz.prog 26 #[.agg #[.bool (decide (z < 0)), .slice P (ofv z.natAbs).length c, .slice D (ofv d).length m], .agg #[.bool (decide (y < 0)), .slice Q (ofv y.natAbs).length k, .slice E (ofv e).length n]] w fun x w' => x = .returned (.bool b) ∧ Below w.heap.size w w' := by
  obtain ⟨B1, V0, V1⟩ := start_R2e w (decide (z < 0)) P (ofv z.natAbs).length c D (ofv d).length m (decide (y < 0)) Q (ofv y.natAbs).length k E (ofv e).length n
  have HX := Lib.hid (h.below B1.out)
  have HY := Lib.hid (h'.below B1.out)
  have HD := Lib.hid (hd.below B1.out)
  have HE := Lib.hid (he.below B1.out)
  have HS := Lib.hid hs
  have EB : Hid (decide (d = e) = b) := by show _ = _; rw [← hb]; simp at hs; simp [hs]
  clear h h' hb hs hd he
  go_enter Tryz.func26, Tryz.ntmps26
  go_wp2_with fail
  generalize ((w.alloc (.cells #[.bool (decide (z < 0)), .slice P (ofv z.natAbs).length c, .slice D (ofv d).length m] 29)).alloc (.cells #[.bool (decide (y < 0)), .slice Q (ofv y.natAbs).length k, .slice E (ofv e).length n] 29)) = w2 at *
  have pc0 := Lib.hid trivial
  go_wp2_with (first
    | (clear pc0; go_at_call 57; refine Calls.mono (requal_d HX.out HY.out HS.out) ?_; rintro e w3 ⟨rfl, hb⟩; replace V0 := Lib.hid (V0.out.below hb V0.out.lt); replace V1 := Lib.hid (V1.out.below hb V1.out.lt); replace HX := Lib.hid (HX.out.below hb); replace HY := Lib.hid (HY.out.below hb); replace HD := Lib.hid (HD.out.below hb); replace HE := Lib.hid (HE.out.below hb); replace B1 := Lib.hid (B1.out.trans (hb.mono B1.out.size)); clear hb; have pc1 := Lib.hid trivial)
    | (clear pc1; refine wpList_ldRd (by rfl) _ rfl (by rfl) V0.out ?_; have pc2 := Lib.hid trivial)
    | (clear pc2; refine wpList_ldRd (by rfl) _ rfl (by rfl) V1.out ?_; have pc3 := Lib.hid trivial)
    | (clear pc3; go_at_call 58; refine Calls.mono (equal_d HD.out HE.out rfl rfl EB.out) ?_; rintro e w4 ⟨rfl, hb⟩; replace V0 := Lib.hid (V0.out.below hb V0.out.lt); replace V1 := Lib.hid (V1.out.below hb V1.out.lt); replace HX := Lib.hid (HX.out.below hb); replace HY := Lib.hid (HY.out.below hb); replace HD := Lib.hid (HD.out.below hb); replace HE := Lib.hid (HE.out.below hb); replace B1 := Lib.hid (B1.out.trans (hb.mono B1.out.size)); clear hb; have pc4 := Lib.hid trivial))
  clear pc4
  go_ret
  exact ⟨rfl, B1.out⟩
set_option maxRecDepth 100000 in
set_option maxHeartbeats 16000000 in
theorem r3equal_apart {P Q D E : Option Addr} {c k m n : Nat} {z y : Int} {d e : Nat} {b : Bool} {w : World} (h : Zo w P c z) (h' : Zo w Q k y) (hd : Rd w D m (ofv d)) (he : Rd w E n (ofv e)) (hs : decide (z = y) = false) (hb : decide (z = y ∧ d = e) = b) :
    Calls Tryz.prog 26 #[.agg #[.bool (decide (z < 0)), .slice P (ofv z.natAbs).length c, .slice D (ofv d).length m], .agg #[.bool (decide (y < 0)), .slice Q (ofv y.natAbs).length k, .slice E (ofv e).length n]] w fun x w' => x = .returned (.bool b) ∧ Below w.heap.size w w' := by
  obtain ⟨B1, V0, V1⟩ := start_R2e w (decide (z < 0)) P (ofv z.natAbs).length c D (ofv d).length m (decide (y < 0)) Q (ofv y.natAbs).length k E (ofv e).length n
  have HX := Lib.hid (h.below B1.out)
  have HY := Lib.hid (h'.below B1.out)
  have HD := Lib.hid (hd.below B1.out)
  have HE := Lib.hid (he.below B1.out)
  have HS := Lib.hid hs
  have EB : b = false := by rw [← hb]; simp at hs; simp [hs]
  subst EB
  clear h h' hb hs hd he
  go_enter Tryz.func26, Tryz.ntmps26
  go_wp2_with fail
  generalize ((w.alloc (.cells #[.bool (decide (z < 0)), .slice P (ofv z.natAbs).length c, .slice D (ofv d).length m] 29)).alloc (.cells #[.bool (decide (y < 0)), .slice Q (ofv y.natAbs).length k, .slice E (ofv e).length n] 29)) = w2 at *
  have pc0 := Lib.hid trivial
  go_wp2_with (first
    | (clear pc0; go_at_call 57; refine Calls.mono (requal_d HX.out HY.out HS.out) ?_; rintro e w3 ⟨rfl, hb⟩; replace V0 := Lib.hid (V0.out.below hb V0.out.lt); replace V1 := Lib.hid (V1.out.below hb V1.out.lt); replace HX := Lib.hid (HX.out.below hb); replace HY := Lib.hid (HY.out.below hb); replace HD := Lib.hid (HD.out.below hb); replace HE := Lib.hid (HE.out.below hb); replace B1 := Lib.hid (B1.out.trans (hb.mono B1.out.size)); clear hb; have pc1 := Lib.hid trivial))
  clear pc1
  go_ret
  exact ⟨rfl, B1.out⟩
theorem r3equal_any {P Q D E : Option Addr} {c k m n : Nat} {z y : Int} {d e : Nat} {b : Bool} {w : World} (h : Zo w P c z) (h' : Zo w Q k y) (hd : Rd w D m (ofv d)) (he : Rd w E n (ofv e)) (hb : decide (z = y ∧ d = e) = b) :
    Calls Tryz.prog 26 #[.agg #[.bool (decide (z < 0)), .slice P (ofv z.natAbs).length c, .slice D (ofv d).length m], .agg #[.bool (decide (y < 0)), .slice Q (ofv y.natAbs).length k, .slice E (ofv e).length n]] w fun x w' => x = .returned (.bool b) ∧ Below w.heap.size w w' := by
  cases hs : decide (z = y) with
  | true => exact r3equal_same h h' hd he hs hb
  | false => exact r3equal_apart h h' hd he hs hb
end Go.Proofs.YtfacndibfkamgaaGreat
