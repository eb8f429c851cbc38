/-
  Contracts of the reference's texts: digits, FormatInt, FormatRat.
-/
import Derived.Test.YtebpoabflcngoaaGreatDoorNU
import Derived.Test.YtebpoabflcngoaaGreatDoorNV
import Derived.Test.YtebpoabflcngoaaGreatDoorReqs
import Derived.Test.YtebpoabflcngoaaGreatDoorRref
import Derived.IntWalk
namespace Go.Proofs.YtebpoabflcngoaaGreatDoor
open Go.RowKit
set_option linter.unusedVariables false
set_option linter.unusedSimpArgs false

theorem dec_step {n : Nat} (h : ¬ n < 10) : Lib.decDigits n = Lib.decDigits (n / 10) ++ [UInt8.ofNat (48 + n % 10)] := by
  rw [Lib.decDigits, dif_neg h]
theorem rd_one {v : Nat} (hv : v < 4294967296) (hv0 : v ≠ 0) (w : World) : Rd (w.alloc (.cells #[.int .u32 (v : Int)] 60)) (some ⟨w.heap.size, 0, none⟩) 1 [v] := by
  have hr : Row (w.alloc (.cells #[.int .u32 (v : Int)] 60)) w.heap.size [v] := row_new rfl rfl
  by_cases h0 : v = 0
  · exact absurd h0 hv0
  · exact (Own.of_row (lo := 0) hr (okl1 (by omega)) (Nat.zero_le _) (by simp)).rd
theorem rdm_ten {A B : Option Addr} {c m : Nat} {w : World} (h : Rd w A c (ofv m)) (hl : (ofv m).length ≤ 70368744177664) (h' : Rd w B 1 [10]) {q r : Nat} (hq : m / 10 = q) (hr : m % 10 = r) :
    Calls Tryz.prog 72 #[.slice A (ofv m).length c, .slice B 1 1] w fun e w' => ∃ R c R' c', e = .returned (.tuple #[.slice R (ofv q).length c, .slice R' (ofv r).length c', .bool true]) ∧ Own w' w.heap.size R c (ofv q) ∧ Own w' w.heap.size R' c' (ofv r) ∧ Below w.heap.size w w' := by
  refine (rdm_n h h' rfl rfl hl (by simp) (by simp [val])).mono ?_
  rintro e w' ⟨R, c, R', c', rfl, h1, h2, h3⟩
  have e1 : val (ofv m) / val [10] = q := by rw [val_ofv, ← hq]; simp [val]
  have e2 : val (ofv m) % val [10] = r := by rw [val_ofv, ← hr]; simp [val]
  rw [e1, e2]
  rw [e1] at h1
  rw [e2] at h2
  exact ⟨R, c, R', c', rfl, h1, h2, h3⟩
theorem ru64_nat {A : Option Addr} {c m : Nat} {w : World} (h : Rd w A c (ofv m)) (hm : m < 10) {z : Int} (hz : ((m : Nat) : Int) = z) :
    Calls Tryz.prog 62 #[.slice A (ofv m).length c] w fun e w' => e = .returned (.tuple #[.int .u64 z, .bool true]) ∧ Below w.heap.size w w' :=
  ruint64_yes_n h rfl (Nat.le_trans (len_small (by omega)) (by decide)) (by rw [val_ofv]; omega) (by rw [val_ofv]; exact hz)
/-- The loop: the digits that are left, and those that are written. -/
def DgInv (w : World) (n m : Nat) (acc : List UInt8) (P : Option Addr) (c : Nat) (wr : World) : Prop := Lib.decDigits m ++ acc = Lib.decDigits n ∧ m ≤ n ∧ Rd wr P c (ofv m) ∧ Below w.heap.size w wr
theorem DgInv.len {w wr : World} {n m c : Nat} {acc : List UInt8} {P : Option Addr} (h : DgInv w n m acc P c wr) : acc.length < (Lib.decDigits n).length := by
  have h1 := congrArg List.length h.1
  rw [List.length_append] at h1
  have := dec_ne m
  have : 0 < (Lib.decDigits m).length := List.length_pos_iff.2 this
  omega
def sizeS : Value → Nat
  | .string b => b.size
  | _ => 0
theorem ofv_nil {q : Nat} : (((ofv q).length : Int) = 0) ↔ q = 0 := by
  constructor
  · intro h
    have h0 : ofv q = [] := List.eq_nil_of_length_eq_zero (by omega)
    have := val_ofv q
    rw [h0] at this
    simp [val] at this
    omega
  · intro h; subst h; rw [ofv_zero]; rfl
theorem dig_at {d : Nat} (hd : d < 10) : (⟨#[48, 49, 50, 51, 52, 53, 54, 55, 56, 57]⟩ : ByteArray).extract d (d + 1) = txt [UInt8.ofNat (48 + d)] := by
  rcases d with _ | _ | _ | _ | _ | _ | _ | _ | _ | _ | d
  all_goals first | (exfalso; omega) | decide +kernel
set_option maxRecDepth 100000 in
set_option maxHeartbeats 16000000 in
theorem digits_any {n : Nat} {A : Option Addr} {c : Nat} {w : World} (h : Rd w A c (ofv n)) (hl : (ofv n).length ≤ 10000000000) {l : List UInt8} (hn : Lib.decDigits n = l) :
    Calls Tryz.prog 35 #[.slice A (ofv n).length c] w fun e w' => e = .returned (.string (txt l)) ∧ Below w.heap.size w w' := by
  have hll : l.length ≤ 100000000010 := by
    have := itoa_len (x := (n : Int)) (N := 10000000000) (by rw [Int.natAbs_natCast]; exact hl)
    rw [itoa_nat, hn] at this
    omega
  have HL := Lib.hid hn
  have HLL := Lib.hid hll
  have H := Lib.hid h
  have LN := Lib.hid hl
  clear h hl hn hll
  go_enter Tryz.func35, Tryz.ntmps35
  go_wp2_with fail
  go_loopw [0, 3] (fun a s wr => ∃ (m : Nat) (acc : List UInt8) (P : Option Addr) (c : Nat), Hid (DgInv w n m acc P c wr) ∧ a = .slice P (ofv m).length c ∧ s = .string (txt acc)) (fun _ s _ => l.length - sizeS s)
  case atStart => exact ⟨n, [], A, c, ⟨by simp, Nat.le_refl _, H.out, Below.refl _ _⟩, rfl, rfl⟩
  case round =>
    obtain ⟨m, acc, P, c', INV, rfl, rfl⟩ := hrel
    obtain ⟨q, hq⟩ : ∃ q, m / 10 = q := ⟨_, rfl⟩
    obtain ⟨r, hr⟩ : ∃ r, m % 10 = r := ⟨_, rfl⟩
    have hr10 : r < 10 := by rw [← hr]; exact Nat.mod_lt _ (by omega)
    obtain ⟨dz, hdz⟩ : ∃ z : Int, ((r : Nat) : Int) = z := ⟨_, rfl⟩
    have alen := INV.out.len
    rw [HL.out] at alen
    have LM : Hid ((ofv m).length ≤ 70368744177664) := Nat.le_trans (len_mono INV.out.2.1) (Nat.le_trans LN.out (by decide))
    have RM := Lib.hid INV.out.2.2.1
    have B1 := Lib.hid INV.out.2.2.2
    have HQ := Lib.hid hq
    have HR := Lib.hid hr
    have HD := Lib.hid hdz
    have R10 := Lib.hid hr10
    have LA := Lib.hid alen
    have d0 : 0 ≤ dz := by omega
    have d1 : dz < 10 := by omega
    have hw : IntKind.u64.wrap (dz + 1) = dz + 1 := by rw [IntKind.wrap_u64]; omega
    have hx : (⟨#[48, 49, 50, 51, 52, 53, 54, 55, 56, 57]⟩ : ByteArray).extract dz.toNat (dz + 1).toNat = txt [UInt8.ofNat (48 + r)] := by
      rw [show dz.toNat = r by omega, show (dz + 1).toNat = r + 1 by omega]
      exact dig_at hr10
    have hcat : ¬ 9223372036854775807 < ((⟨#[48, 49, 50, 51, 52, 53, 54, 55, 56, 57]⟩ : ByteArray).extract dz.toNat (dz + 1).toNat).size + (txt acc).size := by rw [hx, txt_size, txt_size]; have := HLL.out; simp; omega
    have HX := Lib.hid hx
    have HNX := Lib.hid (⟨INV.out.1, INV.out.2.1⟩ : Lib.decDigits m ++ acc = Lib.decDigits n ∧ m ≤ n)
    clear hq hr hdz hr10 alen hx INV
    by_cases hq0 : q = 0
    · have c0 : (((ofv q).length : Nat) : Int) = 0 := ofv_nil.2 hq0
      have HQ0 := Lib.hid hq0
      clear hq0
      go_wp2_with fail
      have hb : Below wr.heap.size wr (wr.alloc (.cells #[.int .u32 10] 60)) := (Below.refl _ _).alloc (Nat.le_refl _) _
      replace RM := Lib.hid (RM.out.below hb)
      replace B1 := Lib.hid (B1.out.trans (hb.mono B1.out.size))
      have RT := Lib.hid (rd_one (v := 10) (by decide) (by decide) wr)
      clear hb
      go_wp2_with fail
      refine (rdm_ten RM.out LM.out RT.out HQ.out HR.out).mono ?_
      rintro e w3 ⟨P3, k3, P4, k4, rfl, ho, ho2, hb⟩
      replace RM := Lib.hid (RM.out.below hb)
      replace RT := Lib.hid (RT.out.below hb)
      replace B1 := Lib.hid (B1.out.trans (hb.mono B1.out.size))
      have RQ := Lib.hid ho.rd
      have RR := Lib.hid ho2.rd
      clear ho ho2
      clear hb
      go_wp2_with fail
      refine (ru64_nat RR.out R10.out HD.out).mono ?_
      rintro e w4 ⟨rfl, hb⟩
      replace RM := Lib.hid (RM.out.below hb)
      replace RT := Lib.hid (RT.out.below hb)
      replace RQ := Lib.hid (RQ.out.below hb)
      replace RR := Lib.hid (RR.out.below hb)
      replace B1 := Lib.hid (B1.out.trans (hb.mono B1.out.size))
      clear hb
      go_wp2
      go_ret
      refine ⟨?_, B1.out⟩
      rw [HX.out, txt_append]
      have hm : m < 10 := by have := HQ.out; have := HQ0.out; omega
      have hrm : r = m := by have := HR.out; omega
      obtain ⟨h1, h2⟩ := HNX.out
      rw [Lib.decDigits_one hm, HL.out] at h1
      rw [hrm, h1]
      rfl
    · have c0 : ¬ (((ofv q).length : Nat) : Int) = 0 := fun e => hq0 (ofv_nil.1 e)
      have HQ0 := Lib.hid hq0
      clear hq0
      go_wp2_with fail
      have hb : Below wr.heap.size wr (wr.alloc (.cells #[.int .u32 10] 60)) := (Below.refl _ _).alloc (Nat.le_refl _) _
      replace RM := Lib.hid (RM.out.below hb)
      replace B1 := Lib.hid (B1.out.trans (hb.mono B1.out.size))
      have RT := Lib.hid (rd_one (v := 10) (by decide) (by decide) wr)
      clear hb
      go_wp2_with fail
      refine (rdm_ten RM.out LM.out RT.out HQ.out HR.out).mono ?_
      rintro e w3 ⟨P3, k3, P4, k4, rfl, ho, ho2, hb⟩
      replace RM := Lib.hid (RM.out.below hb)
      replace RT := Lib.hid (RT.out.below hb)
      replace B1 := Lib.hid (B1.out.trans (hb.mono B1.out.size))
      have RQ := Lib.hid ho.rd
      have RR := Lib.hid ho2.rd
      clear ho ho2
      clear hb
      go_wp2_with fail
      refine (ru64_nat RR.out R10.out HD.out).mono ?_
      rintro e w4 ⟨rfl, hb⟩
      replace RM := Lib.hid (RM.out.below hb)
      replace RT := Lib.hid (RT.out.below hb)
      replace RQ := Lib.hid (RQ.out.below hb)
      replace RR := Lib.hid (RR.out.below hb)
      replace B1 := Lib.hid (B1.out.trans (hb.mono B1.out.size))
      clear hb
      go_wp2
      go_roundw
      case rel =>
        refine ⟨q, UInt8.ofNat (48 + r) :: acc, P3, k3, ?_, rfl, by rw [HX.out, txt_append]; rfl⟩
        obtain ⟨h1, h2⟩ := HNX.out
        have hm : ¬ m < 10 := by have := HQ.out; have := HQ0.out; omega
        refine ⟨?_, ?_, RQ.out, B1.out⟩
        · rw [dec_step hm, List.append_assoc, HQ.out, HR.out] at h1
          exact h1
        · have := HQ.out; omega
      case measure =>
        have hl := LA.out
        simp [sizeS, HX.out, txt_append, txt_size]
        omega
set_option maxRecDepth 100000 in
set_option maxHeartbeats 16000000 in
theorem rformatInt_any {s : Bool} {A : Option Addr} {n c : Nat} {x : Int} {w : World} (h : Zin w s A n c x) (hn : n ≤ 10000000000) {l : List UInt8} (hl : Lib.itoa x = l) :
    Calls Tryz.prog 10 #[.agg #[.bool s, .slice A n c]] w fun e w' => e = .returned (.string (txt l)) ∧ Below w.heap.size w w' := by
  obtain ⟨B1, V0⟩ := start_nZ w s A n c
  obtain ⟨z, hz⟩ : ∃ z, x = z := ⟨_, rfl⟩
  obtain ⟨l1, hl1⟩ : ∃ l, Lib.decDigits z.natAbs = l := ⟨_, rfl⟩
  have HX := Lib.hid (h.below B1.out)
  have HZ := Lib.hid hz
  have HL1 := Lib.hid hl1
  have KN : Hid (n ≤ 70368744177664) := Nat.le_trans hn (by decide)
  have lz : (ofv z.natAbs).length ≤ 10000000000 := by rw [← hz]; exact Nat.le_trans h.len hn
  have LZ := Lib.hid lz
  have ll : l1.length ≤ 100000000010 := by
    have := itoa_len (x := ((z.natAbs : Nat) : Int)) (N := 10000000000) (by rw [Int.natAbs_natCast]; exact lz)
    rw [itoa_nat, hl1] at this
    omega
  have hcat : ¬ 9223372036854775807 < (⟨#[45]⟩ : ByteArray).size + (txt l1).size := by rw [txt_size, show (⟨#[45]⟩ : ByteArray).size = 1 from rfl]; omega
  have SZ : Hid (w.heap.size ≤ (w.alloc (.cells #[.bool s, .slice A n c] 24)).heap.size) := B1.out.size
  rw [hz] at hl
  have HL := Lib.hid hl
  clear h hn hl hz hl1 lz ll
  by_cases hneg : z < 0
  · have FIN : Hid (l = 45 :: l1) := by show _ = _; rw [← HL.out, itoa_neg hneg, HL1.out]
    clear HL
    go_enter Tryz.func10, Tryz.ntmps10
    go_wp2_with fail
    generalize (w.alloc (.cells #[.bool s, .slice A n c] 24)) = w2 at *
    go_wp2_with (refine wpList_ldZ (by rfl) _ rfl (by rfl) V0.out ?_)
    refine (rnrm_z HX.out KN.out HZ.out).mono ?_
    rintro e w3 ⟨P1, c1, rfl, ho, hb⟩
    replace V0 := Lib.hid (V0.out.below hb V0.out.lt)
    replace HX := Lib.hid (HX.out.below hb)
    replace B1 := Lib.hid (B1.out.trans (hb.mono B1.out.size))
    have OZ := Lib.hid (ho.mono SZ.out)
    clear ho hb HX
    have pc0 := Lib.hid trivial
    go_wp2_with (first
      | (clear pc0; refine wpList_stZ (by rfl) _ _ rfl (by rfl) (by rfl) V0.out ?_; intro w4 hz hg; replace OZ := Lib.hid (OZ.out.gr V0.out hg); replace B1 := Lib.hid (Below.gr B1.out (by omega) hg B1.out.size); replace V0 := Lib.hid hz; clear hz hg; have pc1 := Lib.hid trivial)
      | (clear pc1; refine wpList_ldZs (by rfl) _ rfl (by rfl) V0.out ?_; have pc2 := Lib.hid trivial)
      | (clear pc2; refine wpList_ldZm (by rfl) _ rfl (by rfl) V0.out ?_; have pc3 := Lib.hid trivial))
    clear pc3
    refine (digits_any OZ.out.rd LZ.out HL1.out).mono ?_
    rintro e w5 ⟨rfl, hb⟩
    replace V0 := Lib.hid (V0.out.below hb V0.out.lt)
    replace OZ := Lib.hid (OZ.out.below hb)
    replace B1 := Lib.hid (B1.out.trans (hb.mono B1.out.size))
    clear hb
    go_wp2
    go_ret
    exact ⟨by rw [FIN.out]; rfl, B1.out⟩
  · have FIN : Hid (l = l1) := by show _ = _; rw [← HL.out, itoa_pos hneg, HL1.out]
    clear HL hcat
    go_enter Tryz.func10, Tryz.ntmps10
    go_wp2_with fail
    generalize (w.alloc (.cells #[.bool s, .slice A n c] 24)) = w2 at *
    go_wp2_with (refine wpList_ldZ (by rfl) _ rfl (by rfl) V0.out ?_)
    refine (rnrm_z HX.out KN.out HZ.out).mono ?_
    rintro e w3 ⟨P1, c1, rfl, ho, hb⟩
    replace V0 := Lib.hid (V0.out.below hb V0.out.lt)
    replace HX := Lib.hid (HX.out.below hb)
    replace B1 := Lib.hid (B1.out.trans (hb.mono B1.out.size))
    have OZ := Lib.hid (ho.mono SZ.out)
    clear ho hb HX
    have pc0 := Lib.hid trivial
    go_wp2_with (first
      | (clear pc0; refine wpList_stZ (by rfl) _ _ rfl (by rfl) (by rfl) V0.out ?_; intro w4 hz hg; replace OZ := Lib.hid (OZ.out.gr V0.out hg); replace B1 := Lib.hid (Below.gr B1.out (by omega) hg B1.out.size); replace V0 := Lib.hid hz; clear hz hg; have pc1 := Lib.hid trivial)
      | (clear pc1; refine wpList_ldZs (by rfl) _ rfl (by rfl) V0.out ?_; have pc2 := Lib.hid trivial)
      | (clear pc2; refine wpList_ldZm (by rfl) _ rfl (by rfl) V0.out ?_; have pc3 := Lib.hid trivial))
    clear pc3
    refine (digits_any OZ.out.rd LZ.out HL1.out).mono ?_
    rintro e w5 ⟨rfl, hb⟩
    replace V0 := Lib.hid (V0.out.below hb V0.out.lt)
    replace OZ := Lib.hid (OZ.out.below hb)
    replace B1 := Lib.hid (B1.out.trans (hb.mono B1.out.size))
    clear hb
    go_wp2
    go_ret
    exact ⟨by rw [FIN.out]; rfl, B1.out⟩
theorem unit_len : (ofv 1).length = 1 := by rw [one_limb]; rfl
theorem rd_unit (w : World) : Rd (w.alloc (.cells #[.int .u32 1] 60)) (some ⟨w.heap.size, 0, none⟩) 1 (ofv 1) := by
  have := rd_one (v := 1) (by decide) (by decide) w
  rw [one_limb]
  exact this
set_option maxRecDepth 100000 in
set_option maxHeartbeats 16000000 in
theorem rformatRat_any {s : Bool} {A D : Option Addr} {n c m k : Nat} {x : Int} {p : Nat} {w : World} (h : Zin w s A n c x) (h' : Nin w D m k p) (hn : n ≤ 1000000000) (hm : m ≤ 1000000000) {l : List UInt8} (hl : ratTxt (mkRat x p) = l) :
    Calls Tryz.prog 12 #[.agg #[.bool s, .slice A n c, .slice D m k]] w fun e w' => e = .returned (.string (txt l)) ∧ Below w.heap.size w w' := by
  obtain ⟨B1, V0⟩ := start_nR w s A n c D m k
  have HX := Lib.hid (h.below B1.out)
  have HP := Lib.hid (h'.below B1.out)
  have KN : Hid (n ≤ 35184372087808) := Nat.le_trans hn (by decide)
  have KM : Hid (m ≤ 35184372087808) := Nat.le_trans hm (by decide)
  obtain ⟨z, hz⟩ : ∃ z, (mkRat x p).num = z := ⟨_, rfl⟩
  obtain ⟨d, hd⟩ : ∃ z, (mkRat x p).den = z := ⟨_, rfl⟩
  have hrl : RL (mkRat x p) 1000000000 := rl_mk (Nat.le_trans h.len hn) (Nat.le_trans h'.len hm) (by decide)
  have l1 := hrl.1
  have l2 := hrl.2
  rw [hz] at l1
  rw [hd] at l2
  obtain ⟨la, hla⟩ : ∃ l, Lib.itoa z = l := ⟨_, rfl⟩
  obtain ⟨lb, hlb⟩ : ∃ l, Lib.decDigits d = l := ⟨_, rfl⟩
  have HZ := Lib.hid hz
  have HD := Lib.hid hd
  have HA := Lib.hid hla
  have HLB := Lib.hid hlb
  have L1 : Hid ((ofv z.natAbs).length ≤ 10000000000) := Nat.le_trans l1 (by decide)
  have L2 : Hid ((ofv d).length ≤ 10000000000) := Nat.le_trans l2 (by decide)
  have SZ : Hid (w.heap.size ≤ (w.alloc (.cells #[.bool s, .slice A n c, .slice D m k] 26)).heap.size) := B1.out.size
  have k1 := itoa_len l1
  have k2 := itoa_len (x := (d : Int)) (N := 1000000000) (by rw [Int.natAbs_natCast]; exact l2)
  rw [itoa_nat, hlb] at k2
  rw [hla] at k1
  have hc1 : ¬ 9223372036854775807 < (txt la).size + 1 := by rw [txt_size]; omega
  have hc2 : ¬ 9223372036854775807 < (txt la ++ (⟨#[47]⟩ : ByteArray)).size + (txt lb).size := by rw [ByteArray.size_append, txt_size, txt_size, show (⟨#[47]⟩ : ByteArray).size = 1 from rfl]; omega
  have hc3 : ¬ 9223372036854775807 < (txt la).size + 1 + (txt lb).size := by rw [txt_size, txt_size]; omega
  unfold ratTxt at hl
  rw [hz, hd] at hl
  have HL := Lib.hid hl
  clear h h' hn hm hl hz hd hrl l1 l2 hla hlb k1 k2
  by_cases hd1 : d = 1
  · have FIN : Hid (l = la) := by show _ = _; rw [← HL.out, if_pos hd1, HA.out]
    have DD : Hid (decide (d = 1) = true) := decide_eq_true hd1
    clear HL hd1 hc1 hc2 hc3
    go_enter Tryz.func12, Tryz.ntmps12
    go_wp2_with fail
    generalize (w.alloc (.cells #[.bool s, .slice A n c, .slice D m k] 26)) = w2 at *
    go_wp2_with (refine wpList_ldR (by rfl) _ rfl (by rfl) V0.out ?_)
    refine (rnorm_any HX.out HP.out KN.out KM.out HZ.out HD.out).mono ?_
    rintro e w3 ⟨P1, c1, Q1, k1, rfl, ho, ho2, hb⟩
    replace V0 := Lib.hid (V0.out.below hb V0.out.lt)
    replace HX := Lib.hid (HX.out.below hb)
    replace HP := Lib.hid (HP.out.below hb)
    replace B1 := Lib.hid (B1.out.trans (hb.mono B1.out.size))
    have OZ := Lib.hid (ho.mono SZ.out)
    have OD := Lib.hid (ho2.mono SZ.out)
    clear ho ho2 hb HX HP
    have pc0 := Lib.hid trivial
    go_wp2_with (first
      | (clear pc0; refine wpList_stR (by rfl) _ _ rfl (by rfl) (by rfl) V0.out ?_; intro w4 hz hg; replace OZ := Lib.hid (OZ.out.grR V0.out hg); replace OD := Lib.hid (OD.out.grR V0.out hg); replace B1 := Lib.hid (Below.gr B1.out (by omega) hg B1.out.size); replace V0 := Lib.hid hz; clear hz hg; have pc1 := Lib.hid trivial)
      | (clear pc1; refine wpList_ldRd (by rfl) _ rfl (by rfl) V0.out ?_; have pc2 := Lib.hid trivial))
    clear pc2
    have hb : Below w4.heap.size w4 (w4.alloc (.cells #[.int .u32 1] 60)) := (Below.refl _ _).alloc (Nat.le_refl _) _
    replace V0 := Lib.hid (V0.out.below hb V0.out.lt)
    replace OZ := Lib.hid (OZ.out.below hb)
    replace OD := Lib.hid (OD.out.below hb)
    replace B1 := Lib.hid (B1.out.trans (hb.mono B1.out.size))
    have RO := Lib.hid (rd_unit w4)
    clear hb
    refine (equal_d (a := d) (b := 1) OD.out.rd RO.out rfl unit_len DD.out).mono ?_
    rintro e w5 ⟨rfl, hb⟩
    replace V0 := Lib.hid (V0.out.below hb V0.out.lt)
    replace OZ := Lib.hid (OZ.out.below hb)
    replace OD := Lib.hid (OD.out.below hb)
    replace B1 := Lib.hid (B1.out.trans (hb.mono B1.out.size))
    clear hb RO
    go_wp2_with (refine wpList_ldRz (by rfl) _ rfl (by rfl) V0.out ?_)
    refine (rformatInt_any (Zo.of_own OZ.out).in_ L1.out HA.out).mono ?_
    rintro e w6 ⟨rfl, hb⟩
    replace V0 := Lib.hid (V0.out.below hb V0.out.lt)
    replace OZ := Lib.hid (OZ.out.below hb)
    replace OD := Lib.hid (OD.out.below hb)
    replace B1 := Lib.hid (B1.out.trans (hb.mono B1.out.size))
    clear hb
    go_wp2
    go_ret
    exact ⟨by rw [FIN.out]; rfl, B1.out⟩
  · have FIN : Hid (l = la ++ 47 :: lb) := by show _ = _; rw [← HL.out, if_neg hd1, HA.out, HLB.out]
    have DD : Hid (decide (d = 1) = false) := decide_eq_false hd1
    clear HL hd1
    go_enter Tryz.func12, Tryz.ntmps12
    go_wp2_with fail
    generalize (w.alloc (.cells #[.bool s, .slice A n c, .slice D m k] 26)) = w2 at *
    go_wp2_with (refine wpList_ldR (by rfl) _ rfl (by rfl) V0.out ?_)
    refine (rnorm_any HX.out HP.out KN.out KM.out HZ.out HD.out).mono ?_
    rintro e w3 ⟨P1, c1, Q1, k1, rfl, ho, ho2, hb⟩
    replace V0 := Lib.hid (V0.out.below hb V0.out.lt)
    replace HX := Lib.hid (HX.out.below hb)
    replace HP := Lib.hid (HP.out.below hb)
    replace B1 := Lib.hid (B1.out.trans (hb.mono B1.out.size))
    have OZ := Lib.hid (ho.mono SZ.out)
    have OD := Lib.hid (ho2.mono SZ.out)
    clear ho ho2 hb HX HP
    have pc0 := Lib.hid trivial
    go_wp2_with (first
      | (clear pc0; refine wpList_stR (by rfl) _ _ rfl (by rfl) (by rfl) V0.out ?_; intro w4 hz hg; replace OZ := Lib.hid (OZ.out.grR V0.out hg); replace OD := Lib.hid (OD.out.grR V0.out hg); replace B1 := Lib.hid (Below.gr B1.out (by omega) hg B1.out.size); replace V0 := Lib.hid hz; clear hz hg; have pc1 := Lib.hid trivial)
      | (clear pc1; refine wpList_ldRd (by rfl) _ rfl (by rfl) V0.out ?_; have pc2 := Lib.hid trivial))
    clear pc2
    have hb : Below w4.heap.size w4 (w4.alloc (.cells #[.int .u32 1] 60)) := (Below.refl _ _).alloc (Nat.le_refl _) _
    replace V0 := Lib.hid (V0.out.below hb V0.out.lt)
    replace OZ := Lib.hid (OZ.out.below hb)
    replace OD := Lib.hid (OD.out.below hb)
    replace B1 := Lib.hid (B1.out.trans (hb.mono B1.out.size))
    have RO := Lib.hid (rd_unit w4)
    clear hb
    refine (equal_d (a := d) (b := 1) OD.out.rd RO.out rfl unit_len DD.out).mono ?_
    rintro e w5 ⟨rfl, hb⟩
    replace V0 := Lib.hid (V0.out.below hb V0.out.lt)
    replace OZ := Lib.hid (OZ.out.below hb)
    replace OD := Lib.hid (OD.out.below hb)
    replace B1 := Lib.hid (B1.out.trans (hb.mono B1.out.size))
    clear hb RO
    go_wp2_with fail
    have HB : Hid (Below w5.heap.size w5 w5.drew) := below_drewN _ w5 1
    refine wp_region_held_drew (S := fun w' => Below w5.heap.size w5 w') (by kernel_rfl) (HB.out) (fun hHeld => ?_)
    refine wpAnyH_takeL (i := 0) (oi := _) (v := ?_) rfl (by kernel_rfl) (by kernel_rfl) (by kernel_rfl) (fun _ _ _ h => h) (Or.inl ⟨by rfl, ?_⟩) hHeld ?_
    rotate_left
    · (intro w' hSw; (try dsimp only at hSw); go_simp; try (with_reducible rfl))
    try simp only [Act.put, List.setIfInBounds_toArray, List.set_cons_zero, List.set_cons_succ]
    refine wpAnyH_takeL (i := 1) (oi := _) rfl (by kernel_rfl) (by kernel_rfl) (by kernel_rfl) (fun _ _ _ h => h) (yields_ldRz (by rfl) _ rfl (by rfl) (fun _ hb => V0.out.below hb V0.out.lt)) hHeld ?_
    try simp only [Act.put, List.setIfInBounds_toArray, List.set_cons_zero, List.set_cons_succ]
    refine wpAnyH_takeL (i := 4) (oi := _) (v := ?_) rfl (by kernel_rfl) (by kernel_rfl) (by kernel_rfl) (fun _ _ _ h => h) (Or.inl ⟨by rfl, ?_⟩) hHeld ?_
    rotate_left
    · (intro w' hSw; (try dsimp only at hSw); go_simp; try (with_reducible rfl))
    try simp only [Act.put, List.setIfInBounds_toArray, List.set_cons_zero, List.set_cons_succ]
    refine wpAnyH_takeL (i := 5) (oi := _) rfl (by kernel_rfl) (by kernel_rfl) (by kernel_rfl) (fun _ _ _ h => h) (yields_ldRd (by rfl) _ rfl (by rfl) (fun _ hb => V0.out.below hb V0.out.lt)) hHeld ?_
    try simp only [Act.put, List.setIfInBounds_toArray, List.set_cons_zero, List.set_cons_succ]
    refine wpAnyH_ready (rs := [2]) (by kernel_rfl) (by simp) ?_
    refine AllReadyH.consL (o := _) rfl (fun K hK => ?_) AllReadyH.nil
    clear hHeld
    go_simp
    go_at_call 10
    refine Calls.mono (rformatInt_any (Zo.of_own (OZ.out.below HB.out)).in_ L1.out HA.out) ?_
    rintro e w6 ⟨rfl, hb⟩
    replace HB := Lib.hid (HB.out.trans (hb.mono HB.out.size))
    clear hb
    refine hK.out _ _ HB.out (fun hHeld => ?_)
    clear hK K
    try simp only [Act.put, List.setIfInBounds_toArray, List.set_cons_zero, List.set_cons_succ]
    refine wpAnyH_takeL (i := 3) (oi := _) (v := ?_) rfl (by kernel_rfl) (by kernel_rfl) (by kernel_rfl) (fun _ _ _ h => h) (Or.inl ⟨by rfl, ?_⟩) hHeld ?_
    rotate_left
    · (intro w' hSw; (try dsimp only at hSw); go_simp; try (with_reducible rfl))
    try simp only [Act.put, List.setIfInBounds_toArray, List.set_cons_zero, List.set_cons_succ]
    refine wpAnyH_ready (rs := [6]) (by kernel_rfl) (by simp) ?_
    refine AllReadyH.consL (o := _) rfl (fun K hK => ?_) AllReadyH.nil
    clear hHeld
    go_simp
    go_at_call 35
    refine Calls.mono (digits_any (OD.out.below HB.out).rd L2.out HLB.out) ?_
    rintro e w7 ⟨rfl, hb⟩
    replace HB := Lib.hid (HB.out.trans (hb.mono HB.out.size))
    clear hb
    refine hK.out _ _ HB.out (fun hHeld => ?_)
    clear hK K
    try simp only [Act.put, List.setIfInBounds_toArray, List.set_cons_zero, List.set_cons_succ]
    refine wpAnyH_takeL (i := 7) (oi := _) (v := ?_) rfl (by kernel_rfl) (by kernel_rfl) (by kernel_rfl) (fun _ _ _ h => h) (Or.inl ⟨by rfl, ?_⟩) hHeld ?_
    rotate_left
    · (intro w' hSw; (try dsimp only at hSw); go_simp; try (with_reducible rfl))
    try simp only [Act.put, List.setIfInBounds_toArray, List.set_cons_zero, List.set_cons_succ]
    refine wpAnyH_takeL (i := 8) (oi := _) (v := ?_) rfl (by kernel_rfl) (by kernel_rfl) (by kernel_rfl) (fun _ _ _ h => h) (Or.inl ⟨by rfl, ?_⟩) hHeld ?_
    rotate_left
    · (intro w' hSw; (try dsimp only at hSw); go_simp; try (with_reducible rfl))
    try simp only [Act.put, List.setIfInBounds_toArray, List.set_cons_zero, List.set_cons_succ]
    skip
    refine wpAnyH_done (by kernel_rfl) ?_ _
    have hb := HB.out
    replace V0 := Lib.hid (V0.out.below hb V0.out.lt)
    replace OZ := Lib.hid (OZ.out.below hb)
    replace OD := Lib.hid (OD.out.below hb)
    replace B1 := Lib.hid (B1.out.trans (hb.mono B1.out.size))
    clear hHeld hb HB
    go_wp2
    go_ret
    refine ⟨?_, B1.out⟩
    rw [FIN.out, show (⟨#[47]⟩ : ByteArray) = txt [47] from rfl, txt_append, txt_append, List.append_assoc]
    rfl
end Go.Proofs.YtebpoabflcngoaaGreatDoor
