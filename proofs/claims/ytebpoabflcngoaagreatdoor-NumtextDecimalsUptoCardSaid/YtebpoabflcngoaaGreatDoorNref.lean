/-
  Contracts of the reference's texts: digits, FormatInt, FormatRat.
-/
import Derived.Test.YtebpoabflcngoaaGreatDoorNU
import Derived.Test.YtebpoabflcngoaaGreatDoorNV
import Derived.Test.YtebpoabflcngoaaGreatDoorReqs
import Derived.Test.YtebpoabflcngoaaGreatDoorRref
import Derived.IntWalk
namespace Go.Proofs.YtebpoabflcngoaaGreatDoor
open Go.RowKit
set_option linter.unusedVariables false
set_option linter.unusedSimpArgs false

theorem dec_step {n : Nat} (h : ¬ n < 10) : Lib.decDigits n = Lib.decDigits (n / 10) ++ [UInt8.ofNat (48 + n % 10)] := by
  rw [Lib.decDigits, dif_neg h]
theorem rd_one {v : Nat} (hv : v < 4294967296) (hv0 : v ≠ 0) (w : World) : Rd (w.alloc (.cells #[.int .u32 (v : Int)] 60)) (some ⟨w.heap.size, 0, none⟩) 1 [v] := by
  have hr : Row (w.alloc (.cells #[.int .u32 (v : Int)] 60)) w.heap.size [v] := row_new rfl rfl
  by_cases h0 : v = 0
  · exact absurd h0 hv0
  · exact (Own.of_row (lo := 0) hr (okl1 (by omega)) (Nat.zero_le _) (by simp)).rd
theorem rdm_ten {A B : Option Addr} {c m : Nat} {w : World} (h : Rd w A c (ofv m)) (hl : (ofv m).length ≤ 70368744177664) (h' : Rd w B 1 [10]) {q r : Nat} (hq : m / 10 = q) (hr : m % 10 = r) :
    Calls Tryz.prog 72 #[.slice A (ofv m).length c, .slice B 1 1] w fun e w' => ∃ R c R' c', e = .returned (.tuple #[.slice R (ofv q).length c, .slice R' (ofv r).length c', .bool true]) ∧ Own w' w.heap.size R c (ofv q) ∧ Own w' w.heap.size R' c' (ofv r) ∧ Below w.heap.size w w' := by
  refine (rdm_n h h' rfl rfl hl (by simp) (by simp [val])).mono ?_
  rintro e w' ⟨R, c, R', c', rfl, h1, h2, h3⟩
  have e1 : val (ofv m) / val [10] = q := by rw [val_ofv, ← hq]; simp [val]
  have e2 : val (ofv m) % val [10] = r := by rw [val_ofv, ← hr]; simp [val]
  rw [e1, e2]
  rw [e1] at h1
  rw [e2] at h2
  exact ⟨R, c, R', c', rfl, h1, h2, h3⟩
theorem ru64_nat {A : Option Addr} {c m : Nat} {w : World} (h : Rd w A c (ofv m)) (hm : m < 10) {z : Int} (hz : ((m : Nat) : Int) = z) :
    Calls Tryz.prog 62 #[.slice A (ofv m).length c] w fun e w' => e = .returned (.tuple #[.int .u64 z, .bool true]) ∧ Below w.heap.size w w' :=
  ruint64_yes_n h rfl (Nat.le_trans (len_small (by omega)) (by decide)) (by rw [val_ofv]; omega) (by rw [val_ofv]; exact hz)
/-- The loop: the digits that are left, and those that are written. -/
def DgInv (w : World) (n m : Nat) (acc : List UInt8) (P : Option Addr) (c : Nat) (wr : World) : Prop := Lib.decDigits m ++ acc = Lib.decDigits n ∧ m ≤ n ∧ Rd wr P c (ofv m) ∧ Below w.heap.size w wr
theorem DgInv.len {w wr : World} {n m c : Nat} {acc : List UInt8} {P : Option Addr} (h : DgInv w n m acc P c wr) : acc.length < (Lib.decDigits n).length := by
  have h1 := congrArg List.length h.1
  rw [List.length_append] at h1
  have := dec_ne m
  have : 0 < (Lib.decDigits m).length := List.length_pos_iff.2 this
  omega
def sizeS : Value → Nat
  | .string b => b.size
  | _ => 0
theorem ofv_nil {q : Nat} : (((ofv q).length : Int) = 0) ↔ q = 0 := by
  constructor
  · intro h
    have h0 : ofv q = [] := List.eq_nil_of_length_eq_zero (by omega)
    have := val_ofv q
    rw [h0] at this
    simp [val] at this
    omega
  · intro h; subst h; rw [ofv_zero]; rfl
theorem dig_at {d : Nat} (hd : d < 10) : (⟨#[48, 49, 50, 51, 52, 53, 54, 55, 56, 57]⟩ : ByteArray).extract d (d + 1) = txt [UInt8.ofNat (48 + d)] := by
  rcases d with _ | _ | _ | _ | _ | _ | _ | _ | _ | _ | d
  all_goals first | (exfalso; omega) | decide +kernel
set_option maxRecDepth 100000 in
set_option maxHeartbeats 16000000 in
theorem digits_any {n : Nat} {A : Option Addr} {c : Nat} {w : World} (h : Rd w A c (ofv n)) (hl : (ofv n).length ≤ 10000000000) {l : List UInt8} (hn : Lib.decDigits n = l) :
    Calls Tryz.prog 35 #[.slice A (ofv n).length c] w fun e w' => e = .returned (.string (txt l)) ∧ Below w.heap.size w w' := by
  have hll : l.length ≤ 100000000010 := by
    have := itoa_len (x := (n : Int)) (N := 10000000000) (by rw [Int.natAbs_natCast]; exact hl)
    rw [itoa_nat, hn] at this
    omega
  have HL := Lib.hid hn
  have HLL := Lib.hid hll
  have H := Lib.hid h
  have LN := Lib.hid hl
  clear h hl hn hll
  go_enter Tryz.func35, Tryz.ntmps35
  go_wp2_with fail
  go_loopw [0, 3] (fun a s wr => ∃ (m : Nat) (acc : List UInt8) (P : Option Addr) (c : Nat), Hid (DgInv w n m acc P c wr) ∧ a = .slice P (ofv m).length c ∧ s = .string (txt acc)) (fun _ s _ => l.length - sizeS s)
  case atStart => exact ⟨n, [], A, c, ⟨by simp, Nat.le_refl _, H.out, Below.refl _ _⟩, rfl, rfl⟩
  case round =>
    obtain ⟨m, acc, P, c', INV, rfl, rfl⟩ := hrel
    obtain ⟨q, hq⟩ : ∃ q, m / 10 = q := ⟨_, rfl⟩
    obtain ⟨r, hr⟩ : ∃ r, m % 10 = r := ⟨_, rfl⟩
    have hr10 : r < 10 := by rw [← hr]; exact Nat.mod_lt _ (by omega)
    obtain ⟨dz, hdz⟩ : ∃ z : Int, ((r : Nat) : Int) = z := ⟨_, rfl⟩
    have alen := INV.out.len
    rw [HL.out] at alen
    have LM : Hid ((ofv m).length ≤ 70368744177664) := Nat.le_trans (len_mono INV.out.2.1) (Nat.le_trans LN.out (by decide))
    have RM := Lib.hid INV.out.2.2.1
    have B1 := Lib.hid INV.out.2.2.2
    have HQ := Lib.hid hq
    have HR := Lib.hid hr
    have HD := Lib.hid hdz
    have R10 := Lib.hid hr10
    have LA := Lib.hid alen
    have d0 : 0 ≤ dz := by omega
    have d1 : dz < 10 := by omega
    have hw : IntKind.u64.wrap (dz + 1) = dz + 1 := by rw [IntKind.wrap_u64]; omega
    have hx : (⟨#[48, 49, 50, 51, 52, 53, 54, 55, 56, 57]⟩ : ByteArray).extract dz.toNat (dz + 1).toNat = txt [UInt8.ofNat (48 + r)] := by
      rw [show dz.toNat = r by omega, show (dz + 1).toNat = r + 1 by omega]
      exact dig_at hr10
    have hcat : ¬ 9223372036854775807 < ((⟨#[48, 49, 50, 51, 52, 53, 54, 55, 56, 57]⟩ : ByteArray).extract dz.toNat (dz + 1).toNat).size + (txt acc).size := by rw [hx, txt_size, txt_size]; have := HLL.out; simp; omega
    have HX := Lib.hid hx
    have HNX := Lib.hid (⟨INV.out.1, INV.out.2.1⟩ : Lib.decDigits m ++ acc = Lib.decDigits n ∧ m ≤ n)
    clear hq hr hdz hr10 alen hx INV
    by_cases hq0 : q = 0
    · have c0 : (((ofv q).length : Nat) : Int) = 0 := ofv_nil.2 hq0
      have HQ0 := Lib.hid hq0
      clear hq0
      go_wp2_with fail
      have hb : Below wr.heap.size wr (wr.alloc (.cells #[.int .u32 10] 60)) := (Below.refl _ _).alloc (Nat.le_refl _) _
      replace RM := Lib.hid (RM.out.below hb)
      replace B1 := Lib.hid (B1.out.trans (hb.mono B1.out.size))
      have RT := Lib.hid (rd_one (v := 10) (by decide) (by decide) wr)
      clear hb
      go_wp2_with fail
      refine (rdm_ten RM.out LM.out RT.out HQ.out HR.out).mono ?_
      rintro e w3 ⟨P3, k3, P4, k4, rfl, ho, ho2, hb⟩
      replace RM := Lib.hid (RM.out.below hb)
      replace RT := Lib.hid (RT.out.below hb)
      replace B1 := Lib.hid (B1.out.trans (hb.mono B1.out.size))
      have RQ := Lib.hid ho.rd
      have RR := Lib.hid ho2.rd
      clear ho ho2
      clear hb
      go_wp2_with fail
      refine (ru64_nat RR.out R10.out HD.out).mono ?_
      rintro e w4 ⟨rfl, hb⟩
      replace RM := Lib.hid (RM.out.below hb)
      replace RT := Lib.hid (RT.out.below hb)
      replace RQ := Lib.hid (RQ.out.below hb)
      replace RR := Lib.hid (RR.out.below hb)
      replace B1 := Lib.hid (B1.out.trans (hb.mono B1.out.size))
      clear hb
      go_wp2
      go_ret
      refine ⟨?_, B1.out⟩
      rw [HX.out, txt_append]
      have hm : m < 10 := by have := HQ.out; have := HQ0.out; omega
      have hrm : r = m := by have := HR.out; omega
      obtain ⟨h1, h2⟩ := HNX.out
      rw [Lib.decDigits_one hm, HL.out] at h1
      rw [hrm, h1]
      rfl
    · have c0 : ¬ (((ofv q).length : Nat) : Int) = 0 := fun e => hq0 (ofv_nil.1 e)
      have HQ0 := Lib.hid hq0
      clear hq0
      go_wp2_with fail
      have hb : Below wr.heap.size wr (wr.alloc (.cells #[.int .u32 10] 60)) := (Below.refl _ _).alloc (Nat.le_refl _) _
      replace RM := Lib.hid (RM.out.below hb)
      replace B1 := Lib.hid (B1.out.trans (hb.mono B1.out.size))
      have RT := Lib.hid (rd_one (v := 10) (by decide) (by decide) wr)
      clear hb
      go_wp2_with fail
      refine (rdm_ten RM.out LM.out RT.out HQ.out HR.out).mono ?_
      rintro e w3 ⟨P3, k3, P4, k4, rfl, ho, ho2, hb⟩
      replace RM := Lib.hid (RM.out.below hb)
      replace RT := Lib.hid (RT.out.below hb)
      replace B1 := Lib.hid (B1.out.trans (hb.mono B1.out.size))
      have RQ := Lib.hid ho.rd
      have RR := Lib.hid ho2.rd
      clear ho ho2
      clear hb
      go_wp2_with fail
      refine (ru64_nat RR.out R10.out HD.out).mono ?_
      rintro e w4 ⟨rfl, hb⟩
      replace RM := Lib.hid (RM.out.below hb)
      replace RT := Lib.hid (RT.out.below hb)
      replace RQ := Lib.hid (RQ.out.below hb)
      replace RR := Lib.hid (RR.out.below hb)
      replace B1 := Lib.hid (B1.out.trans (hb.mono B1.out.size))
      clear hb
      go_wp2
      go_roundw
      case rel =>
        refine ⟨q, UInt8.ofNat (48 + r) :: acc, P3, k3, ?_, rfl, by rw [HX.out, txt_append]; rfl⟩
        obtain ⟨h1, h2⟩ := HNX.out
        have hm : ¬ m < 10 := by have := HQ.out; have := HQ0.out; omega
        refine ⟨?_, ?_, RQ.out, B1.out⟩
        · rw [dec_step hm, List.append_assoc, HQ.out, HR.out] at h1
          exact h1
        · have := HQ.out; omega
      case measure =>
        have hl := LA.out
        simp [sizeS, HX.out, txt_append, txt_size]
        omega
theorem unit_len : (ofv 1).length = 1 := by rw [one_limb]; rfl
theorem rd_unit (w : World) : Rd (w.alloc (.cells #[.int .u32 1] 60)) (some ⟨w.heap.size, 0, none⟩) 1 (ofv 1) := by
  have := rd_one (v := 1) (by decide) (by decide) w
  rw [one_limb]
  exact this
end Go.Proofs.YtebpoabflcngoaaGreatDoor
