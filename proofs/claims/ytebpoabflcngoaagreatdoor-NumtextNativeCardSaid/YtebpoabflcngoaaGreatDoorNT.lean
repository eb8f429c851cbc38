/-
  Ntm, Ntx, Nty, Ntz, Nrd, Nfw, Zvalue, Nfi, Nld, Nft, Nlaid.
-/
import Derived.Lib.ItoaNum
import Derived.Lib.IndexMore
import Derived.Lib.Strings
import Derived.Lib.TrimByte
import Derived.Lib.Repeat
import Derived.Test.YtebpoabflcngoaaGreatDoorVar
import Derived.Test.YtebpoabflcngoaaGreatDoorShl
import Derived.WalkSmall
import Derived.Test.YtebpoabflcngoaaGreatDoorRnew
import Derived.Deep.MidRow
import Derived.Test.YtebpoabflcngoaaGreatDoorZB
import Derived.Test.YtebpoabflcngoaaGreatDoorCards
import Derived.Test.YtebpoabflcngoaaGreatDoorTie
import Derived.Deep.DeepHandedRow
import Derived.Lib.LaidTab
import Derived.Lib.LaidU8
import Derived.Lay
/-
  Mathematics of decimal texts, of no program: digit strings, their values, a fixed number of digits, a point in them.
-/
namespace Go.Proofs.YtebpoabflcngoaaGreatDoor
open Go.Lib

/-- The last w digits of n, the most significant one first. -/
def wdig : Nat → Nat → List UInt8
  | 0, _ => []
  | w + 1, n => wdig w (n / 10) ++ [UInt8.ofNat (48 + n % 10)]
theorem wdig_len : ∀ (w n : Nat), (wdig w n).length = w
  | 0, _ => rfl
  | w + 1, n => by rw [wdig, List.length_append, wdig_len w]; rfl
theorem wdig_add (a : Nat) : ∀ (b n : Nat), wdig (a + b) n = wdig a (n / 10 ^ b) ++ wdig b n
  | 0, n => by simp [wdig]
  | b + 1, n => by
    show wdig (a + b) (n / 10) ++ _ = _
    rw [wdig_add a b, wdig, Nat.pow_succ, Nat.mul_comm (10 ^ b), ← Nat.div_div_eq_div_mul, List.append_assoc]
theorem wdig_zero : ∀ w : Nat, wdig w 0 = List.replicate w 48
  | 0 => rfl
  | w + 1 => by
    rw [wdig, Nat.zero_div, wdig_zero w, List.replicate_succ']
    rfl
theorem wdig_mod : ∀ (b n : Nat), wdig b (n % 10 ^ b) = wdig b n
  | 0, _ => rfl
  | b + 1, n => by
    have h1 : n % 10 ^ (b + 1) / 10 = n / 10 % 10 ^ b := by
      rw [Nat.pow_succ, Nat.mul_comm, Nat.mod_mul_right_div_self]
    have h2 : n % 10 ^ (b + 1) % 10 = n % 10 := Nat.mod_mod_of_dvd _ (by rw [Nat.pow_succ]; exact Nat.dvd_mul_left ..)
    rw [wdig, wdig, h1, h2, wdig_mod b]
theorem dec_wdig (n : Nat) : decDigits n = wdig (nDigits n) n := by
  induction n using Nat.strongRecOn with
  | _ n ih =>
    by_cases h : n < 10
    · rw [decDigits, dif_pos h, nDigits_small h, wdig, wdig, Nat.mod_eq_of_lt h]; rfl
    · rw [decDigits, dif_neg h, nDigits_big h, wdig, ih (n / 10) (by omega)]
theorem nDigits_le {n w : Nat} (h : n < 10 ^ w) (hw : 1 ≤ w) : nDigits n ≤ w := by
  induction n using Nat.strongRecOn generalizing w with
  | _ n ih =>
    by_cases h0 : n < 10
    · rw [nDigits_small h0]; exact hw
    · rw [nDigits_big h0]
      obtain ⟨v, rfl⟩ : ∃ v, w = v + 1 := ⟨w - 1, by omega⟩
      rw [Nat.pow_succ] at h
      have hv : 1 ≤ v := by
        rcases Nat.eq_zero_or_pos v with e | e
        · subst e; simp at h; omega
        · exact e
      have := ih (n / 10) (by omega) (w := v) (by omega) hv
      omega
/-- A list, filled up with zeros before it. -/
def padz (w : Nat) (l : List UInt8) : List UInt8 := List.replicate (w - l.length) 48 ++ l
theorem padz_dec {w n : Nat} (h : nDigits n ≤ w) : padz w (decDigits n) = wdig w n := by
  unfold padz
  have e : w = (w - nDigits n) + nDigits n := by omega
  rw [decDigits_length]
  conv => rhs; rw [e]
  rw [wdig_add, Nat.div_eq_of_lt (lt_pow_nDigits n), wdig_zero, dec_wdig]
/-- The value of a digit string. -/
def dval (l : List UInt8) : Nat := l.foldl (fun a c => 10 * a + (c.toNat - 48)) 0
theorem dval_from (l : List UInt8) (a : Nat) : l.foldl (fun a c => 10 * a + (c.toNat - 48)) a = a * 10 ^ l.length + dval l := by
  unfold dval
  induction l generalizing a with
  | nil => simp
  | cons c l ih =>
    rw [List.foldl_cons, List.foldl_cons, ih, ih (10 * 0 + (c.toNat - 48)), List.length_cons, Nat.pow_succ]
    simp only [Nat.mul_zero, Nat.zero_add, Nat.add_mul]
    rw [Nat.mul_comm (10 ^ l.length) 10, ← Nat.mul_assoc, Nat.mul_comm a 10]
    omega
theorem dval_append (l m : List UInt8) : dval (l ++ m) = dval l * 10 ^ m.length + dval m := by
  rw [dval, List.foldl_append, dval_from]; rfl
theorem dval_snoc (l : List UInt8) (c : UInt8) : dval (l ++ [c]) = 10 * dval l + (c.toNat - 48) := by
  rw [dval_append]; simp [dval]; omega
theorem digit_nat (d : Nat) (h : d < 10) : (UInt8.ofNat (48 + d)).toNat = 48 + d := by
  rw [UInt8.toNat_ofNat']
  exact Nat.mod_eq_of_lt (by omega)
theorem dval_wdig : ∀ (w n : Nat), dval (wdig w n) = n % 10 ^ w
  | 0, n => by simp [wdig, dval, Nat.mod_one]
  | w + 1, n => by
    rw [wdig, dval_snoc, dval_wdig w, digit_nat _ (Nat.mod_lt _ (by decide)), Nat.pow_succ, Nat.mul_comm (10 ^ w) 10, Nat.mod_mul]
    omega
theorem dval_dec (n : Nat) : dval (decDigits n) = n := by
  rw [dec_wdig, dval_wdig, Nat.mod_eq_of_lt (lt_pow_nDigits n)]
/-- A list of digits. -/
def alld (l : List UInt8) : Bool := l.all fun c => decide (48 ≤ c.toNat) && decide (c.toNat ≤ 57)
theorem alld_append (l m : List UInt8) : alld (l ++ m) = (alld l && alld m) := by simp [alld]
theorem alld_one (c : UInt8) : alld [c] = (decide (48 ≤ c.toNat) && decide (c.toNat ≤ 57)) := by simp [alld]
theorem alld_wdig : ∀ (w n : Nat), alld (wdig w n) = true
  | 0, _ => rfl
  | w + 1, n => by
    have h := Nat.mod_lt n (show 10 > 0 by decide)
    rw [wdig, alld_append, alld_wdig w, alld_one, digit_nat _ h]
    simp; omega
theorem alld_dec (n : Nat) : alld (decDigits n) = true := by rw [dec_wdig]; exact alld_wdig _ _
theorem alld_mem {l : List UInt8} (h : alld l = true) {c : UInt8} (hc : c ∈ l) : 48 ≤ c.toNat ∧ c.toNat ≤ 57 := by
  have := List.all_eq_true.1 h c hc
  simpa using this
theorem alld_take {l : List UInt8} (h : alld l = true) (k : Nat) : alld (l.take k) = true :=
  List.all_eq_true.2 fun c hc => List.all_eq_true.1 h c (List.mem_of_mem_take hc)
/-- The first digit. -/
theorem dec_head (n : Nat) (h : 0 < n) : ∃ c l, decDigits n = c :: l ∧ c.toNat ≠ 48 := by
  induction n using Nat.strongRecOn with
  | _ n ih =>
    by_cases h0 : n < 10
    · refine ⟨UInt8.ofNat (48 + n), [], by rw [decDigits, dif_pos h0], ?_⟩
      rw [digit_nat n h0]; omega
    · obtain ⟨c, l, e, hc⟩ := ih (n / 10) (by omega) (by omega)
      exact ⟨c, l ++ [UInt8.ofNat (48 + n % 10)], by rw [decDigits, dif_neg h0, e]; rfl, hc⟩
theorem dec_zero : decDigits 0 = [48] := by rw [decDigits, dif_pos (by decide)]; rfl
/-- A digit string without leading zeros. -/
def plainB (l : List UInt8) : Bool := alld l && (match l with | [] => false | [_] => true | c :: _ => c != 48)
theorem plain_dec (n : Nat) : plainB (decDigits n) = true := by
  unfold plainB
  rw [alld_dec, Bool.true_and]
  rcases Nat.eq_zero_or_pos n with e | e
  · subst e; rw [dec_zero]
  · obtain ⟨c, l, e, hc⟩ := dec_head n e
    rw [e]
    cases l with
    | nil => rfl
    | cons d l =>
      show (c != 48) = true
      simp only [bne_iff_ne, ne_eq]
      intro e'; subst e'; exact hc rfl
/-- What is left without the minus sign; a number text; the value of sign and digits. -/
def unsg (l : List UInt8) : List UInt8 := trimPrefix l [45]
def numB (l : List UInt8) : Bool := plainB (unsg l) && (l != [45, 48])
def tval (l : List UInt8) : Int := if hasPrefix l [45] then -((dval (unsg l) : Nat) : Int) else ((dval (unsg l) : Nat) : Int)
theorem hasPrefix_cons (l : List UInt8) : hasPrefix (45 :: l) [45] = true := by simp [hasPrefix]
theorem unsg_cons (l : List UInt8) : unsg (45 :: l) = l := by unfold unsg trimPrefix; rw [hasPrefix_cons]; rfl
theorem hasPrefix_digits {l : List UInt8} (h : alld l = true) : hasPrefix l [45] = false := by
  cases l with
  | nil => rfl
  | cons c l =>
    have := alld_mem h (List.mem_cons_self ..)
    have e : c ≠ 45 := by intro e; subst e; exact absurd this.1 (by decide)
    show [45].isPrefixOf (c :: l) = false
    rw [List.isPrefixOf_cons_cons]
    simp [Ne.symm e]
theorem unsg_digits {l : List UInt8} (h : alld l = true) : unsg l = l := by unfold unsg trimPrefix; rw [hasPrefix_digits h]; rfl
theorem tval_cons (l : List UInt8) : tval (45 :: l) = -((dval l : Nat) : Int) := by unfold tval; rw [hasPrefix_cons, unsg_cons]; rfl
theorem tval_digits {l : List UInt8} (h : alld l = true) : tval l = ((dval l : Nat) : Int) := by unfold tval; rw [hasPrefix_digits h, unsg_digits h]; rfl
theorem itoa_neg {z : Int} (h : z < 0) : itoa z = 45 :: decDigits z.natAbs := by unfold itoa; rw [if_pos h]
theorem itoa_pos {z : Int} (h : ¬ z < 0) : itoa z = decDigits z.natAbs := by
  unfold itoa; rw [if_neg h, show z.toNat = z.natAbs by omega]
theorem unsg_itoa (z : Int) : unsg (itoa z) = decDigits z.natAbs := by
  by_cases h : z < 0
  · rw [itoa_neg h, unsg_cons]
  · rw [itoa_pos h, unsg_digits (alld_dec _)]
theorem tval_itoa (z : Int) : tval (itoa z) = z := by
  by_cases h : z < 0
  · rw [itoa_neg h, tval_cons, dval_dec]; omega
  · rw [itoa_pos h, tval_digits (alld_dec _), dval_dec]; omega
theorem numB_itoa (z : Int) : numB (itoa z) = true := by
  unfold numB
  rw [unsg_itoa, plain_dec, Bool.true_and, bne_iff_ne]
  by_cases h : z < 0
  · rw [itoa_neg h]
    intro e
    obtain ⟨c, l, e', hc⟩ := dec_head z.natAbs (by omega)
    rw [e'] at e
    simp only [List.cons.injEq, true_and] at e
    rw [e.1] at hc
    exact hc rfl
  · rw [itoa_pos h]
    intro e
    have := alld_dec z.natAbs
    rw [e] at this
    exact absurd this (by decide)
theorem itoa_length (z : Int) : (itoa z).length ≤ nDigits z.natAbs + 1 := by
  by_cases h : z < 0
  · rw [itoa_neg h, List.length_cons, decDigits_length]; exact Nat.le_refl _
  · rw [itoa_pos h, decDigits_length]; omega
/-- A point before the last p digits, zeros where there are too few. -/
def ptd (l : List UInt8) (p : Nat) : List UInt8 := if p = 0 then l else (padz (p + 1) l).take ((padz (p + 1) l).length - p) ++ 46 :: (padz (p + 1) l).drop ((padz (p + 1) l).length - p)
def ptxt (z : Int) (p : Nat) : List UInt8 := if z < 0 then 45 :: ptd (decDigits z.natAbs) p else ptd (decDigits z.natAbs) p
/-- Zeros before the first other digit fall. -/
theorem trim_wdig {w n : Nat} (h : nDigits n ≤ w) (hn : 0 < n) : trimLeftB (wdig w n) 48 = decDigits n := by
  rw [← padz_dec h]
  unfold padz trimLeftB
  obtain ⟨c, l, e, hc⟩ := dec_head n hn
  have hc' : (c == 48) = false := by
    rw [beq_eq_false_iff_ne]
    intro e'; subst e'; exact hc rfl
  generalize w - (decDigits n).length = k
  induction k with
  | zero => rw [List.replicate_zero, List.nil_append, e, List.dropWhile_cons, hc']; rfl
  | succ k ih => rw [List.replicate_succ, List.cons_append, List.dropWhile_cons]; exact ih
theorem repeatL_one (c : UInt8) : ∀ n : Nat, repeatL [c] n = List.replicate n c
  | 0 => rfl
  | n + 1 => by rw [repeatL, repeatL_one c n]; rfl
/-- Every character is of ASCII. -/
def ascii (l : List UInt8) : Prop := ∀ c ∈ l, c.toNat < 128
theorem ascii_digits {l : List UInt8} (h : alld l = true) : ascii l := fun c hc => by have := alld_mem h hc; omega
theorem ascii_cons {l : List UInt8} {c : UInt8} (hc : c.toNat < 128) (h : ascii l) : ascii (c :: l) := fun d hd => by
  rcases List.mem_cons.1 hd with h1 | h1
  · subst h1; exact hc
  · exact h d h1
theorem ascii_itoa (z : Int) : ascii (itoa z) := by
  by_cases h : z < 0
  · rw [itoa_neg h]; exact ascii_cons (by decide) (ascii_digits (alld_dec _))
  · rw [itoa_pos h]; exact ascii_digits (alld_dec _)
theorem ascii_unsg {l : List UInt8} (h : ascii l) : ascii (unsg l) := by
  unfold unsg trimPrefix
  split
  · exact fun c hc => h c (List.mem_of_mem_drop hc)
  · exact h
end Go.Proofs.YtebpoabflcngoaaGreatDoor

/-
  Contracts: texts that are digits, texts without their sign, texts of numbers; what the tables of the library hold.
-/
namespace Go.Proofs.YtebpoabflcngoaaGreatDoor
open Go.RowKit
set_option linter.unusedVariables false

/-- What the library's variables hold that the calls read: a table of powers of ten, some length. -/
def Env (w : World) : Prop := Lib.TabIs Tryz.prog w "internal/strconv.uint64pow10" .u64 Lib.pow10Tab ∧ ∃ m, w.cell? ⟨0, 0, none⟩ = some (.int .i64 m)
theorem env_table : Tryz.prog.globalNamed "internal/strconv.uint64pow10" = some 1 := by kernel_rfl
theorem lt_of_cell {w : World} {p : Addr} {v : Value} (h : w.cell? p = some v) : p.block < w.heap.size := by
  rcases Nat.lt_or_ge p.block w.heap.size with h1 | h1
  · exact h1
  · unfold World.cell? at h
    rw [Array.getElem?_eq_none h1] at h
    cases h
theorem Env.below {w w' : World} (h : Env w) (hb : Below w.heap.size w w') : Env w' := by
  obtain ⟨h1, m, h2⟩ := h
  have h3 : (1 : Nat) < w.heap.size := lt_of_cell (h1.cell env_table 0 (by decide))
  exact ⟨var?_below hb env_table h3 h1, m, (hb.cell (lt_of_cell h2)).trans h2⟩
/-- A text as a string. -/
def txt (l : List UInt8) : ByteArray := ⟨l.toArray⟩
theorem txt_size (l : List UInt8) : (txt l).size = l.length := rfl
theorem ba_size (bs : ByteArray) : bs.data.toList.length = bs.size := by cases bs; rfl
theorem loop_eq (bs : ByteArray) (r : List UInt8) : ∀ (k i : Nat), bs.size - i = k → ByteArray.toList.loop bs i r = r.reverse ++ bs.data.toList.drop i := by
  intro k
  induction k generalizing r with
  | zero =>
    intro i h
    unfold ByteArray.toList.loop
    rw [if_neg (by omega), List.drop_of_length_le (by rw [ba_size]; omega), List.append_nil]
  | succ k ih =>
    intro i h
    unfold ByteArray.toList.loop
    have hi : i < bs.size := by omega
    rw [if_pos hi, ih _ (i + 1) (by omega), List.reverse_cons, List.append_assoc]
    congr 1
    have h2 : i < bs.data.toList.length := by rw [ba_size]; exact hi
    rw [List.drop_eq_getElem_cons h2]
    have h3 : i < bs.data.size := by simpa using h2
    have h4 : bs.get! i = bs.data.toList[i] := by
      show bs.data[i]! = _
      rw [getElem!_pos bs.data i h3]; simp
    rw [h4]; rfl
theorem txt_list (l : List UInt8) : (txt l).toList = l := by
  unfold txt
  unfold ByteArray.toList
  rw [loop_eq _ _ _ 0 rfl]
  simp
set_option maxHeartbeats 4000000 in
theorem isDigits_any {l : List UInt8} (ha : ascii l) {b : Bool} (hb : (alld l && !l.isEmpty) = b) (w : World) :
    Calls Tryz.prog 95 #[.string (txt l)] w fun e w' => e = .returned (.bool b) ∧ Below w.heap.size w w' := by
  have HA := Lib.hid ha
  have HB := Lib.hid hb
  clear ha hb
  go_enter Tryz.func95, Tryz.ntmps95
  go_wp2
  go_loopw [] (fun wr => ∃ pos : Nat, pos ≤ l.length ∧ Hid (wr.heap[w.heap.size]? = some (.stringIter (txt l) pos)) ∧ Hid (Below w.heap.size w wr) ∧ Hid (alld (l.take pos) = true)) (fun wr => l.length - wr.iterPos w.heap.size)
  case atStart => exact ⟨0, Nat.zero_le _, Lib.hid (World.iter_heap w (txt l) 0), Lib.hid ((Below.refl _ w).alloc (Nat.le_refl _) _), Lib.hid rfl⟩
  case round =>
    obtain ⟨pos, hle, hit, hbw, hall⟩ := hrel
    by_cases hp : pos < l.length
    · obtain ⟨c, hcl⟩ : ∃ c, l[pos]'hp = c := ⟨_, rfl⟩
      have hc : c.toNat < 128 := by rw [← hcl]; exact HA.out _ (List.getElem_mem hp)
      have hnx : ∀ ty, (Instr.next (.pointer (some ⟨w.heap.size, 0, none⟩)) true ty).run Tryz.prog wr = .ok (.tuple #[.bool true, .int .i64 pos, .int .i32 c.toNat]) (wr.iterAt w.heap.size (txt l) (pos + 1)) := fun ty => by
        subst hcl
        exact Lib.run_next_ascii_at wr w.heap.size (txt l) pos ty hit.out hp hc
      have hit2 := Lib.hid (Lib.iterAt_heap wr w.heap.size (txt l) pos (pos + 1) hit.out)
      have hbw2 := Lib.hid (Lib.below_iterAt hbw.out (k := w.heap.size) (Nat.le_refl _) (txt l) (pos + 1))
      have HS : Hid (alld (l.take (pos + 1)) = (decide (48 ≤ c.toNat) && decide (c.toNat ≤ 57))) := by
        show _ = _
        rw [List.take_succ_eq_append_getElem hp, alld_append, hall.out, hcl, alld_one, Bool.true_and]
      have HI := Lib.hid hit.out
      clear hit hbw hall hcl
      by_cases hd : 48 ≤ c.toNat ∧ c.toNat ≤ 57
      · have h1 : ¬ (c.toNat : Int) < 48 := by omega
        have h2 : ¬ (57 : Int) < (c.toNat : Int) := by omega
        have HR : Hid (alld (l.take (pos + 1)) = true) := by show _ = _; rw [HS.out]; simp; omega
        clear hd HS
        go_wp2
        go_roundw
        case rel => exact ⟨pos + 1, by omega, hit2, hbw2, HR⟩
        case measure =>
          simp only [World.iterPos, hit2.out, HI.out]
          omega
      · have HF : Hid (b = false) := by
          show _ = _
          rw [← HB.out]
          have : alld l ≠ true := fun e => by
            have := alld_take e (pos + 1)
            rw [HS.out] at this
            simp at this
            exact hd this
          simp [this]
        by_cases h1 : (c.toNat : Int) < 48
        · clear hd HS
          go_wp2
          go_ret
          refine ⟨?_, hbw2.out⟩
          show Ending.returned (.bool false) = _
          rw [HF.out]
        · have h2 : (57 : Int) < (c.toNat : Int) := by omega
          clear hd HS
          go_wp2
          go_ret
          refine ⟨?_, hbw2.out⟩
          show Ending.returned (.bool false) = _
          rw [HF.out]
    · have hnx : ∀ ty, (Instr.next (.pointer (some ⟨w.heap.size, 0, none⟩)) true ty).run Tryz.prog wr = .ok (.tuple #[.bool false]) wr := fun ty => Lib.run_next_end_at wr w.heap.size (txt l) pos ty hit.out hp
      have HF : Hid (alld l = true) := by
        have := hall.out
        rw [List.take_of_length_le (by omega)] at this
        exact this
      clear hall hit
      rcases l with _ | ⟨c, l⟩
      · have e0 : (txt []).toList = [] := txt_list []
        go_wp2
        go_ret
        refine ⟨?_, hbw.out⟩
        show Ending.returned (.bool false) = _
        rw [← HB.out]; rfl
      · have e0 : (txt (c :: l)).toList.isEmpty = false := by rw [txt_list]; rfl
        go_wp2
        go_ret
        refine ⟨?_, hbw.out⟩
        show Ending.returned (.bool true) = _
        rw [← HB.out, HF.out]; rfl
end Go.Proofs.YtebpoabflcngoaaGreatDoor

/-
  Contracts: texts without their sign, texts of numbers.
-/
namespace Go.Proofs.YtebpoabflcngoaaGreatDoor
open Go.RowKit
set_option linter.unusedVariables false

theorem unsigned_any (l : List UInt8) (w : World) :
    Calls Tryz.prog 50 #[.string (txt l)] w fun e w' => e = .returned (.string (txt (unsg l))) ∧ w = w' := by
  go_enter Tryz.func50, Tryz.ntmps50
  go_wp2_with (go_at_call 90; refine (Tryz.strings_TrimPrefix _ _ _).mono ?_; rintro e w' ⟨rfl, rfl⟩)
  go_ret
  exact ⟨rfl, rfl⟩

theorem plain_first {l : List UInt8} (h : 0 < (txt l).size) (hd : alld l = true) : ((txt l).toList == [48] || (((txt l)[0]'h).toNat : Int) != 48) = plainB l := by
  rw [txt_list]
  unfold plainB
  rw [hd, Bool.true_and]
  match l, h with
  | [c], h =>
    show ([c] == [48] || ((c.toNat : Int) != 48)) = true
    by_cases e : c = 48
    · subst e; rfl
    · have : c.toNat ≠ 48 := fun e' => e (UInt8.toNat_inj.1 (by simpa using e'))
      have : ((c.toNat : Int) != 48) = true := by simp; omega
      rw [this, Bool.or_true]
  | c :: d :: l, h =>
    show (c :: d :: l == [48] || ((c.toNat : Int) != 48)) = (c != 48)
    have h1 : (c :: d :: l == [48]) = false := by simp
    rw [h1, Bool.false_or]
    by_cases e : c = 48
    · subst e; rfl
    · have h2 : c.toNat ≠ 48 := fun e' => e (UInt8.toNat_inj.1 (by simpa using e'))
      have h3 : ((c.toNat : Int) != 48) = true := by simp; omega
      have h4 : (c != 48) = true := by simpa using e
      rw [h3, h4]
set_option maxHeartbeats 4000000 in
theorem isPlain_any {l : List UInt8} (ha : ascii l) {b : Bool} (hb : plainB l = b) (w : World) :
    Calls Tryz.prog 89 #[.string (txt l)] w fun e w' => e = .returned (.bool b) ∧ Below w.heap.size w w' := by
  obtain ⟨d, hd⟩ : ∃ d, (alld l && !l.isEmpty) = d := ⟨_, rfl⟩
  have HA := Lib.hid ha
  have HD := Lib.hid hd
  have HB := Lib.hid hb
  clear ha hb hd
  go_enter Tryz.func89, Tryz.ntmps89
  go_wp2_with (go_at_call 95; refine (isDigits_any HA.out HD.out _).mono ?_; rintro e w2 ⟨rfl, hb⟩; have HW := Lib.hid hb; clear hb)
  · have h2 : (txt l).toList = [48] := by assumption
    have e : l = [48] := by rw [txt_list] at h2; exact h2
    go_ret
    refine ⟨?_, HW.out⟩
    show Ending.returned (.bool true) = _
    rw [← HB.out, e]; rfl
  · have h1 : d = true := by assumption
    have h3 : 0 < (txt l).size := by assumption
    have e := HD.out
    rw [h1, Bool.and_eq_true] at e
    go_ret
    refine ⟨?_, HW.out⟩
    show Ending.returned (.bool ((txt l).toList == [48] || (((txt l)[0]'h3).toNat : Int) != 48)) = _
    rw [← HB.out, plain_first h3 e.1]
  · have h1 : d = true := by assumption
    have h3 : ¬ 0 < (txt l).size := by assumption
    exfalso
    have e := HD.out
    rw [h1, Bool.and_eq_true] at e
    rw [txt_size] at h3
    cases l with
    | nil => exact absurd e.2 (by decide)
    | cons c l => simp at h3
  · have h1 : ¬ d = true := by assumption
    have e := HD.out
    go_ret
    refine ⟨?_, HW.out⟩
    show Ending.returned (.bool false) = _
    rw [← HB.out]
    unfold plainB
    cases h : alld l with
    | false => rfl
    | true =>
      rw [h] at e
      cases l with
      | nil => rfl
      | cons c l => exact absurd e.symm h1

set_option maxHeartbeats 4000000 in
theorem isNumber_any {l : List UInt8} (ha : ascii l) {b : Bool} (hb : numB l = b) (w : World) :
    Calls Tryz.prog 49 #[.string (txt l)] w fun e w' => e = .returned (.bool b) ∧ Below w.heap.size w w' := by
  obtain ⟨d, hd⟩ : ∃ d, plainB (unsg l) = d := ⟨_, rfl⟩
  have HA := Lib.hid (ascii_unsg ha)
  have HD := Lib.hid hd
  have HB := Lib.hid hb
  clear ha hb hd
  go_enter Tryz.func49, Tryz.ntmps49
  go_wp2_with (first
    | (go_at_call 50; refine (unsigned_any _ _).mono ?_; rintro e w2 ⟨rfl, rfl⟩)
    | (go_at_call 89; refine (isPlain_any HA.out HD.out _).mono ?_; rintro e w2 ⟨rfl, hb⟩; have HW := Lib.hid hb; clear hb))
  · have h1 : d = true := by assumption
    go_ret
    refine ⟨?_, HW.out⟩
    show Ending.returned (.bool (!((txt l).toList == [45, 48]))) = _
    rw [← HB.out, txt_list]
    unfold numB
    rw [HD.out, h1, Bool.true_and]; rfl
  · have h1 : ¬ d = true := by assumption
    go_ret
    refine ⟨?_, HW.out⟩
    show Ending.returned (.bool false) = _
    rw [← HB.out]
    unfold numB
    rw [HD.out]
    cases d with
    | false => rfl
    | true => exact absurd rfl h1
end Go.Proofs.YtebpoabflcngoaaGreatDoor

/-
  Contracts: texts filled up with zeros, with a sign, with a point.
-/
namespace Go.Proofs.YtebpoabflcngoaaGreatDoor
open Go.RowKit
set_option linter.unusedVariables false

theorem repeat_any (c : Nat) (hc : c ≤ 140737488355328) (w : World) :
    Calls Tryz.prog 142 #[.string ⟨#[48]⟩, .int .i64 c] w fun e w' => e = .returned (.string (txt (List.replicate c 48))) ∧ Below w.heap.size w w' := by
  refine (Tryz.strings_Repeat ⟨#[48]⟩ c w (by omega) (by show 1 * c ≤ _; omega)).mono ?_
  rintro e w' ⟨rfl, hb⟩
  exact ⟨by rw [← repeatL_one]; rfl, hb⟩
theorem txt_append (l m : List UInt8) : txt l ++ txt m = txt (l ++ m) := by
  apply ByteArray.ext
  apply Array.toList_inj.1
  simp [txt]
theorem repeat_max (k n : Nat) (hc : k ≤ 140737488355328) (w : World) :
    Calls Tryz.prog 142 #[.string ⟨#[48]⟩, .int .i64 (max 0 ((k : Int) - (n : Int)))] w fun e w' => e = .returned (.string (txt (List.replicate (k - n) 48))) ∧ Below w.heap.size w w' := by
  rw [show max 0 ((k : Int) - (n : Int)) = ((k - n : Nat) : Int) by omega]
  exact repeat_any _ (by omega) w
set_option maxHeartbeats 4000000 in
theorem padded_any {l : List UInt8} {k : Nat} (hl : l.length ≤ 4611686018427387904) (hk : k ≤ 140737488355328) {m : List UInt8} (hm : padz k l = m) (w : World) :
    Calls Tryz.prog 107 #[.string (txt l), .int .i64 k] w fun e w' => e = .returned (.string (txt m)) ∧ Below w.heap.size w w' := by
  have hs := txt_size l
  have HM := Lib.hid hm
  have HK := Lib.hid hk
  have hcat : ¬ 9223372036854775807 < (txt (List.replicate (k - l.length) 48)).size + l.length := by rw [txt_size, List.length_replicate]; omega
  clear hm
  go_enter Tryz.func107, Tryz.ntmps107
  go_wp2_with (go_at_call 142; refine (repeat_max _ _ HK.out _).mono ?_; rintro e w2 ⟨rfl, hb⟩; have HW := Lib.hid hb; clear hb)
  go_ret
  refine ⟨?_, HW.out⟩
  rw [← HM.out]
  show Ending.returned (.string (txt _ ++ txt l)) = _
  rw [txt_append]; rfl
theorem withSign_any {l : List UInt8} {s : Int} {m : List UInt8} (hl : l.length ≤ 4611686018427387904) (hm : (if s < 0 then 45 :: l else l) = m) (w : World) :
    Calls Tryz.prog 31 #[.int .i64 s, .string (txt l)] w fun e w' => e = .returned (.string (txt m)) ∧ w = w' := by
  have HM := Lib.hid hm
  clear hm
  by_cases h : s < 0
  · have hcat : ¬ 9223372036854775807 < (⟨#[45]⟩ : ByteArray).size + (txt l).size := by rw [txt_size]; show ¬ _ < 1 + _; omega
    have HX : Hid (45 :: l = m) := by have := HM.out; rw [if_pos h] at this; exact this
    go_enter Tryz.func31, Tryz.ntmps31
    go_wp2
    go_ret
    refine ⟨?_, rfl⟩
    rw [← HX.out]
    show Ending.returned (.string (txt [45] ++ txt l)) = _
    rw [txt_append]; rfl
  · have HX : Hid (l = m) := by have := HM.out; rw [if_neg h] at this; exact this
    go_enter Tryz.func31, Tryz.ntmps31
    go_wp2
    go_ret
    refine ⟨?_, rfl⟩
    rw [← HX.out]; rfl
theorem txt_extract (l : List UInt8) (a b : Nat) : (txt l).extract a b = txt ((l.drop a).take (b - a)) := Lib.extract_eq (txt l) a b
set_option maxHeartbeats 4000000 in
theorem withPoint_any {l : List UInt8} {p : Nat} (hl : l.length ≤ 4611686018427387904) (hp : p ≤ 140737488355300) {m : List UInt8} (hm : ptd l p = m) (w : World) :
    Calls Tryz.prog 81 #[.string (txt l), .int .i64 p] w fun e w' => e = .returned (.string (txt m)) ∧ Below w.heap.size w w' := by
  have HM := Lib.hid hm
  clear hm
  rcases Nat.eq_zero_or_pos p with h | h
  · subst h
    go_enter Tryz.func81, Tryz.ntmps81
    go_wp2
    go_ret
    refine ⟨?_, Below.refl _ _⟩
    rw [← HM.out]; rfl
  · obtain ⟨z, hz⟩ : ∃ z, padz (p + 1) l = z := ⟨_, rfl⟩
    have hzl : p + 1 ≤ z.length := by rw [← hz]; unfold padz; rw [List.length_append, List.length_replicate]; omega
    have hzm : z.length ≤ 4611686018427387904 := by rw [← hz]; unfold padz; rw [List.length_append, List.length_replicate]; omega
    have HX : Hid (z.take (z.length - p) ++ 46 :: z.drop (z.length - p) = m) := by have := HM.out; unfold ptd at this; rw [if_neg (by omega), hz] at this; exact this
    have HZ := Lib.hid hz
    have HL := Lib.hid hl
    have HP : Hid (p + 1 ≤ 140737488355328) := by show _ ≤ _; omega
    have hs := txt_size z
    clear hz HM hl
    go_enter Tryz.func81, Tryz.ntmps81
    go_wp2_with (go_at_call 107; refine (padded_any (k := p + 1) HL.out HP.out HZ.out _).mono ?_; rintro e w2 ⟨rfl, hb⟩; have HW := Lib.hid hb; clear hb)
    go_region
    go_wp2
    go_ret
    refine ⟨?_, HW.out.drew⟩
    rw [← HX.out]
    show Ending.returned (.string ((txt z).extract 0 (z.length - p) ++ txt [46] ++ (txt z).extract (z.length - p) z.length)) = _
    rw [txt_extract, txt_extract, txt_append, txt_append, List.append_assoc]
    have e : (z.drop (z.length - p)).take (z.length - (z.length - p)) = z.drop (z.length - p) := List.take_of_length_le (by rw [List.length_drop]; omega)
    rw [e]
    rfl
end Go.Proofs.YtebpoabflcngoaaGreatDoor

/-
  Contracts: numbers out of digits, powers of ten.
-/
namespace Go.Proofs.YtebpoabflcngoaaGreatDoor
open Go.RowKit
set_option linter.unusedVariables false

theorem start_nZZ (w : World) (s0 : Bool) (A0 : Option Addr) (n0 c0 : Nat) :
    Hid (Below w.heap.size w ((w.alloc (.cells #[.bool s0, .slice A0 n0 c0] 24)).alloc (.cells #[.bool false, .slice none 0 0] 24))) ∧ Hid (Zb ((w.alloc (.cells #[.bool s0, .slice A0 n0 c0] 24)).alloc (.cells #[.bool false, .slice none 0 0] 24)) (w.heap.size) s0 A0 n0 c0) ∧ Hid (Zb ((w.alloc (.cells #[.bool s0, .slice A0 n0 c0] 24)).alloc (.cells #[.bool false, .slice none 0 0] 24)) (w.heap.size + 1) false none 0 0) := by
  refine ⟨?_, ?_, ?_⟩
  · exact (((Below.refl _ _).alloc (by first | exact Nat.le_refl _ | (simp; done) | (simp; omega)) _).alloc (by first | exact Nat.le_refl _ | (simp; done) | (simp; omega)) _)
  · have := Zb.new w s0 A0 n0 c0
    exact (this.alloc _)
  · have := Zb.new (w.alloc (.cells #[.bool s0, .slice A0 n0 c0] 24)) false none 0 0
    simp only [World.size_alloc] at this
    exact this
theorem start_nZ0 (w : World) :
    Hid (Below w.heap.size w (w.alloc (.cells #[.bool false, .slice none 0 0] 24))) ∧ Hid (Zb (w.alloc (.cells #[.bool false, .slice none 0 0] 24)) (w.heap.size) false none 0 0) := by
  refine ⟨?_, ?_⟩
  · exact ((Below.refl _ _).alloc (by first | exact Nat.le_refl _ | (simp; done) | (simp; omega)) _)
  · have := Zb.new w false none 0 0
    exact this
theorem len_two {z : Int} (h : z.natAbs < 18446744073709551616) : (ofv z.natAbs).length ≤ 2 := len_ofv_le_of_lt (by simp only [pw_succ, pw_zero]; omega)
set_option maxRecDepth 100000 in
set_option maxHeartbeats 16000000 in
theorem ag_any {s : Bool} {A : Option Addr} {n c : Nat} {x sc gr z : Int} {w : World} (h : Zin w s A n c x) (hn : n ≤ 70368744177000) (hs : 0 ≤ sc ∧ sc ≤ 1000000000000000000) (hg : 0 ≤ gr ∧ gr ≤ 1000000000000000000) (hz : sc * x + gr = z) :
    Calls Tryz.prog 132 #[.agg #[.bool s, .slice A n c], .int .i64 sc, .int .i64 gr] w (GivesZ w z) := by
  obtain ⟨B1, V0, V1⟩ := start_nZZ w s A n c
  have HX := Lib.hid (h.below B1.out)
  obtain ⟨z1, e10⟩ : ∃ v : Int, sc = v := ⟨_, rfl⟩
  have E1 := Lib.hid e10
  obtain ⟨z2, e20⟩ : ∃ v : Int, z1 * x = v := ⟨_, rfl⟩
  have E2 := Lib.hid e20
  obtain ⟨z3, e30⟩ : ∃ v : Int, gr = v := ⟨_, rfl⟩
  have E3 := Lib.hid e30
  have E4 : Hid (z2 + z3 = z) := by show _ = _; rw [← e20, ← e10, ← e30]; exact hz
  have K1 : Hid (-9223372036854775808 ≤ sc ∧ sc ≤ 9223372036854775807) := by show _ ∧ _; omega
  have K3 : Hid (-9223372036854775808 ≤ gr ∧ gr ≤ 9223372036854775807) := by show _ ∧ _; omega
  have l1 : (ofv z1.natAbs).length ≤ 2 := len_two (by omega)
  have l3 : (ofv z3.natAbs).length ≤ 2 := len_two (by omega)
  have lx := Nat.le_trans h.len hn
  have l2 := zlen_mul (x := z1) (y := x) l1 lx
  rw [e20] at l2
  have K2 : Hid ((ofv z1.natAbs).length + n ≤ 70368744177664) := by show _ ≤ _; omega
  have K4 : Hid ((ofv z2.natAbs).length ≤ 70368744177663) := by show _ ≤ _; omega
  have K5 : Hid ((ofv z3.natAbs).length ≤ 70368744177663) := by show _ ≤ _; omega
  clear h hn hs hg hz e10 e20 e30 l1 l2 l3 lx
  go_enter Tryz.func132, Tryz.ntmps132
  go_wp2_with fail
  generalize ((w.alloc (.cells #[.bool s, .slice A n c] 24)).alloc (.cells #[.bool false, .slice none 0 0] 24)) = w2 at *
  have LO : Hid (w.heap.size ≤ w2.heap.size) := B1.out.size
  have HB : Hid (Below w2.heap.size w2 w2.drew) := below_drewN _ w2 1
  have hHeld := HB.out
  refine wp_region_held_split (S := fun w' => Below w2.heap.size w2 w') 7 (by kernel_rfl) (by kernel_rfl) ?_
  simp only [List.take_succ_cons, List.take_zero, List.drop_succ_cons, List.drop_zero]
  refine wpAnyH_takeL (i := 0) (oi := _) (v := ?_) rfl (by kernel_rfl) (by kernel_rfl) (by kernel_rfl) (fun _ _ _ h => h) (Or.inl ⟨by rfl, ?_⟩) hHeld ?_
  rotate_left
  · (intro w' hSw; (try dsimp only at hSw); go_simp; try (with_reducible rfl))
  try simp only [Act.put, List.setIfInBounds_toArray, List.set_cons_zero, List.set_cons_succ]
  refine wpAnyH_takeL (i := 2) (oi := _) rfl (by kernel_rfl) (by kernel_rfl) (by kernel_rfl) (fun _ _ _ h => h) (yields_ldZ (by rfl) _ rfl (by rfl) (fun _ hb => V0.out.below hb V0.out.lt)) hHeld ?_
  try simp only [Act.put, List.setIfInBounds_toArray, List.set_cons_zero, List.set_cons_succ]
  refine wpAnyH_takeL (i := 4) (oi := _) (v := ?_) rfl (by kernel_rfl) (by kernel_rfl) (by kernel_rfl) (fun _ _ _ h => h) (Or.inl ⟨by rfl, ?_⟩) hHeld ?_
  rotate_left
  · (intro w' hSw; (try dsimp only at hSw); go_simp; try (with_reducible rfl))
  try simp only [Act.put, List.setIfInBounds_toArray, List.set_cons_zero, List.set_cons_succ]
  refine wpAnyH_rgb [(1, some 8), (3, some 10), (5, some 12), (6, some 13)] (isZ z w2.heap.size) [(1, isZ z1 w2.heap.size), (3, isZ z2 w2.heap.size), (5, isZ z3 w2.heap.size)] w2 (by kernel_rfl) (by kernel_rfl) (by decide) HB.out (fun _ h => h) (isZ_good _ _) ⟨isZ_good _ _, isZ_good _ _, isZ_good _ _, trivial⟩ ?_ ?_
  · clear hHeld HB
    refine RgOps.consL (o := _) (ds := []) rfl rfl (by kernel_rfl) (fun vals wr hbr hC hdep K hK => ?_) ?_
    · have BB := Lib.hid hbr
      clear hdep
      clear hbr hC
      simp only [Upd2, Act.put, List.setIfInBounds_toArray, List.set_cons_zero, List.set_cons_succ] at hK ⊢
      go_simp
      go_at_call 39
      refine Calls.mono (fromInt_z K1.out E1.out _) ?_
      rintro e wq ⟨R, cR, rfl, ho, hb⟩
      exact hK.out _ _ (LeavesB.giveZ BB.out.size ho hb)
    refine RgOps.consL (o := _) (ds := [1]) rfl rfl (by kernel_rfl) (fun vals wr hbr hC hdep K hK => ?_) ?_
    · have BB := Lib.hid hbr
      obtain ⟨⟨P1, c1, e1, o1⟩, -⟩ := hdep
      clear hbr hC
      simp only [e1, Upd2, Act.put, List.setIfInBounds_toArray, List.set_cons_zero, List.set_cons_succ] at hK ⊢
      clear e1
      go_simp
      go_at_call 66
      refine Calls.mono (mul_z (x := z1) (y := x) (z := z2) (Zo.of_own o1).in_ (HX.out.below BB.out) K2.out E2.out) ?_
      rintro e wq ⟨R, cR, rfl, ho, hb⟩
      exact hK.out _ _ (LeavesB.giveZ BB.out.size ho hb)
    refine RgOps.consL (o := _) (ds := [3]) rfl rfl (by kernel_rfl) (fun vals wr hbr hC hdep K hK => ?_) ?_
    · have BB := Lib.hid hbr
      obtain ⟨⟨P3, c3, e3, o3⟩, -⟩ := hdep
      clear hbr hC
      simp only [e3, Upd2, Act.put, List.setIfInBounds_toArray, List.set_cons_zero, List.set_cons_succ] at hK ⊢
      clear e3
      go_simp
      go_at_call 39
      refine Calls.mono (fromInt_z K3.out E3.out _) ?_
      rintro e wq ⟨R, cR, rfl, ho, hb⟩
      exact hK.out _ _ (LeavesB.giveZ BB.out.size ho hb)
    refine RgOps.consL (o := _) (ds := [3, 5]) rfl rfl (by kernel_rfl) (fun vals wr hbr hC hdep K hK => ?_) RgOps.nil
    · have BB := Lib.hid hbr
      obtain ⟨⟨P3, c3, e3, o3⟩, ⟨P5, c5, e5, o5⟩, -⟩ := hdep
      clear hbr hC
      simp only [e3, e5, Upd2, Act.put, List.setIfInBounds_toArray, List.set_cons_zero, List.set_cons_succ] at hK ⊢
      clear e3 e5
      go_simp
      go_at_call 127
      refine Calls.mono (add_z (x := z2) (y := z3) (z := z) (Zo.of_own o3).in_ (Zo.of_own o5).in_ K4.out K5.out E4.out) ?_
      rintro e wq ⟨R, cR, rfl, ho, hb⟩
      exact hK.out _ _ (LeavesB.giveZ BB.out.size ho hb)
  clear hHeld HB
  intro vals wr hb hdep hD
  obtain ⟨⟨P1, c1, e1, o1⟩, ⟨P3, c3, e3, o3⟩, ⟨P5, c5, e5, o5⟩, ⟨P6, c6, e6, o6⟩, -⟩ := hdep
  simp only [Upd2, e1, e3, e5, e6, Act.put, List.setIfInBounds_toArray, List.set_cons_zero, List.set_cons_succ]
  clear e1 e3 e5 e6
  clear hD vals
  replace V0 := Lib.hid (V0.out.below hb V0.out.lt)
  replace V1 := Lib.hid (V1.out.below hb V1.out.lt)
  replace HX := Lib.hid (HX.out.below hb)
  replace B1 := Lib.hid (B1.out.trans (hb.mono B1.out.size))
  clear hb
  show wpList _ _ _ _ _ _
  have OQ := Lib.hid o6
  clear o1 o3 o5 o6
  refine wpList_stZ (by rfl) _ _ rfl (by rfl) (by rfl) V1.out ?_
  intro w5 hz hg
  replace V0 := Lib.hid (V0.out.gr hg (by omega))
  replace HX := Lib.hid (HX.out.gr V1.out hg)
  replace OQ := Lib.hid (OQ.out.gr V1.out hg)
  replace B1 := Lib.hid (Below.gr B1.out (by omega) hg B1.out.size)
  replace V1 := Lib.hid hz
  clear hz hg
  go_wp2
  exact ret_zb Tryz.results132 rfl rfl V1.out ⟨_, _, rfl, OQ.out.mono LO.out, B1.out⟩
theorem start_n00 (w : World) :
    Hid (Below w.heap.size w ((w.alloc (.cells #[.bool false, .slice none 0 0] 24)).alloc (.cells #[.bool false, .slice none 0 0] 24))) ∧ Hid (Zb ((w.alloc (.cells #[.bool false, .slice none 0 0] 24)).alloc (.cells #[.bool false, .slice none 0 0] 24)) (w.heap.size) false none 0 0) ∧ Hid (Zb ((w.alloc (.cells #[.bool false, .slice none 0 0] 24)).alloc (.cells #[.bool false, .slice none 0 0] 24)) (w.heap.size + 1) false none 0 0) := by
  refine ⟨?_, ?_, ?_⟩
  · exact (((Below.refl _ _).alloc (by first | exact Nat.le_refl _ | (simp; done) | (simp; omega)) _).alloc (by first | exact Nat.le_refl _ | (simp; done) | (simp; omega)) _)
  · have := Zb.new w false none 0 0
    exact (this.alloc _)
  · have := Zb.new (w.alloc (.cells #[.bool false, .slice none 0 0] 24)) false none 0 0
    simp only [World.size_alloc] at this
    exact this
/-- A string's iterator in a block. -/
def It (w : World) (g : Nat) (s : ByteArray) (pos : Nat) : Prop := w.heap[g]? = some (.stringIter s pos)
theorem It.lt {w : World} {g pos : Nat} {s : ByteArray} (h : It w g s pos) : g < w.heap.size := lt_of_heap h
theorem It.below {w w' : World} {g pos B : Nat} {s : ByteArray} (h : It w g s pos) (hb : Below B w w') (hg : g < B) : It w' g s pos := (hb.block g hg).trans h
theorem It.gr {w w' : World} {g g' pos : Nat} {s : ByteArray} (h : It w g' s pos) (hg : w.grownBy w' (some g)) (ne : g' ≠ g) : It w' g' s pos := (hg.block g' h.lt (by simpa using ne)).trans h
theorem Zb.iterAt {w : World} {g n c k : Nat} {b : Bool} {A : Option Addr} (h : Zb w g b A n c) (s : ByteArray) (pos : Nat) (hk : g ≠ k) : Zb (w.iterAt k s pos) g b A n c := (Lib.iterAt_other w k g s pos hk).trans h
theorem Own.iterAt {w : World} {lo k c p0 : Nat} {A : Option Addr} {xs : List Nat} {s : ByteArray} (h : Own w lo A c xs) (hk : It w k s p0) (pos : Nat) : Own (w.iterAt k s pos) lo A c xs := by
  obtain ⟨h0, h1, h2, h3⟩ := h
  refine ⟨h0, h1, h2, ?_⟩
  rcases h3 with h3 | ⟨b, o, cur, hA, hl, hr, hc⟩
  · exact .inl h3
  · refine .inr ⟨b, o, cur, hA, hl, (Lib.iterAt_other w k b s pos (fun e => ?_)).trans hr, hc⟩
    subst e
    have hk' : w.heap[b]? = _ := hk
    rw [hr] at hk'
    cases hk'
theorem dval_cons (c : UInt8) (l : List UInt8) : dval (c :: l) = (c.toNat - 48) * 10 ^ l.length + dval l := by
  rw [show c :: l = [c] ++ l from rfl, dval_append]; simp [dval]
theorem dval_lt {l : List UInt8} (h : alld l = true) : dval l < 10 ^ l.length := by
  induction l with
  | nil => simp [dval]
  | cons c l ih =>
    have h1 := alld_mem h (List.mem_cons_self ..)
    have h2 := ih (List.all_eq_true.2 fun d hd => List.all_eq_true.1 h d (List.mem_cons_of_mem _ hd))
    rw [dval_cons, List.length_cons, Nat.pow_succ]
    have h3 : (c.toNat - 48) * 10 ^ l.length ≤ 9 * 10 ^ l.length := Nat.mul_le_mul_right _ (by omega)
    omega
theorem ten_pw (k : Nat) : 10 ^ k ≤ pw k := by
  induction k with
  | zero => rw [pw_zero]; exact Nat.le_refl _
  | succ k ih => rw [pw_succ, Nat.pow_succ]; omega
/-- What has been read: groups before, a group so far. -/
def Sofar (l : List UInt8) (pos : Nat) (x sc gr : Int) : Prop := ∃ j : Nat, j < 18 ∧ sc = ((10 ^ j : Nat) : Int) ∧ 0 ≤ gr ∧ gr < sc ∧ 0 ≤ x ∧ sc * x + gr = ((dval (l.take pos) : Nat) : Int)
theorem ten_lt {j : Nat} (h : j < 18) : 10 ^ j ≤ 100000000000000000 := Nat.le_trans (Nat.pow_le_pow_right (by decide) (show j ≤ 17 by omega)) (by decide)
theorem Sofar.bounds {l : List UInt8} {pos : Nat} {x sc gr : Int} (h : Sofar l pos x sc gr) : 1 ≤ sc ∧ sc ≤ 100000000000000000 ∧ 0 ≤ gr ∧ gr < sc := by
  obtain ⟨j, hj, rfl, h1, h2, h3, h4⟩ := h
  have a := ten_lt hj
  have b : 1 ≤ 10 ^ j := Nat.one_le_pow _ _ (by decide)
  omega
theorem Sofar.start (l : List UInt8) : Sofar l 0 0 1 0 := ⟨0, by decide, rfl, by decide, by decide, by decide, rfl⟩
theorem take_next {l : List UInt8} {pos : Nat} (h : pos < l.length) {c : UInt8} (hc : l[pos] = c) : dval (l.take (pos + 1)) = 10 * dval (l.take pos) + (c.toNat - 48) := by
  rw [List.take_succ_eq_append_getElem h, dval_snoc, hc]
theorem Sofar.step {l : List UInt8} {pos : Nat} {x sc gr : Int} (h : Sofar l pos x sc gr) (hp : pos < l.length) {c : UInt8} (hc : l[pos] = c) (h1 : 48 ≤ c.toNat) (h2 : c.toNat ≤ 57) (hn : 10 * sc ≠ 1000000000000000000) : Sofar l (pos + 1) x (10 * sc) (10 * gr + ((c.toNat : Int) - 48)) := by
  obtain ⟨j, hj, rfl, g1, g2, g3, g4⟩ := h
  have hj' : j ≠ 17 := by
    intro e; subst e; exact hn rfl
  refine ⟨j + 1, by omega, by rw [Nat.pow_succ]; omega, by omega, by omega, g3, ?_⟩
  rw [take_next hp hc, Int.mul_assoc]
  omega
theorem Sofar.full {l : List UInt8} {pos : Nat} {x sc gr : Int} (h : Sofar l pos x sc gr) (hp : pos < l.length) {c : UInt8} (hc : l[pos] = c) (h1 : 48 ≤ c.toNat) (h2 : c.toNat ≤ 57) {z : Int} (hz : 10 * sc * x + (10 * gr + ((c.toNat : Int) - 48)) = z) : Sofar l (pos + 1) z 1 0 := by
  obtain ⟨j, hj, rfl, g1, g2, g3, g4⟩ := h
  have e : z = ((dval (l.take (pos + 1)) : Nat) : Int) := by
    rw [take_next hp hc, ← hz, Int.mul_assoc]
    omega
  refine ⟨0, by decide, rfl, by decide, by decide, by omega, ?_⟩
  rw [← e]
  show 1 * z + 0 = z
  omega
theorem Sofar.len {l : List UInt8} {pos : Nat} {x sc gr : Int} (h : Sofar l pos x sc gr) (ha : alld l = true) (hp : pos ≤ l.length) : (ofv x.natAbs).length ≤ pos := by
  obtain ⟨j, hj, rfl, g1, g2, g3, g4⟩ := h
  have d := dval_lt (alld_take ha pos)
  rw [List.length_take, Nat.min_eq_left hp] at d
  have b : 1 ≤ 10 ^ j := Nat.one_le_pow _ _ (by decide)
  have m : x ≤ ((10 ^ j : Nat) : Int) * x := by
    have := Int.mul_le_mul_of_nonneg_right (show (1 : Int) ≤ ((10 ^ j : Nat) : Int) by omega) g3
    omega
  exact len_ofv_le_of_lt (Nat.lt_of_lt_of_le (by omega) (ten_pw pos))
set_option maxRecDepth 100000 in
set_option maxHeartbeats 16000000 in
theorem readDigits_any {l : List UInt8} (ha : alld l = true) (hl : l.length ≤ 70368744176000) {z : Int} (hz : ((dval l : Nat) : Int) = z) (w : World) :
    Calls Tryz.prog 92 #[.string (txt l)] w (GivesZ w z) := by
  obtain ⟨B1, V0, V1⟩ := start_n00 w
  have HA := Lib.hid ha
  have HL := Lib.hid hl
  have HZ := Lib.hid hz
  clear ha hl hz
  go_enter Tryz.func92, Tryz.ntmps92
  go_wp2
  go_loopw [4, 5] (fun s4 s5 wr => ∃ (pos : Nat) (x sc gr : Int) (P : Option Addr) (c : Nat), s4 = .int .i64 sc ∧ s5 = .int .i64 gr ∧ pos ≤ l.length ∧ Hid (It wr (w.heap.size + 2) (txt l) pos) ∧ Hid (Zb wr w.heap.size false none 0 0) ∧ Hid (Zb wr (w.heap.size + 1) (decide (x < 0)) P (ofv x.natAbs).length c) ∧ Hid (Own wr w.heap.size P c (ofv x.natAbs)) ∧ Hid (Below w.heap.size w wr) ∧ Hid (Sofar l pos x sc gr)) (fun _ _ wr => l.length - wr.iterPos (w.heap.size + 2))
  case atStart =>
    refine ⟨0, 0, 1, 0, none, 0, rfl, rfl, Nat.zero_le _, ?_, Lib.hid (V0.out.alloc _), ?_, Lib.hid (by have := Own.nil (((w.alloc (.cells #[.bool false, .slice none 0 0] 24)).alloc (.cells #[.bool false, .slice none 0 0] 24)).iter (txt l) 0) w.heap.size none; simpa [ofv_zero] using this), Lib.hid (B1.out.alloc B1.out.size _), Lib.hid (Sofar.start l)⟩
    · have := World.iter_heap ((w.alloc (.cells #[.bool false, .slice none 0 0] 24)).alloc (.cells #[.bool false, .slice none 0 0] 24)) (txt l) 0
      simp only [World.size_alloc] at this
      exact this
    · have := V1.out.alloc (.stringIter (txt l) 0)
      have e : ofv (Int.natAbs 0) = [] := ofv_zero
      refine Lib.hid ?_
      rw [e]
      exact this
  case round =>
    obtain ⟨pos, x, sc, gr, P, c, rfl, rfl, hle, IT, Z0, Z1, OX, BW, SF⟩ := hrel
    clear B1 V0 V1
    obtain ⟨b1, b2, b3, b4⟩ := SF.out.bounds
    by_cases hp : pos < l.length
    · obtain ⟨d, hd⟩ : ∃ d, l[pos]'hp = d := ⟨_, rfl⟩
      obtain ⟨d1, d2⟩ := alld_mem HA.out (List.getElem_mem hp)
      rw [hd] at d1 d2
      have hnx : ∀ ty, (Instr.next (.pointer (some ⟨w.heap.size + 2, 0, none⟩)) true ty).run Tryz.prog wr = .ok (.tuple #[.bool true, .int .i64 pos, .int .i32 d.toNat]) (wr.iterAt (w.heap.size + 2) (txt l) (pos + 1)) := fun ty => by
        subst hd
        exact Lib.run_next_ascii_at wr (w.heap.size + 2) (txt l) pos ty IT.out hp (by show (l[pos]).toNat < 128; omega)
      have IT2 : Hid (It (wr.iterAt (w.heap.size + 2) (txt l) (pos + 1)) (w.heap.size + 2) (txt l) (pos + 1)) := Lib.iterAt_heap wr (w.heap.size + 2) (txt l) pos (pos + 1) IT.out
      have MS : Hid (wr.iterPos (w.heap.size + 2) = pos) := by
        have h : wr.heap[w.heap.size + 2]? = _ := IT.out
        show _ = _
        simp only [World.iterPos, h]
      replace Z0 := Lib.hid (Z0.out.iterAt (txt l) (pos + 1) (show w.heap.size ≠ w.heap.size + 2 by omega))
      replace Z1 := Lib.hid (Z1.out.iterAt (txt l) (pos + 1) (show w.heap.size + 1 ≠ w.heap.size + 2 by omega))
      replace OX := Lib.hid (OX.out.iterAt IT.out (pos + 1))
      replace BW := Lib.hid (Lib.below_iterAt BW.out (k := w.heap.size + 2) (by omega) (txt l) (pos + 1))
      have HD := Lib.hid hd
      have HP := Lib.hid hp
      have D1 := Lib.hid d1
      have D2 := Lib.hid d2
      have e1 : (48 : Int) ≤ (d.toNat : Int) := by omega
      have e2 : (d.toNat : Int) ≤ 57 := by omega
      clear IT hd
      by_cases hS : 10 * sc = 1000000000000000000
      · obtain ⟨z1, hz1⟩ : ∃ z1, 10 * sc * x + (10 * gr + ((d.toNat : Int) - 48)) = z1 := ⟨_, rfl⟩
        have SF2 := Lib.hid (SF.out.full HP.out HD.out D1.out D2.out hz1)
        have HZ1 : Hid (1000000000000000000 * x + (10 * gr + ((d.toNat : Int) - 48)) = z1) := by show _ = _; rw [← hS]; exact hz1
        have HN : Hid ((ofv x.natAbs).length ≤ 70368744177000) := Nat.le_trans (SF.out.len HA.out hle) (Nat.le_trans hle (Nat.le_trans HL.out (by decide)))
        have K1 : Hid ((0 : Int) ≤ 1000000000000000000 ∧ (1000000000000000000 : Int) ≤ 1000000000000000000) := by show _ ∧ _; omega
        have K2 : Hid (0 ≤ 10 * gr + ((d.toNat : Int) - 48) ∧ 10 * gr + ((d.toNat : Int) - 48) ≤ 1000000000000000000) := by show _ ∧ _; omega
        obtain rfl : sc = 100000000000000000 := by omega
        clear hz1 SF hS
        generalize wr.iterAt (w.heap.size + 2) (txt l) (pos + 1) = w2 at *
        have LT : Hid (w.heap.size + 2 < w2.heap.size) := IT2.out.lt
        have LO : Hid (w.heap.size ≤ w2.heap.size) := BW.out.size
        clear d1 d2
        have pc0 := Lib.hid trivial
        go_wp2_with (first
          | (clear pc0; refine wpList_ldZ (by rfl) _ rfl (by rfl) Z1.out ?_; have pc1 := Lib.hid trivial)
          | (clear pc1; go_at_call 132; refine Calls.mono (ag_any (z := z1) (Zo.of_own OX.out).in_ HN.out K1.out K2.out HZ1.out) ?_; rintro e w3 ⟨P1, c1, rfl, ho, hb⟩; replace Z0 := Lib.hid (Z0.out.below hb Z0.out.lt); replace Z1 := Lib.hid (Z1.out.below hb Z1.out.lt); replace IT2 := Lib.hid (IT2.out.below hb IT2.out.lt); replace BW := Lib.hid (BW.out.trans (hb.mono BW.out.size)); clear OX; have OX := Lib.hid (ho.mono LO.out); clear ho; clear hb; have pc2 := Lib.hid trivial)
          | (clear pc2; refine wpList_stZ (by rfl) _ _ rfl (by rfl) (by rfl) Z1.out ?_; intro w4 hz hg; replace Z0 := Lib.hid (Z0.out.gr hg (by omega)); replace IT2 := Lib.hid (IT2.out.gr hg (by omega)); replace OX := Lib.hid (OX.out.gr Z1.out hg); replace BW := Lib.hid (Below.gr BW.out (by omega) hg BW.out.size); replace Z1 := Lib.hid hz; clear hz hg; have pc3 := Lib.hid trivial))
        clear pc3
        go_roundw
        case rel => exact ⟨pos + 1, z1, 1, 0, _, _, rfl, rfl, by omega, IT2, Z0, Z1, OX, BW, SF2⟩
        case measure =>
          have h : w4.heap[w.heap.size + 2]? = _ := IT2.out
          have h2 := MS.out
          simp only [World.iterPos, h] at h2 ⊢
          omega
      · have SF2 := Lib.hid (SF.out.step HP.out HD.out D1.out D2.out hS)
        clear SF
        go_wp2
        go_roundw
        case rel => exact ⟨pos + 1, x, _, _, _, _, rfl, rfl, by omega, IT2, Z0, Z1, OX, BW, SF2⟩
        case measure =>
          have h : (wr.iterAt (w.heap.size + 2) (txt l) (pos + 1)).heap[w.heap.size + 2]? = _ := IT2.out
          have h2 := MS.out
          simp only [World.iterPos, h] at h2 ⊢
          omega
    · have hnx : ∀ ty, (Instr.next (.pointer (some ⟨w.heap.size + 2, 0, none⟩)) true ty).run Tryz.prog wr = .ok (.tuple #[.bool false]) wr := fun ty => Lib.run_next_end_at wr (w.heap.size + 2) (txt l) pos ty IT.out hp
      have HE : Hid (sc * x + gr = z) := by
        obtain ⟨j, hj, ej, g1, g2, g3, g4⟩ := SF.out
        show _ = _
        rw [g4, List.take_of_length_le (by omega)]
        exact HZ.out
      have HN : Hid ((ofv x.natAbs).length ≤ 70368744177000) := Nat.le_trans (SF.out.len HA.out hle) (Nat.le_trans hle (Nat.le_trans HL.out (by decide)))
      have K1 : Hid (0 ≤ sc ∧ sc ≤ 1000000000000000000) := by show _ ∧ _; omega
      have K2 : Hid (0 ≤ gr ∧ gr ≤ 1000000000000000000) := by show _ ∧ _; omega
      have LT : Hid (w.heap.size + 2 < wr.heap.size) := IT.out.lt
      have LO : Hid (w.heap.size ≤ wr.heap.size) := BW.out.size
      clear SF IT HA HL HZ
      have pc0 := Lib.hid trivial
      go_wp2_with (first
        | (clear pc0; refine wpList_ldZ (by rfl) _ rfl (by rfl) Z1.out ?_; have pc1 := Lib.hid trivial)
        | (clear pc1; go_at_call 132; refine Calls.mono (ag_any (z := z) (Zo.of_own OX.out).in_ HN.out K1.out K2.out HE.out) ?_; rintro e w3 ⟨P1, c1, rfl, ho, hb⟩; replace Z0 := Lib.hid (Z0.out.below hb Z0.out.lt); replace Z1 := Lib.hid (Z1.out.below hb Z1.out.lt); replace BW := Lib.hid (BW.out.trans (hb.mono BW.out.size)); clear OX; have OX := Lib.hid (ho.mono LO.out); clear ho; clear hb; have pc2 := Lib.hid trivial)
        | (clear pc2; refine wpList_stZ (by rfl) _ _ rfl (by rfl) (by rfl) Z0.out ?_; intro w4 hz hg; replace Z1 := Lib.hid (Z1.out.gr hg (by omega)); replace OX := Lib.hid (OX.out.gr Z0.out hg); replace BW := Lib.hid (Below.gr BW.out (by omega) hg BW.out.size); replace Z0 := Lib.hid hz; clear hz hg; have pc3 := Lib.hid trivial))
      clear pc3
      exact ret_zb Tryz.results92 rfl rfl Z0.out ⟨_, _, rfl, OX.out, BW.out⟩
theorem cutPrefix_any {l : List UInt8} {b : Bool} (hb : Lib.hasPrefix l [45] = b) (w : World) :
    Calls Tryz.prog 91 #[.string (txt l), .string ⟨#[45]⟩] w fun e w' => e = .returned (.tuple #[.string (txt (unsg l)), .bool b]) ∧ w = w' := by
  refine (Tryz.strings_CutPrefix (txt l) ⟨#[45]⟩ w).mono ?_
  rintro e w' ⟨rfl, rfl⟩
  rw [← hb]
  exact ⟨rfl, rfl⟩
theorem unsg_len (l : List UInt8) : (unsg l).length ≤ l.length := by
  unfold unsg Lib.trimPrefix
  split
  · rw [List.length_drop]; omega
  · exact Nat.le_refl _
set_option maxRecDepth 100000 in
set_option maxHeartbeats 16000000 in
theorem read_any {l : List UInt8} (ha : alld (unsg l) = true) (hl : l.length ≤ 70368744176000) {z : Int} (hz : tval l = z) (w : World) :
    Calls Tryz.prog 51 #[.string (txt l)] w (GivesZ w z) := by
  obtain ⟨B1, V0⟩ := start_nZ0 w
  obtain ⟨b, hb⟩ : ∃ b, Lib.hasPrefix l [45] = b := ⟨_, rfl⟩
  obtain ⟨y, hy⟩ : ∃ y, ((dval (unsg l) : Nat) : Int) = y := ⟨_, rfl⟩
  have HA := Lib.hid ha
  have HB := Lib.hid hb
  have HY := Lib.hid hy
  have HL : Hid ((unsg l).length ≤ 70368744176000) := Nat.le_trans (unsg_len l) hl
  have HZ : Hid (z = if b then -y else y) := by show _ = _; rw [← hz, ← hy, ← hb]; rfl
  have LY : Hid ((ofv y.natAbs).length ≤ 70368744176000) := by
    show _ ≤ _
    have d := dval_lt ha
    rw [← hy, Int.natAbs_natCast]
    exact Nat.le_trans (len_ofv_le_of_lt (Nat.lt_of_lt_of_le d (ten_pw _))) HL.out
  clear ha hl hz hb hy
  go_enter Tryz.func51, Tryz.ntmps51
  go_wp2_with fail
  refine (cutPrefix_any HB.out _).mono ?_
  rintro e w1 ⟨rfl, rfl⟩
  generalize (w.alloc (.cells #[.bool false, .slice none 0 0] 24)) = w2 at *
  go_wp2_with fail
  refine (readDigits_any HA.out HL.out HY.out _).mono ?_
  rintro e w3 ⟨P, c, rfl, ho, hb⟩
  have LO : Hid (w.heap.size ≤ w2.heap.size) := B1.out.size
  have OY := Lib.hid (ho.mono LO.out)
  replace V0 := Lib.hid (V0.out.below hb V0.out.lt)
  replace B1 := Lib.hid (B1.out.trans (hb.mono B1.out.size))
  clear ho hb LO
  have hb : Below w3.heap.size w3 (w3.alloc (.cells #[.bool (decide (y < 0)), .slice P (ofv y.natAbs).length c] 24)) := (Below.refl _ _).alloc (Nat.le_refl _) _
  have OY2 := Lib.hid (OY.out.below hb)
  have V02 := Lib.hid (V0.out.below hb V0.out.lt)
  have B2 := Lib.hid (B1.out.trans (hb.mono B1.out.size))
  clear hb OY V0 B1
  cases b with
  | true =>
    have HN : Hid (-y = z) := by have := HZ.out; show _ = _; rw [this]; rfl
    have LN : Hid ((ofv y.natAbs).length ≤ 70368744177664) := Nat.le_trans LY.out (by decide)
    go_wp2_with fail
    refine (neg_z (Zo.of_own OY2.out).in_ LN.out HN.out).mono ?_
    rintro e w4 ⟨P1, c1, rfl, ho, hb⟩
    have LO : Hid (w.heap.size ≤ (w3.alloc (.cells #[.bool (decide (y < 0)), .slice P (ofv y.natAbs).length c] 24)).heap.size) := B2.out.size
    have OZ := Lib.hid (ho.mono LO.out)
    replace V02 := Lib.hid (V02.out.below hb V02.out.lt)
    replace B2 := Lib.hid (B2.out.trans (hb.mono B2.out.size))
    clear ho hb LO OY2
    go_wp2_with (refine wpList_stZ (by rfl) _ _ rfl (by rfl) (by rfl) V02.out ?_; intro w5 hz hg; replace OZ := Lib.hid (OZ.out.gr V02.out hg); replace B2 := Lib.hid (Below.gr B2.out (Nat.le_refl _) hg B2.out.size); replace V02 := Lib.hid hz; clear hz hg)
    exact ret_zb Tryz.results51 rfl rfl V02.out ⟨_, _, rfl, OZ.out, B2.out⟩
  | false =>
    have HN : y = z := by have := HZ.out; rw [this]; rfl
    subst HN
    go_wp2_with (refine wpList_stZ (by rfl) _ _ rfl (by rfl) (by rfl) V02.out ?_; intro w5 hz hg; replace OY2 := Lib.hid (OY2.out.gr V02.out hg); replace B2 := Lib.hid (Below.gr B2.out (Nat.le_refl _) hg B2.out.size); replace V02 := Lib.hid hz; clear hz hg)
    exact ret_zb Tryz.results51 rfl rfl V02.out ⟨_, _, rfl, OY2.out, B2.out⟩
theorem len_ten (n : Nat) : (ofv (10 ^ n)).length ≤ n + 1 := len_ofv_le_of_lt (by have := ten_pw n; have h := pw_pos n; rw [pw_succ]; omega)
set_option maxRecDepth 100000 in
set_option maxHeartbeats 16000000 in
theorem pt_any (n : Nat) : n ≤ 17592186000000 → ∀ {v z : Int}, v = (n : Int) → ((10 ^ n : Nat) : Int) = z → ∀ w : World, Calls Tryz.prog 80 #[.int .i64 v] w (GivesZ w z) := by
  induction n using Nat.strongRecOn with
  | _ n ih =>
    intro hn v z hv hz w
    obtain ⟨B1, V0⟩ := start_nZ0 w
    subst hv
    rcases Nat.eq_zero_or_pos n with h0 | h0
    · subst h0
      have K1 : Hid (-9223372036854775808 ≤ (1 : Int) ∧ (1 : Int) ≤ 9223372036854775807) := by show _ ∧ _; omega
      have E1 : Hid ((1 : Int) = z) := by show _ = _; rw [← hz]; rfl
      clear hz ih hn
      go_enter Tryz.func80, Tryz.ntmps80
      go_wp2_with fail
      generalize (w.alloc (.cells #[.bool false, .slice none 0 0] 24)) = w2 at *
      have pc0 := Lib.hid trivial
      go_wp2_with (first
        | (clear pc0; have SZ := Lib.hid B1.out.size; go_at_call 39; refine Calls.mono (fromInt_z K1.out E1.out _) ?_; rintro e w3 ⟨P1, c1, rfl, ho, hb⟩; replace V0 := Lib.hid (V0.out.below hb V0.out.lt); replace B1 := Lib.hid (B1.out.trans (hb.mono B1.out.size)); have OQ := Lib.hid (ho.mono SZ.out); clear ho SZ; clear hb; have pc1 := Lib.hid trivial)
        | (clear pc1; refine wpList_stZ (by rfl) _ _ rfl (by rfl) (by rfl) V0.out ?_; intro w4 hz hg; replace OQ := Lib.hid (OQ.out.gr V0.out hg); replace B1 := Lib.hid (Below.gr B1.out (by omega) hg B1.out.size); replace V0 := Lib.hid hz; clear hz hg; have pc2 := Lib.hid trivial))
      clear pc2
      exact ret_zb Tryz.results80 rfl rfl V0.out ⟨_, _, rfl, OQ.out, B1.out⟩
    · obtain ⟨y, hy⟩ : ∃ y, ((10 ^ (n / 2) : Nat) : Int) = y := ⟨_, rfl⟩
      obtain ⟨q, hq⟩ : ∃ q, y * y = q := ⟨_, rfl⟩
      have IH := Lib.hid (ih (n / 2) (by omega) (by omega) (v := (n : Int) / 2) (z := y) (by omega) hy)
      have HQ := Lib.hid hq
      have hyl : (ofv y.natAbs).length ≤ n / 2 + 1 := by rw [← hy, Int.natAbs_natCast]; exact len_ten _
      have hql := zlen_mul (x := y) (y := y) hyl hyl
      rw [hq] at hql
      have LY : Hid ((ofv y.natAbs).length + (ofv y.natAbs).length ≤ 70368744177664) := by show _ ≤ _; omega
      have LQ : Hid ((ofv q.natAbs).length ≤ 70368744170000) := by show _ ≤ _; omega
      have HS : q = ((10 ^ (n / 2 + n / 2) : Nat) : Int) := by rw [← hq, ← hy, Nat.pow_add]; simp
      have hn0 : ((n : Int) == 0) = false := by simp; omega
      have hn1 : 1 ≤ (n : Int) := by omega
      have hn2 : (n : Int) ≤ 17592186000000 := by omega
      rcases Nat.mod_two_eq_zero_or_one n with h2 | h2
      · have h2' : (n : Int) % 2 = 0 := by omega
        have HZ : Hid (q = z) := by show _ = _; rw [← hz, HS, show n / 2 + n / 2 = n by omega]
        clear hz ih hn hy hq hyl hql HS h2 h0
        go_enter Tryz.func80, Tryz.ntmps80
        have SZ : Hid (w.heap.size ≤ (w.alloc (.cells #[.bool false, .slice none 0 0] 24)).heap.size) := B1.out.size
        go_wp2_with fail
        refine (IH.out _).mono ?_
        rintro e w3 ⟨P, c, rfl, ho, hb⟩
        replace V0 := Lib.hid (V0.out.below hb V0.out.lt)
        replace B1 := Lib.hid (B1.out.trans (hb.mono B1.out.size))
        have OY := Lib.hid (ho.mono SZ.out)
        clear ho SZ
        clear hb
        have hb : Below w3.heap.size w3 (w3.alloc (.cells #[.bool (decide (y < 0)), .slice P (ofv y.natAbs).length c] 24)) := (Below.refl _ _).alloc (Nat.le_refl _) _
        replace V0 := Lib.hid (V0.out.below hb V0.out.lt)
        replace OY := Lib.hid (OY.out.below hb)
        replace B1 := Lib.hid (B1.out.trans (hb.mono B1.out.size))
        have V1 := Lib.hid (Zb.new w3 (decide (y < 0)) P (ofv y.natAbs).length c)
        clear hb
        have SZ : Hid (w.heap.size ≤ (w3.alloc (.cells #[.bool (decide (y < 0)), .slice P (ofv y.natAbs).length c] 24)).heap.size) := B1.out.size
        go_wp2_with fail
        refine (mul_z (x := y) (y := y) (z := q) (Zo.of_own OY.out).in_ (Zo.of_own OY.out).in_ LY.out HQ.out).mono ?_
        rintro e w4 ⟨P2, c2, rfl, ho, hb⟩
        replace V0 := Lib.hid (V0.out.below hb V0.out.lt)
        replace OY := Lib.hid (OY.out.below hb)
        replace V1 := Lib.hid (V1.out.below hb V1.out.lt)
        replace B1 := Lib.hid (B1.out.trans (hb.mono B1.out.size))
        have OQ := Lib.hid (ho.mono SZ.out)
        clear ho SZ
        clear hb
        clear OY V1
        have hb : Below w4.heap.size w4 (w4.alloc (.cells #[.bool (decide (q < 0)), .slice P2 (ofv q.natAbs).length c2] 24)) := (Below.refl _ _).alloc (Nat.le_refl _) _
        replace V0 := Lib.hid (V0.out.below hb V0.out.lt)
        replace OQ := Lib.hid (OQ.out.below hb)
        replace B1 := Lib.hid (B1.out.trans (hb.mono B1.out.size))
        have V2 := Lib.hid (Zb.new w4 (decide (q < 0)) P2 (ofv q.natAbs).length c2)
        clear hb
        clear V2
        have EZ : q = z := HZ.out
        subst EZ
        go_wp2_with (refine wpList_stZ (by rfl) _ _ rfl (by rfl) (by rfl) V0.out ?_; intro w5 hz hg; replace OQ := Lib.hid (OQ.out.gr V0.out hg); replace B1 := Lib.hid (Below.gr B1.out (by omega) hg B1.out.size); replace V0 := Lib.hid hz; clear hz hg)
        exact ret_zb Tryz.results80 rfl rfl V0.out ⟨_, _, rfl, OQ.out, B1.out⟩
      · have h2' : (n : Int) % 2 = 1 := by omega
        obtain ⟨t, ht⟩ : ∃ t, (10 : Int) = t := ⟨_, rfl⟩
        have HT := Lib.hid ht
        have K1 : Hid (-9223372036854775808 ≤ (10 : Int) ∧ (10 : Int) ≤ 9223372036854775807) := by show _ ∧ _; omega
        have HZ : Hid (q * t = z) := by
          show _ = _
          rw [← hz, HS, ← ht, show n = n / 2 + n / 2 + 1 by omega, Nat.pow_succ, show (n / 2 + n / 2 + 1) / 2 = n / 2 by omega]
          simp
        have LT2 : Hid ((ofv q.natAbs).length + (ofv t.natAbs).length ≤ 70368744177664) := by
          have h2 : (ofv t.natAbs).length ≤ 2 := len_two (by omega)
          have := LQ.out
          show _ ≤ _; omega
        clear ht
        clear hz ih hn hy hq hyl hql HS h2 h0
        go_enter Tryz.func80, Tryz.ntmps80
        have SZ : Hid (w.heap.size ≤ (w.alloc (.cells #[.bool false, .slice none 0 0] 24)).heap.size) := B1.out.size
        go_wp2_with fail
        refine (IH.out _).mono ?_
        rintro e w3 ⟨P, c, rfl, ho, hb⟩
        replace V0 := Lib.hid (V0.out.below hb V0.out.lt)
        replace B1 := Lib.hid (B1.out.trans (hb.mono B1.out.size))
        have OY := Lib.hid (ho.mono SZ.out)
        clear ho SZ
        clear hb
        have hb : Below w3.heap.size w3 (w3.alloc (.cells #[.bool (decide (y < 0)), .slice P (ofv y.natAbs).length c] 24)) := (Below.refl _ _).alloc (Nat.le_refl _) _
        replace V0 := Lib.hid (V0.out.below hb V0.out.lt)
        replace OY := Lib.hid (OY.out.below hb)
        replace B1 := Lib.hid (B1.out.trans (hb.mono B1.out.size))
        have V1 := Lib.hid (Zb.new w3 (decide (y < 0)) P (ofv y.natAbs).length c)
        clear hb
        have SZ : Hid (w.heap.size ≤ (w3.alloc (.cells #[.bool (decide (y < 0)), .slice P (ofv y.natAbs).length c] 24)).heap.size) := B1.out.size
        go_wp2_with fail
        refine (mul_z (x := y) (y := y) (z := q) (Zo.of_own OY.out).in_ (Zo.of_own OY.out).in_ LY.out HQ.out).mono ?_
        rintro e w4 ⟨P2, c2, rfl, ho, hb⟩
        replace V0 := Lib.hid (V0.out.below hb V0.out.lt)
        replace OY := Lib.hid (OY.out.below hb)
        replace V1 := Lib.hid (V1.out.below hb V1.out.lt)
        replace B1 := Lib.hid (B1.out.trans (hb.mono B1.out.size))
        have OQ := Lib.hid (ho.mono SZ.out)
        clear ho SZ
        clear hb
        clear OY V1
        have LV4 : Hid (w.heap.size < w4.heap.size) := V0.out.lt
        have hb : Below w4.heap.size w4 (w4.alloc (.cells #[.bool (decide (q < 0)), .slice P2 (ofv q.natAbs).length c2] 24)) := (Below.refl _ _).alloc (Nat.le_refl _) _
        replace V0 := Lib.hid (V0.out.below hb V0.out.lt)
        replace OQ := Lib.hid (OQ.out.below hb)
        replace B1 := Lib.hid (B1.out.trans (hb.mono B1.out.size))
        have V2 := Lib.hid (Zb.new w4 (decide (q < 0)) P2 (ofv q.natAbs).length c2)
        clear hb
        go_wp2_with fail
        clear h2' hn0 hn1 hn2
        generalize (w4.alloc (.cells #[.bool (decide (q < 0)), .slice P2 (ofv q.natAbs).length c2] 24)) = w2 at *
        have NE : Hid (w.heap.size ≠ w4.heap.size) := by have h := LV4.out; show _ ≠ _; omega
        have LO : Hid (w.heap.size ≤ w2.heap.size) := B1.out.size
        have HB : Hid (Below w2.heap.size w2 w2.drew) := below_drewN _ w2 1
        have hHeld := HB.out
        refine wp_region_held_split (S := fun w' => Below w2.heap.size w2 w') 3 (by kernel_rfl) (by kernel_rfl) ?_
        simp only [List.take_succ_cons, List.take_zero, List.drop_succ_cons, List.drop_zero]
        refine wpAnyH_takeL (i := 0) (oi := _) rfl (by kernel_rfl) (by kernel_rfl) (by kernel_rfl) (fun _ _ _ h => h) (yields_ldZ (by rfl) _ rfl (by rfl) (fun _ hb => V2.out.below hb V2.out.lt)) hHeld ?_
        try simp only [Act.put, List.setIfInBounds_toArray, List.set_cons_zero, List.set_cons_succ]
        refine wpAnyH_rgb [(1, some 18), (2, some 19)] (isZ z w2.heap.size) [(1, isZ t w2.heap.size)] w2 (by kernel_rfl) (by kernel_rfl) (by decide) HB.out (fun _ h => h) (isZ_good _ _) ⟨isZ_good _ _, trivial⟩ ?_ ?_
        · clear hHeld HB
          refine RgOps.consL (o := _) (ds := []) rfl rfl (by kernel_rfl) (fun vals wr hbr hC hdep K hK => ?_) ?_
          · have BB := Lib.hid hbr
            clear hdep
            clear hbr hC
            simp only [Upd2, Act.put, List.setIfInBounds_toArray, List.set_cons_zero, List.set_cons_succ] at hK ⊢
            go_simp
            go_at_call 39
            refine Calls.mono (fromInt_z K1.out HT.out _) ?_
            rintro e wq ⟨R, cR, rfl, ho, hb⟩
            exact hK.out _ _ (LeavesB.giveZ BB.out.size ho hb)
          refine RgOps.consL (o := _) (ds := [1]) rfl rfl (by kernel_rfl) (fun vals wr hbr hC hdep K hK => ?_) RgOps.nil
          · have BB := Lib.hid hbr
            obtain ⟨⟨P1, c1, e1, o1⟩, -⟩ := hdep
            clear hbr hC
            simp only [e1, Upd2, Act.put, List.setIfInBounds_toArray, List.set_cons_zero, List.set_cons_succ] at hK ⊢
            clear e1
            go_simp
            go_at_call 66
            refine Calls.mono (mul_z (x := q) (y := t) (z := z) (Zo.of_own (OQ.out.below BB.out)).in_ (Zo.of_own o1).in_ LT2.out HZ.out) ?_
            rintro e wq ⟨R, cR, rfl, ho, hb⟩
            exact hK.out _ _ (LeavesB.giveZ BB.out.size ho hb)
        clear hHeld HB
        intro vals wr hb hdep hD
        obtain ⟨⟨P1, c1, e1, o1⟩, ⟨P2, c2, e2, o2⟩, -⟩ := hdep
        simp only [Upd2, e1, e2, Act.put, List.setIfInBounds_toArray, List.set_cons_zero, List.set_cons_succ]
        clear e1 e2
        clear hD vals
        replace V0 := Lib.hid (V0.out.below hb V0.out.lt)
        replace OQ := Lib.hid (OQ.out.below hb)
        replace V2 := Lib.hid (V2.out.below hb V2.out.lt)
        replace B1 := Lib.hid (B1.out.trans (hb.mono B1.out.size))
        clear hb
        show wpList _ _ _ _ _ _
        have OZ := Lib.hid (o2.mono LO.out)
        clear o1 o2 OQ
        refine wpList_stZ (by rfl) _ _ rfl (by rfl) (by rfl) V2.out ?_
        intro w5 hz hg
        replace V0 := Lib.hid (V0.out.gr hg (by have := NE.out; omega))
        replace OZ := Lib.hid (OZ.out.gr V2.out hg)
        replace B1 := Lib.hid (Below.gr B1.out (by have := LV4.out; omega) hg B1.out.size)
        replace V2 := Lib.hid hz
        clear hz hg
        go_wp2_with (first | (refine wpList_ldZ (by rfl) _ rfl (by rfl) V2.out ?_) | (refine wpList_stZ (by rfl) _ _ rfl (by rfl) (by rfl) V0.out ?_; intro w6 hz hg; replace V2 := Lib.hid (V2.out.gr hg (by have := NE.out; omega)); replace OZ := Lib.hid (OZ.out.gr V0.out hg); replace B1 := Lib.hid (Below.gr B1.out (by omega) hg B1.out.size); replace V0 := Lib.hid hz; clear hz hg))
        exact ret_zb Tryz.results80 rfl rfl V0.out ⟨_, _, rfl, OZ.out, B1.out⟩
end Go.Proofs.YtebpoabflcngoaaGreatDoor

/-
  A text that is being built: what its calls leave as it was; integers in rows of integers; numerals of machine integers.
-/
namespace Go.Proofs.YtebpoabflcngoaaGreatDoor
open Go.RowKit
set_option linter.unusedVariables false

/-- All blocks but those of texts being built stand. -/
def Kp (w w' : World) : Prop := (∀ (k : Nat) (cs : Array Value) (t : TypeId) (fz : Nat × Nat), w.heap[k]? = some (.cells cs t fz) → t ≠ 5 → t ≠ 90 → w'.heap[k]? = some (.cells cs t fz)) ∧ w.heap.size ≤ w'.heap.size
theorem Kp.refl (w : World) : Kp w w := ⟨fun _ _ _ _ h _ _ => h, Nat.le_refl _⟩
theorem Kp.trans {a b c : World} (h : Kp a b) (k : Kp b c) : Kp a c := ⟨fun i cs t fz h1 h2 h3 => k.1 i cs t fz (h.1 i cs t fz h1 h2 h3) h2 h3, Nat.le_trans h.2 k.2⟩
theorem Kp.of_below {w w' : World} (h : Below w.heap.size w w') : Kp w w' := ⟨fun i cs t fz h1 _ _ => (h.block i (lt_of_heap h1)).trans h1, h.size⟩
/-- A text that is being built in block b. -/
def Bld (w : World) (B b : Nat) (l : List UInt8) : Prop := Lib.IsBuilderF 90 5 B b (Lib.byteCells l) w ∧ B ≤ w.heap.size
def Fr (B : Nat) (w w' : World) : Prop := Below B w w' ∧ Kp w w'
theorem Fr.refl (B : Nat) (w : World) : Fr B w w := ⟨Below.refl _ _, Kp.refl _⟩
theorem Fr.trans {B : Nat} {a b c : World} (h : Fr B a b) (k : Fr B b c) : Fr B a c := ⟨h.1.trans k.1, h.2.trans k.2⟩
theorem Fr.of_below {B : Nat} {w w' : World} (hB : B ≤ w.heap.size) (h : Below w.heap.size w w') : Fr B w w' := ⟨h.mono hB, Kp.of_below h⟩
theorem Fr.drew (B : Nat) (w : World) : Fr B w w.drew := ⟨below_drewN B w 1, Kp.of_below (below_drewN _ w 1)⟩
theorem Bld.block {w : World} {B b : Nat} {l : List UInt8} (h : Bld w B b l) : ∃ p v, w.heap[b]? = some (.cells #[p, v] 90 (0, 0)) := by
  rcases h.1 with ⟨_, v, h1, _⟩ | ⟨_, v, h1, _⟩
  · exact ⟨_, v, h1⟩
  · exact ⟨_, v, h1⟩
theorem Bld.at_ {w w' : World} {B b : Nat} {l : List UInt8} {p : Value} (h : Lib.BuilderAtF 90 5 B b p (Lib.byteCells l) w) (hb : Below w.heap.size w w') : Lib.BuilderAtF 90 5 B b p (Lib.byteCells l) w' := by
  obtain ⟨h1, v, h2, h3, h4⟩ := h
  refine ⟨h1, v, (hb.block b (lt_of_heap h2)).trans h2, ⟨h3.1, ?_⟩, h4⟩
  rcases h3.2 with h5 | ⟨g, cap, cur, fz, h5, h6, h7, h8⟩
  · exact .inl h5
  · exact .inr ⟨g, cap, cur, fz, h5, h6, (hb.block g (lt_of_heap h7)).trans h7, h8⟩
theorem Bld.below {w w' : World} {B b : Nat} {l : List UInt8} (h : Bld w B b l) (hb : Below w.heap.size w w') : Bld w' B b l := by
  refine ⟨?_, Nat.le_trans h.2 hb.size⟩
  rcases h.1 with h1 | h1
  · exact .inl (Bld.at_ h1 hb)
  · exact .inr (Bld.at_ h1 hb)
theorem Bld.gr {w w' : World} {B b g n c : Nat} {l : List UInt8} {s : Bool} {A : Option Addr} (h : Bld w B b l) (hz : Zb w g s A n c) (hg : w.grownBy w' (some g)) : Bld w' B b l := by
  have key : ∀ p, Lib.BuilderAtF 90 5 B b p (Lib.byteCells l) w → Lib.BuilderAtF 90 5 B b p (Lib.byteCells l) w' := by
    intro p ⟨h1, v, h2, h3, h4⟩
    have ne : ∀ (k : Nat) (cs : Array Value) (t : TypeId) (fz : Nat × Nat), w.heap[k]? = some (.cells cs t fz) → t ≠ 24 → w'.heap[k]? = some (.cells cs t fz) := fun k cs t fz hk ht => by
      refine (hg.block k (lt_of_heap hk) (fun e => ?_)).trans hk
      simp only [Option.some.injEq] at e
      subst e
      have hz' : w.heap[k]? = _ := hz
      rw [hk] at hz'
      simp only [Option.some.injEq, Obj.cells.injEq] at hz'
      exact ht hz'.2.1
    refine ⟨h1, v, ne _ _ _ _ h2 (by decide), ⟨h3.1, ?_⟩, h4⟩
    rcases h3.2 with h5 | ⟨g', cap, cur, fz, h5, h6, h7, h8⟩
    · exact .inl h5
    · exact .inr ⟨g', cap, cur, fz, h5, h6, ne _ _ _ _ h7 (by decide), h8⟩
  refine ⟨?_, Nat.le_trans h.2 hg.size⟩
  rcases h.1 with h1 | h1
  · exact .inl (key _ h1)
  · exact .inr (key _ h1)
theorem writeString_any {B b : Nat} {acc l : List UInt8} {w : World} (h : Bld w B b acc) (hl : acc.length + l.length ≤ 140737488355328) :
    Calls Tryz.prog 106 #[.pointer (some ⟨b, 0, none⟩), .string (txt l)] w fun e w' => e = .returned (.tuple #[.int .i64 l.length, .nilIface]) ∧ Bld w' B b (acc ++ l) ∧ Fr B w w' := by
  obtain ⟨p0, v0, hblk⟩ := h.block
  refine (Tryz.Builder_WriteString_w B b (Lib.byteCells acc) (txt l) w h.1 (by rw [Lib.byteCells_length]; exact hl) h.2).mono ?_
  rintro e w' ⟨rfl, h1, h2, h3⟩
  have hsz : w.heap.size ≤ w'.heap.size := h2.size
  refine ⟨rfl, ⟨.inr ?_, Nat.le_trans h.2 hsz⟩, h2, fun k cs t fz hk n1 n2 => ?_, hsz⟩
  · rw [Lib.byteCells_append]; exact h1
  · refine h3 k _ hk (fun e => ?_) (fun c f e => ?_)
    · simp only [Option.some.injEq] at e
      subst e
      rw [hblk] at hk
      simp only [Option.some.injEq, Obj.cells.injEq] at hk
      exact n2 hk.2.1.symm
    · simp only [Obj.cells.injEq] at e
      exact n1 e.2.1
section
variable {w w' : World} {g n c lo : Nat} {s : Bool} {A : Option Addr} {xs : List Nat}
theorem Zb.kp (h : Zb w g s A n c) (k : Kp w w') : Zb w' g s A n c := k.1 _ _ _ _ h (by decide) (by decide)
theorem Own.kp (h : Own w lo A c xs) (k : Kp w w') : Own w' lo A c xs := by
  obtain ⟨h0, h1, h2, h3⟩ := h
  refine ⟨h0, h1, h2, ?_⟩
  rcases h3 with h3 | ⟨b, o, cur, hA, hl, hr, hc⟩
  · exact .inl h3
  · exact .inr ⟨b, o, cur, hA, hl, k.1 _ _ _ _ hr (by decide) (by decide), hc⟩
end
theorem Env.fr {B : Nat} {w w' : World} (h : Env w) (hB : 1 < B ∧ 0 < B) (k : Below B w w') : Env w' := by
  obtain ⟨h1, m, h2⟩ := h
  exact ⟨var?_below k env_table hB.1 h1, m, (k.cell (p := ⟨0, 0, none⟩) hB.2).trans h2⟩
theorem Env.lt {w : World} (h : Env w) : 1 < w.heap.size ∧ 0 < w.heap.size := by
  obtain ⟨h1, m, h2⟩ := h
  exact ⟨lt_of_cell (h1.cell env_table 0 (by decide)), lt_of_cell h2⟩
theorem Env.gr {w w' : World} {g n c : Nat} {s : Bool} {A : Option Addr} (h : Env w) (hz : Zb w g s A n c) (hg : w.grownBy w' (some g)) : Env w' := by
  obtain ⟨h1, m, h2⟩ := h
  have key : ∀ (b : Nat) (v : Value), w.cell? ⟨b, 0, none⟩ = some v → (∀ t : Bool, v ≠ .bool t) → b ≠ g := by
    intro b v hv hne e
    subst e
    obtain ⟨z1, _⟩ := hz.cells
    rw [z1] at hv
    simp only [Option.some.injEq] at hv
    exact hne s hv.symm
  have c1 := h1.cell env_table 0 (by decide)
  have n1 := key _ _ c1 (fun t e => by cases e)
  have n2 := key _ _ h2 (fun t e => by cases e)
  have l1 := lt_of_cell c1
  have l2 := lt_of_cell h2
  refine ⟨?_, m, (World.cell?_of_block (a := ⟨0, 0, none⟩) (hg.block _ l2 (by simpa using n2))).trans h2⟩
  have hb := hg.block _ l1 (by simpa using n1)
  unfold Lib.TabIs World.var? at h1 ⊢
  rw [env_table] at h1 ⊢
  simp only [Option.bind_some] at h1 ⊢
  rw [hb]
  exact h1
/-- strconv.Itoa. -/
theorem itoa_any {v : Int} (hv : -9223372036854775808 ≤ v ∧ v ≤ 9223372036854775807) {l : List UInt8} (hl : Lib.itoa v = l) {w : World} (h : Env w) :
    Calls Tryz.prog 30 #[.int .i64 v] w fun e w' => e = .returned (.string (txt l)) ∧ Below w.heap.size w w' := by
  subst hl
  refine (Tryz.strconv_Itoa v hv.1 hv.2 w h.1).mono ?_
  rintro e w' ⟨rfl, k, os, rfl⟩
  refine ⟨rfl, rfl, rfl, rfl, ?_, fun j hj => ?_⟩
  · show w.heap.size ≤ (w.heap ++ os).size
    rw [Array.size_append]; omega
  · show (w.heap ++ os)[j]? = w.heap[j]?
    rw [Array.getElem?_append_left hj]
/-- The first powers of ten by which a number is divided: 10^18, 10^36, 10^72 and so on. -/
def pten (i : Nat) : Nat := 10 ^ (18 * 2 ^ i)
theorem pten_succ (i : Nat) : pten (i + 1) = pten i * pten i := by
  unfold pten; rw [← Nat.pow_add, Nat.pow_succ]; congr 1; omega
theorem pten_pos (i : Nat) : 0 < pten i := Nat.pow_pos (by decide)
theorem wdig_pten (k n : Nat) : wdig (18 * 2 ^ (k + 1)) n = wdig (18 * 2 ^ k) (n / pten k) ++ wdig (18 * 2 ^ k) (n % pten k) := by
  unfold pten
  rw [wdig_mod, ← wdig_add]
  congr 1
  rw [Nat.pow_succ]; omega
/-- A row of powers. -/
def Pows (w : World) (b n c : Nat) : Prop := n ≤ c ∧ c ≤ 9223372036854775807 ∧ ∃ cur, w.heap[b]? = some (.cells cur 24 (0, 0)) ∧
  ∀ i, i < n → ∃ P k, cur[2 * i]? = some (.bool false) ∧ cur[2 * i + 1]? = some (.slice P (ofv (pten i)).length k) ∧ Own w 0 P k (ofv (pten i))
theorem Pows.lt {w : World} {b n c : Nat} (h : Pows w b n c) : b < w.heap.size := by
  obtain ⟨h1, h2, cur, hb, hi⟩ := h
  exact lt_of_heap hb
theorem Pows.kp {w w' : World} {b n c : Nat} (h : Pows w b n c) (k : Kp w w') : Pows w' b n c := by
  obtain ⟨h1, h2, cur, hb, hi⟩ := h
  refine ⟨h1, h2, cur, k.1 _ _ _ _ hb (by decide) (by decide), fun i hl => ?_⟩
  obtain ⟨P, q, c1, c2, ho⟩ := hi i hl
  exact ⟨P, q, c1, c2, ho.kp k⟩
theorem Pows.below {w w' : World} {b n c : Nat} (h : Pows w b n c) (hb : Below w.heap.size w w') : Pows w' b n c := h.kp (Kp.of_below hb)
theorem Pows.gr {w w' : World} {b n c g n0 c0 : Nat} {s : Bool} {A : Option Addr} (h : Pows w b n c) (hz : Zb w g s A n0 c0) (hg : w.grownBy w' (some g)) (ne : b ≠ g) : Pows w' b n c := by
  obtain ⟨h1, h2, cur, hb, hi⟩ := h
  refine ⟨h1, h2, cur, (hg.block b (lt_of_heap hb) (by simpa using ne)).trans hb, fun i hl => ?_⟩
  obtain ⟨P, q, c1, c2, ho⟩ := hi i hl
  exact ⟨P, q, c1, c2, ho.gr hz hg⟩
theorem Pows.less {w : World} {b n m c : Nat} (h : Pows w b n c) (hm : m ≤ n) : Pows w b m c := by
  obtain ⟨h1, h2, cur, hb, hi⟩ := h
  exact ⟨by omega, h2, cur, hb, fun i hl => hi i (by omega)⟩
/-- An integer somewhere in a row of integers. -/
def El (w : World) (b o : Nat) (s : Bool) (P : Option Addr) (n c : Nat) : Prop := w.rangeAt b o [.bool s, .slice P n c]
theorem El.lt {w : World} {b o n c : Nat} {s : Bool} {P : Option Addr} (h : El w b o s P n c) : b < w.heap.size := lt_of_cell (h 0 _ rfl)
theorem El.below {w w' : World} {b o n c B : Nat} {s : Bool} {P : Option Addr} (h : El w b o s P n c) (hb : Below B w w') (hl : b < B) : El w' b o s P n c := fun j v hj => (hb.cell (p := ⟨b, o + j, none⟩) hl).trans (h j v hj)
theorem yields_el {ops : Array Oper} {S : World → Prop} {o : Oper} {a : Act} (hw : Region.wanted o (yielded ops a.tmps) = true) (x : Operand) (ho : o.op = .load 24 x) {b i n c : Nat} {s : Bool} {A : Option Addr} (hx : a.eval x = .pointer (some ⟨b, i, none⟩))
    (hS : ∀ w, S w → El w b i s A n c) : YieldsIf Tryz.prog ops S o (.agg #[.bool s, .slice A n c]) a :=
  yieldsIf_load_mid hw _ x ho b i hx [.bool s, .slice A n c] _ hS Tryz.underlying24 rfl Tryz.sizeZ
/-- One of the powers. -/
theorem Pows.one {w : World} {b n c i : Nat} (h : Pows w b n c) (hi : i < n) : ∃ P k, El w b (i * 2) false P (ofv (pten i)).length k ∧ Own w 0 P k (ofv (pten i)) := by
  obtain ⟨h1, h2, cur, hb, hx⟩ := h
  obtain ⟨P, k, c1, c2, ho⟩ := hx i hi
  refine ⟨P, k, fun j v hj => ?_, ho⟩
  rw [cell_of_row w b _ _ _ (0, 0) hb, Nat.mul_comm i 2]
  match j, hj with
  | 0, hj => simp at hj; subst hj; exact c1
  | 1, hj => simp at hj; subst hj; exact c2
end Go.Proofs.YtebpoabflcngoaaGreatDoor

/-
  Contract of integer.Value.
-/
namespace Go.Proofs.YtebpoabflcngoaaGreatDoor
open Go.RowKit
set_option linter.unusedVariables false

theorem ret_pair {k : IntKind} {a b : Int} {c : Bool} (h : a = b) : Ending.returned (.tuple #[.int k a, .bool c]) = Ending.returned (.tuple #[.int k b, .bool c]) := by rw [h]
set_option maxHeartbeats 2000000 in
theorem value_yes {A : Option Addr} {n c : Nat} {s : Bool} {w : World} {x : Int} (h : Zin w s A n c x) (hv : -9223372036854775808 ≤ x ∧ x ≤ 9223372036854775807) :
    Calls Tryz.prog 29 #[.agg #[.bool s, .slice A n c]] w fun e w' => e = .returned (.tuple #[.int .i64 x, .bool true]) ∧ Below w.heap.size w w' := by
  obtain ⟨xs, hx, hn, ex⟩ := h
  have hb0 := (Below.refl w.heap.size w).alloc (Nat.le_refl _) (.cells #[.bool s, .slice A n c] 24)
  have U := Lib.hid (uint64_yes_n (hx.below hb0) hn (by rw [← ex] at hv; unfold zv at hv; split at hv <;> omega))
  have Z := Lib.hid (Zb.new w s A n c)
  have B0 := Lib.hid hb0
  clear hx hb0
  generalize val xs = v at *
  cases s
  · have e1 : (v : Int) = x := by simpa [zv] using ex
    have b1 : (v : Int) < 9223372036854775808 := by omega
    have EX := Lib.hid e1
    clear ex hv e1
    go_enter Tryz.func29, Tryz.ntmps29
    go_wp2_with fail
    generalize (w.alloc (.cells #[.bool false, .slice A n c] 24)) = w2 at *
    refine U.out.mono ?_
    rintro e w1 ⟨rfl, hq⟩
    have B1 := Lib.hid (B0.out.trans ((below_q hq).mono B0.out.size))
    obtain ⟨c0, c1⟩ := (Z.out.below (below_q hq) Z.out.lt).cells
    clear hq
    go_wp2
    go_ret2
    exact ⟨ret_pair EX.out, B1.out⟩
  · have e1 : -(v : Int) = x := by simpa [zv] using ex
    have b1 : (v : Int) ≤ 9223372036854775808 := by omega
    have HW : Hid (IntKind.i64.wrap (IntKind.u64.wrap (-(v : Int))) = x) := by
      show _ = _
      rw [IntKind.wrap_u64, IntKind.wrap_i64]
      omega
    clear ex hv e1
    go_enter Tryz.func29, Tryz.ntmps29
    go_wp2_with fail
    generalize (w.alloc (.cells #[.bool true, .slice A n c] 24)) = w2 at *
    refine U.out.mono ?_
    rintro e w1 ⟨rfl, hq⟩
    have B1 := Lib.hid (B0.out.trans ((below_q hq).mono B0.out.size))
    obtain ⟨c0, c1⟩ := (Z.out.below (below_q hq) Z.out.lt).cells
    clear hq
    go_wp2
    go_ret2
    exact ⟨ret_pair (by rw [← HW.out, IntKind.wrap_i64]; unfold wrap64; omega), B1.out⟩
set_option maxRecDepth 4000 in
set_option maxHeartbeats 2000000 in
theorem value_no {A : Option Addr} {n c : Nat} {s : Bool} {w : World} {x : Int} (h : Zin w s A n c x) (hv : x < -9223372036854775808 ∨ 9223372036854775807 < x) :
    Calls Tryz.prog 29 #[.agg #[.bool s, .slice A n c]] w fun e w' => e = .returned (.tuple #[.int .i64 0, .bool false]) ∧ Below w.heap.size w w' := by
  obtain ⟨xs, hx, hn, ex⟩ := h
  have hb0 := (Below.refl w.heap.size w).alloc (Nat.le_refl _) (.cells #[.bool s, .slice A n c] 24)
  have Z := Lib.hid (Zb.new w s A n c)
  have B0 := Lib.hid hb0
  rcases Nat.lt_or_ge (val xs) 18446744073709551616 with hs | hs
  · have U := Lib.hid (uint64_yes_n (hx.below hb0) hn hs)
    clear hx hb0
    generalize val xs = v at *
    cases s
    · have e1 : (v : Int) = x := by simpa [zv] using ex
      have b1 : decide ((v : Int) < 9223372036854775808) = false := by simp; omega
      clear ex hv e1
      go_enter Tryz.func29, Tryz.ntmps29
      go_wp2_with fail
      generalize (w.alloc (.cells #[.bool false, .slice A n c] 24)) = w2 at *
      refine U.out.mono ?_
      rintro e w1 ⟨rfl, hq⟩
      have B1 := Lib.hid (B0.out.trans ((below_q hq).mono B0.out.size))
      obtain ⟨c0, c1⟩ := (Z.out.below (below_q hq) Z.out.lt).cells
      clear hq
      go_wp2
      go_ret2
      exact ⟨rfl, B1.out⟩
    · have e1 : -(v : Int) = x := by simpa [zv] using ex
      have b1 : decide ((v : Int) ≤ 9223372036854775808) = false := by simp; omega
      clear ex hv e1
      go_enter Tryz.func29, Tryz.ntmps29
      go_wp2_with fail
      generalize (w.alloc (.cells #[.bool true, .slice A n c] 24)) = w2 at *
      refine U.out.mono ?_
      rintro e w1 ⟨rfl, hq⟩
      have B1 := Lib.hid (B0.out.trans ((below_q hq).mono B0.out.size))
      obtain ⟨c0, c1⟩ := (Z.out.below (below_q hq) Z.out.lt).cells
      clear hq
      go_wp2
      go_ret2
      exact ⟨rfl, B1.out⟩
  · have U := Lib.hid (uint64_no_n (hx.below hb0) hn hs)
    clear hx hb0 ex hv
    go_enter Tryz.func29, Tryz.ntmps29
    go_wp2_with fail
    generalize (w.alloc (.cells #[.bool s, .slice A n c] 24)) = w2 at *
    refine U.out.mono ?_
    rintro e w1 ⟨rfl, hq⟩
    have B1 := Lib.hid (B0.out.trans ((below_q hq).mono B0.out.size))
    clear hq
    go_wp2
    go_ret2
    exact ⟨rfl, B1.out⟩
end Go.Proofs.YtebpoabflcngoaaGreatDoor

/-
  Contract: the digits of a number, as many as a power of two times eighteen.
-/
namespace Go.Proofs.YtebpoabflcngoaaGreatDoor
open Go.RowKit
set_option linter.unusedVariables false

theorem start_nZ (w : World) (s0 : Bool) (A0 : Option Addr) (n0 c0 : Nat) :
    Hid (Below w.heap.size w (w.alloc (.cells #[.bool s0, .slice A0 n0 c0] 24))) ∧ Hid (Zb (w.alloc (.cells #[.bool s0, .slice A0 n0 c0] 24)) (w.heap.size) s0 A0 n0 c0) := by
  refine ⟨?_, ?_⟩
  · exact ((Below.refl _ _).alloc (by first | exact Nat.le_refl _ | (simp; done) | (simp; omega)) _)
  · have := Zb.new w s0 A0 n0 c0
    exact this
theorem padded18 {l : List UInt8} (hl : l.length ≤ 4611686018427387904) {m : List UInt8} (hm : padz 18 l = m) (w : World) :
    Calls Tryz.prog 107 #[.string (txt l), .int .i64 18] w fun e w' => e = .returned (.string (txt m)) ∧ Below w.heap.size w w' := padded_any (k := 18) hl (by decide) hm w
set_option maxRecDepth 100000 in
set_option maxHeartbeats 16000000 in
theorem wd_zero {B b p d : Nat} {acc : List UInt8} {x : Int} {A : Option Addr} {c : Nat} {w : World} (hI : Bld w B b acc) (hE : Env w) (hEB : 1 < B ∧ 0 < B) (hP : Pows w p 0 d) (hX : Own w 0 A c (ofv x.natAbs)) (h0 : 0 ≤ x) (hx : x.natAbs < pten 0) (hl : acc.length + 18 * 2 ^ 0 ≤ 1000000000000) :
    Calls Tryz.prog 67 #[.pointer (some ⟨b, 0, none⟩), .agg #[.bool (decide (x < 0)), .slice A (ofv x.natAbs).length c], .slice (some ⟨p, 0, none⟩) 0 d] w fun e w' => e = .returned (.tuple #[]) ∧ Bld w' B b (acc ++ wdig (18 * 2 ^ 0) x.natAbs) ∧ Fr B w w' := by
  obtain ⟨B1, V0⟩ := start_nZ w (decide (x < 0)) A (ofv x.natAbs).length c
  have hx' : x.natAbs < 1000000000000000000 := hx
  have HB0 : Hid (B ≤ w.heap.size) := hI.2
  have HI := Lib.hid (hI.below B1.out)
  have HE := Lib.hid (hE.below B1.out)
  have HX : Hid (Zin (w.alloc (.cells #[.bool (decide (x < 0)), .slice A (ofv x.natAbs).length c] 24)) (decide (x < 0)) A (ofv x.natAbs).length c x) := (Zo.of_own (hX.below B1.out)).in_
  have HV : Hid (-9223372036854775808 ≤ x ∧ x ≤ 9223372036854775807) := by show _ ∧ _; omega
  obtain ⟨l, hl0⟩ : ∃ l, Lib.itoa x = l := ⟨_, rfl⟩
  have HL := Lib.hid hl0
  have el : l = Lib.decDigits x.natAbs := by rw [← hl0, itoa_pos (by omega)]
  have hn : Lib.nDigits x.natAbs ≤ 18 := nDigits_le (by omega) (by decide)
  have HM : Hid (padz 18 l = wdig (18 * 2 ^ 0) x.natAbs) := by show _ = _; rw [el, padz_dec hn]
  have HN : Hid (l.length ≤ 4611686018427387904) := by show _ ≤ _; rw [el, Lib.decDigits_length]; omega
  have HW : Hid (acc.length + (wdig (18 * 2 ^ 0) x.natAbs).length ≤ 140737488355328) := by show _ ≤ _; rw [wdig_len]; omega
  clear hI hE hEB hP hX h0 hx hx' hl hl0 el hn
  go_enter Tryz.func67, Tryz.ntmps67
  go_wp2_with fail
  refine (value_yes HX.out HV.out).mono ?_
  rintro e w3 ⟨rfl, hb⟩
  replace V0 := Lib.hid (V0.out.below hb V0.out.lt)
  replace HI := Lib.hid (HI.out.below hb)
  replace HE := Lib.hid (HE.out.below hb)
  replace B1 := Lib.hid (B1.out.trans (hb.mono B1.out.size))
  clear hb
  clear HX
  go_wp2_with fail
  refine (itoa_any HV.out HL.out HE.out).mono ?_
  rintro e w4 ⟨rfl, hb⟩
  replace V0 := Lib.hid (V0.out.below hb V0.out.lt)
  replace HI := Lib.hid (HI.out.below hb)
  replace HE := Lib.hid (HE.out.below hb)
  replace B1 := Lib.hid (B1.out.trans (hb.mono B1.out.size))
  clear hb
  go_wp2_with fail
  refine (padded18 HN.out HM.out _).mono ?_
  rintro e w5 ⟨rfl, hb⟩
  replace V0 := Lib.hid (V0.out.below hb V0.out.lt)
  replace HI := Lib.hid (HI.out.below hb)
  replace HE := Lib.hid (HE.out.below hb)
  replace B1 := Lib.hid (B1.out.trans (hb.mono B1.out.size))
  clear hb
  go_wp2_with fail
  refine (writeString_any HI.out HW.out).mono ?_
  rintro e w6 ⟨rfl, h1, h2⟩
  have H1 := Lib.hid h1
  have SZ := B1.out.size
  have H2 := Lib.hid ((Fr.of_below (w := w) (B := B) HB0.out B1.out).trans h2)
  clear h1 h2
  go_wp2
  exact bodyPost_ret (v := .tuple #[]) (by simp [results, Tryz.results67, go_sem]) rfl ⟨rfl, H1.out, H2.out⟩
/-- The contract at so many powers. -/
def WdAt (kk : Nat) : Prop := ∀ (B b p d : Nat) (acc : List UInt8) (x : Int) (A : Option Addr) (c : Nat) (w : World) (hI : Bld w B b acc) (hE : Env w) (hEB : 1 < B ∧ 0 < B) (hP : Pows w p kk d) (hX : Own w 0 A c (ofv x.natAbs)) (h0 : 0 ≤ x) (hx : x.natAbs < pten kk) (hl : acc.length + 18 * 2 ^ kk ≤ 1000000000000),
    Calls Tryz.prog 67 #[.pointer (some ⟨b, 0, none⟩), .agg #[.bool (decide (x < 0)), .slice A (ofv x.natAbs).length c], .slice (some ⟨p, 0, none⟩) kk d] w fun e w' => e = .returned (.tuple #[]) ∧ Bld w' B b (acc ++ wdig (18 * 2 ^ kk) x.natAbs) ∧ Fr B w w'
set_option maxRecDepth 100000 in
set_option maxHeartbeats 16000000 in
theorem wd_succ (kk : Nat) (ih : WdAt kk) : WdAt (kk + 1) := by
  intro B b p d acc x A c w hI hE hEB hP hX h0 hx hl
  obtain ⟨B1, V0⟩ := start_nZ w (decide (x < 0)) A (ofv x.natAbs).length c
  obtain ⟨P, k, hel, hop⟩ := hP.one (Nat.lt_succ_self kk)
  obtain ⟨y, hy⟩ : ∃ y, ((pten kk : Nat) : Int) = y := ⟨_, rfl⟩
  obtain ⟨q, hq⟩ : ∃ q, x / y = q := ⟨_, rfl⟩
  obtain ⟨r, hr⟩ : ∃ r, x % y = r := ⟨_, rfl⟩
  have hpp := pten_pos kk
  have hq0 : 0 ≤ q := by rw [← hq, ← hy]; exact Int.ediv_nonneg h0 (by omega)
  have hr0 : 0 ≤ r := by rw [← hr]; exact Int.emod_nonneg _ (by omega)
  have hxe : x = ((x.natAbs : Nat) : Int) := by omega
  have hqn : q.natAbs = x.natAbs / pten kk := by
    have : q = ((x.natAbs / pten kk : Nat) : Int) := by rw [← hq, ← hy, Int.natCast_ediv, ← hxe]
    omega
  have hrn : r.natAbs = x.natAbs % pten kk := by
    have : r = ((x.natAbs % pten kk : Nat) : Int) := by rw [← hr, ← hy, Int.natCast_emod, ← hxe]
    omega
  have hqb : q.natAbs < pten kk := by
    rw [hqn]; exact Nat.div_lt_of_lt_mul (by rw [← pten_succ]; exact hx)
  have hrb : r.natAbs < pten kk := by rw [hrn]; exact Nat.mod_lt _ hpp
  have hpw : 18 * 2 ^ (kk + 1) = 18 * 2 ^ kk + 18 * 2 ^ kk := by rw [Nat.pow_succ]; omega
  have HW : Hid (acc ++ wdig (18 * 2 ^ (kk + 1)) x.natAbs = acc ++ wdig (18 * 2 ^ kk) q.natAbs ++ wdig (18 * 2 ^ kk) r.natAbs) := by
    show _ = _; rw [wdig_pten, hqn, hrn, List.append_assoc]
  have lx : (ofv x.natAbs).length ≤ 2000000000000 := by
    have := Nat.lt_of_lt_of_le hx (ten_pw _)
    exact Nat.le_trans (len_ofv_le_of_lt this) (by omega)
  have lp : (ofv (pten kk)).length ≤ 2000000000000 := Nat.le_trans (len_ten _) (by omega)
  have HB0 : Hid (B ≤ w.heap.size) := hI.2
  have HEB := Lib.hid hEB
  have HI := Lib.hid (hI.below B1.out)
  have HE := Lib.hid (hE.below B1.out)
  have HP := Lib.hid ((hP.less (Nat.le_succ kk)).below B1.out)
  have EL := Lib.hid (hel.below B1.out hel.lt)
  have HX : Hid (Zin (w.alloc (.cells #[.bool (decide (x < 0)), .slice A (ofv x.natAbs).length c] 24)) (decide (x < 0)) A (ofv x.natAbs).length c x) := (Zo.of_own (hX.below B1.out)).in_
  have HY : Hid (Zin (w.alloc (.cells #[.bool (decide (x < 0)), .slice A (ofv x.natAbs).length c] 24)) false P (ofv (pten kk)).length k y) := ⟨_, (hop.below B1.out).rd, rfl, by rw [val_ofv]; exact hy⟩
  have LX : Hid ((ofv x.natAbs).length ≤ 70368744177660) := Nat.le_trans lx (by decide)
  have LP : Hid ((ofv (pten kk)).length ≤ 70368744177660) := Nat.le_trans lp (by decide)
  have NY : Hid (y ≠ 0) := by show _ ≠ _; omega
  have EQ := Lib.hid hq
  have ER := Lib.hid hr
  have Q0 := Lib.hid hq0
  have R0 := Lib.hid hr0
  have QB := Lib.hid hqb
  have RB := Lib.hid hrb
  have HL1 : Hid (acc.length + 18 * 2 ^ kk ≤ 1000000000000) := by show _ ≤ _; omega
  have HL2 : Hid ((acc ++ wdig (18 * 2 ^ kk) q.natAbs).length + 18 * 2 ^ kk ≤ 1000000000000) := by show _ ≤ _; rw [List.length_append, wdig_len]; omega
  have IH := Lib.hid ih
  have LP0 : Hid (p < w.heap.size) := hP.lt
  have h00 : ((kk : Int) + 1 == 0) = false := by simp; omega
  have k1 : (kk : Int) ≤ 4611686018427387904 := by
    have : kk < 2 ^ kk := Nat.lt_two_pow_self
    omega
  have hkd : (kk : Int) < (kk : Int) + 1 := by omega
  have hkc : kk ≤ d := by have := hP.1; omega
  clear hI hE hEB hP hX h0 hx hl hel hop hy hq hr hpp hq0 hr0 hxe hqn hrn hqb hrb hpw lx lp ih
  go_enter Tryz.func67, Tryz.ntmps67
  go_wp2_with fail
  generalize (w.alloc (.cells #[.bool (decide (x < 0)), .slice A (ofv x.natAbs).length c] 24)) = w2 at *
  have LT : Hid (w.heap.size < w2.heap.size) := V0.out.lt
  have LO : Hid (w.heap.size ≤ w2.heap.size) := B1.out.size
  have HB : Hid (Below w2.heap.size w2 w2.drew) := below_drewN _ w2 1
  refine wp_region_held_drew (S := fun w' => Below w2.heap.size w2 w') (by kernel_rfl) (HB.out) (fun hHeld => ?_)
  refine wpAnyH_takeL (i := 0) (oi := _) rfl (by kernel_rfl) (by kernel_rfl) (by kernel_rfl) (fun _ _ _ h => h) (yields_ldZ (by rfl) _ rfl (by rfl) (fun _ hb => V0.out.below hb V0.out.lt)) hHeld ?_
  try simp only [Act.put, List.setIfInBounds_toArray, List.set_cons_zero, List.set_cons_succ]
  refine wpAnyH_takeL (i := 1) (oi := _) (v := ?_) rfl (by kernel_rfl) (by kernel_rfl) (by kernel_rfl) (fun _ _ _ h => h) (Or.inl ⟨by rfl, ?_⟩) hHeld ?_
  rotate_left
  · (intro w' hSw; (try dsimp only at hSw); go_simp; try (with_reducible rfl))
  try simp only [Act.put, List.setIfInBounds_toArray, List.set_cons_zero, List.set_cons_succ]
  refine wpAnyH_takeL (i := 2) (oi := _) (v := ?_) rfl (by kernel_rfl) (by kernel_rfl) (by kernel_rfl) (fun _ _ _ h => h) (Or.inl ⟨by rfl, ?_⟩) hHeld ?_
  rotate_left
  · (intro w' hSw; (try dsimp only at hSw); go_simp; try (with_reducible rfl))
  try simp only [Act.put, List.setIfInBounds_toArray, List.set_cons_zero, List.set_cons_succ]
  refine wpAnyH_takeL (i := 3) (oi := _) (v := ?_) rfl (by kernel_rfl) (by kernel_rfl) (by kernel_rfl) (fun _ _ _ h => h) (Or.inl ⟨by rfl, ?_⟩) hHeld ?_
  rotate_left
  · (intro w' hSw; (try dsimp only at hSw); go_simp; try (with_reducible rfl))
  try simp only [Act.put, List.setIfInBounds_toArray, List.set_cons_zero, List.set_cons_succ]
  refine wpAnyH_takeL (i := 4) (oi := _) rfl (by kernel_rfl) (by kernel_rfl) (by kernel_rfl) (fun _ _ _ h => h) (yields_el (by rfl) _ rfl (by rfl) (fun _ hb => EL.out.below hb EL.out.lt)) hHeld ?_
  try simp only [Act.put, List.setIfInBounds_toArray, List.set_cons_zero, List.set_cons_succ]
  refine wpAnyH_rgt [(5, some 34), (6, some 28), (7, some 35), (8, some 36), (9, some 37), (10, some 9), (11, some 10)] [6, 7, 8, 9] (isNewZ w2.heap.size) [(5, isQ q r w2.heap.size), (6, isQ q r w2.heap.size), (7, isZ q w2.heap.size), (8, isZ r w2.heap.size), (9, isV (.bool true))] w2 (f0 := 3) (by kernel_rfl) (by kernel_rfl) (by rfl) HB.out (fun _ h => h) (fun _ _ _ _ _ h => h) (isNewZ_good _) ⟨isQ_good _ _ _, isQ_good _ _ _, isZ_good _ _, isZ_good _ _, isV_good _, trivial⟩ ?_ ?_ ?_
  · clear hHeld HB
    show RgOps _ _ _ _ _ _ _ _ _ [5, 10, 11]
    refine RgOps.consL (o := _) (ds := []) rfl rfl (by kernel_rfl) (fun vals wr hbr hC hdep K hK => ?_) ?_
    · have BB := Lib.hid hbr
      clear hdep
      clear hbr hC
      simp only [Upd2, Act.put, List.setIfInBounds_toArray, List.set_cons_zero, List.set_cons_succ] at hK ⊢
      go_simp
      go_at_call 75
      refine Calls.mono (dm_z (x := x) (y := y) (q := q) (r := r) (HX.out.below BB.out) (HY.out.below BB.out) LX.out LP.out NY.out EQ.out ER.out) ?_
      rintro e wq ⟨R, cR, R2, cR2, rfl, ho, ho2, hb⟩
      exact hK.out _ _ (LeavesB.behind hb ⟨_, _, _, _, rfl, ho.mono BB.out.size, ho2.mono BB.out.size⟩ rfl)
    refine RgOps.consL (o := _) (ds := []) rfl rfl (by kernel_rfl) (fun vals wr hbr hC hdep K hK => ?_) ?_
    · have BB := Lib.hid hbr
      clear hdep
      clear hbr hC
      simp only [Upd2, Act.put, List.setIfInBounds_toArray, List.set_cons_zero, List.set_cons_succ] at hK ⊢
      go_simp
      exact hK.out _ _ (LeavesB.newZ BB.out.size)
    refine RgOps.consL (o := _) (ds := []) rfl rfl (by kernel_rfl) (fun vals wr hbr hC hdep K hK => ?_) RgOps.nil
    · have BB := Lib.hid hbr
      clear hdep
      clear hbr hC
      simp only [Upd2, Act.put, List.setIfInBounds_toArray, List.set_cons_zero, List.set_cons_succ] at hK ⊢
      go_simp
      exact hK.out _ _ (LeavesB.newZ BB.out.size)
  · clear hHeld HB
    show TaAll _ _ _ _ _ [6, 7, 8, 9]
    refine TaAll.cons (o := _) (ds := [5]) rfl rfl (by kernel_rfl) (fun vals wr hdep => ?_) ?_
    · obtain ⟨⟨P5, c5, Q5, k5, e5, o5, u5⟩, -⟩ := hdep
      refine ⟨_, fun S => Or.inl ⟨by rfl, ?_⟩, ⟨_, _, _, _, rfl, o5, u5⟩, rfl⟩
      intro w' _
      simp only [e5, Upd2, Act.put, List.setIfInBounds_toArray, List.set_cons_zero, List.set_cons_succ]
      go_simp
    refine TaAll.cons (o := _) (ds := [6]) rfl rfl (by kernel_rfl) (fun vals wr hdep => ?_) ?_
    · obtain ⟨⟨P6, c6, Q6, k6, e6, o6, u6⟩, -⟩ := hdep
      refine ⟨_, fun S => Or.inl ⟨by rfl, ?_⟩, ⟨_, _, rfl, o6⟩, rfl⟩
      intro w' _
      simp only [e6, Upd2, Act.put, List.setIfInBounds_toArray, List.set_cons_zero, List.set_cons_succ]
      go_simp
    refine TaAll.cons (o := _) (ds := [6]) rfl rfl (by kernel_rfl) (fun vals wr hdep => ?_) ?_
    · obtain ⟨⟨P6, c6, Q6, k6, e6, o6, u6⟩, -⟩ := hdep
      refine ⟨_, fun S => Or.inl ⟨by rfl, ?_⟩, ⟨_, _, rfl, u6⟩, rfl⟩
      intro w' _
      simp only [e6, Upd2, Act.put, List.setIfInBounds_toArray, List.set_cons_zero, List.set_cons_succ]
      go_simp
    refine TaAll.cons (o := _) (ds := [6]) rfl rfl (by kernel_rfl) (fun vals wr hdep => ?_) TaAll.nil
    · obtain ⟨⟨P6, c6, Q6, k6, e6, o6, u6⟩, -⟩ := hdep
      refine ⟨_, fun S => Or.inl ⟨by rfl, ?_⟩, ⟨rfl, rfl⟩, rfl⟩
      intro w' _
      simp only [e6, Upd2, Act.put, List.setIfInBounds_toArray, List.set_cons_zero, List.set_cons_succ]
      go_simp
  clear hHeld HB
  intro vals wr hb hdep hD
  have NG0 := Lib.hid (hD 10 (by decide) 11 (by decide) (by decide))
  obtain ⟨⟨P5, c5, Q5, k5, e5, o5, u5⟩, ⟨P6, c6, Q6, k6, e6, o6, u6⟩, ⟨P7, c7, e7, o7⟩, ⟨P8, c8, e8, o8⟩, ⟨e9, -⟩, ⟨g10, e10, l10, z10⟩, ⟨g11, e11, l11, z11⟩, -⟩ := hdep
  have NG : Hid (g10 ≠ g11) := fun e => NG0.out g10 (by rw [e10]; rfl) (by rw [e11, e]; rfl)
  simp only [Upd2, e5, e6, e7, e8, e9, e10, e11, Act.put, List.setIfInBounds_toArray, List.set_cons_zero, List.set_cons_succ]
  clear NG0 e5 e6 e7 e8 e9 e10 e11
  clear hD vals
  replace V0 := Lib.hid (V0.out.below hb V0.out.lt)
  replace HI := Lib.hid (HI.out.below hb)
  replace HE := Lib.hid (HE.out.below hb)
  replace HP := Lib.hid (HP.out.below hb)
  replace B1 := Lib.hid (B1.out.trans (hb.mono B1.out.size))
  have HB := Lib.hid hb
  clear hb
  have OQ := Lib.hid (o7.mono LO.out); have OR := Lib.hid (o8.mono LO.out); have G1 := Lib.hid z10; have G2 := Lib.hid z11; have LL1 := Lib.hid l10; have LL2 := Lib.hid l11; have LG1 : Hid (w.heap.size < g10) := Nat.lt_of_lt_of_le LT.out l10; have LG2 : Hid (w.heap.size < g11) := Nat.lt_of_lt_of_le LT.out l11
  clear o5 u5 o6 u6 o7 o8 z10 z11 l10 l11 HX HY EL
  refine wpAnyH_ready (rs := [12]) (by kernel_rfl) (by simp) ?_
  refine AllReadyH.consL (o := _) rfl (fun K hK => ?_) AllReadyH.nil
  rw [if_pos (by rfl)]
  refine wp_stZ _ _ rfl (by rfl) (by rfl) G1.out ?_
  intro ws0 hz hg
  replace HB := Lib.hid (Below.gr HB.out (by have := LL1.out; have := LL2.out; omega) hg HB.out.size)
  replace HP := Lib.hid (HP.out.gr G1.out hg (by have := LG1.out; have := LG2.out; have := NG.out; have := LP0.out; omega))
  replace V0 := Lib.hid (V0.out.gr hg (by have := LG1.out; have := LG2.out; have := NG.out; have := LP0.out; omega))
  replace HI := Lib.hid (HI.out.gr G1.out hg)
  replace HE := Lib.hid (HE.out.gr G1.out hg)
  replace OQ := Lib.hid (OQ.out.gr G1.out hg)
  replace OR := Lib.hid (OR.out.gr G1.out hg)
  replace G2 := Lib.hid (G2.out.gr hg (by have := LG1.out; have := LG2.out; have := NG.out; have := LP0.out; omega))
  replace B1 := Lib.hid (Below.gr B1.out (by have := LG1.out; have := LG2.out; have := NG.out; have := LP0.out; omega) hg B1.out.size)
  replace G1 := Lib.hid hz
  refine hK.out _ _ ⟨HB.out, HB.out⟩ (fun _ => ?_)
  clear hK K hg hz
  try simp only [Act.put]
  refine wpAnyH_ready (rs := [13]) (by kernel_rfl) (by simp) ?_
  refine AllReadyH.consL (o := _) rfl (fun K hK => ?_) AllReadyH.nil
  rw [if_pos (by rfl)]
  refine wp_stZ _ _ rfl (by rfl) (by rfl) G2.out ?_
  intro ws1 hz hg
  replace HB := Lib.hid (Below.gr HB.out (by have := LL1.out; have := LL2.out; omega) hg HB.out.size)
  replace HP := Lib.hid (HP.out.gr G2.out hg (by have := LG1.out; have := LG2.out; have := NG.out; have := LP0.out; omega))
  replace V0 := Lib.hid (V0.out.gr hg (by have := LG1.out; have := LG2.out; have := NG.out; have := LP0.out; omega))
  replace HI := Lib.hid (HI.out.gr G2.out hg)
  replace HE := Lib.hid (HE.out.gr G2.out hg)
  replace OQ := Lib.hid (OQ.out.gr G2.out hg)
  replace OR := Lib.hid (OR.out.gr G2.out hg)
  replace G1 := Lib.hid (G1.out.gr hg (by have := LG1.out; have := LG2.out; have := NG.out; have := LP0.out; omega))
  replace B1 := Lib.hid (Below.gr B1.out (by have := LG1.out; have := LG2.out; have := NG.out; have := LP0.out; omega) hg B1.out.size)
  replace G2 := Lib.hid hz
  refine hK.out _ _ ⟨HB.out, HB.out⟩ (fun _ => ?_)
  clear hK K hg hz
  try simp only [Act.put]
  have hHeld : Below w2.heap.size w2 _ ∧ Below w2.heap.size w2 _ := ⟨HB.out, HB.out⟩
  refine wpAnyH_takeL (i := 14) (oi := _) (v := ?_) rfl (by kernel_rfl) (by kernel_rfl) (by kernel_rfl) (fun _ _ _ h => h) (Or.inl ⟨by rfl, ?_⟩) hHeld ?_
  rotate_left
  · (intro w' hSw; (try dsimp only at hSw); go_simp; try (with_reducible rfl))
  try simp only [Act.put, List.setIfInBounds_toArray, List.set_cons_zero, List.set_cons_succ]
  clear hHeld
  refine wpAnyH_done (by kernel_rfl) ?_ _
  clear HB
  go_wp2_with fail
  clear V0
  have FB : Hid (Fr B w ws1.drew) := Fr.of_below HB0.out (B1.out.trans (below_drewN _ ws1 1))
  have hb := below_drewN ws1.heap.size ws1 1
  replace HI := Lib.hid (HI.out.below hb)
  replace HE := Lib.hid (HE.out.below hb)
  replace HP := Lib.hid (HP.out.below hb)
  replace OQ := Lib.hid (OQ.out.below hb)
  replace OR := Lib.hid (OR.out.below hb)
  replace G1 := Lib.hid (G1.out.below hb G1.out.lt)
  replace G2 := Lib.hid (G2.out.below hb G2.out.lt)
  clear hb
  have HB : Hid (Fr B ws1 ws1.drew) := Fr.drew _ _
  refine wp_region_held_drew (S := fun w' => Fr B ws1.drew w') (by kernel_rfl) (Fr.refl _ _) (fun hHeld => ?_)
  refine wpAnyH_takeL (i := 0) (oi := _) (v := ?_) rfl (by kernel_rfl) (by kernel_rfl) (by kernel_rfl) (fun _ _ _ h => h) (Or.inl ⟨by rfl, ?_⟩) hHeld ?_
  rotate_left
  · (intro w' hSw; (try dsimp only at hSw); go_simp; try (with_reducible rfl))
  try simp only [Act.put, List.setIfInBounds_toArray, List.set_cons_zero, List.set_cons_succ]
  refine wpAnyH_takeL (i := 1) (oi := _) rfl (by kernel_rfl) (by kernel_rfl) (by kernel_rfl) (fun _ _ _ h => h) (yields_ldZ (by rfl) _ rfl (by rfl) (fun _ hb => G1.out.kp hb.2)) hHeld ?_
  try simp only [Act.put, List.setIfInBounds_toArray, List.set_cons_zero, List.set_cons_succ]
  refine wpAnyH_takeL (i := 2) (oi := _) (v := ?_) rfl (by kernel_rfl) (by kernel_rfl) (by kernel_rfl) (fun _ _ _ h => h) (Or.inl ⟨by rfl, ?_⟩) hHeld ?_
  rotate_left
  · (intro w' hSw; (try dsimp only at hSw); go_simp; try (with_reducible rfl))
  try simp only [Act.put, List.setIfInBounds_toArray, List.set_cons_zero, List.set_cons_succ]
  refine wpAnyH_takeL (i := 3) (oi := _) (v := ?_) rfl (by kernel_rfl) (by kernel_rfl) (by kernel_rfl) (fun _ _ _ h => h) (Or.inl ⟨by rfl, ?_⟩) hHeld ?_
  rotate_left
  · (intro w' hSw; (try dsimp only at hSw); go_simp; try (with_reducible rfl))
  try simp only [Act.put, List.setIfInBounds_toArray, List.set_cons_zero, List.set_cons_succ]
  refine wpAnyH_takeL (i := 4) (oi := _) (v := ?_) rfl (by kernel_rfl) (by kernel_rfl) (by kernel_rfl) (fun _ _ _ h => h) (Or.inl ⟨by rfl, ?_⟩) hHeld ?_
  rotate_left
  · (intro w' hSw; (try dsimp only at hSw); go_simp; try (with_reducible rfl))
  try simp only [Act.put, List.setIfInBounds_toArray, List.set_cons_zero, List.set_cons_succ]
  refine wpAnyH_ready (rs := [5]) (by kernel_rfl) (by simp) ?_
  refine AllReadyH.consL (o := _) rfl (fun K hK => ?_) AllReadyH.nil
  clear hHeld
  go_simp
  go_at_call 67
  refine Calls.mono (IH.out B b p d acc q _ _ _ HI.out HE.out HEB.out HP.out (OQ.out.mono (Nat.zero_le _)) Q0.out QB.out HL1.out) ?_
  rintro e w3 ⟨rfl, h1, h2⟩
  replace HI := Lib.hid h1
  replace HE := Lib.hid (HE.out.fr HEB.out h2.1)
  replace HP := Lib.hid (HP.out.kp h2.2)
  replace G2 := Lib.hid (G2.out.kp h2.2)
  replace OR := Lib.hid (OR.out.kp h2.2)
  replace FB := Lib.hid (FB.out.trans h2)
  have H2 := Lib.hid h2
  clear h1 h2
  refine hK.out _ _ H2.out (fun hHeld => ?_)
  clear hK K HB H2 hHeld
  try simp only [Act.put, List.setIfInBounds_toArray, List.set_cons_zero, List.set_cons_succ]
  refine wpAnyH_done (by kernel_rfl) ?_ _
  go_wp2_with fail
  clear G1 OQ
  replace FB := Lib.hid (FB.out.trans (Fr.drew B w3))
  have hb := below_drewN w3.heap.size w3 1
  replace HI := Lib.hid (HI.out.below hb)
  replace HE := Lib.hid (HE.out.below hb)
  replace HP := Lib.hid (HP.out.below hb)
  replace OR := Lib.hid (OR.out.below hb)
  replace G2 := Lib.hid (G2.out.below hb G2.out.lt)
  clear hb
  have HB : Hid (Fr B w3 w3.drew) := Fr.drew _ _
  refine wp_region_held_drew (S := fun w' => Fr B w3.drew w') (by kernel_rfl) (Fr.refl _ _) (fun hHeld => ?_)
  refine wpAnyH_takeL (i := 0) (oi := _) (v := ?_) rfl (by kernel_rfl) (by kernel_rfl) (by kernel_rfl) (fun _ _ _ h => h) (Or.inl ⟨by rfl, ?_⟩) hHeld ?_
  rotate_left
  · (intro w' hSw; (try dsimp only at hSw); go_simp; try (with_reducible rfl))
  try simp only [Act.put, List.setIfInBounds_toArray, List.set_cons_zero, List.set_cons_succ]
  refine wpAnyH_takeL (i := 1) (oi := _) rfl (by kernel_rfl) (by kernel_rfl) (by kernel_rfl) (fun _ _ _ h => h) (yields_ldZ (by rfl) _ rfl (by rfl) (fun _ hb => G2.out.kp hb.2)) hHeld ?_
  try simp only [Act.put, List.setIfInBounds_toArray, List.set_cons_zero, List.set_cons_succ]
  refine wpAnyH_takeL (i := 2) (oi := _) (v := ?_) rfl (by kernel_rfl) (by kernel_rfl) (by kernel_rfl) (fun _ _ _ h => h) (Or.inl ⟨by rfl, ?_⟩) hHeld ?_
  rotate_left
  · (intro w' hSw; (try dsimp only at hSw); go_simp; try (with_reducible rfl))
  try simp only [Act.put, List.setIfInBounds_toArray, List.set_cons_zero, List.set_cons_succ]
  refine wpAnyH_takeL (i := 3) (oi := _) (v := ?_) rfl (by kernel_rfl) (by kernel_rfl) (by kernel_rfl) (fun _ _ _ h => h) (Or.inl ⟨by rfl, ?_⟩) hHeld ?_
  rotate_left
  · (intro w' hSw; (try dsimp only at hSw); go_simp; try (with_reducible rfl))
  try simp only [Act.put, List.setIfInBounds_toArray, List.set_cons_zero, List.set_cons_succ]
  refine wpAnyH_takeL (i := 4) (oi := _) (v := ?_) rfl (by kernel_rfl) (by kernel_rfl) (by kernel_rfl) (fun _ _ _ h => h) (Or.inl ⟨by rfl, ?_⟩) hHeld ?_
  rotate_left
  · (intro w' hSw; (try dsimp only at hSw); go_simp; try (with_reducible rfl))
  try simp only [Act.put, List.setIfInBounds_toArray, List.set_cons_zero, List.set_cons_succ]
  refine wpAnyH_ready (rs := [5]) (by kernel_rfl) (by simp) ?_
  refine AllReadyH.consL (o := _) rfl (fun K hK => ?_) AllReadyH.nil
  clear hHeld
  go_simp
  go_at_call 67
  refine Calls.mono (IH.out B b p d (acc ++ wdig (18 * 2 ^ kk) q.natAbs) r _ _ _ HI.out HE.out HEB.out HP.out (OR.out.mono (Nat.zero_le _)) R0.out RB.out HL2.out) ?_
  rintro e w4 ⟨rfl, h1, h2⟩
  replace HI := Lib.hid h1
  replace HE := Lib.hid (HE.out.fr HEB.out h2.1)
  replace FB := Lib.hid (FB.out.trans h2)
  have H2 := Lib.hid h2
  clear h1 h2
  refine hK.out _ _ H2.out (fun hHeld => ?_)
  clear hK K HB H2 hHeld
  try simp only [Act.put, List.setIfInBounds_toArray, List.set_cons_zero, List.set_cons_succ]
  refine wpAnyH_done (by kernel_rfl) ?_ _
  go_wp2
  have FIN : Hid (Bld w4 B b (acc ++ wdig (18 * 2 ^ (kk + 1)) x.natAbs)) := by show Bld _ _ _ _; rw [HW.out]; exact HI.out
  go_end0
  exact ⟨rfl, FIN.out, FB.out⟩
theorem wd_any (kk : Nat) : WdAt kk := by
  induction kk with
  | zero =>
    intro B b p d acc x A c w hI hE hEB hP hX h0 hx hl
    exact wd_zero hI hE hEB hP hX h0 hx hl
  | succ kk ih => exact wd_succ kk ih
end Go.Proofs.YtebpoabflcngoaaGreatDoor

/-
  Contract: the digits of a long number.
-/
namespace Go.Proofs.YtebpoabflcngoaaGreatDoor
open Go.RowKit
set_option linter.unusedVariables false

theorem infoZ_some : ∃ i, Tryz.prog.info? 24 = some i := by
  have h := Tryz.sizeZ
  cases hq : Tryz.prog.info? 24 with
  | none => rw [hq] at h; cases h
  | some i => exact ⟨i, rfl⟩
theorem infoZ : ∃ i, Tryz.prog.info? 24 = some i ∧ i.zero = some (.agg #[.bool false, .slice none 0 0]) ∧ i.size = 2 ∧ i.bytes = 32 := by
  have h : (Tryz.prog.info? 24).map (fun i => (i.zero, i.size, i.bytes)) = some (some (.agg #[.bool false, .slice none 0 0]), 2, 32) := by kernel_rfl
  obtain ⟨i, hi⟩ := infoZ_some
  rw [hi] at h
  simp only [Option.map_some, Option.some.injEq, Prod.mk.injEq] at h
  exact ⟨i, hi, h.1, h.2.1, h.2.2⟩
/-- A row of powers that grows. -/
def Prow (w : World) (base : Nat) (v : Value) (n : Nat) : Prop := ∃ xs, w.ownsRow base 24 2 v n xs ∧ ∀ i, i < n → ∃ P k, xs[2 * i]? = some (.bool false) ∧ xs[2 * i + 1]? = some (.slice P (ofv (pten i)).length k) ∧ Own w 0 P k (ofv (pten i))
theorem Prow.below {w w' : World} {base n : Nat} {v : Value} (h : Prow w base v n) (hb : Below w.heap.size w w') : Prow w' base v n := by
  obtain ⟨xs, ⟨h1, h2⟩, h3⟩ := h
  refine ⟨xs, ⟨h1, ?_⟩, fun i hi => ?_⟩
  · rcases h2 with h2 | ⟨g, cap, cur, e1, e2, e3, e4⟩
    · exact .inl h2
    · exact .inr ⟨g, cap, cur, e1, e2, (hb.block g (lt_of_heap e3)).trans e3, e4⟩
  · obtain ⟨P, k, c1, c2, ho⟩ := h3 i hi
    exact ⟨P, k, c1, c2, ho.below hb⟩
theorem Prow.pows {w : World} {base n : Nat} {v : Value} (h : Prow w base v n) (hn : 0 < n) : ∃ b c, v = .slice (some ⟨b, 0, none⟩) n c ∧ base ≤ b ∧ Pows w b n c := by
  obtain ⟨xs, ⟨h1, h2⟩, h3⟩ := h
  rcases h2 with ⟨_, h2⟩ | ⟨g, cap, cur, e1, e2, e3, e4, e5, e6, e7⟩
  · omega
  · refine ⟨g, cap, e1, e2, e4, e5, cur, e3, fun i hi => ?_⟩
    obtain ⟨P, k, c1, c2, ho⟩ := h3 i hi
    have at_ : ∀ j, j < 2 * n → cur[j]? = xs[j]? := fun j hj => by
      rw [← e7, List.getElem?_take_of_lt (by omega), Array.getElem?_toList]
    exact ⟨P, k, (at_ _ (by omega)).trans c1, (at_ _ (by omega)).trans c2, ho⟩
theorem sq_above {v u : Nat} (hv : 0 < v) (h : (ofv u).length + 1 < 2 * (ofv v).length) : u < v * v := by
  have h1 : 0 < (ofv v).length := len_pos hv
  have h2 : pw ((ofv v).length - 1) ≤ v := pw_le_of_len (by omega)
  have h3 : pw ((ofv v).length - 1 + ((ofv v).length - 1)) ≤ v * v := by rw [pw_add]; exact Nat.mul_le_mul h2 h2
  have h4 := lt_pw_len u
  have := pw_le (show (ofv u).length ≤ (ofv v).length - 1 + ((ofv v).length - 1) by omega)
  omega
theorem pten_len (i : Nat) : 18 * 2 ^ i < 10 * (ofv (pten i)).length := by
  have h := lt_pw_len (pten i)
  have h2 : ∀ k, pw k ≤ 10 ^ (10 * k) := fun k => by
    rw [Nat.pow_mul]
    exact Nat.pow_le_pow_left (by decide) k
  have h3 := Nat.lt_of_lt_of_le h (h2 _)
  exact (Nat.pow_lt_pow_iff_right (by decide)).1 h3
theorem pten_two (i : Nat) : 2 ≤ (ofv (pten i)).length := by
  have h := pten_len i
  have : 1 ≤ 2 ^ i := Nat.one_le_pow _ _ (by decide)
  omega
/-- Powers as results. -/
theorem mulPten {A : Option Addr} {i c : Nat} {w : World} (h : Own w 0 A c (ofv (pten i))) (hl : (ofv (pten i)).length ≤ 35184372088000) :
    Calls Tryz.prog 66 #[.agg #[.bool false, .slice A (ofv (pten i)).length c], .agg #[.bool false, .slice A (ofv (pten i)).length c]] w fun e w' => ∃ R k, e = .returned (.agg #[.bool false, .slice R (ofv (pten (i + 1))).length k]) ∧ Own w' w.heap.size R k (ofv (pten (i + 1))) ∧ Below w.heap.size w w' := by
  have hz : Zin w false A (ofv (pten i)).length c ((pten i : Nat) : Int) := ⟨_, h.rd, rfl, by rw [val_ofv]; rfl⟩
  refine (mul_z hz hz (by omega) (z := ((pten (i + 1) : Nat) : Int)) (by rw [pten_succ]; simp)).mono ?_
  rintro e w' ⟨R, k, rfl, ho, hb⟩
  rw [Int.natAbs_natCast] at ho ⊢
  exact ⟨R, k, by rw [show decide (((pten (i + 1) : Nat) : Int) < 0) = false from by simp], ho, hb⟩
theorem fromPten (w : World) :
    Calls Tryz.prog 39 #[.int .i64 1000000000000000000] w fun e w' => ∃ R k, e = .returned (.agg #[.bool false, .slice R (ofv (pten 0)).length k]) ∧ Own w' w.heap.size R k (ofv (pten 0)) ∧ Below w.heap.size w w' := by
  refine (fromInt_z (v := 1000000000000000000) (z := ((pten 0 : Nat) : Int)) (by omega) rfl w).mono ?_
  rintro e w' ⟨R, k, rfl, ho, hb⟩
  rw [Int.natAbs_natCast] at ho ⊢
  exact ⟨R, k, by rw [show decide (((pten 0 : Nat) : Int) < 0) = false from by simp], ho, hb⟩
def sliceLen : Value → Nat
  | .slice _ n _ => n
  | _ => 0
theorem trimLeft_any {m l : List UInt8} (h : Lib.trimLeftB m 48 = l) (w : World) :
    Calls Tryz.prog 68 #[.string ⟨m.toArray⟩, .string ⟨#[48]⟩] w fun e w' => e = .returned (.string (txt l)) ∧ w = w' := by
  subst h
  refine (Tryz.strings_TrimLeft_one ⟨m.toArray⟩ 48 (by decide) w).mono ?_
  rintro e w' ⟨rfl, rfl⟩
  exact ⟨rfl, rfl⟩
theorem Prow.gr {w w' : World} {base n g n0 c0 : Nat} {v : Value} {s : Bool} {A : Option Addr} (h : Prow w base v n) (hz : Zb w g s A n0 c0) (hg : w.grownBy w' (some g)) (hl : g < base) : Prow w' base v n := by
  obtain ⟨xs, ⟨h1, h2⟩, h3⟩ := h
  refine ⟨xs, ⟨h1, ?_⟩, fun i hi => ?_⟩
  · rcases h2 with h2 | ⟨b, cap, cur, e1, e2, e3, e4⟩
    · exact .inl h2
    · exact .inr ⟨b, cap, cur, e1, e2, (hg.block b (lt_of_heap e3) (by simp; omega)).trans e3, e4⟩
  · obtain ⟨P, k, c1, c2, ho⟩ := h3 i hi
    exact ⟨P, k, c1, c2, ho.gr hz hg⟩
/-- What an append to a row of integers leaves. -/
def Kq (base : Nat) (w w' : World) : Prop := (∀ (k : Nat) (cs : Array Value) (t : TypeId) (fz : Nat × Nat), w.heap[k]? = some (.cells cs t fz) → (t ≠ 24 ∨ k < base) → w'.heap[k]? = some (.cells cs t fz)) ∧ Below base w w'
theorem Zb.kq {w w' : World} {g n c base : Nat} {s : Bool} {A : Option Addr} (h : Zb w g s A n c) (k : Kq base w w') (hl : g < base) : Zb w' g s A n c := k.1 _ _ _ _ h (.inr hl)
theorem Own.kq {w w' : World} {lo c base : Nat} {A : Option Addr} {xs : List Nat} (h : Own w lo A c xs) (k : Kq base w w') : Own w' lo A c xs := by
  obtain ⟨h0, h1, h2, h3⟩ := h
  refine ⟨h0, h1, h2, ?_⟩
  rcases h3 with h3 | ⟨b, o, cur, hA, hl, hr, hc⟩
  · exact .inl h3
  · exact .inr ⟨b, o, cur, hA, hl, k.1 _ _ _ _ hr (.inl (by decide)), hc⟩
theorem append_prow {ops : Array Oper} {rest : List Oper} {o : Oper} {a : Act} {Q : Exit → Act → World → Prop} {w : World} (hgd : o.guard = none) (s x : Operand)
    (ho : o.op = .call { callee := .builtin .append, args := #[s, x], argTypes := #[85, 85] }) {base n g k c : Nat} {v : Value} {P : Option Addr} (hs : a.eval s = v) (hP : Prow w base v n) (h0 : 0 < n)
    (hx : a.eval x = .slice (some ⟨g, 0, none⟩) 1 c) (hz : Zb w g false P (ofv (pten n)).length k) (hO : Own w 0 P k (ofv (pten n))) (hn : n ≤ 100) (hb : base ≤ w.heap.size)
    (h : ∀ v' w', Prow w' base v' (n + 1) → Kq base w w' → wpList Tryz.prog ops Q rest (a.put o.dst v') w') : wpList Tryz.prog ops Q (o :: rest) a w := by
  obtain ⟨i, hi, hz0, hs2, hb32⟩ := infoZ
  obtain ⟨xs, hown, hel⟩ := hP
  obtain ⟨z1, z2⟩ := hz.cells
  refine wpList_append_own w hgd s x 85 ho base 24 i _ 2 32 Tryz.underlying85 hi hz0 hs2 hb32 rfl (by decide) v n xs hs hown ⟨g, 0, none⟩ 1 c [.bool false, .slice P (ofv (pten n)).length k] hx rfl ?_ ?_ (by unfold maxLen; omega) (by omega) hb ?_
  · intro j u hj
    match j, hj with
    | 0, hj => simp at hj; subst hj; simpa [Addr.add] using z1
    | 1, hj => simp at hj; subst hj; simpa [Addr.add] using z2
  · intro u hu
    simp at hu
    rcases hu with rfl | rfl <;> rfl
  · intro v' w' hown' hgr _
    have hlx : xs.length = n * 2 := hown.1
    rcases hown.2 with ⟨_, e⟩ | ⟨b, cap, cur, rfl, hbb, hhb, hr⟩
    · omega
    · have kq : Kq base w w' := by
        refine ⟨fun q cs t fz hq ht => ?_, (Below.refl _ _).grown hgr hb (fun q hq => by simp [Value.ownBlock] at hq; omega)⟩
        refine (hgr.block q (lt_of_heap hq) (fun e => ?_)).trans hq
        simp only [Value.ownBlock, Option.some.injEq] at e
        subst e
        rcases ht with ht | ht
        · rw [hhb] at hq
          simp only [Option.some.injEq, Obj.cells.injEq] at hq
          exact ht hq.2.1.symm
        · omega
      refine h v' w' ⟨_, hown', fun j hj => ?_⟩ kq
      rcases Nat.lt_or_ge j n with hj | hj
      · obtain ⟨P', k', c1, c2, ho'⟩ := hel j hj
        refine ⟨P', k', ?_, ?_, ho'.kq kq⟩
        · rw [List.getElem?_append_left (by omega)]; exact c1
        · rw [List.getElem?_append_left (by omega)]; exact c2
      · obtain rfl : j = n := by omega
        refine ⟨P, k, ?_, ?_, hO.kq kq⟩
        · rw [List.getElem?_append_right (by omega), hlx, show 2 * j - j * 2 = 0 by omega]; rfl
        · rw [List.getElem?_append_right (by omega), hlx, show 2 * j + 1 - j * 2 = 1 by omega]; rfl
theorem prow_start {w : World} {base c : Nat} {P : Option Addr} (hb : base ≤ w.heap.size) (ho : Own w 0 P c (ofv (pten 0))) :
    Prow (w.alloc (.cells #[.bool false, .slice P (ofv (pten 0)).length c] 24)) base (.slice (some ⟨w.heap.size, 0, none⟩) 1 1) 1 := by
  refine ⟨[.bool false, .slice P (ofv (pten 0)).length c], ⟨rfl, .inr ⟨w.heap.size, 1, _, rfl, hb, heap_alloc_new w _, Nat.le_refl _, by unfold maxLen; omega, rfl, rfl⟩⟩, fun i hi => ?_⟩
  obtain rfl : i = 0 := by omega
  exact ⟨P, c, rfl, rfl, ho.below ((Below.refl _ _).alloc (Nat.le_refl _) _)⟩
set_option maxRecDepth 100000 in
set_option maxHeartbeats 16000000 in
theorem ld_any {x : Int} {A : Option Addr} {c : Nat} {w : World} (hX : Own w 0 A c (ofv x.natAbs)) (hx : 0 < x) (hl : (ofv x.natAbs).length ≤ 10000000000) (hE : Env w) {l : List UInt8} (hd : Lib.decDigits x.natAbs = l) :
    Calls Tryz.prog 33 #[.agg #[.bool (decide (x < 0)), .slice A (ofv x.natAbs).length c]] w fun e w' => e = .returned (.string (txt l)) ∧ Below w.heap.size w w' := by
  obtain ⟨B1, V0⟩ := start_nZ w (decide (x < 0)) A (ofv x.natAbs).length c
  have HX := Lib.hid (hX.below B1.out)
  have HE := Lib.hid (hE.below B1.out)
  have HL := Lib.hid hl
  have X0 := Lib.hid hx
  have HD := Lib.hid hd
  have hlx : ((ofv x.natAbs).length : Int) ≤ 10000000000 := by omega
  clear hX hl hE hx hd
  go_enter Tryz.func33, Tryz.ntmps33
  go_wp2_with fail
  refine (fromPten _).mono ?_
  rintro e w3 ⟨P0, c0, rfl, ho, hb⟩
  replace V0 := Lib.hid (V0.out.below hb V0.out.lt)
  replace HX := Lib.hid (HX.out.below hb)
  replace HE := Lib.hid (HE.out.below hb)
  replace B1 := Lib.hid (B1.out.trans (hb.mono B1.out.size))
  have LW : Hid (w.heap.size < w3.heap.size) := V0.out.lt
  have OP := Lib.hid (ho.mono (Nat.zero_le _))
  clear ho
  clear hb
  have hb : Below w3.heap.size w3 (w3.alloc (.cells #[.bool false, .slice P0 (ofv (pten 0)).length c0] 24)) := (Below.refl _ _).alloc (Nat.le_refl _) _
  replace V0 := Lib.hid (V0.out.below hb V0.out.lt)
  replace HX := Lib.hid (HX.out.below hb)
  replace HE := Lib.hid (HE.out.below hb)
  replace OP := Lib.hid (OP.out.below hb)
  replace B1 := Lib.hid (B1.out.trans (hb.mono B1.out.size))
  have V1 := Lib.hid (Zb.new w3 false P0 (ofv (pten 0)).length c0)
  clear hb
  have LE0 : Hid (1 < w3.heap.size + 1 ∧ 0 < w3.heap.size + 1) := by have h := HE.out.lt; simp only [World.size_alloc] at h; exact h
  have HP := Lib.hid (prow_start (w := (w3.alloc (.cells #[.bool false, .slice P0 (ofv (pten 0)).length c0] 24))) (base := w3.heap.size + 1) (by simp) OP.out)
  have hb : Below (w3.alloc (.cells #[.bool false, .slice P0 (ofv (pten 0)).length c0] 24)).heap.size (w3.alloc (.cells #[.bool false, .slice P0 (ofv (pten 0)).length c0] 24)) ((w3.alloc (.cells #[.bool false, .slice P0 (ofv (pten 0)).length c0] 24)).alloc (.cells #[.bool false, .slice P0 (ofv (pten 0)).length c0] 24)) := (Below.refl _ _).alloc (Nat.le_refl _) _
  replace V0 := Lib.hid (V0.out.below hb V0.out.lt)
  replace HX := Lib.hid (HX.out.below hb)
  replace HE := Lib.hid (HE.out.below hb)
  replace OP := Lib.hid (OP.out.below hb)
  replace V1 := Lib.hid (V1.out.below hb V1.out.lt)
  replace B1 := Lib.hid (B1.out.trans (hb.mono B1.out.size))
  clear hb
  have hsz : (w3.alloc (.cells #[.bool false, .slice P0 (ofv (pten 0)).length c0] 24)).heap.size = w3.heap.size + 1 := by simp
  rw [hsz] at HP
  clear hsz
  have LB : Hid (w3.heap.size + 1 ≤ ((w3.alloc (.cells #[.bool false, .slice P0 (ofv (pten 0)).length c0] 24)).alloc (.cells #[.bool false, .slice P0 (ofv (pten 0)).length c0] 24)).heap.size) := by show _ ≤ _; simp
  go_wp2
  generalize ((w3.alloc (.cells #[.bool false, .slice P0 (ofv (pten 0)).length c0] 24)).alloc (.cells #[.bool false, .slice P0 (ofv (pten 0)).length c0] 24)) = wl at *
  generalize hgg : w3.heap.size = gg at *
  clear hgg
  have LGG : Hid (w.heap.size < gg) := LW.out
  go_loopw [4] (fun s4 wr => ∃ (i : Nat) (P : Option Addr) (k : Nat), i ≤ 32 ∧ Hid (Prow wr (gg + 1) s4 (i + 1)) ∧ Hid (Zb wr w.heap.size (decide (x < 0)) A (ofv x.natAbs).length c) ∧ Hid (Zb wr gg false P (ofv (pten i)).length k) ∧ Hid (Own wr 0 P k (ofv (pten i))) ∧ Hid (Own wr 0 A c (ofv x.natAbs)) ∧ Hid (Below w.heap.size w wr) ∧ Hid (Env wr) ∧ Hid (gg + 1 ≤ wr.heap.size)) (fun s4 _ => 40 - sliceLen s4)
  case atStart => exact ⟨0, P0, c0, by omega, HP, V0, V1, OP, HX, B1, HE, LB⟩
  case round =>
    obtain ⟨i, P, k, hi, HP, V0, V1, OP, HX, B1, HE, LB⟩ := hrel
    obtain ⟨b, cp, rfl, hbb, hpw⟩ := HP.out.pows (by omega)
    have hpl : (ofv (pten i)).length ≤ 100000000000 := by
      have h1 := len_ten (18 * 2 ^ i)
      have h2 : 2 ^ i ≤ 2 ^ 32 := Nat.pow_le_pow_right (by decide) hi
      exact Nat.le_trans h1 (by omega)
    have hp2 := pten_two i
    have HPL : Hid ((ofv (pten i)).length ≤ 35184372088000) := Nat.le_trans hpl (by decide)
    have b1 : ((ofv (pten i)).length : Int) ≤ 100000000000 := by omega
    have b2 : 2 ≤ ((ofv (pten i)).length : Int) := by omega
    have b3 : 0 ≤ ((ofv x.natAbs).length : Int) := by omega
    have BB := Lib.hid hbb
    have PW := Lib.hid hpw
    by_cases hc : 2 * ((ofv (pten i)).length : Int) - 1 ≤ ((ofv x.natAbs).length : Int)
    · have hi2 : i + 1 ≤ 32 := by
        have h1 := pten_len i
        have := HL.out
        rcases Nat.lt_or_ge i 32 with h | h
        · omega
        · have h2 : 2 ^ 32 ≤ 2 ^ i := Nat.pow_le_pow_right (by decide) h
          omega
      have N100 : Hid (i + 1 ≤ 100) := by show _ ≤ _; omega
      clear hbb hpw hpl hp2 PW BB
      have pc0 := Lib.hid trivial
      go_wp2_with (first
        | (clear pc0; refine wpList_ldZm (by rfl) _ rfl (by rfl) V1.out ?_; have pc1 := Lib.hid trivial)
        | (clear pc1; refine wpList_ldZm (by rfl) _ rfl (by rfl) V0.out ?_; have pc2 := Lib.hid trivial)
        | (clear pc2; refine wpList_ldZ (by rfl) _ rfl (by rfl) V1.out ?_; have pc3 := Lib.hid trivial)
        | (clear pc3; refine wpList_ldZ (by rfl) _ rfl (by rfl) V1.out ?_; have pc4 := Lib.hid trivial)
        | (clear pc4; go_at_call 66; refine Calls.mono (mulPten OP.out HPL.out) ?_; rintro e w5 ⟨R, kk, rfl, ho, hb⟩; clear OP; replace V0 := Lib.hid (V0.out.below hb V0.out.lt); replace V1 := Lib.hid (V1.out.below hb V1.out.lt); replace HX := Lib.hid (HX.out.below hb); replace HE := Lib.hid (HE.out.below hb); replace HP := Lib.hid (HP.out.below hb); replace B1 := Lib.hid (B1.out.trans (hb.mono B1.out.size)); replace LB := Lib.hid (Nat.le_trans LB.out hb.size); have OP := Lib.hid (ho.mono (Nat.zero_le _)); clear ho hb; have pc5 := Lib.hid trivial)
        | (clear pc5; refine wpList_stZ (by rfl) _ _ rfl (by rfl) (by rfl) V1.out ?_; intro w6 hz hg; replace V0 := Lib.hid (V0.out.gr hg (by have := LGG.out; omega)); replace HX := Lib.hid (HX.out.gr V1.out hg); replace HE := Lib.hid (HE.out.gr V1.out hg); replace OP := Lib.hid (OP.out.gr V1.out hg); replace HP := Lib.hid (HP.out.gr V1.out hg (by omega)); replace B1 := Lib.hid (Below.gr B1.out (by have := LGG.out; omega) hg B1.out.size); replace LB := Lib.hid (Nat.le_trans LB.out hg.size); replace V1 := Lib.hid hz; clear hz hg; have pc6 := Lib.hid trivial)
        | (clear pc6; refine wpList_ldZ (by rfl) _ rfl (by rfl) V1.out ?_; have pc7 := Lib.hid trivial)
        | (clear pc7; at_builtin; refine append_prow rfl _ _ rfl rfl (HP.out.below ((Below.refl _ _).alloc (Nat.le_refl _) _)) (by omega) rfl (Zb.new w6 false R (ofv (pten (i + 1))).length kk) (OP.out.below ((Below.refl _ _).alloc (Nat.le_refl _) _)) N100.out (by have := LB.out; simp; omega) ?_; intro v' w7 hp hk; have hb : Below w6.heap.size w6 (w6.alloc (.cells #[.bool false, .slice R (ofv (pten (i + 1))).length kk] 24)) := (Below.refl _ _).alloc (Nat.le_refl _) _; replace V0 := Lib.hid ((V0.out.below hb V0.out.lt).kq hk (by have := LGG.out; omega)); replace V1 := Lib.hid ((V1.out.below hb V1.out.lt).kq hk (by omega)); replace HX := Lib.hid ((HX.out.below hb).kq hk); replace OP := Lib.hid ((OP.out.below hb).kq hk); replace HE := Lib.hid ((HE.out.below hb).fr LE0.out hk.2); replace B1 := Lib.hid ((B1.out.trans (hb.mono B1.out.size)).trans (hk.2.mono (by have := LGG.out; omega))); replace LB := Lib.hid (Nat.le_trans LB.out (Nat.le_trans hb.size hk.2.size)); replace HP := Lib.hid hp; clear hp hk hb; have pc8 := Lib.hid trivial))
      clear pc8
      go_roundw
      case rel => exact ⟨i + 1, _, _, by omega, HP, V0, V1, OP, HX, B1, HE, LB⟩
      case measure =>
        obtain ⟨b', cp', e', -, -⟩ := HP.out.pows (by omega)
        rw [e']
        show 40 - (i + 1 + 1) < 40 - (i + 1)
        omega
    · have hab : x.natAbs < pten (i + 1) := by
        rw [pten_succ]
        exact sq_above (pten_pos i) (by omega)
      have HAB := Lib.hid hab
      have HN : Hid (([] : List UInt8).length + 18 * 2 ^ (i + 1) ≤ 1000000000000) := by
        have h2 : 2 ^ (i + 1) ≤ 2 ^ 33 := Nat.pow_le_pow_right (by decide) (by omega)
        show 0 + _ ≤ _; omega
      have HT : Hid (Lib.trimLeftB (wdig (18 * 2 ^ (i + 1)) x.natAbs) 48 = l) := by
        have h1 := X0.out
        show _ = _
        rw [trim_wdig (nDigits_le hab (by have : 1 ≤ 2 ^ (i + 1) := Nat.one_le_pow _ _ (by decide); omega)) (by omega)]
        exact HD.out
      have X0' : Hid (0 ≤ x) := by have := X0.out; show _ ≤ _; omega
      clear hbb hpw hpl hp2 hab HP OP BB
      have EB : Hid (1 < wr.heap.size ∧ 0 < wr.heap.size) := HE.out.lt
      have BL : Hid (Bld (wr.alloc (.cells #[.pointer none, .slice none 0 0] 90)) wr.heap.size wr.heap.size []) := ⟨Lib.IsBuilderF.of (Lib.fresh_isBuilder _ _ wr), by simp⟩
      have LO : Hid (w.heap.size ≤ wr.heap.size) := B1.out.size
      have hb : Below wr.heap.size wr (wr.alloc (.cells #[.pointer none, .slice none 0 0] 90)) := (Below.refl _ _).alloc (Nat.le_refl _) _
      have V0' := Lib.hid (V0.out.below hb V0.out.lt)
      replace HX := Lib.hid (HX.out.below hb)
      replace HE := Lib.hid (HE.out.below hb)
      replace PW := Lib.hid (PW.out.below hb)
      replace B1 := Lib.hid (B1.out.trans (hb.mono B1.out.size))
      clear hb
      have pc0 := Lib.hid trivial
      go_wp2_with (first
        | (clear pc0; refine wpList_ldZm (by rfl) _ rfl (by rfl) V1.out ?_; have pc1 := Lib.hid trivial)
        | (clear pc1; refine wpList_ldZm (by rfl) _ rfl (by rfl) V0.out ?_; have pc2 := Lib.hid trivial)
        | (clear pc2; refine wpList_ldZ (by rfl) _ rfl (by rfl) V0'.out ?_; have pc3 := Lib.hid trivial)
        | (clear pc3; go_at_call 67; refine Calls.mono (wd_any (i + 1) wr.heap.size wr.heap.size b cp [] x A c _ BL.out HE.out EB.out PW.out HX.out X0'.out HAB.out HN.out) ?_; rintro e w5 ⟨rfl, h1, h2⟩; replace BL := Lib.hid h1; replace B1 := Lib.hid (B1.out.trans (h2.1.mono LO.out)); clear h1 h2; have pc4 := Lib.hid trivial)
        | (clear pc4; go_at_call 69; refine Calls.mono (Tryz.Builder_String_any_k _ _ _ _ BL.out.1 BL.out.2) ?_; rintro e w6 ⟨rfl, -, h2, -⟩; replace B1 := Lib.hid (B1.out.trans (h2.mono LO.out)); clear h2; have pc5 := Lib.hid trivial)
        | (clear pc5; go_at_call 68; refine Calls.mono (trimLeft_any HT.out _) ?_; rintro e w7 ⟨rfl, rfl⟩; have pc6 := Lib.hid trivial))
      clear pc6
      go_ret
      exact ⟨rfl, B1.out⟩
end Go.Proofs.YtebpoabflcngoaaGreatDoor

/-
  Contracts: the text of an integer, of a rational number.
-/
namespace Go.Proofs.YtebpoabflcngoaaGreatDoor
open Go.RowKit
set_option linter.unusedVariables false

/-- How many digits a number of so many limbs has. -/
def nDigits_len (v : Nat) : Prop := Lib.nDigits v ≤ 10 * (ofv v).length + 1
theorem nDigits_bound (v : Nat) : nDigits_len v := by
  have h := lt_pw_len v
  have h2 : ∀ k, pw k ≤ 10 ^ (10 * k) := fun k => by
    rw [Nat.pow_mul]
    exact Nat.pow_le_pow_left (by decide) k
  have h3 := Nat.lt_of_lt_of_le h (h2 _)
  exact nDigits_le (Nat.lt_of_lt_of_le h3 (Nat.pow_le_pow_right (by decide) (Nat.le_succ _))) (by omega)
set_option maxRecDepth 100000 in
set_option maxHeartbeats 16000000 in
theorem formatInt_any {s : Bool} {A : Option Addr} {n c : Nat} {x : Int} {w : World} (h : Zin w s A n c x) (hn : n ≤ 10000000000) (hE : Env w) {m : List UInt8} (hm : Lib.itoa x = m) :
    Calls Tryz.prog 9 #[.agg #[.bool s, .slice A n c]] w fun e w' => e = .returned (.string (txt m)) ∧ Below w.heap.size w w' := by
  obtain ⟨B1, V0⟩ := start_nZ w s A n c
  have HX := Lib.hid (h.below B1.out)
  have HE := Lib.hid (hE.below B1.out)
  have HM := Lib.hid hm
  by_cases hv : -9223372036854775808 ≤ x ∧ x ≤ 9223372036854775807
  · have HV := Lib.hid hv
    clear h hn hE hm hv
    go_enter Tryz.func9, Tryz.ntmps9
    go_wp2_with fail
    refine (value_yes HX.out HV.out).mono ?_
    rintro e w3 ⟨rfl, hb⟩
    replace V0 := Lib.hid (V0.out.below hb V0.out.lt)
    replace HX := Lib.hid (HX.out.below hb)
    replace HE := Lib.hid (HE.out.below hb)
    replace B1 := Lib.hid (B1.out.trans (hb.mono B1.out.size))
    clear hb
    go_wp2_with fail
    refine (itoa_any HV.out HM.out HE.out).mono ?_
    rintro e w4 ⟨rfl, hb⟩
    replace V0 := Lib.hid (V0.out.below hb V0.out.lt)
    replace HX := Lib.hid (HX.out.below hb)
    replace HE := Lib.hid (HE.out.below hb)
    replace B1 := Lib.hid (B1.out.trans (hb.mono B1.out.size))
    clear hb
    go_wp2
    go_ret
    exact ⟨rfl, B1.out⟩
  · have hv' : x < -9223372036854775808 ∨ 9223372036854775807 < x := by omega
    obtain ⟨p, hp⟩ : ∃ p, sg x = p := ⟨_, rfl⟩
    obtain ⟨z, hz⟩ : ∃ z, ((x.natAbs : Nat) : Int) = z := ⟨_, rfl⟩
    obtain ⟨l, hl⟩ : ∃ l, Lib.decDigits z.natAbs = l := ⟨_, rfl⟩
    have lx := h.len
    have HV := Lib.hid hv'
    have KP := Lib.hid hp
    have EZ := Lib.hid hz
    have HL := Lib.hid hl
    have Z0 : Hid (0 < z) := by show _ < _; omega
    have LZ : Hid ((ofv z.natAbs).length ≤ 10000000000) := by show _ ≤ _; rw [← hz, Int.natAbs_natCast]; omega
    have LN : Hid (n ≤ 70368744177664) := Nat.le_trans hn (by decide)
    have LL : Hid (l.length ≤ 4611686018427387904) := by
      show _ ≤ _
      have h1 := lt_pw_len z.natAbs
      have h2 : nDigits_len z.natAbs := nDigits_bound z.natAbs
      have h3 := LZ.out
      rw [← hl, Lib.decDigits_length]
      unfold nDigits_len at h2
      omega
    have HS : Hid ((if p < 0 then 45 :: l else l) = m) := by
      show _ = _
      have hzn : z.natAbs = x.natAbs := by omega
      rw [← hm, ← hl, hzn, ← hp]
      rcases sg_cases x with ⟨e, h1⟩ | ⟨e, h1⟩ | ⟨e, h1⟩ <;> rw [e]
      · rw [itoa_neg h1]; rfl
      · omega
      · rw [itoa_pos (by omega)]; rfl
    clear h hn hE hm hv hv' hp hz hl lx
    go_enter Tryz.func9, Tryz.ntmps9
    go_wp2_with fail
    refine (value_no HX.out HV.out).mono ?_
    rintro e w2 ⟨rfl, hb⟩
    replace V0 := Lib.hid (V0.out.below hb V0.out.lt)
    replace HX := Lib.hid (HX.out.below hb)
    replace HE := Lib.hid (HE.out.below hb)
    replace B1 := Lib.hid (B1.out.trans (hb.mono B1.out.size))
    clear hb
    go_wp2_with fail
    have HB : Hid (Below w2.heap.size w2 w2.drew) := below_drewN _ w2 1
    have hHeld := HB.out
    refine wp_region_held_split (S := fun w' => Below w2.heap.size w2 w') 6 (by kernel_rfl) (by kernel_rfl) ?_
    simp only [List.take_succ_cons, List.take_zero, List.drop_succ_cons, List.drop_zero]
    refine wpAnyH_takeL (i := 0) (oi := _) rfl (by kernel_rfl) (by kernel_rfl) (by kernel_rfl) (fun _ _ _ h => h) (yields_ldZ (by rfl) _ rfl (by rfl) (fun _ hb => V0.out.below hb V0.out.lt)) hHeld ?_
    try simp only [Act.put, List.setIfInBounds_toArray, List.set_cons_zero, List.set_cons_succ]
    refine wpAnyH_takeL (i := 2) (oi := _) rfl (by kernel_rfl) (by kernel_rfl) (by kernel_rfl) (fun _ _ _ h => h) (yields_ldZ (by rfl) _ rfl (by rfl) (fun _ hb => V0.out.below hb V0.out.lt)) hHeld ?_
    try simp only [Act.put, List.setIfInBounds_toArray, List.set_cons_zero, List.set_cons_succ]
    refine wpAnyH_rgb [(1, some 14), (3, some 16), (4, some 17), (5, some 18)] (isV (.string (txt m))) [(1, isV (.int .i64 p)), (3, isZ z w2.heap.size), (4, isV (.string (txt l)))] w2 (by kernel_rfl) (by kernel_rfl) (by decide) HB.out (fun _ h => h) (isV_good _) ⟨isV_good _, isZ_good _ _, isV_good _, trivial⟩ ?_ ?_
    · clear hHeld HB
      refine RgOps.consL (o := _) (ds := []) rfl rfl (by kernel_rfl) (fun vals wr hbr hC hdep K hK => ?_) ?_
      · have BB := Lib.hid hbr
        clear hdep
        clear hbr hC
        simp only [Upd2, Act.put, List.setIfInBounds_toArray, List.set_cons_zero, List.set_cons_succ] at hK ⊢
        go_simp
        go_at_call 32
        refine Calls.mono (sign_k (z := x) (r := p) (HX.out.below BB.out) KP.out) ?_
        rintro e wq ⟨rfl, hb⟩
        exact hK.out _ _ (LeavesB.behind hb ⟨rfl, rfl⟩ rfl)
      refine RgOps.consL (o := _) (ds := [1]) rfl rfl (by kernel_rfl) (fun vals wr hbr hC hdep K hK => ?_) ?_
      · have BB := Lib.hid hbr
        obtain ⟨⟨e1, -⟩, -⟩ := hdep
        clear hbr hC
        simp only [e1, Upd2, Act.put, List.setIfInBounds_toArray, List.set_cons_zero, List.set_cons_succ] at hK ⊢
        clear e1
        go_simp
        go_at_call 34
        refine Calls.mono (abs_z (x := x) (z := z) (HX.out.below BB.out) LN.out EZ.out) ?_
        rintro e wq ⟨R, cR, rfl, ho, hb⟩
        exact hK.out _ _ (LeavesB.giveZ BB.out.size ho hb)
      refine RgOps.consL (o := _) (ds := [3]) rfl rfl (by kernel_rfl) (fun vals wr hbr hC hdep K hK => ?_) ?_
      · have BB := Lib.hid hbr
        obtain ⟨⟨P3, c3, e3, o3⟩, -⟩ := hdep
        clear hbr hC
        simp only [e3, Upd2, Act.put, List.setIfInBounds_toArray, List.set_cons_zero, List.set_cons_succ] at hK ⊢
        clear e3
        go_simp
        go_at_call 33
        refine Calls.mono (ld_any (o3.mono (Nat.zero_le _)) Z0.out LZ.out (HE.out.below BB.out) HL.out) ?_
        rintro e wq ⟨rfl, hb⟩
        exact hK.out _ _ (LeavesB.behind hb ⟨rfl, rfl⟩ rfl)
      refine RgOps.consL (o := _) (ds := [1, 4]) rfl rfl (by kernel_rfl) (fun vals wr hbr hC hdep K hK => ?_) RgOps.nil
      · have BB := Lib.hid hbr
        obtain ⟨⟨e1, -⟩, ⟨e4, -⟩, -⟩ := hdep
        clear hbr hC
        simp only [e1, e4, Upd2, Act.put, List.setIfInBounds_toArray, List.set_cons_zero, List.set_cons_succ] at hK ⊢
        clear e1 e4
        go_simp
        go_at_call 31
        refine Calls.mono (withSign_any LL.out HS.out _) ?_
        rintro e wq ⟨rfl, rfl⟩
        exact hK.out _ _ (LeavesB.same ⟨rfl, rfl⟩ rfl)
    clear hHeld HB
    intro vals wr hb hdep hD
    obtain ⟨⟨e1, -⟩, ⟨P3, c3, e3, o3⟩, ⟨e4, -⟩, ⟨e5, -⟩, -⟩ := hdep
    simp only [Upd2, e1, e3, e4, e5, Act.put, List.setIfInBounds_toArray, List.set_cons_zero, List.set_cons_succ]
    clear e1 e3 e4 e5
    clear hD vals
    replace V0 := Lib.hid (V0.out.below hb V0.out.lt)
    replace HX := Lib.hid (HX.out.below hb)
    replace HE := Lib.hid (HE.out.below hb)
    replace B1 := Lib.hid (B1.out.trans (hb.mono B1.out.size))
    clear hb
    show wpList _ _ _ _ _ _
    go_wp2
    go_ret
    exact ⟨rfl, B1.out⟩
end Go.Proofs.YtebpoabflcngoaaGreatDoor

/-
  What a row's list gives the walks on package numtext: the table of powers of ten, and a number in a variable of the library.
-/
namespace Go.Proofs.YtebpoabflcngoaaGreatDoor
open Go.ChangeShapes Go.WideShapes Go.ChangeAt Go.RowKit
set_option linter.unusedVariables false

theorem tabIs_of_reads {P : Program} {W : World} {name : String} {k : IntKind} {zs : List Int} {g : Nat} {t e : TypeId} {n : Nat}
    (hg : P.globalNamed name = some g) (hty : (P.globals[g]?).map (·.type) = some t) (ht : P.underlying t = some (.array n e)) (he : P.underlying e = some (.int k)) (hce : P.cellsOf e = 1) (hct : P.cellsOf t = n)
    (h : Lib.VarReads P W name (Lib.tabData k zs)) : Lib.TabIs P W name k zs := by
  obtain ⟨g', t', cs, fuel, p, hg', ht', hvar, hd⟩ := h
  obtain rfl := Option.some.inj (hg.symm.trans hg')
  obtain rfl := Option.some.inj (hty.symm.trans ht')
  unfold Lib.TabIs
  rw [hvar, ← Lib.cells_of_tab ht he hce hct hd]
theorem env_of {W : World} (h : laidMetH Tryz.prog Rows.numtextNativeUptoRow.laid W) (hs : W.ShapedOpen Tryz.prog) : Env W := by
  refine ⟨tabIs_of_reads (g := 1) (t := 159) (e := 81) (n := 20) (by kernel_rfl) (by kernel_rfl) Tryz.underlying159 Tryz.underlying81 (by kernel_rfl) (by kernel_rfl) ?_, ?_⟩
  · exact Lib.laidMet.reads h (.tail _ (.tail _ (.head _)))
  · exact cell_of_shapedOpen_int (P := Tryz.prog) (g := 0) (t := 3) (zero := #[.int .i64 0]) hs (of_decide_eq_true (by kernel_rfl)) (by kernel_rfl) rfl (by kernel_rfl) (by kernel_rfl) Tryz.underlying3
end Go.Proofs.YtebpoabflcngoaaGreatDoor
