/-
  Math, Mem, Sig, Cmp, Bitm, Win, Add, Eq, Sub.
-/
import Derived.Test.YtfacndibfkamgaaGreatRows
import Derived.WalkKit
import Derived.WalkLawsBesides
import Derived.WalkSpells
import Derived.Laws.OwnMore
import Derived.Laws.AppendOwnNone
import Derived.Laws.CopyOwn
import Derived.Deep.Draws
import Derived.Laws.Rows
import Derived.Below
import Derived.Lib.Hide
import Derived.Outline
import Derived.BigQuiet
import Derived.Deep.QuietTactic
import Derived.Laws.Bits64
import Derived.Laws.BitsAllLaws
/-
  Plain facts about lists of limbs in base 2^32: the value of a list, the canonical list of a value. No program is read here.
-/
namespace Go.Proofs.YtfacndibfkamgaaGreat

/-- Limb i of a list, 0 beyond its end. -/
def lim (xs : List Nat) (i : Nat) : Nat := xs.getD i 0
/-- The value of a list of limbs. -/
def val : List Nat → Nat
  | [] => 0
  | x :: xs => x + 4294967296 * val xs
/-- Every limb is less than 2^32. -/
def okl (xs : List Nat) : Prop := ∀ x ∈ xs, x < 4294967296
/-- The weight of limb k. -/
def pw (k : Nat) : Nat := 4294967296 ^ k
/-- The canonical list of a value. -/
def ofv (v : Nat) : List Nat := if v = 0 then [] else v % 4294967296 :: ofv (v / 4294967296)
termination_by v
decreasing_by omega

theorem pw_zero : pw 0 = 1 := rfl
theorem pw_succ (k : Nat) : pw (k + 1) = 4294967296 * pw k := by unfold pw; rw [Nat.pow_succ, Nat.mul_comm]
theorem pw_pos (k : Nat) : 0 < pw k := Nat.pow_pos (by omega)
theorem pw_add (a b : Nat) : pw (a + b) = pw a * pw b := by unfold pw; rw [Nat.pow_add]
theorem pw_le {a b : Nat} (h : a ≤ b) : pw a ≤ pw b := Nat.pow_le_pow_right (by omega) h

theorem lim_nil (i : Nat) : lim [] i = 0 := by simp [lim]
theorem lim_cons_zero (x : Nat) (xs : List Nat) : lim (x :: xs) 0 = x := by simp [lim]
theorem lim_cons_succ (x : Nat) (xs : List Nat) (i : Nat) : lim (x :: xs) (i + 1) = lim xs i := by simp [lim]
theorem lim_lt {xs : List Nat} (h : okl xs) (i : Nat) : lim xs i < 4294967296 := by
  unfold lim
  rw [List.getD_eq_getElem?_getD]
  rcases Nat.lt_or_ge i xs.length with hi | hi
  · rw [List.getElem?_eq_getElem hi]
    exact h _ (List.getElem_mem hi)
  · rw [List.getElem?_eq_none hi]; simp
theorem lim_out {xs : List Nat} {i : Nat} (h : xs.length ≤ i) : lim xs i = 0 := by
  unfold lim
  rw [List.getD_eq_getElem?_getD, List.getElem?_eq_none h]; rfl
theorem lim_take {xs : List Nat} {m i : Nat} (h : i < m) : lim (xs.take m) i = lim xs i := by
  unfold lim
  rw [List.getD_eq_getElem?_getD, List.getD_eq_getElem?_getD, List.getElem?_take_of_lt h]
theorem lim_drop (xs : List Nat) (m i : Nat) : lim (xs.drop m) i = lim xs (m + i) := by
  unfold lim
  rw [List.getD_eq_getElem?_getD, List.getD_eq_getElem?_getD, List.getElem?_drop]
theorem lim_append_left {xs ys : List Nat} {i : Nat} (h : i < xs.length) : lim (xs ++ ys) i = lim xs i := by
  unfold lim
  rw [List.getD_eq_getElem?_getD, List.getD_eq_getElem?_getD, List.getElem?_append_left h]
theorem lim_append_right {xs ys : List Nat} {i : Nat} (h : xs.length ≤ i) : lim (xs ++ ys) i = lim ys (i - xs.length) := by
  unfold lim
  rw [List.getD_eq_getElem?_getD, List.getD_eq_getElem?_getD, List.getElem?_append_right h]
theorem lim_set_same {xs : List Nat} {i v : Nat} (h : i < xs.length) : lim (xs.set i v) i = v := by
  unfold lim
  rw [List.getD_eq_getElem?_getD, List.getElem?_set_self h]; rfl
theorem lim_set_other {xs : List Nat} {i j v : Nat} (h : i ≠ j) : lim (xs.set i v) j = lim xs j := by
  unfold lim
  rw [List.getD_eq_getElem?_getD, List.getD_eq_getElem?_getD, List.getElem?_set_ne h]
theorem lim_replicate (n i : Nat) : lim (List.replicate n 0) i = 0 := by
  unfold lim
  rw [List.getD_eq_getElem?_getD, List.getElem?_replicate]
  split <;> rfl
theorem lim_ext {xs ys : List Nat} (hl : xs.length = ys.length) (h : ∀ i, i < xs.length → lim xs i = lim ys i) : xs = ys := by
  apply List.ext_getElem hl
  intro i h1 h2
  have := h i h1
  unfold lim at this
  rw [List.getD_eq_getElem?_getD, List.getD_eq_getElem?_getD, List.getElem?_eq_getElem h1, List.getElem?_eq_getElem h2] at this
  simpa using this

theorem okl_nil : okl [] := by intro x h; cases h
theorem okl_of_lim {xs : List Nat} (h : ∀ i, i < xs.length → lim xs i < 4294967296) : okl xs := by
  intro x hx
  obtain ⟨i, hi, rfl⟩ := List.getElem_of_mem hx
  have := h i hi
  unfold lim at this
  rw [List.getD_eq_getElem?_getD, List.getElem?_eq_getElem hi] at this
  simpa using this
theorem okl_take {xs : List Nat} (h : okl xs) (m : Nat) : okl (xs.take m) := fun x hx => h x (List.mem_of_mem_take hx)
theorem okl_drop {xs : List Nat} (h : okl xs) (m : Nat) : okl (xs.drop m) := fun x hx => h x (List.mem_of_mem_drop hx)
theorem okl_append {xs ys : List Nat} (h : okl xs) (k : okl ys) : okl (xs ++ ys) := by
  intro x hx
  rcases List.mem_append.1 hx with hx | hx
  · exact h x hx
  · exact k x hx
theorem okl_set {xs : List Nat} (h : okl xs) {v : Nat} (hv : v < 4294967296) (i : Nat) : okl (xs.set i v) := by
  intro x hx
  rcases List.mem_or_eq_of_mem_set hx with hx | hx
  · exact h x hx
  · omega
theorem okl_replicate (n : Nat) : okl (List.replicate n 0) := by
  intro x hx
  have := (List.mem_replicate.1 hx).2
  omega

theorem val_nil : val [] = 0 := rfl
theorem val_cons (x : Nat) (xs : List Nat) : val (x :: xs) = x + 4294967296 * val xs := rfl
theorem val_append (xs ys : List Nat) : val (xs ++ ys) = val xs + pw xs.length * val ys := by
  induction xs with
  | nil => simp [val, pw_zero]
  | cons x xs ih =>
    rw [List.cons_append, val_cons, val_cons, ih, List.length_cons, pw_succ, Nat.mul_add, Nat.mul_assoc]; omega
theorem val_replicate (n : Nat) : val (List.replicate n 0) = 0 := by
  induction n with
  | zero => rfl
  | succ n ih => rw [List.replicate_succ, val_cons, ih]
theorem val_lt {xs : List Nat} (h : okl xs) : val xs < pw xs.length := by
  induction xs with
  | nil => simp [val, pw_zero]
  | cons x xs ih =>
    have h1 := ih (fun y hy => h y (List.mem_cons_of_mem _ hy))
    have h2 := h x (List.mem_cons_self ..)
    rw [val_cons, List.length_cons, pw_succ]; omega
theorem take_succ_lim {xs : List Nat} {k : Nat} (h : k < xs.length) : xs.take (k + 1) = xs.take k ++ [lim xs k] := by
  rw [List.take_succ_eq_append_getElem h]
  unfold lim
  rw [List.getD_eq_getElem?_getD, List.getElem?_eq_getElem h]; rfl
theorem val_take_succ {xs : List Nat} {k : Nat} (h : k < xs.length) : val (xs.take (k + 1)) = val (xs.take k) + lim xs k * pw k := by
  rw [take_succ_lim h, val_append, List.length_take, Nat.min_eq_left (by omega)]
  simp [val, Nat.mul_comm]
/-- Beyond the end too. -/
theorem val_take_succ' (xs : List Nat) (k : Nat) : val (xs.take (k + 1)) = val (xs.take k) + lim xs k * pw k := by
  rcases Nat.lt_or_ge k xs.length with h | h
  · exact val_take_succ h
  · rw [lim_out h, List.take_of_length_le (by omega), List.take_of_length_le h]; omega
theorem val_take_le (xs : List Nat) (k : Nat) : val (xs.take k) ≤ val xs := by
  have := val_append (xs.take k) (xs.drop k)
  rw [List.take_append_drop] at this
  omega
theorem val_split (xs : List Nat) (k : Nat) (h : k ≤ xs.length) : val xs = val (xs.take k) + pw k * val (xs.drop k) := by
  have := val_append (xs.take k) (xs.drop k)
  rwa [List.take_append_drop, List.length_take, Nat.min_eq_left h] at this
theorem take_set_ge {xs : List Nat} {i k v : Nat} (h : k ≤ i) : (xs.set i v).take k = xs.take k := List.take_set_of_le h
theorem val_take_set {xs : List Nat} {k v : Nat} (h : k < xs.length) : val ((xs.set k v).take (k + 1)) = val (xs.take k) + v * pw k := by
  rw [val_take_succ (by simpa using h), take_set_ge (Nat.le_refl _), lim_set_same h]

theorem ofv_zero : ofv 0 = [] := by rw [ofv]; simp
theorem ofv_pos {v : Nat} (h : v ≠ 0) : ofv v = v % 4294967296 :: ofv (v / 4294967296) := by rw [ofv]; simp [h]
theorem okl_ofv (v : Nat) : okl (ofv v) := by
  induction v using Nat.strongRecOn with
  | ind v ih =>
    by_cases h : v = 0
    · rw [h, ofv_zero]; exact okl_nil
    · rw [ofv_pos h]
      intro x hx
      rcases List.mem_cons.1 hx with rfl | hx
      · omega
      · exact ih (v / 4294967296) (by omega) x hx
theorem val_ofv (v : Nat) : val (ofv v) = v := by
  induction v using Nat.strongRecOn with
  | ind v ih =>
    by_cases h : v = 0
    · rw [h, ofv_zero]; rfl
    · rw [ofv_pos h, val_cons, ih (v / 4294967296) (by omega)]; omega
theorem ofv_inj {u v : Nat} (h : ofv u = ofv v) : u = v := by rw [← val_ofv u, h, val_ofv]
theorem ofv_eq_nil {v : Nat} : ofv v = [] ↔ v = 0 := ⟨fun h => by rw [← val_ofv v, h]; rfl, fun h => by rw [h, ofv_zero]⟩

/-- A list whose last limb is not 0 is the canonical list of its value. -/
theorem ofv_val_of {xs : List Nat} (h : okl xs) (hl : xs = [] ∨ lim xs (xs.length - 1) ≠ 0) : ofv (val xs) = xs := by
  induction xs with
  | nil => exact ofv_zero
  | cons x xs ih =>
    have hx := h x (List.mem_cons_self ..)
    have hxs : okl xs := fun y hy => h y (List.mem_cons_of_mem _ hy)
    by_cases hn : xs = []
    · subst hn
      have : x ≠ 0 := by
        rcases hl with hl | hl
        · cases hl
        · simpa [lim] using hl
      rw [val_cons, val_nil, ofv_pos (by omega)]
      have e1 : (x + 4294967296 * 0) % 4294967296 = x := by omega
      have e2 : (x + 4294967296 * 0) / 4294967296 = 0 := by omega
      rw [e1, e2, ofv_zero]
    · have hlen : 0 < xs.length := List.length_pos_iff.2 hn
      have hl' : lim xs (xs.length - 1) ≠ 0 := by
        rcases hl with hl | hl
        · cases hl
        · rw [List.length_cons] at hl
          have e : xs.length + 1 - 1 = (xs.length - 1) + 1 := by omega
          rw [e, lim_cons_succ] at hl
          exact hl
      have hv := ih hxs (.inr hl')
      have hpos : val xs ≠ 0 := by
        intro e
        rw [e, ofv_zero] at hv
        exact hn hv.symm
      rw [val_cons, ofv_pos (by omega)]
      have e1 : (x + 4294967296 * val xs) % 4294967296 = x := by omega
      have e2 : (x + 4294967296 * val xs) / 4294967296 = val xs := by omega
      rw [e1, e2, hv]
theorem val_take_of_zeros {xs : List Nat} {m : Nat} (hz : ∀ i, m ≤ i → i < xs.length → lim xs i = 0) : val (xs.take m) = val xs := by
  rcases Nat.lt_or_ge xs.length m with h | h
  · rw [List.take_of_length_le (by omega)]
  · have hd : xs.drop m = List.replicate (xs.length - m) 0 := by
      apply lim_ext
      · simp
      · intro i hi
        rw [List.length_drop] at hi
        rw [lim_drop, lim_replicate]
        exact hz _ (by omega) (by omega)
    have := val_split xs m h
    rw [hd, val_replicate] at this
    omega
/-- What is below the zeros at the end. -/
theorem take_eq_ofv {xs : List Nat} {m : Nat} (h : okl xs) (hm : m ≤ xs.length) (hz : ∀ i, m ≤ i → i < xs.length → lim xs i = 0) (hl : m = 0 ∨ lim xs (m - 1) ≠ 0) :
    xs.take m = ofv (val xs) := by
  rw [← val_take_of_zeros hz]
  symm
  apply ofv_val_of (okl_take h m)
  rcases Nat.eq_zero_or_pos m with h0 | h0
  · left; rw [h0]; simp
  · right
    rw [List.length_take, Nat.min_eq_left hm, lim_take (by omega)]
    rcases hl with hl | hl
    · omega
    · exact hl
theorem len_ofv_le_of_lt {v k : Nat} (h : v < pw k) : (ofv v).length ≤ k := by
  induction k generalizing v with
  | zero =>
    rw [pw_zero] at h
    have : v = 0 := by omega
    rw [this, ofv_zero]; simp
  | succ k ih =>
    by_cases hv : v = 0
    · rw [hv, ofv_zero]; simp
    · rw [ofv_pos hv, List.length_cons]
      rw [pw_succ] at h
      have := ih (v := v / 4294967296) (by omega)
      omega
theorem len_ofv_le {xs : List Nat} (h : okl xs) : (ofv (val xs)).length ≤ xs.length := len_ofv_le_of_lt (val_lt h)
theorem lt_pw_len (v : Nat) : v < pw (ofv v).length := by
  have := val_lt (okl_ofv v)
  rwa [val_ofv] at this
/-- The last limb of a canonical list is not 0. -/
theorem ofv_last {v : Nat} (h : v ≠ 0) : lim (ofv v) ((ofv v).length - 1) ≠ 0 := by
  induction v using Nat.strongRecOn with
  | ind v ih =>
    rw [ofv_pos h, List.length_cons]
    by_cases hq : v / 4294967296 = 0
    · rw [hq, ofv_zero]
      simp [lim]; omega
    · have h1 := ih (v / 4294967296) (by omega) hq
      have hlen : 0 < (ofv (v / 4294967296)).length := List.length_pos_iff.2 (fun e => hq (ofv_eq_nil.1 e))
      have e : (ofv (v / 4294967296)).length + 1 - 1 = ((ofv (v / 4294967296)).length - 1) + 1 := by omega
      rw [e, lim_cons_succ]
      exact h1
theorem pw_le_of_len {v k : Nat} (h : k < (ofv v).length) : pw k ≤ v := by
  rcases Nat.lt_or_ge v (pw k) with h1 | h1
  · have := len_ofv_le_of_lt h1; omega
  · exact h1
theorem lt_of_len_lt {u v : Nat} (h : (ofv u).length < (ofv v).length) : u < v := by
  have h1 := lt_pw_len u
  have h2 := pw_le_of_len h
  omega
theorem take_len_ofv {xs : List Nat} (h : okl xs) : xs.take (ofv (val xs)).length = ofv (val xs) := by
  have key : ∀ m, m ≤ xs.length → (∀ i, m ≤ i → i < xs.length → lim xs i = 0) → ∃ k, k ≤ m ∧ (∀ i, k ≤ i → i < xs.length → lim xs i = 0) ∧ (k = 0 ∨ lim xs (k - 1) ≠ 0) := by
    intro m
    induction m with
    | zero => intro _ hz; exact ⟨0, Nat.le_refl _, hz, .inl rfl⟩
    | succ m ih =>
      intro hm hz
      by_cases h0 : lim xs m = 0
      · obtain ⟨k, hk, hz', hl⟩ := ih (by omega) (fun i hi hi' => by
          by_cases e : i = m
          · rw [e]; exact h0
          · exact hz i (by omega) hi')
        exact ⟨k, by omega, hz', hl⟩
      · exact ⟨m + 1, Nat.le_refl _, hz, .inr (by simpa using h0)⟩
  obtain ⟨k, hk, hz, hl⟩ := key xs.length (Nat.le_refl _) (fun i h1 h2 => by omega)
  have e := take_eq_ofv h hk hz hl
  have el : (ofv (val xs)).length = k := by rw [← e, List.length_take, Nat.min_eq_left hk]
  rw [el]; exact e
theorem lim_ofv_val {xs : List Nat} (h : okl xs) (i : Nat) : lim (ofv (val xs)) i = lim xs i := by
  rcases Nat.lt_or_ge i (ofv (val xs)).length with hi | hi
  · rw [← take_len_ofv h, lim_take hi]
  · rw [lim_out hi]
    rcases Nat.lt_or_ge i xs.length with h2 | h2
    · have hs := val_split xs (ofv (val xs)).length (len_ofv_le h)
      rw [take_len_ofv h, val_ofv] at hs
      have h0 : val (xs.drop (ofv (val xs)).length) = 0 := by
        have := pw_pos (ofv (val xs)).length
        rcases Nat.eq_zero_or_pos (val (xs.drop (ofv (val xs)).length)) with e | e
        · exact e
        · have := Nat.mul_pos this e; omega
      have hall : ∀ (l : List Nat) (j : Nat), val l = 0 → lim l j = 0 := by
        intro l
        induction l with
        | nil => intro j _; exact lim_nil j
        | cons y l ih =>
          intro j hv
          rw [val_cons] at hv
          match j with
          | 0 => rw [lim_cons_zero]; omega
          | j + 1 => rw [lim_cons_succ]; exact ih j (by omega)
      have := hall _ (i - (ofv (val xs)).length) h0
      rw [lim_drop] at this
      rw [← this]; congr 1; omega
    · rw [lim_out h2]
/-- Two canonical lists of one length are compared from the most significant limb. -/
theorem val_lt_of_top {xs ys : List Nat} (hx : okl xs) {i : Nat} (hi : i < xs.length) (hl : xs.length = ys.length)
    (heq : ∀ j, i < j → j < xs.length → lim xs j = lim ys j) (hlt : lim xs i < lim ys i) : val xs < val ys := by
  have sx := val_split xs (i + 1) (by omega)
  have sy := val_split ys (i + 1) (by omega)
  have hd : xs.drop (i + 1) = ys.drop (i + 1) := by
    apply lim_ext
    · simp [hl]
    · intro j hj
      rw [List.length_drop] at hj
      rw [lim_drop, lim_drop]
      exact heq _ (by omega) (by omega)
  rw [val_take_succ hi] at sx
  rw [val_take_succ (by omega), ← hd] at sy
  have b := val_lt (okl_take hx i)
  rw [List.length_take, Nat.min_eq_left (by omega)] at b
  have m := Nat.mul_le_mul_right (pw i) (show lim xs i + 1 ≤ lim ys i from hlt)
  rw [Nat.add_mul, Nat.one_mul] at m
  omega

theorem or_low {a b i : Nat} (ha : a < 2 ^ i) : a ||| 2 ^ i * b = a + 2 ^ i * b := by
  rw [Nat.or_comm, ← Nat.two_pow_add_eq_or_of_lt ha]; omega
theorem or_low32 {a b : Nat} (ha : a < 4294967296) : a ||| b * 4294967296 = a + 4294967296 * b := by
  rw [Nat.mul_comm b]; exact or_low (i := 32) ha
end Go.Proofs.YtfacndibfkamgaaGreat

/-
  Slices of limbs in memory: a slice that reads as a list ('Rd'), a block of the call's own that is known whole ('Row'), a slice of such a block ('Own').
-/
namespace Go.Proofs.YtfacndibfkamgaaGreat
open Go.RowKit

/-- The value of a limb. -/
def lv (x : Nat) : Value := .int .u32 (x : Int)
/-- Block g is the row zs of limbs, none of it frozen. -/
def Row (w : World) (g : Nat) (zs : List Nat) : Prop := w.heap[g]? = some (.cells (zs.map lv).toArray 118 (0, 0))
/-- The slice (A, length of xs, cap) reads as the list xs. -/
def Rd (w : World) (A : Option Addr) (cap : Nat) (xs : List Nat) : Prop :=
  okl xs ∧ xs.length ≤ cap ∧ cap ≤ 9223372036854775807 ∧
  (cap = 0 ∨ ∃ b o, A = some ⟨b, o, none⟩ ∧ b < w.heap.size ∧ ∀ i, i < xs.length → w.cell? ⟨b, o + i, none⟩ = some (.int .u32 ((lim xs i : Nat) : Int)))
/-- The slice (A, length of xs, cap) lies in a row of the call's own, from block lo on, and reads as the list xs. -/
def Own (w : World) (lo : Nat) (A : Option Addr) (cap : Nat) (xs : List Nat) : Prop :=
  okl xs ∧ xs.length ≤ cap ∧ cap ≤ 9223372036854775807 ∧
  (cap = 0 ∨ ∃ b o cur, A = some ⟨b, o, none⟩ ∧ lo ≤ b ∧ w.heap[b]? = some (.cells cur 118 (0, 0)) ∧ ∀ i, i < xs.length → cur[o + i]? = some (lv (lim xs i)))

section
variable {w w' : World} {g lo cap : Nat} {A : Option Addr} {xs zs : List Nat}

theorem Row.lt (h : Row w g zs) : g < w.heap.size := by
  rcases Nat.lt_or_ge g w.heap.size with hlt | hge
  · exact hlt
  · unfold Row at h; rw [Array.getElem?_eq_none hge] at h; cases h
theorem Row.cell (h : Row w g zs) {i : Nat} (hi : i < zs.length) : w.cell? ⟨g, i, none⟩ = some (.int .u32 ((lim zs i : Nat) : Int)) := by
  rw [cell_of_row w g i _ _ (0, 0) h]
  unfold lim
  rw [List.getD_eq_getElem?_getD, List.getElem?_eq_getElem hi]
  simp [lv, hi]
theorem Row.frozen (h : Row w g zs) (i : Nat) : w.frozen? ⟨g, i, none⟩ = false := by
  unfold Row at h
  simp [World.frozen?, h]
theorem Row.below {B : Nat} (h : Row w g zs) (hb : Below B w w') (hg : g < B) : Row w' g zs := (hb.block g hg).trans h
theorem Row.grown {row : Option Nat} (h : Row w g zs) (hb : w.grownBy w' row) (hg : some g ≠ row) : Row w' g zs := (hb.block g h.lt hg).trans h
theorem Row.alloc (h : Row w g zs) (o : Obj) : Row (w.alloc o) g zs := (Below.heap_alloc w o g h.lt).trans h
theorem Row.drewN (h : Row w g zs) (n : Nat) : Row (w.drewN n) g zs := h
theorem Row.set_ (h : Row w g zs) (i x : Nat) : Row (w.setCell ⟨g, i, none⟩ (.int .u32 (x : Int))) g (zs.set i x) := by
  unfold Row at h ⊢
  rw [heap_setCell_same w g i _ _ _ h]
  simp [lv, List.map_set]
theorem Row.far (h : Row w g zs) {p : Addr} (hp : g ≠ p.block) (u : Value) : Row (w.setCell p u) g zs := (Below.heap_setCell w p u g hp).trans h
theorem Row.of_own {base n c : Nat} {cs : List Value} (h : w.ownsRow base 118 1 (.slice (some ⟨g, 0, none⟩) n c) n cs) (hc : c = n) (hz : cs = zs.map lv) : Row w g zs := by
  subst hc hz
  rcases h.2 with ⟨h', _⟩ | ⟨g', cap', cur, h', _, hg, _, _, hs, htake⟩
  · simp at h'
  · simp only [Value.slice.injEq, Option.some.injEq, Addr.mk.injEq, and_true, true_and] at h'
    obtain ⟨rfl, rfl⟩ := h'
    unfold Row
    rw [hg]
    have e : cur.toList = zs.map lv := by rw [← htake, List.take_of_length_le]; rw [Array.length_toList, hs]; exact Nat.le_refl _
    rw [← e]

theorem Rd.len (h : Rd w A cap xs) : xs.length ≤ cap := h.2.1
theorem Rd.capLe (h : Rd w A cap xs) : cap ≤ 9223372036854775807 := h.2.2.1
theorem Rd.ok (h : Rd w A cap xs) : okl xs := h.1
/-- Where a limb is read. -/
theorem Rd.at_ (h : Rd w A cap xs) {k : Nat} (hk : k < xs.length) : ∃ b o, A = some ⟨b, o, none⟩ ∧ b < w.heap.size ∧ ∀ i, i < xs.length → w.cell? ⟨b, o + i, none⟩ = some (.int .u32 ((lim xs i : Nat) : Int)) := by
  rcases h.2.2.2 with h0 | h0
  · have := h.len; omega
  · exact h0
theorem Rd.take (h : Rd w A cap xs) (m : Nat) : Rd w A cap (xs.take m) := by
  obtain ⟨h1, h2, h3, h4⟩ := h
  refine ⟨okl_take h1 m, by rw [List.length_take]; omega, h3, ?_⟩
  rcases h4 with h4 | ⟨b, o, hA, hb, hc⟩
  · exact .inl h4
  · refine .inr ⟨b, o, hA, hb, fun i hi => ?_⟩
    rw [List.length_take] at hi
    rw [lim_take (by omega)]
    exact hc i (by omega)
theorem Rd.sig (h : Rd w A cap xs) : Rd w A cap (ofv (val xs)) := by
  rw [← take_len_ofv h.ok]; exact h.take _
theorem Rd.keep {B : Nat} (h : Rd w A cap xs) (hB : w.heap.size ≤ B) (hb : Below B w w') : Rd w' A cap xs := by
  obtain ⟨h1, h2, h3, h4⟩ := h
  refine ⟨h1, h2, h3, ?_⟩
  rcases h4 with h4 | ⟨b, o, hA, hbl, hc⟩
  · exact .inl h4
  · exact .inr ⟨b, o, hA, by have := hb.size; omega, fun i hi => (hb.cell (p := ⟨b, o + i, none⟩) (by show b < B; omega)).trans (hc i hi)⟩
theorem Rd.below (h : Rd w A cap xs) (hb : Below w.heap.size w w') : Rd w' A cap xs := h.keep (Nat.le_refl _) hb
theorem Rd.grown {row : Option Nat} (h : Rd w A cap xs) (hg : w.grownBy w' row) (hr : ∀ b o, 0 < cap → A = some ⟨b, o, none⟩ → some b ≠ row) : Rd w' A cap xs := by
  obtain ⟨h1, h2, h3, h4⟩ := h
  refine ⟨h1, h2, h3, ?_⟩
  rcases Nat.eq_zero_or_pos cap with h0 | h0
  · exact .inl h0
  rcases h4 with h4 | ⟨b, o, hA, hbl, hc⟩
  · exact .inl h4
  · exact .inr ⟨b, o, hA, by have := hg.size; omega, fun i hi => (World.cell?_of_block (a := ⟨b, o + i, none⟩) (hg.block b hbl (hr b o h0 hA))).trans (hc i hi)⟩
theorem Rd.drop {b o m : Nat} (h : Rd w (some ⟨b, o, none⟩) cap xs) (hm : m ≤ xs.length) : Rd w (some ⟨b, o + m, none⟩) (cap - m) (xs.drop m) := by
  obtain ⟨h1, h2, h3, h4⟩ := h
  refine ⟨okl_drop h1 m, by rw [List.length_drop]; omega, by omega, ?_⟩
  rcases h4 with h4 | ⟨b', o', hA, hbl, hc⟩
  · left; omega
  · simp at hA
    obtain ⟨rfl, rfl⟩ := hA
    refine .inr ⟨b, o + m, rfl, hbl, fun i hi => ?_⟩
    rw [List.length_drop] at hi
    rw [lim_drop, Nat.add_assoc]
    exact hc (m + i) (by omega)
/-- Where it lies. -/
theorem Rd.old (h : Rd w A cap xs) : ∀ b o, 0 < cap → A = some ⟨b, o, none⟩ → b < w.heap.size := by
  intro b o h0 hA
  rcases h.2.2.2 with h4 | ⟨b2, o2, hA2, hbl, _⟩
  · omega
  · rw [hA] at hA2
    simp at hA2
    omega
theorem Rd.nil (w : World) (A : Option Addr) : Rd w A 0 [] := ⟨okl_nil, Nat.le_refl _, by omega, .inl rfl⟩

theorem lt_of_heap {w : World} {b : Nat} {x : Obj} (h : w.heap[b]? = some x) : b < w.heap.size := by
  rcases Nat.lt_or_ge b w.heap.size with hlt | hge
  · exact hlt
  · rw [Array.getElem?_eq_none hge] at h; cases h
theorem Own.rd (h : Own w lo A cap xs) : Rd w A cap xs := by
  obtain ⟨h0, h1, h2, h3⟩ := h
  refine ⟨h0, h1, h2, ?_⟩
  rcases h3 with h3 | ⟨b, o, cur, hA, hl, hr, hc⟩
  · exact .inl h3
  · refine .inr ⟨b, o, hA, lt_of_heap hr, fun i hi => ?_⟩
    rw [cell_of_row w b (o + i) _ _ (0, 0) hr, hc i hi]; rfl
theorem Own.below (h : Own w lo A cap xs) (hb : Below w.heap.size w w') : Own w' lo A cap xs := by
  obtain ⟨h0, h1, h2, h3⟩ := h
  refine ⟨h0, h1, h2, ?_⟩
  rcases h3 with h3 | ⟨b, o, cur, hA, hl, hr, hc⟩
  · exact .inl h3
  · exact .inr ⟨b, o, cur, hA, hl, (hb.block b (lt_of_heap hr)).trans hr, hc⟩
theorem Own.mono {lo' : Nat} (h : Own w lo A cap xs) (hl : lo' ≤ lo) : Own w lo' A cap xs := by
  obtain ⟨h0, h1, h2, h3⟩ := h
  refine ⟨h0, h1, h2, ?_⟩
  rcases h3 with h3 | ⟨b, o, cur, hA, hl', r⟩
  · exact .inl h3
  · exact .inr ⟨b, o, cur, hA, by omega, r⟩
theorem Own.take (h : Own w lo A cap xs) (m : Nat) : Own w lo A cap (xs.take m) := by
  obtain ⟨h0, h1, h2, h3⟩ := h
  refine ⟨okl_take h0 m, by rw [List.length_take]; omega, h2, ?_⟩
  rcases h3 with h3 | ⟨b, o, cur, hA, hl', hr, hc⟩
  · exact .inl h3
  · refine .inr ⟨b, o, cur, hA, hl', hr, fun i hi => ?_⟩
    rw [List.length_take] at hi
    rw [lim_take (by omega)]
    exact hc i (by omega)
theorem Own.sig (h : Own w lo A cap xs) : Own w lo A cap (ofv (val xs)) := by
  rw [← take_len_ofv h.1]; exact h.take _
/-- A part of a row. -/
theorem Own.part {o : Nat} (h : Row w g zs) (hk : okl xs) (hl : lo ≤ g) (hm : xs.length ≤ cap) (hc : cap ≤ 9223372036854775807) (hx : ∀ i, i < xs.length → o + i < zs.length ∧ lim zs (o + i) = lim xs i) :
    Own w lo (some ⟨g, o, none⟩) cap xs := by
  refine ⟨hk, hm, hc, .inr ⟨g, o, _, rfl, hl, h, fun i hi => ?_⟩⟩
  obtain ⟨h1, h2⟩ := hx i hi
  rw [← h2]
  unfold lim
  rw [List.getD_eq_getElem?_getD, List.getElem?_eq_getElem h1]
  simp [h1]
/-- A whole row. -/
theorem Own.of_row (h : Row w g zs) (hk : okl zs) (hl : lo ≤ g) (hm : zs.length ≤ 9223372036854775807) : Own w lo (some ⟨g, 0, none⟩) zs.length zs :=
  Own.part h hk hl (Nat.le_refl _) hm (fun i hi => by rw [Nat.zero_add]; exact ⟨hi, rfl⟩)
theorem Own.nil (w : World) (lo : Nat) (A : Option Addr) : Own w lo A 0 [] := ⟨okl_nil, Nat.le_refl _, by omega, .inl rfl⟩
/-- What append leaves. -/
theorem Own.of_owns {base n : Nat} {v : Value} (h : w.ownsRow base 118 1 v n (xs.map lv)) (hk : okl xs) : ∃ R c, v = .slice R n c ∧ xs.length = n ∧ Own w base R c xs := by
  have hlen : xs.length = n := by have := h.1; simpa using this
  rcases h.2 with ⟨hv, hn⟩ | ⟨g, c, cur, hv, hb, hg, hnc, hc, hs, ht⟩
  · subst hn
    obtain rfl : xs = [] := List.eq_nil_of_length_eq_zero hlen
    exact ⟨none, 0, hv, rfl, Own.nil _ _ _⟩
  · refine ⟨_, c, hv, hlen, hk, by omega, hc, .inr ⟨g, 0, cur, rfl, hb, hg, fun i hi => ?_⟩⟩
    have e : cur.toList[i]? = (xs.map lv)[i]? := by rw [← ht, List.getElem?_take_of_lt (by omega)]
    rw [Nat.zero_add, ← Array.getElem?_toList, e, List.getElem?_map, List.getElem?_eq_getElem hi]
    unfold lim
    rw [List.getD_eq_getElem?_getD, List.getElem?_eq_getElem hi]; rfl
end

theorem below_drewN (B : Nat) (w : World) (n : Nat) : Below B w (w.drewN n) := ⟨rfl, rfl, rfl, Nat.le_refl _, fun _ _ => rfl⟩
theorem below_q {w w' : World} (h : ∃ n, w' = w.drewN n) : Below w.heap.size w w' := by
  obtain ⟨n, rfl⟩ := h; exact below_drewN _ _ _
/-- A row of the call's own was written: seen from blocks below it. -/
theorem below_of_grown {w w' : World} {g B : Nat} (h : w.grownBy w' (some g)) (hB : B ≤ g) (hB' : B ≤ w.heap.size) : Below B w w' :=
  (Below.refl _ _).grown h hB' (fun k hk => by cases hk; exact hB)
theorem grown_trans {w w1 w2 : World} {row : Option Nat} (h : w.grownBy w1 row) (k : w1.grownBy w2 row) : w.grownBy w2 row :=
  ⟨k.os.trans h.os, k.tape.trans h.tape, k.output.trans h.output, Nat.le_trans h.size k.size, fun i hi hne => (k.block i (Nat.lt_of_lt_of_le hi h.size) hne).trans (h.block i hi hne)⟩
theorem grown_set (w : World) (g o : Nat) (u : Value) : w.grownBy (w.setCell ⟨g, o, none⟩ u) (some g) :=
  ⟨rfl, rfl, rfl, by simp [World.setCell], fun k _ hne => Below.heap_setCell _ _ _ _ (fun e => hne (by rw [e]))⟩
theorem grown_below {w w' : World} {g : Nat} (h : Below w.heap.size w w') : w.grownBy w' (some g) := ⟨h.os, h.tape, h.output, h.size, fun k hk _ => h.block k hk⟩

theorem Tryz.info118 : (Tryz.prog.info? 118).map (fun i => (i.zero, i.size, i.bytes)) = some (some (.int .u32 0), 1, 4) := by kernel_rfl

/-- 'make' of a row of limbs, n of them. -/
theorem make_row {w : World} {ops : Array Oper} {rest : List Oper} {o : Oper} {a : Act} {Q : Exit → Act → World → Prop}
    (hg : o.guard = none) (l c : Operand) (hop : o.op = Op.makeSlice 25 l c) (L C : Int) (n : Nat) (hl : a.eval l = .int .i64 L) (hc : a.eval c = .int .i64 C) (hL : L = (n : Int)) (hC : C = (n : Int)) (hn : n ≤ 70368744177664)
    (hK : ∀ w', Row w' w.heap.size (List.replicate n 0) → Below w.heap.size w w' → wpList Tryz.prog ops Q rest (a.put o.dst (.slice (some ⟨w.heap.size, 0, none⟩) n n)) w') :
    wpList Tryz.prog ops Q (o :: rest) a w := by
  obtain ⟨i0, hi, hz0, hz1, hz2⟩ := info_parts Tryz.info118
  refine wpList_make_full w hg l c 25 hop w.heap.size 118 i0 (.int .u32 0) 1 Tryz.underlying25 hi hz0 hz1 .i64 .i64 L C n hl hc hL hC (by rw [hz2]; omega) (by unfold maxLen; omega) (Nat.le_refl _) ?_
  intro w' hown hgrow
  refine hK w' (Row.of_own hown rfl ?_) ((Below.refl _ _).grown hgrow (Nat.le_refl _) (fun k h => by cases h))
  have e : (Value.int .u32 0).cells = #[.int .u32 0] := rfl
  rw [e, Nat.mul_one, toList_madeCells_one, List.map_replicate]
  rfl

theorem ones_lv (xs : List Nat) : ∀ u ∈ xs.map lv, u.oneCell' = true := by
  intro u hu
  obtain ⟨_, _, rfl⟩ := List.mem_map.1 hu
  rfl
theorem get_lv {xs : List Nat} {j : Nat} {u : Value} (h : (xs.map lv)[j]? = some u) : j < xs.length ∧ u = lv (lim xs j) := by
  have hj : j < xs.length := by
    rcases Nat.lt_or_ge j xs.length with hj | hj
    · exact hj
    · rw [List.getElem?_eq_none (by simpa using hj)] at h; cases h
  refine ⟨hj, ?_⟩
  rw [List.getElem?_map, List.getElem?_eq_getElem hj] at h
  unfold lim
  rw [List.getD_eq_getElem?_getD, List.getElem?_eq_getElem hj]
  simpa using h.symm
theorem add_addr (b o j : Nat) : (⟨b, o, none⟩ : Addr).add j = ⟨b, o + j, none⟩ := by unfold Addr.add; split <;> simp_all

/-- 'append' of a list that is read, to a row of the call's own. -/
theorem append_rd {w : World} {ops : Array Oper} {rest : List Oper} {o : Oper} {a : Act} {Q : Exit → Act → World → Prop} (hgd : o.guard = none) (s x : Operand)
    (ho : o.op = .call { callee := .builtin .append, args := #[s, x], argTypes := #[25, 25] }) (base : Nat) (v : Value) (n : Nat) (xs : List Nat) (hs : a.eval s = v) (hown : w.ownsRow base 118 1 v n (xs.map lv))
    (A : Option Addr) (m c : Nat) (ys : List Nat) (hx : a.eval x = .slice A m c) (hr : Rd w A c ys) (hm : ys.length = m) (hb : n + m ≤ 35184372088832) (hbase : base ≤ w.heap.size)
    (hK : ∀ v' w', w'.ownsRow base 118 1 v' (n + m) ((xs ++ ys).map lv) → w.grownBy w' v.ownBlock → wpList Tryz.prog ops Q rest (a.put o.dst v') w') :
    wpList Tryz.prog ops Q (o :: rest) a w := by
  obtain ⟨i0, hi, hz0, hz1, hz2⟩ := info_parts Tryz.info118
  have own : ∀ ad, A = some ad → (∀ j u, (ys.map lv)[j]? = some u → w.cell? (ad.add j) = some u) → wpList Tryz.prog ops Q (o :: rest) a w := by
    intro ad hA hc
    subst hA
    refine wpList_append_own w hgd s x 25 ho base 118 i0 (.int .u32 0) 1 4 Tryz.underlying25 hi hz0 hz1 hz2 rfl (by decide) v n (xs.map lv) hs hown ad m c (ys.map lv) hx (by simpa using hm) hc (ones_lv ys) (by unfold maxLen; omega) (by omega) hbase ?_
    intro v' w1 hown' hgrow _
    rw [← List.map_append] at hown'
    exact hK v' w1 hown' hgrow
  rcases hr.2.2.2 with h0 | ⟨b, off, hA, hbl, hc⟩
  · subst h0
    have hl := hr.len
    obtain rfl : ys = [] := List.eq_nil_of_length_eq_zero (by omega)
    obtain rfl : m = 0 := by simpa using hm.symm
    match A, own with
    | none, _ =>
      refine wpList_append_own_none hgd s x 25 ho base 118 i0 1 Tryz.underlying25 hi v n (xs.map lv) hs hown hx ?_
      exact hK v w (by simpa using hown) (World.grownBy.refl w _)
    | some ad, own => exact own ad rfl (fun j u hu => by simp at hu)
  · refine own _ hA fun j u hu => ?_
    obtain ⟨hj, rfl⟩ := get_lv hu
    rw [add_addr]
    exact hc j hj

/-- 'append' of a list that is read, to a whole row of the call's own that is full: where Go's next capacity takes at most 2^48 bytes. -/
theorem append_full {w : World} {ops : Array Oper} {rest : List Oper} {o : Oper} {a : Act} {Q : Exit → Act → World → Prop} (hgd : o.guard = none) (s x : Operand)
    (ho : o.op = .call { callee := .builtin .append, args := #[s, x], argTypes := #[25, 25] }) (base g n : Nat) (xs : List Nat) (hs : a.eval s = .slice (some ⟨g, 0, none⟩) n n) (hrow : Row w g xs) (hok : okl xs) (hxn : xs.length = n) (hbg : base ≤ g)
    (A : Option Addr) (m c : Nat) (ys : List Nat) (hx : a.eval x = .slice A m c) (hr : Rd w A c ys) (hm : ys.length = m) (hn : n ≤ 1048576) (hb : n + m ≤ 70368744177664) (hfit : 0 < m → Builtin.nextslicecap (n + m) n * 4 ≤ 281474976710656)
    (hK : ∀ R c' w', Own w' base R c' (xs ++ ys) → Below base w w' → wpList Tryz.prog ops Q rest (a.put o.dst (.slice R (n + m) c')) w') :
    wpList Tryz.prog ops Q (o :: rest) a w := by
  have hbase : base ≤ w.heap.size := by have := hrow.lt; omega
  have hoks : okl (xs ++ ys) := okl_append hok hr.ok
  rcases Nat.eq_zero_or_pos m with h0 | h0
  · subst h0
    have hown : w.ownsRow base 118 1 (.slice (some ⟨g, 0, none⟩) n n) n (xs.map lv) := by
      refine ⟨by simpa using hxn, .inr ⟨g, n, _, rfl, hbg, hrow, Nat.le_refl _, by unfold maxLen; omega, by simpa using hxn, ?_⟩⟩
      rw [List.take_of_length_le (by simp; omega)]
    refine append_rd hgd s x ho base _ n xs hs hown A 0 c ys hx hr hm (by omega) hbase ?_
    intro v' w' hown' hgrow
    obtain ⟨R, c', rfl, _, hO⟩ := Own.of_owns hown' hoks
    exact hK R c' w' hO ((Below.refl _ _).grown hgrow hbase (fun k hk => by cases hk; exact hbg))
  · obtain ⟨i0, hi, hz0, hz1, hz2⟩ := info_parts Tryz.info118
    obtain ⟨b, off, rfl, hbl, hc⟩ := hr.at_ (k := 0) (by omega)
    have hrun := run_append_grow (P := Tryz.prog) w 25 o.type 118 i0 (.int .u32 0) Tryz.underlying25 hi hz0 ⟨g, 0, none⟩ n n (xs.map lv) (by rw [hz1]; simp [hxn]) (fun j u hu => by
        obtain ⟨hj, rfl⟩ := get_lv hu
        rw [add_addr, Nat.zero_add]
        exact hrow.cell hj) ⟨b, off, none⟩ m c (ys.map lv) (by rw [hz1]; simp [hm]) (fun j u hu => by
        obtain ⟨hj, rfl⟩ := get_lv hu
        rw [add_addr]
        exact hc j hj) (by omega) (by omega) (by rw [hz2]; exact hfit h0)
    have hge := grownCap_ge w (n + m) n 118
    have hle := grownCap_le_maxLen w (n + m) n 118 (by unfold maxLen; omega)
    unfold maxLen at hle
    refine wpList_plain hgd fun K hKK => ?_
    unfold Oper.wp execOp
    simp only [ho, resolve, invoke, builtin, Sem.run_bind, Sem.run_pure, Result.andThen_ok, List.map_toArray, List.map_cons, List.map_nil, hs, hx, hrun]
    refine hKK _ _ (hK _ _ _ ⟨hoks, by rw [List.length_append]; omega, by omega, .inr ⟨w.heap.size, 0, _, rfl, hbase, heap_alloc_new w.drew _, fun i hi' => ?_⟩⟩ ((Below.refl _ _).drew.alloc hbase _))
    rw [Nat.zero_add, Array.getElem?_append_left (by simp [hxn, hm]; rw [List.length_append, hxn, hm] at hi'; omega), List.append_toArray, ← List.map_append, List.getElem?_toArray, List.getElem?_map, List.getElem?_eq_getElem hi']
    unfold lim
    rw [List.getD_eq_getElem?_getD, List.getElem?_eq_getElem hi']; rfl

theorem Tryz.size118 : (Tryz.prog.info? 118).map (·.size) = some 1 := by kernel_rfl
/-- 'copy' of a list that is read, into a part of a row. -/
theorem copy_row {w : World} {ops : Array Oper} {rest : List Oper} {o : Oper} {a : Act} {Q : Exit → Act → World → Prop} (hgd : o.guard = none) (d s : Operand)
    (ho : o.op = .call { callee := .builtin .copy, args := #[d, s], argTypes := #[25, 25] }) (g off dLen dCap : Nat) (hd : a.eval d = .slice (some ⟨g, off, none⟩) dLen dCap)
    (zs : List Nat) (hrow : Row w g zs) (hfit : off + dLen ≤ zs.length)
    (A : Option Addr) (n c : Nat) (ys : List Nat) (hs : a.eval s = .slice A n c) (hr : Rd w A c ys) (hn : ys.length = n) (hle : n ≤ dLen)
    (hK : ∀ w', Row w' g (zs.take off ++ (ys ++ zs.drop (off + ys.length))) → w.grownBy w' (some g) → wpList Tryz.prog ops Q rest (a.put o.dst (goInt n)) w') : wpList Tryz.prog ops Q (o :: rest) a w := by
  have hmin : Nat.min n dLen = n := Nat.min_eq_left hle
  by_cases h0 : n = 0
  · subst h0
    obtain rfl : ys = [] := List.eq_nil_of_length_eq_zero hn
    refine wpList_copy_nothing hgd d s 25 25 ho 118 Tryz.underlying25 Tryz.size118 _ _ _ _ _ _ hd hs hmin ?_
    exact hK w (by simpa using hrow) (World.grownBy.refl w _)
  · obtain ⟨b, o', rfl, hb, hc⟩ := hr.at_ (k := 0) (by omega)
    refine wpList_copy_own hgd d s 25 25 ho 118 Tryz.underlying25 Tryz.size118 g off dLen dCap _ n c hd hs _ 118 hrow (ys.map lv) (by rw [List.length_map, hmin, hn]) (fun j u hu => ?_) (by simp; omega) (ones_lv ys) ?_
    · obtain ⟨hj, rfl⟩ := get_lv hu
      rw [add_addr]
      exact hc j hj
    · rw [List.length_map, hn]
      refine hK _ ?_ ⟨rfl, rfl, rfl, by simp [World.setRow], fun k _ hne => setRow_other w g k _ (fun e => hne (by rw [e]))⟩
      have := setRow_heap w g _ ((zs.map lv).take off ++ (ys.map lv ++ (zs.map lv).drop (off + n))).toArray _ _ hrow
      unfold Row
      rw [hn]
      simpa [List.map_append, List.map_take, List.map_drop] using this

/-- The address of a cut from the start. -/
theorem cut0 (A : Option Addr) (cap : Nat) (h : cap = 0 ∨ ∃ b o, A = some ⟨b, o, none⟩) : (if cap = 0 then A else A.map (·.add 0)) = A := by
  rcases h with h | ⟨b, o, rfl⟩
  · rw [if_pos h]
  · split
    · rfl
    · simp [Addr.add]
theorem Rd.addr {w : World} {A : Option Addr} {cap : Nat} {xs : List Nat} (h : Rd w A cap xs) : cap = 0 ∨ ∃ b o, A = some ⟨b, o, none⟩ := by
  rcases h.2.2.2 with h | ⟨b, o, h, _⟩
  · exact .inl h
  · exact .inr ⟨b, o, h⟩
theorem ret_slice {A B : Option Addr} {n m c d : Nat} (h : A = B) (hn : n = m) (hc : c = d) : Ending.returned (.slice A n c) = Ending.returned (.slice B m d) := by rw [h, hn, hc]
theorem ret_int {k : IntKind} {a b : Int} (h : a = b) : Ending.returned (.int k a) = Ending.returned (.int k b) := by rw [h]
end Go.Proofs.YtfacndibfkamgaaGreat

/-
  Contracts of natural.significant, natural.limbAt and natural.order.
-/
namespace Go.Proofs.YtfacndibfkamgaaGreat
open Go.RowKit
set_option linter.unusedVariables false

theorem limbAt_in (A : Option Addr) (cap : Nat) (xs : List Nat) (w : World) (h : Rd w A cap xs) (i : Nat) (hi : i < xs.length) :
    Calls Tryz.prog 149 #[.slice A xs.length cap, .int .i64 i] w fun e w' => e = .returned (.int .u64 ((lim xs i : Nat) : Int)) ∧ w = w' := by
  obtain ⟨b, o, rfl, _, hc⟩ := h.at_ hi
  have c1 := hc i hi
  have l1 := lim_lt h.ok i
  have hl := h.len
  have hm := h.capLe
  clear hc h
  go_enter Tryz.func149, Tryz.ntmps149
  go_wp2
  go_ret
  exact ⟨rfl, rfl⟩
theorem limbAt_out (A : Option Addr) (cap : Nat) (xs : List Nat) (w : World) (h : Rd w A cap xs) (i : Nat) (hi : xs.length ≤ i) (hm : i ≤ 9223372036854775807) :
    Calls Tryz.prog 149 #[.slice A xs.length cap, .int .i64 i] w fun e w' => e = .returned (.int .u64 ((lim xs i : Nat) : Int)) ∧ w = w' := by
  rw [lim_out hi]
  clear h
  go_enter Tryz.func149, Tryz.ntmps149
  go_wp2
  go_ret
  exact ⟨rfl, rfl⟩
theorem limbAt_any (A : Option Addr) (cap : Nat) (xs : List Nat) (w : World) (h : Rd w A cap xs) (i : Nat) (hm : i ≤ 9223372036854775807) :
    Calls Tryz.prog 149 #[.slice A xs.length cap, .int .i64 i] w fun e w' => e = .returned (.int .u64 ((lim xs i : Nat) : Int)) ∧ w = w' := by
  rcases Nat.lt_or_ge i xs.length with hi | hi
  · exact limbAt_in A cap xs w h i hi
  · exact limbAt_out A cap xs w h i hi hm

theorem sig_any (A : Option Addr) (cap : Nat) (xs : List Nat) (w : World) (h : Rd w A cap xs) :
    Calls Tryz.prog 134 #[.slice A xs.length cap] w fun e w' => e = .returned (.slice A (ofv (val xs)).length cap) ∧ w = w' := by
  have hl := h.len
  have hm := h.capLe
  have hok := Lib.hid h.ok
  have H := Lib.hid h
  clear h
  go_enter Tryz.func134, Tryz.ntmps134
  go_wp2
  go_loop [3] (fun i => ∃ n : Nat, n ≤ xs.length ∧ i = .int .i64 n ∧ Hid (∀ j, n ≤ j → j < xs.length → lim xs j = 0)) (fun i => (intOf i).toNat)
  case atStart => exact ⟨xs.length, Nat.le_refl _, rfl, fun j h1 h2 => by omega⟩
  case round =>
    obtain ⟨n, hn, rfl, hz⟩ := hrel
    have e1 : n = 0 ∨ (0 < n ∧ lim xs (n - 1) = 0) ∨ (0 < n ∧ lim xs (n - 1) ≠ 0) := by omega
    rcases e1 with rfl | ⟨hp, h0⟩ | ⟨hp, h0⟩
    · have e := take_eq_ofv hok.out (Nat.zero_le _) hz.out (.inl rfl)
      have el : (ofv (val xs)).length = 0 := by rw [← e]; simp
      have E := Lib.hid el
      clear e el
      go_wp2
      go_ret
      exact ⟨ret_slice rfl (by rw [E.out]) rfl, rfl⟩
    · obtain ⟨b, o, rfl, _, hc⟩ := H.out.at_ (k := n - 1) (by omega)
      have c1 := hc (n - 1) (by omega)
      rw [h0] at c1
      have hz' : Hid (∀ j, n - 1 ≤ j → j < xs.length → lim xs j = 0) := by
        intro j h1 h2
        by_cases ej : j = n - 1
        · rw [ej]; exact h0
        · exact hz.out j (by omega) h2
      clear hc h0 hz
      go_wp2
      go_round
      case rel => exact ⟨n - 1, by omega, by first | rfl | (congr 1; omega), hz'⟩
      case measure => simp [intOf]; omega
    · obtain ⟨b, o, rfl, _, hc⟩ := H.out.at_ (k := n - 1) (by omega)
      have c1 := hc (n - 1) (by omega)
      have hb : (((lim xs (n - 1) : Nat) : Int) == 0) = false := by simp; exact h0
      have e := take_eq_ofv hok.out hn hz.out (.inr h0)
      have el : (ofv (val xs)).length = n := by rw [← e, List.length_take, Nat.min_eq_left hn]
      have E := Lib.hid el
      clear hc e el h0 hz
      go_wp2
      go_ret
      exact ⟨ret_slice rfl (by rw [E.out]) rfl, rfl⟩

theorem sig_n {A : Option Addr} {cap : Nat} {n : Nat} {xs : List Nat} {w : World} (h : Rd w A cap xs) (hn : xs.length = n) :
    Calls Tryz.prog 134 #[.slice A n cap] w fun e w' => e = .returned (.slice A (ofv (val xs)).length cap) ∧ w = w' := by
  subst hn; exact sig_any A cap xs w h
theorem limbAt_n {A : Option Addr} {cap : Nat} {n : Nat} {xs : List Nat} {w : World} (h : Rd w A cap xs) (hn : xs.length = n) (i : Nat) (hm : i ≤ 9223372036854775807) :
    Calls Tryz.prog 149 #[.slice A n cap, .int .i64 i] w fun e w' => e = .returned (.int .u64 ((lim xs i : Nat) : Int)) ∧ w = w' := by
  subst hn; exact limbAt_any A cap xs w h i hm
theorem limbAt_e {A : Option Addr} {cap : Nat} {n : Nat} {xs : List Nat} {w : World} (h : Rd w A cap xs) (hn : xs.length = n) (i : Nat) {z : Int} (hz : z = (i : Int)) (hm : i ≤ 9223372036854775807) :
    Calls Tryz.prog 149 #[.slice A n cap, .int .i64 z] w fun e w' => e = .returned (.int .u64 ((lim xs i : Nat) : Int)) ∧ w = w' := by
  subst hn hz; exact limbAt_any A cap xs w h i hm

theorem order_any (b : Bool) (w : World) : Calls Tryz.prog 179 #[.bool b] w fun e w' => e = .returned (.int .i64 (if b then -1 else 1)) ∧ w = w' := by
  cases b
  all_goals
    go_enter Tryz.func179, Tryz.ntmps179
    go_wp2
    go_ret
    exact ⟨rfl, rfl⟩
end Go.Proofs.YtfacndibfkamgaaGreat

/-
  Contract of natural.Compare: the order of the values.
-/
namespace Go.Proofs.YtfacndibfkamgaaGreat
open Go.RowKit
set_option linter.unusedVariables false

/-- The order of two numbers. -/
def cmp (a b : Nat) : Int := if a < b then -1 else if a = b then 0 else 1
theorem cmp_lt {a b : Nat} (h : a < b) : cmp a b = -1 := by unfold cmp; rw [if_pos h]
theorem cmp_gt {a b : Nat} (h : b < a) : cmp a b = 1 := by unfold cmp; rw [if_neg (by omega), if_neg (by omega)]
theorem cmp_eq {a b : Nat} (h : a = b) : cmp a b = 0 := by unfold cmp; rw [if_neg (by omega), if_pos h]

theorem drew_on {w wr w' : World} (h : ∃ q, wr = w.drewN q) (h' : ∃ m, w' = wr.drewN m) : ∃ q, w' = w.drewN q := by
  obtain ⟨q, rfl⟩ := h
  obtain ⟨m, rfl⟩ := h'
  exact ⟨q + m, World.drewN_drewN ..⟩
/-- A call that only draws, behind an earlier region that drew. -/
theorem qcall2 {P : Program} {f : FuncId} {args : Array Value} {w : World} {a n : Nat} {v : Value} (h : Calls P f args (w.drewN (a + n)) fun e w' => e = .returned v ∧ ∃ m, w' = (w.drewN (a + n)).drewN m) :
    Calls P f args (w.drewN (a + n)) fun e w' => e = .returned v ∧ ∃ m, w' = w.drewN (a + m) := by
  refine h.mono fun e w' hh => ⟨hh.1, ?_⟩
  obtain ⟨m, hm⟩ := hh.2
  exact ⟨n + m, by rw [hm, World.drewN_drewN, Nat.add_assoc]⟩
theorem qcall1 {P : Program} {f : FuncId} {args : Array Value} {w : World} {n : Nat} {v : Value} (h : Calls P f args (w.drewN n) fun e w' => e = .returned v ∧ ∃ m, w' = (w.drewN n).drewN m) :
    Calls P f args (w.drewN n) fun e w' => e = .returned v ∧ ∃ m, w' = w.drewN m := by
  refine h.mono fun e w' hh => ⟨hh.1, ?_⟩
  obtain ⟨m, hm⟩ := hh.2
  exact ⟨n + m, by rw [hm, World.drewN_drewN]⟩

theorem order_q (b : Bool) (w : World) : Calls Tryz.prog 179 #[.bool b] w fun e w' => e = .returned (.int .i64 (if b then -1 else 1)) ∧ ∃ n, w' = w.drewN n :=
  (order_any b w).mono fun _ _ ⟨h, k⟩ => ⟨h, 0, k.symm⟩


theorem compare_diff (A B : Option Addr) (ca cb : Nat) (xs ys : List Nat) (w : World) (h : Rd w A ca xs) (h' : Rd w B cb ys) (hne : (ofv (val xs)).length ≠ (ofv (val ys)).length) :
    Calls Tryz.prog 148 #[.slice A xs.length ca, .slice B ys.length cb] w fun e w' => e = .returned (.int .i64 (cmp (val xs) (val ys))) ∧ ∃ n, w' = w.drewN n := by
  have S1 := Lib.hid (sig_any A ca xs w h)
  have S2 := Lib.hid (sig_any B cb ys w h')
  have hl1 := h.sig.len
  have hl2 := h'.sig.len
  have hm1 := h.capLe
  have hm2 := h'.capLe
  have hb : (((ofv (val xs)).length : Int) != ((ofv (val ys)).length : Int)) = true := by rw [bne_iff_ne]; omega
  have Q := Lib.hid h
  have hcase := Nat.lt_or_gt_of_ne hne
  have K1 := Lib.hid (@lt_of_len_lt (val xs) (val ys))
  have K2 := Lib.hid (@lt_of_len_lt (val ys) (val xs))
  clear h h' hne
  generalize (ofv (val xs)).length = m1 at *
  generalize (ofv (val ys)).length = m2 at *
  rcases hcase with hlt | hlt
  · go_enter Tryz.func148, Tryz.ntmps148
    go_wp2_with fail
    refine S1.out.mono ?_
    rintro e w' ⟨rfl, rfl⟩
    go_wp2_with fail
    refine S2.out.mono ?_
    rintro e w' ⟨rfl, rfl⟩
    go_wp2_with fail
    refine (order_any _ _).mono ?_
    rintro e w' ⟨rfl, rfl⟩
    go_wp2
    go_ret
    exact ⟨ret_int (cmp_lt (K1.out hlt)).symm, 0, rfl⟩
  · go_enter Tryz.func148, Tryz.ntmps148
    go_wp2_with fail
    refine S1.out.mono ?_
    rintro e w' ⟨rfl, rfl⟩
    go_wp2_with fail
    refine S2.out.mono ?_
    rintro e w' ⟨rfl, rfl⟩
    go_wp2_with fail
    refine (order_any _ _).mono ?_
    rintro e w' ⟨rfl, rfl⟩
    go_wp2
    go_ret
    exact ⟨ret_int (cmp_gt (K2.out hlt)).symm, 0, rfl⟩

theorem compare_same (A B : Option Addr) (ca cb : Nat) (xs ys : List Nat) (w : World) (h : Rd w A ca xs) (h' : Rd w B cb ys) (heq : (ofv (val xs)).length = (ofv (val ys)).length) :
    Calls Tryz.prog 148 #[.slice A xs.length ca, .slice B ys.length cb] w fun e w' => e = .returned (.int .i64 (cmp (val xs) (val ys))) ∧ ∃ n, w' = w.drewN n := by
  obtain ⟨m, hm1⟩ : ∃ m, m = (ofv (val xs)).length := ⟨_, rfl⟩
  have S1 := sig_any A ca xs w h
  have S2 := sig_any B cb ys w h'
  rw [← heq, ← hm1] at S2
  rw [← hm1] at S1
  have X := Lib.hid h.sig
  have Y := Lib.hid h'.sig
  have hl1 := h.sig.len
  have hl2 := h'.sig.len
  have hc1 := h.capLe
  have hc2 := h'.capLe
  have T1 := Lib.hid S1
  have T2 := Lib.hid S2
  have M1 := Lib.hid hm1
  have M2 := Lib.hid heq
  have hml1 : m ≤ ca := by omega
  have hml2 : m ≤ cb := by omega
  have hb : ((m : Int) != (m : Int)) = false := by simp
  clear S1 S2 h h' hl1 hl2 hm1 heq
  go_enter Tryz.func148, Tryz.ntmps148
  go_wp2_with fail
  refine T1.out.mono ?_
  rintro e w' ⟨rfl, rfl⟩
  go_wp2_with fail
  refine T2.out.mono ?_
  rintro e w' ⟨rfl, rfl⟩
  go_wp2_with fail
  go_loopw [5] (fun i wr => ∃ z : Int, i = .int .i64 z ∧ -1 ≤ z ∧ z < m ∧ Hid (∀ j : Nat, z < j → j < m → lim (ofv (val xs)) j = lim (ofv (val ys)) j) ∧ Hid (∃ q, wr = w.drewN q)) (fun i _ => (intOf i + 1).toNat)
  case atStart => exact ⟨(m : Int) - 1, rfl, by omega, by omega, fun j h1 h2 => by omega, 0, rfl⟩
  case round =>
    obtain ⟨z, rfl, hz1, hz2, hz, hq⟩ := hrel
    by_cases h0 : z = -1
    · subst h0
      go_wp2
      go_ret
      refine ⟨ret_int (Eq.symm (cmp_eq ?_)), hq.out⟩
      apply ofv_inj
      apply lim_ext M2.out
      intro i hi
      exact hz.out i (by omega) (by rw [M1.out]; exact hi)
    · obtain ⟨k, rfl⟩ : ∃ k : Nat, z = (k : Int) := Int.eq_ofNat_of_zero_le (by omega)
      have hk : k < m := by omega
      obtain ⟨b, o, hA, hb1, hc1'⟩ := X.out.at_ (k := k) (by have := M1.out; omega)
      obtain ⟨b', o', hB, hb2, hc2'⟩ := Y.out.at_ (k := k) (by have := M1.out; have := M2.out; omega)
      have c1 : wr.cell? ⟨b, o + k, none⟩ = some (.int .u32 ((lim (ofv (val xs)) k : Nat) : Int)) := by
        obtain ⟨q, rfl⟩ := hq.out
        exact hc1' k (by have := M1.out; omega)
      have c2 : wr.cell? ⟨b', o' + k, none⟩ = some (.int .u32 ((lim (ofv (val ys)) k : Nat) : Int)) := by
        obtain ⟨q, rfl⟩ := hq.out
        exact hc2' k (by have := M1.out; have := M2.out; omega)
      have r1 := lim_lt X.out.ok k
      have r2 := lim_lt Y.out.ok k
      subst hA hB
      clear hc1' hc2' h0
      by_cases hE : lim (ofv (val xs)) k = lim (ofv (val ys)) k
      · have hE' : (((lim (ofv (val xs)) k : Nat) : Int) != ((lim (ofv (val ys)) k : Nat) : Int)) = false := by rw [hE]; simp
        have hz' : Hid (∀ j : Nat, (k : Int) - 1 < j → j < m → lim (ofv (val xs)) j = lim (ofv (val ys)) j) := by
          intro j h1 h2
          by_cases ej : j = k
          · rw [ej]; exact hE
          · exact hz.out j (by omega) h2
        clear hE hz
        generalize lim (ofv (val xs)) k = l1 at *
        generalize lim (ofv (val ys)) k = l2 at *
        go_wp2
        go_quiet (fail)
        go_wp2
        go_roundw
        case rel => exact ⟨(k : Int) - 1, rfl, by omega, by omega, hz', drew_on hq.out ⟨_, rfl⟩⟩
        case measure => simp [intOf]
      · have hE' : (((lim (ofv (val xs)) k : Nat) : Int) != ((lim (ofv (val ys)) k : Nat) : Int)) = true := by rw [bne_iff_ne]; intro e; exact hE (by exact_mod_cast e)
        have top : ∀ j, k < j → j < (ofv (val xs)).length → lim (ofv (val xs)) j = lim (ofv (val ys)) j := fun j h1 h2 => hz.out j (by omega) (by have := M1.out; omega)
        have K1 : Hid (lim (ofv (val xs)) k < lim (ofv (val ys)) k → cmp (val xs) (val ys) = -1) := by
          intro hlt
          have := val_lt_of_top (okl_ofv (val xs)) (by have := M1.out; omega) M2.out top hlt
          rw [val_ofv, val_ofv] at this
          exact cmp_lt this
        have K2 : Hid (lim (ofv (val ys)) k < lim (ofv (val xs)) k → cmp (val xs) (val ys) = 1) := by
          intro hlt
          have := val_lt_of_top (okl_ofv (val ys)) (i := k) (by have := M1.out; have := M2.out; omega) M2.out.symm (fun j h1 h2 => (top j h1 (by have := M2.out; omega)).symm) hlt
          rw [val_ofv, val_ofv] at this
          exact cmp_gt this
        have hcase := Nat.lt_or_gt_of_ne hE
        clear hE hz top
        generalize lim (ofv (val xs)) k = l1 at *
        generalize lim (ofv (val ys)) k = l2 at *
        rcases hcase with hlt | hlt
        · have hd : decide (l1 < l2) = true := by simpa using hlt
          go_wp2
          go_quiet (fail)
          go_wp2
          go_quiet ((go_at_call 179; exact qcall2 (order_q _ _)))
          go_wp2
          go_ret
          exact ⟨ret_int (K1.out hlt).symm, by first | exact drew_on hq.out ⟨_, rfl⟩ | exact drew_on (drew_on hq.out ⟨_, rfl⟩) ⟨_, rfl⟩⟩
        · have hd : decide (l1 < l2) = false := by simp; omega
          go_wp2
          go_quiet (fail)
          go_wp2
          go_quiet ((go_at_call 179; exact qcall2 (order_q _ _)))
          go_wp2
          go_ret
          exact ⟨ret_int (K2.out hlt).symm, by first | exact drew_on hq.out ⟨_, rfl⟩ | exact drew_on (drew_on hq.out ⟨_, rfl⟩) ⟨_, rfl⟩⟩

theorem compare_any (A B : Option Addr) (ca cb : Nat) (xs ys : List Nat) (w : World) (h : Rd w A ca xs) (h' : Rd w B cb ys) :
    Calls Tryz.prog 148 #[.slice A xs.length ca, .slice B ys.length cb] w fun e w' => e = .returned (.int .i64 (cmp (val xs) (val ys))) ∧ ∃ n, w' = w.drewN n := by
  by_cases heq : (ofv (val xs)).length = (ofv (val ys)).length
  · exact compare_same A B ca cb xs ys w h h' heq
  · exact compare_diff A B ca cb xs ys w h h' heq
end Go.Proofs.YtfacndibfkamgaaGreat

/-
  Plain facts: 64 bits of a list of limbs; shifts.
-/
namespace Go.Proofs.YtfacndibfkamgaaGreat

theorem val_drop_succ (xs : List Nat) (k : Nat) : val (xs.drop k) = lim xs k + 4294967296 * val (xs.drop (k + 1)) := by
  rcases Nat.lt_or_ge k xs.length with h | h
  · rw [List.drop_eq_getElem_cons h, val_cons]
    unfold lim
    rw [List.getD_eq_getElem?_getD, List.getElem?_eq_getElem h]; rfl
  · rw [lim_out h, List.drop_of_length_le h, List.drop_of_length_le (by omega)]; rfl
theorem val_div_pw {xs : List Nat} (h : okl xs) (f : Nat) : val xs / pw f = val (xs.drop f) := by
  rcases Nat.lt_or_ge f xs.length with hf | hf
  · have e := val_split xs f (by omega)
    have b := val_lt (okl_take h f)
    rw [List.length_take, Nat.min_eq_left (by omega)] at b
    rw [e, Nat.add_mul_div_left _ _ (pw_pos f), Nat.div_eq_of_lt b]; omega
  · rw [List.drop_of_length_le hf]
    have b := val_lt h
    have := pw_le hf
    rw [Nat.div_eq_of_lt (by omega)]; rfl
theorem two_pow_32 (f : Nat) : 2 ^ (32 * f) = pw f := by unfold pw; rw [Nat.pow_mul]
theorem two_pow_split (n : Nat) : 2 ^ n = pw (n / 32) * 2 ^ (n % 32) := by
  rw [← two_pow_32, ← Nat.pow_add]; congr 1; omega
theorem val_div_two_pow {xs : List Nat} (h : okl xs) (n : Nat) : val xs / 2 ^ n = val (xs.drop (n / 32)) / 2 ^ (n % 32) := by
  rw [two_pow_split, ← Nat.div_div_eq_div_mul, val_div_pw h]

theorem win_core (low l2 rest r : Nat) (hr : r < 32) (hlow : low < 18446744073709551616) :
    (low + 18446744073709551616 * (l2 + 4294967296 * rest)) / 2 ^ r % 18446744073709551616 = low / 2 ^ r + 2 ^ (64 - r) * (l2 % 2 ^ r) := by
  have e64 : 18446744073709551616 = 2 ^ r * 2 ^ (64 - r) := by rw [← Nat.pow_add, show r + (64 - r) = 64 from by omega]
  have e32 : 4294967296 = 2 ^ r * 2 ^ (32 - r) := by rw [← Nat.pow_add, show r + (32 - r) = 32 from by omega]
  have hp : 0 < 2 ^ r := Nat.pow_pos (by omega)
  have hq : low / 2 ^ r < 2 ^ (64 - r) := by
    rw [Nat.div_lt_iff_lt_mul hp, Nat.mul_comm]; rw [← e64]; exact hlow
  have h1 : (low + 18446744073709551616 * (l2 + 4294967296 * rest)) / 2 ^ r = low / 2 ^ r + 2 ^ (64 - r) * (l2 + 4294967296 * rest) := by
    conv => lhs; rw [e64, Nat.mul_assoc]
    rw [Nat.add_mul_div_left _ _ hp]
  rw [h1]
  have h2 : l2 + 4294967296 * rest = l2 % 2 ^ r + 2 ^ r * (l2 / 2 ^ r + 2 ^ (32 - r) * rest) := by
    have := Nat.div_add_mod l2 (2 ^ r)
    rw [Nat.mul_add, ← Nat.mul_assoc, ← e32]; omega
  have h3 : l2 % 2 ^ r < 2 ^ r := Nat.mod_lt _ hp
  rw [h2, Nat.mul_add, ← Nat.mul_assoc, Nat.mul_comm (2 ^ (64 - r)) (2 ^ r), ← e64, ← Nat.add_assoc, Nat.add_mul_mod_self_left]
  apply Nat.mod_eq_of_lt
  have h4 : 2 ^ (64 - r) * (l2 % 2 ^ r) + 2 ^ (64 - r) ≤ 2 ^ (64 - r) * 2 ^ r := by
    rw [← Nat.mul_succ]; exact Nat.mul_le_mul_left _ h3
  rw [Nat.mul_comm (2 ^ (64 - r)) (2 ^ r), ← e64] at h4
  omega
theorem win_or (low l2 r : Nat) (hr : r < 32) (hlow : low < 18446744073709551616) :
    low / 2 ^ r ||| l2 * 2 ^ (64 - r) % 18446744073709551616 = low / 2 ^ r + 2 ^ (64 - r) * (l2 % 2 ^ r) := by
  have e64 : 18446744073709551616 = 2 ^ (64 - r) * 2 ^ r := by rw [← Nat.pow_add, show 64 - r + r = 64 from by omega]
  have hp : 0 < 2 ^ r := Nat.pow_pos (by omega)
  have hq : low / 2 ^ r < 2 ^ (64 - r) := by
    rw [Nat.div_lt_iff_lt_mul hp, ← e64]; exact hlow
  have h : l2 * 2 ^ (64 - r) % 18446744073709551616 = 2 ^ (64 - r) * (l2 % 2 ^ r) := by
    rw [e64, Nat.mul_comm l2, Nat.mul_mod_mul_left]
  rw [h, or_low hq]
theorem win_lt (low l2 r : Nat) (hr : r < 32) (hlow : low < 18446744073709551616) : low / 2 ^ r + 2 ^ (64 - r) * (l2 % 2 ^ r) < 18446744073709551616 := by
  have := win_core low l2 0 r hr hlow
  rw [← this]
  exact Nat.mod_lt _ (by omega)
theorem win_val {xs : List Nat} (h : okl xs) (n : Nat) :
    val xs / 2 ^ n % 18446744073709551616 = (lim xs (n / 32) + 4294967296 * lim xs (n / 32 + 1)) / 2 ^ (n % 32) + 2 ^ (64 - n % 32) * (lim xs (n / 32 + 2) % 2 ^ (n % 32)) := by
  have b0 := lim_lt h (n / 32)
  have b1 := lim_lt h (n / 32 + 1)
  rw [← win_core _ (lim xs (n / 32 + 2)) (val (xs.drop (n / 32 + 3))) (n % 32) (by omega) (by omega), val_div_two_pow h, val_drop_succ, val_drop_succ xs (n / 32 + 1), val_drop_succ xs (n / 32 + 1 + 1)]
  rw [show n / 32 + 1 + 1 = n / 32 + 2 from rfl, show n / 32 + 2 + 1 = n / 32 + 3 from rfl]
  congr 2
  omega
end Go.Proofs.YtfacndibfkamgaaGreat

/-
  Contracts of natural.window and natural.Uint64.
-/
namespace Go.Proofs.YtfacndibfkamgaaGreat
open Go.RowKit
set_option linter.unusedVariables false

theorem or64 {a b : Nat} (ha : a < 4294967296) (hb : b < 4294967296) : bits .or .u64 (a : Int) ((b : Int) * 4294967296) = ((a + 4294967296 * b : Nat) : Int) := by
  have e : (b : Int) * 4294967296 = ((b * 4294967296 : Nat) : Int) := by omega
  rw [e, u64_or_nat a (b * 4294967296) (by omega) (by omega), or_low32 ha]

theorem orw {low l2 r : Nat} (hr : r < 32) (hlow : low < 18446744073709551616) : bits .or .u64 ((low : Int) / 2 ^ r) (IntKind.u64.wrap ((l2 : Int) * 2 ^ (64 - r))) = ((low / 2 ^ r + 2 ^ (64 - r) * (l2 % 2 ^ r) : Nat) : Int) := by
  have e1 : (low : Int) / 2 ^ r = ((low / 2 ^ r : Nat) : Int) := by simp
  have e2 : IntKind.u64.wrap ((l2 : Int) * 2 ^ (64 - r)) = ((l2 * 2 ^ (64 - r) % 18446744073709551616 : Nat) : Int) := by rw [IntKind.wrap_u64]; simp
  have h1 : low / 2 ^ r < 18446744073709551616 := Nat.lt_of_le_of_lt (Nat.div_le_self _ _) hlow
  rw [e1, e2, u64_or_nat _ _ h1 (Nat.mod_lt _ (by omega)), win_or _ _ _ hr hlow]

theorem window_any (A : Option Addr) (cap : Nat) (xs : List Nat) (w : World) (h : Rd w A cap xs) (n : Nat) (hn : n ≤ 1000000000000000000) :
    Calls Tryz.prog 139 #[.slice A xs.length cap, .int .i64 (n : Int)] w fun e w' => e = .returned (.int .u64 ((val xs / 2 ^ n % 18446744073709551616 : Nat) : Int)) ∧ ∃ n, w' = w.drewN n := by
  have b0 := lim_lt h.ok (n / 32)
  have b1 := lim_lt h.ok (n / 32 + 1)
  have b2 := lim_lt h.ok (n / 32 + 2)
  have N1 : Hid (Rd w A cap xs) := h
  have N2 : Hid (∀ q, Rd (w.drewN q) A cap xs) := fun q => h
  have E1 := or64 b0 b1
  have F := win_val h.ok n
  generalize hlow : lim xs (n / 32) + 4294967296 * lim xs (n / 32 + 1) = low at E1 F
  have bl : low ≤ 18446744073709551615 := by omega
  have E2 := orw (low := low) (l2 := lim xs (n / 32 + 2)) (r := n % 32) (by omega) (by omega)
  rw [← F] at E2
  have HL := Lib.hid hlow
  have HF := Lib.hid F
  generalize val xs / 2 ^ n % 18446744073709551616 = V at *
  clear h hlow F
  go_enter Tryz.func139, Tryz.ntmps139
  go_wp2_with fail
  refine (limbAt_e N1.out rfl (n / 32) (by omega) (by omega)).mono ?_
  rintro e w' ⟨rfl, rfl⟩
  go_wp2_with fail
  refine (limbAt_e N1.out rfl (n / 32 + 1) (by omega) (by omega)).mono ?_
  rintro e w' ⟨rfl, rfl⟩
  go_wp2_with fail
  go_quiet ((go_at_call 149; exact qcall1 ((limbAt_e (N2.out _) rfl (n / 32 + 2) (by omega) (by omega)).mono fun _ _ ⟨h, k⟩ => ⟨h, 0, k.symm⟩)))
  go_wp2
  go_ret
  exact ⟨rfl, _, rfl⟩

theorem window_n {A : Option Addr} {cap m : Nat} {xs : List Nat} {w : World} (h : Rd w A cap xs) (hm : xs.length = m) (n : Nat) {z : Int} (hz : z = (n : Int)) (hn : n ≤ 1000000000000000000) :
    Calls Tryz.prog 139 #[.slice A m cap, .int .i64 z] w fun e w' => e = .returned (.int .u64 ((val xs / 2 ^ n % 18446744073709551616 : Nat) : Int)) ∧ ∃ n, w' = w.drewN n := by
  subst hm hz; exact window_any A cap xs w h n hn
/-- A short list. -/
theorem val_two {xs : List Nat} (h : okl xs) (hl : xs.length ≤ 2) : val xs < 18446744073709551616 := by
  have h1 := val_lt h
  have h2 := pw_le hl
  have h3 : pw 2 = 18446744073709551616 := by rw [pw_succ, pw_succ, pw_zero]
  omega
theorem window_small {A : Option Addr} {cap m : Nat} {xs : List Nat} {w : World} (h : Rd w A cap xs) (hm : xs.length = m) (hl : m ≤ 2) :
    Calls Tryz.prog 139 #[.slice A m cap, .int .i64 0] w fun e w' => e = .returned (.int .u64 ((val xs : Nat) : Int)) ∧ ∃ n, w' = w.drewN n := by
  have e : val xs / 2 ^ 0 % 18446744073709551616 = val xs := by
    rw [Nat.pow_zero, Nat.div_one]; exact Nat.mod_eq_of_lt (val_two h.ok (by omega))
  have := window_n h hm 0 (z := 0) rfl (by omega)
  rwa [e] at this

theorem uint64_yes (A : Option Addr) (cap : Nat) (xs : List Nat) (w : World) (h : Rd w A cap xs) (hv : val xs < 18446744073709551616) :
    Calls Tryz.prog 161 #[.slice A xs.length cap] w fun e w' => e = .returned (.tuple #[.int .u64 ((val xs : Nat) : Int), .bool true]) ∧ ∃ n, w' = w.drewN n := by
  have S1 := Lib.hid (sig_any A cap xs w h)
  have l2 : (ofv (val xs)).length ≤ 2 := len_ofv_le_of_lt (by rw [pw_succ, pw_succ, pw_zero]; omega)
  have W := window_small h.sig rfl l2
  rw [val_ofv] at W
  have HW := Lib.hid W
  have hc := h.capLe
  clear h W hv
  generalize (ofv (val xs)).length = m at *
  generalize val xs = v at *
  go_enter Tryz.func161, Tryz.ntmps161
  go_wp2_with fail
  refine S1.out.mono ?_
  rintro e w' ⟨rfl, rfl⟩
  go_wp2_with fail
  refine HW.out.mono ?_
  rintro e w' ⟨rfl, hq⟩
  have HQ := Lib.hid hq
  clear hq
  go_wp2
  go_ret2
  exact ⟨rfl, HQ.out⟩
theorem uint64_no (A : Option Addr) (cap : Nat) (xs : List Nat) (w : World) (h : Rd w A cap xs) (hv : 18446744073709551616 ≤ val xs) :
    Calls Tryz.prog 161 #[.slice A xs.length cap] w fun e w' => e = .returned (.tuple #[.int .u64 0, .bool false]) ∧ ∃ n, w' = w.drewN n := by
  have S1 := Lib.hid (sig_any A cap xs w h)
  have l2 : ¬ (ofv (val xs)).length ≤ 2 := by
    intro hl
    have h1 := lt_pw_len (val xs)
    have h2 := pw_le hl
    have h3 : pw 2 = 18446744073709551616 := by rw [pw_succ, pw_succ, pw_zero]
    omega
  have hc := h.capLe
  have hl := h.sig.len
  clear h hv
  generalize (ofv (val xs)).length = m at *
  go_enter Tryz.func161, Tryz.ntmps161
  go_wp2_with fail
  refine S1.out.mono ?_
  rintro e w' ⟨rfl, rfl⟩
  go_wp2
  go_ret2
  exact ⟨rfl, 0, rfl⟩
end Go.Proofs.YtfacndibfkamgaaGreat

/-
  Contract of natural.Add: the canonical list of the sum, in new memory.
-/
namespace Go.Proofs.YtfacndibfkamgaaGreat
open Go.RowKit
set_option linter.unusedVariables false

/-- The result of a call: a slice of the call's own that reads as the canonical list of v; nothing that was there has changed. -/
def Gives (w : World) (v : Nat) (e : Ending) (w' : World) : Prop := ∃ R c, e = .returned (.slice R (ofv v).length c) ∧ Own w' w.heap.size R c (ofv v) ∧ Below w.heap.size w w'

def AddInv (w : World) (us vs : List Nat) (k cn : Nat) (wr : World) : Prop :=
  ∃ zs, Row wr w.heap.size zs ∧ zs.length = us.length + 1 ∧ okl zs ∧ val (zs.take k) + cn * pw k = val (us.take k) + val (vs.take k) ∧ Below w.heap.size w wr

theorem gives_row {w w' : World} {v n g : Nat} {zs : List Nat} (hr : Row w' g zs) (hg : w.heap.size ≤ g) (hz : okl zs) (hb : Below w.heap.size w w') (hv : val zs = v) (hn : zs.length = n) (hm : n ≤ 9223372036854775807) :
    Gives w v (.returned (.slice (some ⟨g, 0, none⟩) (ofv (val zs)).length n)) w' := by
  subst hv hn
  exact ⟨_, _, rfl, (Own.of_row hr hz hg hm).sig, hb⟩

theorem add_step {w wr : World} {us vs zs : List Nat} {k cn : Nat} (hk : k < us.length) (hl : vs.length ≤ us.length) (hu : okl us) (hv : okl vs) (hcn : cn ≤ 1) (hr : Row wr w.heap.size zs) (hzl : zs.length = us.length + 1) (hz : okl zs)
    (he : val (zs.take k) + cn * pw k = val (us.take k) + val (vs.take k)) (hb : Below w.heap.size w wr) (z : Int) (hzz : z = ((cn + (lim us k + lim vs k)) % 4294967296 : Nat)) :
    AddInv w us vs (k + 1) ((cn + (lim us k + lim vs k)) / 4294967296) (wr.setCell ⟨w.heap.size, k, none⟩ (.int .u32 z)) := by
  subst hzz
  refine ⟨zs.set k ((cn + (lim us k + lim vs k)) % 4294967296), hr.set_ _ _, by simpa using hzl, okl_set hz (by omega) _, ?_, hb.setCell (Nat.le_refl _) _⟩
  rw [val_take_set (by omega), val_take_succ hk, val_take_succ' vs k, pw_succ]
  have e := Nat.div_add_mod (cn + (lim us k + lim vs k)) 4294967296
  generalize (cn + (lim us k + lim vs k)) / 4294967296 = q at *
  generalize (cn + (lim us k + lim vs k)) % 4294967296 = r at *
  grind

set_option maxHeartbeats 1000000 in
theorem add_any (A B : Option Addr) (ca cb : Nat) (xs ys : List Nat) (w : World) (h : Rd w A ca xs) (h' : Rd w B cb ys) (hn : xs.length ≤ 70368744177663) (hn' : ys.length ≤ 70368744177663) :
    Calls Tryz.prog 118 #[.slice A xs.length ca, .slice B ys.length cb] w (Gives w (val xs + val ys)) := by
  have S1 := Lib.hid (sig_any A ca xs w h)
  have S2 := Lib.hid (sig_any B cb ys w h')
  have hc1 := h.capLe
  have hc2 := h'.capLe
  have n1 := len_ofv_le h.ok
  have n2 := len_ofv_le h'.ok
  have hn1 : (ofv (val xs)).length ≤ 70368744177663 := by omega
  have hn2 : (ofv (val ys)).length ≤ 70368744177663 := by omega
  have P := h.sig
  have Q := h'.sig
  have hx := val_ofv (val xs)
  have hy := val_ofv (val ys)
  clear h h' n1 n2 hn hn'
  obtain ⟨va, hva⟩ : ∃ va, va = val xs := ⟨_, rfl⟩
  obtain ⟨vb, hvb⟩ : ∃ vb, vb = val ys := ⟨_, rfl⟩
  rw [← hva] at S1 P hx hn1 ⊢
  rw [← hvb] at S2 Q hy hn2 ⊢
  have K1 := Lib.hid hva
  have K2 := Lib.hid hvb
  clear hva hvb
  obtain ⟨n, hn⟩ : ∃ n, n = xs.length := ⟨_, rfl⟩
  obtain ⟨n', hn'⟩ : ∃ n', n' = ys.length := ⟨_, rfl⟩
  rw [← hn] at S1 ⊢
  rw [← hn'] at S2 ⊢
  clear hn hn' K1 K2 xs ys
  rcases Nat.lt_or_ge (ofv va).length (ofv vb).length with hlt | hge
  · have X := Lib.hid Q
    have Y := Lib.hid P
    have E : Hid (val (ofv vb) + val (ofv va) = va + vb) := by show _ = _; rw [hx, hy]; omega
    have m1 := hn2
    generalize ofv va = vs at *
    generalize ofv vb = us at *
    clear P Q hx hy
    have hl : vs.length ≤ us.length := by omega
    have l1 := X.out.len
    have l2 := Y.out.len
    go_enter Tryz.func118, Tryz.ntmps118
    go_wp2_with fail
    refine S1.out.mono ?_
    rintro e w' ⟨rfl, rfl⟩
    go_wp2_with fail
    refine S2.out.mono ?_
    rintro e w' ⟨rfl, rfl⟩
    go_wp2_with (at_make; refine make_row rfl _ _ rfl _ _ (us.length + 1) rfl rfl (by omega) (by omega) (by omega) ?_)
    intro w1 hrow hbel
    go_wp2
    go_loopw [6, 26] (fun c i wr => ∃ k cn : Nat, k ≤ us.length ∧ i = .int .i64 k ∧ c = .int .u64 cn ∧ cn ≤ 1 ∧ AddInv w us vs k cn wr) (fun _ i _ => us.length - (intOf i).toNat)
    case atStart => exact ⟨0, 0, Nat.zero_le _, rfl, rfl, by omega, _, hrow, by simp, okl_replicate _, by simp [val_nil], hbel⟩
    case round =>
      clear hrow hbel
      obtain ⟨k, cn, hk, rfl, rfl, hcn, inv⟩ := hrel
      obtain ⟨zs, hrow, hzl, hzo, heq, hbel⟩ := inv
      have HE := Lib.hid heq
      have HZ := Lib.hid hzl
      have HR := Lib.hid hrow
      have HB := Lib.hid hbel
      clear heq hzl hrow
      by_cases hlt : k < us.length
      · have X1 := X.out.keep (Nat.le_refl _) hbel
        have Y1 := Y.out.keep (Nat.le_refl _) hbel
        obtain ⟨b, o, hA, hb, hc⟩ := X1.at_ hlt
        have c1 := hc k hlt
        have hfz := HR.out.frozen k
        have hcw := HR.out.cell (i := k) (by have := HZ.out; omega)
        have b1 := lim_lt X1.ok k
        have b2 := lim_lt Y1.ok k
        have L := Lib.hid (limbAt_any _ _ vs wr Y1 k (by omega))
        have step := Lib.hid (add_step hlt hl X1.ok Y1.ok hcn HR.out HZ.out hzo HE.out hbel)
        subst hA
        clear hc hbel X1 Y1
        go_wp2_with fail
        refine L.out.mono ?_
        rintro e w' ⟨rfl, rfl⟩
        go_wp2
        go_roundw
        case rel => exact ⟨k + 1, (cn + (lim us k + lim vs k)) / 4294967296, by omega, by go_num, by first | rfl | (congr 1; omega), by omega, step.out _ (by omega)⟩
        case measure => simp [intOf]; omega
      · obtain rfl : k = us.length := by omega
        have hfz := HR.out.frozen us.length
        have hcw := HR.out.cell (i := us.length) (by have := HZ.out; omega)
        clear hbel hk hlt
        go_wp2_with fail
        have hr2 := HR.out.set_ us.length cn
        have hz2 : okl (zs.set us.length cn) := okl_set hzo (by omega) _
        have hl2 : (zs.set us.length cn).length = us.length + 1 := by have := HZ.out; simpa using this
        have hv2 : val (zs.set us.length cn) = va + vb := by
          have e1 := HE.out
          have e2 := HZ.out
          have e3 := E.out
          have e4 : (zs.set us.length cn).take (us.length + 1) = zs.set us.length cn := List.take_of_length_le (by omega)
          rw [← e4, val_take_set (by omega), e1, List.take_of_length_le (Nat.le_refl _), List.take_of_length_le hl, e3]
        have ow := Own.of_row (lo := w.heap.size) hr2 hz2 (Nat.le_refl _) (by omega)
        have rd := ow.rd
        rw [hl2] at rd
        refine (sig_n rd hl2).mono ?_
        rintro e w' ⟨rfl, rfl⟩
        have fin := gives_row hr2 (Nat.le_refl _) hz2 (HB.out.setCell (Nat.le_refl _) _) hv2 hl2 (by omega)
        have FIN := Lib.hid fin
        clear fin hr2 hz2 hl2 hv2 ow rd
        go_wp2
        go_ret
        exact FIN.out
  · have X := Lib.hid P
    have Y := Lib.hid Q
    have E : Hid (val (ofv va) + val (ofv vb) = va + vb) := by show _ = _; rw [hx, hy]
    have m1 := hn1
    generalize ofv va = us at *
    generalize ofv vb = vs at *
    clear P Q hx hy
    have hl : vs.length ≤ us.length := by omega
    have l1 := X.out.len
    have l2 := Y.out.len
    go_enter Tryz.func118, Tryz.ntmps118
    go_wp2_with fail
    refine S1.out.mono ?_
    rintro e w' ⟨rfl, rfl⟩
    go_wp2_with fail
    refine S2.out.mono ?_
    rintro e w' ⟨rfl, rfl⟩
    go_wp2_with (at_make; refine make_row rfl _ _ rfl _ _ (us.length + 1) rfl rfl (by omega) (by omega) (by omega) ?_)
    intro w1 hrow hbel
    go_wp2
    go_loopw [6, 26] (fun c i wr => ∃ k cn : Nat, k ≤ us.length ∧ i = .int .i64 k ∧ c = .int .u64 cn ∧ cn ≤ 1 ∧ AddInv w us vs k cn wr) (fun _ i _ => us.length - (intOf i).toNat)
    case atStart => exact ⟨0, 0, Nat.zero_le _, rfl, rfl, by omega, _, hrow, by simp, okl_replicate _, by simp [val_nil], hbel⟩
    case round =>
      clear hrow hbel
      obtain ⟨k, cn, hk, rfl, rfl, hcn, inv⟩ := hrel
      obtain ⟨zs, hrow, hzl, hzo, heq, hbel⟩ := inv
      have HE := Lib.hid heq
      have HZ := Lib.hid hzl
      have HR := Lib.hid hrow
      have HB := Lib.hid hbel
      clear heq hzl hrow
      by_cases hlt : k < us.length
      · have X1 := X.out.keep (Nat.le_refl _) hbel
        have Y1 := Y.out.keep (Nat.le_refl _) hbel
        obtain ⟨b, o, hA, hb, hc⟩ := X1.at_ hlt
        have c1 := hc k hlt
        have hfz := HR.out.frozen k
        have hcw := HR.out.cell (i := k) (by have := HZ.out; omega)
        have b1 := lim_lt X1.ok k
        have b2 := lim_lt Y1.ok k
        have L := Lib.hid (limbAt_any _ _ vs wr Y1 k (by omega))
        have step := Lib.hid (add_step hlt hl X1.ok Y1.ok hcn HR.out HZ.out hzo HE.out hbel)
        subst hA
        clear hc hbel X1 Y1
        go_wp2_with fail
        refine L.out.mono ?_
        rintro e w' ⟨rfl, rfl⟩
        go_wp2
        go_roundw
        case rel => exact ⟨k + 1, (cn + (lim us k + lim vs k)) / 4294967296, by omega, by go_num, by first | rfl | (congr 1; omega), by omega, step.out _ (by omega)⟩
        case measure => simp [intOf]; omega
      · obtain rfl : k = us.length := by omega
        have hfz := HR.out.frozen us.length
        have hcw := HR.out.cell (i := us.length) (by have := HZ.out; omega)
        clear hbel hk hlt
        go_wp2_with fail
        have hr2 := HR.out.set_ us.length cn
        have hz2 : okl (zs.set us.length cn) := okl_set hzo (by omega) _
        have hl2 : (zs.set us.length cn).length = us.length + 1 := by have := HZ.out; simpa using this
        have hv2 : val (zs.set us.length cn) = va + vb := by
          have e1 := HE.out
          have e2 := HZ.out
          have e3 := E.out
          have e4 : (zs.set us.length cn).take (us.length + 1) = zs.set us.length cn := List.take_of_length_le (by omega)
          rw [← e4, val_take_set (by omega), e1, List.take_of_length_le (Nat.le_refl _), List.take_of_length_le hl, e3]
        have ow := Own.of_row (lo := w.heap.size) hr2 hz2 (Nat.le_refl _) (by omega)
        have rd := ow.rd
        rw [hl2] at rd
        refine (sig_n rd hl2).mono ?_
        rintro e w' ⟨rfl, rfl⟩
        have fin := gives_row hr2 (Nat.le_refl _) hz2 (HB.out.setCell (Nat.le_refl _) _) hv2 hl2 (by omega)
        have FIN := Lib.hid fin
        clear fin hr2 hz2 hl2 hv2 ow rd
        go_wp2
        go_ret
        exact FIN.out
end Go.Proofs.YtfacndibfkamgaaGreat

/-
  Contracts of the reference's Equal (of equal lists) and Trim, and of natural.Trim and both FromUint64.
-/
namespace Go.Proofs.YtfacndibfkamgaaGreat
open Go.RowKit
set_option linter.unusedVariables false

theorem equal_same (A B : Option Addr) (ca cb : Nat) (xs : List Nat) (w : World) (h : Rd w A ca xs) (h' : Rd w B cb xs) :
    Calls Tryz.prog 58 #[.slice A xs.length ca, .slice B xs.length cb] w fun e w' => e = .returned (.bool true) ∧ ∃ n, w' = w.drewN n := by
  have hl1 := h.len
  have hm1 := h.capLe
  have hl2 := h'.len
  have hm2 := h'.capLe
  have X := Lib.hid h
  have Y := Lib.hid h'
  have hb : ((xs.length : Int) != (xs.length : Int)) = false := by simp
  clear h h'
  go_enter Tryz.func58, Tryz.ntmps58
  go_wp2
  go_loopw [5] (fun i wr => ∃ k : Nat, k ≤ xs.length ∧ i = .int .i64 k ∧ Hid (∃ q, wr = w.drewN q)) (fun i _ => xs.length - (intOf i).toNat)
  case atStart => exact ⟨0, Nat.zero_le _, rfl, 0, rfl⟩
  case round =>
    obtain ⟨k, hk, rfl, hq⟩ := hrel
    by_cases hlt : k < xs.length
    · obtain ⟨b, o, hA, hb1, hc1⟩ := X.out.at_ hlt
      obtain ⟨b', o', hB, hb2, hc2⟩ := Y.out.at_ hlt
      have c1 : wr.cell? ⟨b, o + k, none⟩ = some (.int .u32 ((lim xs k : Nat) : Int)) := by
        obtain ⟨q, rfl⟩ := hq.out
        exact hc1 k hlt
      have c2 : wr.cell? ⟨b', o' + k, none⟩ = some (.int .u32 ((lim xs k : Nat) : Int)) := by
        obtain ⟨q, rfl⟩ := hq.out
        exact hc2 k hlt
      have r1 := lim_lt X.out.ok k
      have hE : (((lim xs k : Nat) : Int) != ((lim xs k : Nat) : Int)) = false := by simp
      subst hA hB
      clear hc1 hc2
      generalize lim xs k = l1 at *
      go_wp2
      go_quiet (fail)
      go_wp2
      go_roundw
      case rel => exact ⟨k + 1, by omega, by go_num, drew_on hq.out ⟨_, rfl⟩⟩
      case measure => simp [intOf]; omega
    · go_wp2
      go_ret
      exact ⟨rfl, hq.out⟩
theorem equal_n {A B : Option Addr} {ca cb n m : Nat} {xs ys : List Nat} {w : World} (h : Rd w A ca xs) (h' : Rd w B cb ys) (he : xs = ys) (hn : xs.length = n) (hm : ys.length = m) :
    Calls Tryz.prog 58 #[.slice A n ca, .slice B m cb] w fun e w' => e = .returned (.bool true) ∧ ∃ n, w' = w.drewN n := by
  subst he hn hm; exact equal_same A B ca cb xs w h h'

/-- The result of a call: a whole row of the call's own, the canonical list of v. -/
def GivesRow (w : World) (v : Nat) (e : Ending) (w' : World) : Prop := ∃ g, e = .returned (.slice (some ⟨g, 0, none⟩) (ofv v).length (ofv v).length) ∧ w.heap.size ≤ g ∧ Row w' g (ofv v) ∧ Below w.heap.size w w'
theorem GivesRow.gives {w w' : World} {v : Nat} {e : Ending} (h : GivesRow w v e w') (hm : (ofv v).length ≤ 9223372036854775807) : Gives w v e w' := by
  obtain ⟨g, he, hg, hr, hb⟩ := h
  exact ⟨_, _, he, Own.of_row hr (okl_ofv v) hg hm, hb⟩

set_option maxHeartbeats 1000000 in
theorem trim_row (A : Option Addr) (cap : Nat) (xs : List Nat) (w : World) (h : Rd w A cap xs) (hn : xs.length ≤ 70368744177664) :
    Calls Tryz.prog 140 #[.slice A xs.length cap] w (GivesRow w (val xs)) := by
  have S1 := Lib.hid (sig_any A cap xs w h)
  have hl := h.len
  have hc := h.capLe
  have hl2 := len_ofv_le h.ok
  have X := Lib.hid h.sig
  have hv := val_ofv (val xs)
  have ho := okl_ofv (val xs)
  have HV := Lib.hid hv
  have hm : (ofv (val xs)).length ≤ 70368744177664 := by omega
  have hl3 : (ofv (val xs)).length ≤ cap := by omega
  clear h hv hl2
  generalize hus : ofv (val xs) = us at *
  have HU := Lib.hid hus
  clear hus
  go_enter Tryz.func140, Tryz.ntmps140
  go_wp2_with fail
  refine S1.out.mono ?_
  rintro e w' ⟨rfl, rfl⟩
  go_wp2_with (at_make; refine make_row rfl _ _ rfl _ _ us.length rfl rfl rfl rfl hm ?_)
  intro w1 hrow hbel
  have HR := Lib.hid hrow
  have X1 := Lib.hid (X.out.below hbel)
  have HB := Lib.hid hbel
  clear hrow hbel
  go_wp2_with (with_reducible refine copy_row rfl (.tmp 9) (.tmp 10) rfl w.heap.size 0 us.length us.length rfl (List.replicate us.length 0) HR.out (by simp) A us.length cap us rfl X1.out rfl (Nat.le_refl _) ?_)
  intro w2 hrow2 hgrow2
  have hrow3 : Row w2 w.heap.size us := by simpa using hrow2
  have hb2 : Below w.heap.size w w2 := HB.out.trans (below_of_grown hgrow2 (Nat.le_refl _) HB.out.size)
  have e : us = ofv (val xs) := HU.out.symm
  have FIN : Hid (GivesRow w (val xs) (.returned (.slice (some ⟨w.heap.size, 0, none⟩) us.length us.length)) w2) := by
    show GivesRow w _ _ w2
    unfold GivesRow
    rw [← e]
    exact ⟨_, rfl, Nat.le_refl _, hrow3, hb2⟩
  clear hrow2 hgrow2 hrow3 hb2 e
  go_wp2
  go_ret
  exact FIN.out

theorem trim_any (A : Option Addr) (cap : Nat) (xs : List Nat) (w : World) (h : Rd w A cap xs) (hn : xs.length ≤ 70368744177664) :
    Calls Tryz.prog 140 #[.slice A xs.length cap] w (Gives w (val xs)) :=
  (trim_row A cap xs w h hn).mono fun _ _ g => g.gives (by have := len_ofv_le h.ok; omega)
theorem trim_row_n {A : Option Addr} {cap n : Nat} {xs : List Nat} {w : World} (h : Rd w A cap xs) (hn : xs.length = n) (hl : n ≤ 70368744177664) :
    Calls Tryz.prog 140 #[.slice A n cap] w (GivesRow w (val xs)) := by
  subst hn; exact trim_row A cap xs w h hl
theorem trim_n {A : Option Addr} {cap n : Nat} {xs : List Nat} {w : World} (h : Rd w A cap xs) (hn : xs.length = n) (hl : n ≤ 70368744177664) :
    Calls Tryz.prog 140 #[.slice A n cap] w (Gives w (val xs)) := by
  subst hn; exact trim_any A cap xs w h hl

theorem row_two (w : World) {zx zy : Int} {x y : Nat} (hx : zx = (x : Int)) (hy : zy = (y : Int)) : Row (w.alloc (.cells #[.int .u32 zx, .int .u32 zy] 118)) w.heap.size [x, y] := by
  subst hx hy; exact heap_alloc_new w _
theorem two_facts {v : Nat} (hv : v < 18446744073709551616) : okl [v % 4294967296, v / 4294967296] ∧ val [v % 4294967296, v / 4294967296] = v := by
  refine ⟨?_, ?_⟩
  · intro x hx
    simp only [List.mem_cons, List.not_mem_nil, or_false] at hx
    rcases hx with rfl | rfl <;> omega
  · rw [val_cons, val_cons, val_nil]; omega

theorem from_any (v : Nat) (w : World) (hv : v < 18446744073709551616) :
    Calls Tryz.prog 115 #[.int .u64 (v : Int)] w (Gives w v) := by
  obtain ⟨ho, he⟩ := two_facts hv
  have HO := Lib.hid ho
  have HE := Lib.hid he
  have hr := row_two w (zx := (v : Int) % 4294967296) (zy := (v : Int) / 4294967296) (x := v % 4294967296) (y := v / 4294967296) (by omega) (by omega)
  have hb : Below w.heap.size w (w.alloc (.cells #[.int .u32 ((v : Int) % 4294967296), .int .u32 ((v : Int) / 4294967296)] 118)) := (Below.refl _ _).alloc (Nat.le_refl _) _
  have fin := gives_row hr (Nat.le_refl _) ho hb he rfl (by simp)
  have S := sig_n (Own.of_row hr ho (Nat.le_refl w.heap.size) (by simp)).rd rfl
  have FIN := Lib.hid fin
  have HS := Lib.hid S
  clear ho he hr hb fin S
  go_enter Tryz.func115, Tryz.ntmps115
  go_wp2_with fail
  refine HS.out.mono ?_
  rintro e w' ⟨rfl, rfl⟩
  go_wp2
  go_ret
  exact FIN.out

theorem from_z {v : Nat} {z : Int} {w : World} (hz : z = (v : Int)) (hv : v < 18446744073709551616) :
    Calls Tryz.prog 115 #[.int .u64 z] w (Gives w v) := by
  subst hz; exact from_any v w hv

set_option maxHeartbeats 1000000 in
theorem rtrim_any (A : Option Addr) (cap : Nat) (xs : List Nat) (w : World) (h : Rd w A cap xs) (hn : xs.length ≤ 70368744177664) :
    Calls Tryz.prog 121 #[.slice A xs.length cap] w (Gives w (val xs)) := by
  have hl := h.len
  have hm := h.capLe
  have hok := Lib.hid h.ok
  have H := Lib.hid h
  clear h
  go_enter Tryz.func121, Tryz.ntmps121
  go_wp2
  go_loop [3] (fun i => ∃ n : Nat, n ≤ xs.length ∧ i = .int .i64 n ∧ Hid (∀ j, n ≤ j → j < xs.length → lim xs j = 0)) (fun i => (intOf i).toNat)
  case atStart => exact ⟨xs.length, Nat.le_refl _, rfl, fun j h1 h2 => by omega⟩
  case round =>
    obtain ⟨n, hn', rfl, hz⟩ := hrel
    have e1 : n = 0 ∨ (0 < n ∧ lim xs (n - 1) = 0) ∨ (0 < n ∧ lim xs (n - 1) ≠ 0) := by omega
    rcases e1 with rfl | ⟨hp, h0⟩ | ⟨hp, h0⟩
    · have e := take_eq_ofv hok.out (Nat.zero_le _) hz.out (.inl rfl)
      have E := Lib.hid e
      have own : Hid (Row (w.alloc (.cells #[] 118)) w.heap.size []) := heap_alloc_new w _
      have R := Lib.hid ((H.out.take 0).keep (Nat.le_refl _) ((Below.refl _ w).alloc (Nat.le_refl _) (.cells #[] 118)))
      clear e hz
      go_wp2_with (at_builtin; refine append_full rfl _ _ rfl w.heap.size w.heap.size 0 [] rfl own.out okl_nil rfl (Nat.le_refl _) _ _ _ (xs.take 0) rfl R.out (by simp) (by omega) (by omega) (fun h => absurd h (by omega)) ?_)
      intro R' c w' ho hb0
      have hb : Below w.heap.size w w' := ((Below.refl _ w).alloc (Nat.le_refl _) (.cells #[] 118)).trans hb0
      have FIN : Hid (Gives w (val xs) (.returned (.slice R' (0 + 0) c)) w') := by
        show Gives w _ _ w'
        unfold Gives
        rw [← E.out]
        exact ⟨R', c, by simp, by simpa using ho, hb⟩
      clear ho hb hb0
      go_wp2
      go_ret
      exact FIN.out
    · obtain ⟨b, o, rfl, _, hc⟩ := H.out.at_ (k := n - 1) (by omega)
      have c1 := hc (n - 1) (by omega)
      rw [h0] at c1
      have hz' : Hid (∀ j, n - 1 ≤ j → j < xs.length → lim xs j = 0) := by
        intro j h1 h2
        by_cases ej : j = n - 1
        · rw [ej]; exact h0
        · exact hz.out j (by omega) h2
      clear hc h0 hz
      go_wp2
      go_round
      case rel => exact ⟨n - 1, by omega, by first | rfl | (congr 1; omega), hz'⟩
      case measure => simp [intOf]; omega
    · obtain ⟨b, o, rfl, _, hc⟩ := H.out.at_ (k := n - 1) (by omega)
      have c1 := hc (n - 1) (by omega)
      have hb : (((lim xs (n - 1) : Nat) : Int) == 0) = false := by simp; exact h0
      have e := take_eq_ofv hok.out hn' hz.out (.inr h0)
      have E := Lib.hid e
      have own : Hid (Row (w.alloc (.cells #[] 118)) w.heap.size []) := heap_alloc_new w _
      have R := Lib.hid ((H.out.take n).keep (Nat.le_refl _) ((Below.refl _ w).alloc (Nat.le_refl _) (.cells #[] 118)))
      clear hc e h0 hz
      go_wp2_with (at_builtin; refine append_full rfl _ _ rfl w.heap.size w.heap.size 0 [] rfl own.out okl_nil rfl (Nat.le_refl _) _ _ _ (xs.take n) rfl R.out (by simp; omega) (by omega) (by omega) (fun h => by rw [Nat.zero_add, nextslicecap_zero h]; omega) ?_)
      intro R' c w' ho hb0
      have hb : Below w.heap.size w w' := ((Below.refl _ w).alloc (Nat.le_refl _) (.cells #[] 118)).trans hb0
      have FIN : Hid (Gives w (val xs) (.returned (.slice R' n c)) w') := by
        show Gives w _ _ w'
        unfold Gives
        rw [← E.out]
        exact ⟨R', c, by rw [List.length_take, Nat.min_eq_left hn'], by simpa using ho, hb⟩
      clear ho hb hb0
      go_wp2
      go_ret
      exact FIN.out
theorem rtrim_n {A : Option Addr} {cap n : Nat} {xs : List Nat} {w : World} (h : Rd w A cap xs) (hn : xs.length = n) (hl : n ≤ 70368744177664) :
    Calls Tryz.prog 121 #[.slice A n cap] w (Gives w (val xs)) := by
  subst hn; exact rtrim_any A cap xs w h hl

theorem rfrom_any (v : Nat) (w : World) (hv : v < 18446744073709551616) :
    Calls Tryz.prog 81 #[.int .u64 (v : Int)] w (Gives w v) := by
  obtain ⟨ho, he⟩ := two_facts hv
  have hr := row_two w (zx := (v : Int) % 4294967296) (zy := (v : Int) / 4294967296) (x := v % 4294967296) (y := v / 4294967296) (by omega) (by omega)
  have hb : Below w.heap.size w (w.alloc (.cells #[.int .u32 ((v : Int) % 4294967296), .int .u32 ((v : Int) / 4294967296)] 118)) := (Below.refl _ _).alloc (Nat.le_refl _) _
  have S := rtrim_n (Own.of_row hr ho (Nat.le_refl w.heap.size) (by simp)).rd rfl (by simp)
  have HS := Lib.hid S
  have HE := Lib.hid he
  have HB := Lib.hid hb
  clear ho he hr hb S
  go_enter Tryz.func81, Tryz.ntmps81
  go_wp2_with fail
  refine HS.out.mono ?_
  rintro e w' ⟨R, c, rfl, ho, hb⟩
  have FIN : Hid (Gives w v (.returned (.slice R (ofv (val [v % 4294967296, v / 4294967296])).length c)) w') := by
    have e := HE.out
    rw [e] at ho ⊢
    exact ⟨R, c, rfl, ho.mono (by simp), HB.out.trans (hb.mono (by simp))⟩
  clear ho hb
  go_wp2
  go_ret
  exact FIN.out
end Go.Proofs.YtfacndibfkamgaaGreat

/-
  Contract of natural.Sub: the canonical list of the difference, or false.
-/
namespace Go.Proofs.YtfacndibfkamgaaGreat
open Go.RowKit
set_option linter.unusedVariables false

/-- As 'Gives', with true beside it. -/
def GivesT (w : World) (v : Nat) (e : Ending) (w' : World) : Prop := ∃ R c, e = .returned (.tuple #[.slice R (ofv v).length c, .bool true]) ∧ Own w' w.heap.size R c (ofv v) ∧ Below w.heap.size w w'
/-- No number, and false. -/
def GivesF (w : World) (e : Ending) (w' : World) : Prop := e = .returned (.tuple #[.slice none 0 0, .bool false]) ∧ Below w.heap.size w w'

theorem givesT_row {w w' : World} {v n g : Nat} {zs : List Nat} (hr : Row w' g zs) (hg : w.heap.size ≤ g) (hz : okl zs) (hb : Below w.heap.size w w') (hv : val zs = v) (hn : zs.length = n) (hm : n ≤ 9223372036854775807) :
    GivesT w v (.returned (.tuple #[.slice (some ⟨g, 0, none⟩) (ofv (val zs)).length n, .bool true])) w' := by
  subst hv hn
  exact ⟨_, _, rfl, (Own.of_row hr hz hg hm).sig, hb⟩

theorem cmp_nonneg {a b : Nat} (h : b ≤ a) : 0 ≤ cmp a b := by
  unfold cmp; rw [if_neg (by omega)]; split <;> omega

theorem sub_no (A B : Option Addr) (ca cb : Nat) (xs ys : List Nat) (w : World) (h : Rd w A ca xs) (h' : Rd w B cb ys) (hv : val xs < val ys) :
    Calls Tryz.prog 119 #[.slice A xs.length ca, .slice B ys.length cb] w (GivesF w) := by
  have C := compare_any A B ca cb xs ys w h h'
  rw [cmp_lt hv] at C
  have HC := Lib.hid C
  have hc := h.capLe
  clear C h h' hv
  go_enter Tryz.func119, Tryz.ntmps119
  go_wp2_with fail
  refine HC.out.mono ?_
  rintro e w' ⟨rfl, n, rfl⟩
  go_wp2
  go_ret2
  exact ⟨rfl, below_drewN _ _ _⟩

def SubInv (w0 : World) (w : World) (us vs : List Nat) (k bn : Nat) (wr : World) : Prop :=
  ∃ zs, Row wr w0.heap.size zs ∧ zs.length = us.length ∧ okl zs ∧ val (zs.take k) + val (vs.take k) = val (us.take k) + bn * pw k ∧ Below w0.heap.size w0 wr

theorem sub_step {w0 w wr : World} {us vs zs : List Nat} {k bn d b' : Nat} (hk : k < us.length) (hd : d < 4294967296) (hr : Row wr w0.heap.size zs) (hzl : zs.length = us.length) (hz : okl zs)
    (he : val (zs.take k) + val (vs.take k) = val (us.take k) + bn * pw k) (hb : Below w0.heap.size w0 wr) (hdd : d + lim vs k + bn = lim us k + 4294967296 * b') (z : Int) (hzz : z = (d : Nat)) :
    SubInv w0 w us vs (k + 1) b' (wr.setCell ⟨w0.heap.size, k, none⟩ (.int .u32 z)) := by
  subst hzz
  refine ⟨zs.set k d, hr.set_ _ _, by simpa using hzl, okl_set hz hd _, ?_, hb.setCell (Nat.le_refl _) _⟩
  rw [val_take_set (by omega), val_take_succ hk, val_take_succ' vs k, pw_succ]
  generalize lim us k = x at *
  generalize lim vs k = y at *
  grind

theorem wrap_low {x y b : Nat} (hx : x < 4294967296) (hy : y < 4294967296) (hb : b ≤ 1) (hlt : x < y) : IntKind.u64.wrap (IntKind.u64.wrap ((x : Int) - y) - b) = ((18446744073709551616 + x - y - b : Nat) : Int) := by
  rw [IntKind.wrap_u64, IntKind.wrap_u64]; omega
theorem wrap_one : IntKind.u64.wrap (-1) = 18446744073709551615 := by rw [IntKind.wrap_u64]; decide

set_option maxHeartbeats 2000000 in
theorem sub_yes (A B : Option Addr) (ca cb : Nat) (xs ys : List Nat) (w : World) (h : Rd w A ca xs) (h' : Rd w B cb ys) (hn : xs.length ≤ 70368744177663) (hv : val ys ≤ val xs) :
    Calls Tryz.prog 119 #[.slice A xs.length ca, .slice B ys.length cb] w (GivesT w (val xs - val ys)) := by
  have C := compare_any A B ca cb xs ys w h h'
  have hc0 := cmp_nonneg hv
  have hc1 := h.capLe
  have hc2 := h'.capLe
  have n1 := len_ofv_le h.ok
  have hn1 : (ofv (val xs)).length ≤ 70368744177663 := by omega
  have hx := val_ofv (val xs)
  have hy := val_ofv (val ys)
  have P0 := Lib.hid h
  have Q0 := Lib.hid h'
  have hl : (ofv (val ys)).length ≤ (ofv (val xs)).length := by
    rcases Nat.lt_or_ge (ofv (val xs)).length (ofv (val ys)).length with hlt | hge
    · have := lt_of_len_lt hlt; omega
    · exact hge
  have P := Lib.hid h.sig
  have Q := Lib.hid h'.sig
  have l1 := h.sig.len
  have l2 := h'.sig.len
  generalize hus : ofv (val xs) = us at *
  generalize hvs : ofv (val ys) = vs at *
  have HU := Lib.hid hus
  have HV := Lib.hid hvs
  have EX := Lib.hid hx
  have EY := Lib.hid hy
  have HN := Lib.hid hv
  generalize cmp (val xs) (val ys) = cc at *
  have HC := Lib.hid C
  clear C h h' hus hvs hx hy hv n1
  go_enter Tryz.func119, Tryz.ntmps119
  go_wp2_with fail
  refine HC.out.mono ?_
  rintro e w0 ⟨rfl, hq⟩
  have hb0 : Below w.heap.size w w0 := by obtain ⟨n, rfl⟩ := hq; exact below_drewN _ _ _
  have hs0 : w0.heap.size = w.heap.size := by obtain ⟨n, rfl⟩ := hq; rfl
  have HB0 := Lib.hid hb0
  have HS0 := Lib.hid hs0
  clear hq hb0 hs0
  go_wp2_with fail
  refine (sig_n (P0.out.below HB0.out) rfl).mono ?_
  rintro e w' ⟨rfl, rfl⟩
  rw [HU.out]
  go_wp2_with fail
  refine (sig_n (Q0.out.below HB0.out) rfl).mono ?_
  rintro e w' ⟨rfl, rfl⟩
  rw [HV.out]
  have X := Lib.hid (P.out.below HB0.out)
  have Y := Lib.hid (Q.out.below HB0.out)
  go_wp2_with (at_make; refine make_row rfl _ _ rfl _ _ us.length rfl rfl rfl rfl (by omega) ?_)
  intro w1 hrow hbel
  go_wp2
  go_loopw [7, 24] (fun b i wr => ∃ k bn : Nat, k ≤ us.length ∧ i = .int .i64 k ∧ b = .int .u64 bn ∧ bn ≤ 1 ∧ SubInv w0 w us vs k bn wr) (fun _ i _ => us.length - (intOf i).toNat)
  case atStart => exact ⟨0, 0, Nat.zero_le _, rfl, rfl, by omega, _, hrow, by simp, okl_replicate _, by simp [val_nil], hbel⟩
  case round =>
    clear hrow hbel
    obtain ⟨k, bn, hk, rfl, rfl, hbn, inv⟩ := hrel
    obtain ⟨zs, hrow, hzl, hzo, heq, hbel⟩ := inv
    have HE := Lib.hid heq
    have HZ := Lib.hid hzl
    have HR := Lib.hid hrow
    have HB := Lib.hid hbel
    clear heq hzl hrow
    by_cases hlt : k < us.length
    · have X1 := X.out.keep (Nat.le_refl _) hbel
      have Y1 := Y.out.keep (Nat.le_refl _) hbel
      obtain ⟨b, o, hA, hb, hc⟩ := X1.at_ hlt
      have c1 := hc k hlt
      have hfz := HR.out.frozen k
      have hcw := HR.out.cell (i := k) (by have := HZ.out; omega)
      have b1 := lim_lt X1.ok k
      have b2 := lim_lt Y1.ok k
      have L := Lib.hid (limbAt_n Y1 rfl k (by omega))
      have step := Lib.hid (fun d b' hd => sub_step (w := w) (d := d) (b' := b') hlt hd HR.out HZ.out hzo HE.out hbel)
      subst hA
      clear hc hbel X1 Y1
      have hcase : (lim vs k + bn ≤ lim us k) ∨ (lim us k < lim vs k) ∨ (lim us k = lim vs k ∧ bn = 1) := by omega
      rcases hcase with hge | hlt2 | ⟨heq2, rfl⟩
      · go_wp2_with fail
        refine L.out.mono ?_
        rintro e w' ⟨rfl, rfl⟩
        go_wp2
        go_roundw
        case rel => exact ⟨k + 1, 0, by omega, by go_num, by congr 1; omega, by omega, step.out (lim us k - lim vs k - bn) 0 (by omega) (by omega) _ (by omega)⟩
        case measure => simp [intOf]; omega
      · go_wp2_with fail
        refine L.out.mono ?_
        rintro e w' ⟨rfl, rfl⟩
        go_wp2
        go_roundw
        case rel =>
          rw [wrap_low b1 b2 hbn hlt2]
          exact ⟨k + 1, 1, by omega, by go_num, by congr 1; omega, by omega, step.out (4294967296 + lim us k - lim vs k - bn) 1 (by omega) (by omega) _ (by omega)⟩
        case measure => simp [intOf]; omega
      · go_wp2_with fail
        refine L.out.mono ?_
        rintro e w' ⟨rfl, rfl⟩
        go_wp2
        go_roundw
        case rel =>
          rw [wrap_one]
          exact ⟨k + 1, 1, by omega, by go_num, by first | rfl | (congr 1; omega), by omega, step.out 4294967295 1 (by omega) (by omega) _ (by omega)⟩
        case measure => simp [intOf]; omega
    · obtain rfl : k = us.length := by omega
      have hE := HE.out
      have hZ := HZ.out
      have okv : okl vs := Y.out.ok
      have t1 : zs.take us.length = zs := List.take_of_length_le (by omega)
      have t2 : vs.take us.length = vs := List.take_of_length_le hl
      have t3 : us.take us.length = us := List.take_of_length_le (Nat.le_refl _)
      rw [t1, t2, t3] at hE
      have hb0 : bn = 0 := by
        have hlt1 := val_lt hzo
        rw [hZ] at hlt1
        have e1 := EX.out
        have e2 := EY.out
        have e3 := HN.out
        rcases Nat.eq_zero_or_pos bn with h0 | h0
        · exact h0
        · obtain rfl : bn = 1 := by omega
          have hlt2 := val_lt X.out.ok
          omega
      subst hb0
      have hv2 : val zs = val xs - val ys := by
        have e1 := EX.out
        have e2 := EY.out
        omega
      have ow := Own.of_row (lo := w0.heap.size) HR.out hzo (Nat.le_refl _) (by omega)
      have rd := ow.rd
      rw [hZ] at rd
      have S := Lib.hid (sig_n rd hZ)
      have FIN := Lib.hid (givesT_row (w := w) HR.out (by rw [HS0.out]; exact Nat.le_refl _) hzo (HB0.out.trans (HB.out.mono (by rw [HS0.out]; exact Nat.le_refl _))) hv2 hZ (by omega))
      clear hbel hk hlt hE hZ okv t1 t2 t3 hv2 ow rd
      go_wp2_with fail
      refine S.out.mono ?_
      rintro e w' ⟨rfl, rfl⟩
      go_wp2
      go_ret2
      exact FIN.out

theorem sub_yes_n {A B : Option Addr} {ca cb n m : Nat} {xs ys : List Nat} {w : World} (h : Rd w A ca xs) (h' : Rd w B cb ys) (hn : xs.length = n) (hm : ys.length = m) (hl : n ≤ 70368744177663) (hv : val ys ≤ val xs) :
    Calls Tryz.prog 119 #[.slice A n ca, .slice B m cb] w (GivesT w (val xs - val ys)) := by
  subst hn hm; exact sub_yes A B ca cb xs ys w h h' hl hv
end Go.Proofs.YtfacndibfkamgaaGreat
