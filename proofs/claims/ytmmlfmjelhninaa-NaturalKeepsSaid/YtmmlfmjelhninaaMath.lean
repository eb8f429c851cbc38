/-
  Plain facts about lists of limbs in base 2^32: the value of a list, the canonical list of a value. No program is read here.
-/
namespace Go.Proofs.Ytmmlfmjelhninaa

/-- Limb i of a list, 0 beyond its end. -/
def lim (xs : List Nat) (i : Nat) : Nat := xs.getD i 0
/-- The value of a list of limbs. -/
def val : List Nat → Nat
  | [] => 0
  | x :: xs => x + 4294967296 * val xs
/-- Every limb is less than 2^32. -/
def okl (xs : List Nat) : Prop := ∀ x ∈ xs, x < 4294967296
/-- The weight of limb k. -/
def pw (k : Nat) : Nat := 4294967296 ^ k
/-- The canonical list of a value. -/
def ofv (v : Nat) : List Nat := if v = 0 then [] else v % 4294967296 :: ofv (v / 4294967296)
termination_by v
decreasing_by omega

theorem pw_zero : pw 0 = 1 := rfl
theorem pw_succ (k : Nat) : pw (k + 1) = 4294967296 * pw k := by unfold pw; rw [Nat.pow_succ, Nat.mul_comm]
theorem pw_pos (k : Nat) : 0 < pw k := Nat.pow_pos (by omega)
theorem pw_add (a b : Nat) : pw (a + b) = pw a * pw b := by unfold pw; rw [Nat.pow_add]
theorem pw_le {a b : Nat} (h : a ≤ b) : pw a ≤ pw b := Nat.pow_le_pow_right (by omega) h

theorem lim_nil (i : Nat) : lim [] i = 0 := by simp [lim]
theorem lim_cons_zero (x : Nat) (xs : List Nat) : lim (x :: xs) 0 = x := by simp [lim]
theorem lim_cons_succ (x : Nat) (xs : List Nat) (i : Nat) : lim (x :: xs) (i + 1) = lim xs i := by simp [lim]
theorem lim_lt {xs : List Nat} (h : okl xs) (i : Nat) : lim xs i < 4294967296 := by
  unfold lim
  rw [List.getD_eq_getElem?_getD]
  rcases Nat.lt_or_ge i xs.length with hi | hi
  · rw [List.getElem?_eq_getElem hi]
    exact h _ (List.getElem_mem hi)
  · rw [List.getElem?_eq_none hi]; simp
theorem lim_out {xs : List Nat} {i : Nat} (h : xs.length ≤ i) : lim xs i = 0 := by
  unfold lim
  rw [List.getD_eq_getElem?_getD, List.getElem?_eq_none h]; rfl
theorem lim_take {xs : List Nat} {m i : Nat} (h : i < m) : lim (xs.take m) i = lim xs i := by
  unfold lim
  rw [List.getD_eq_getElem?_getD, List.getD_eq_getElem?_getD, List.getElem?_take_of_lt h]
theorem lim_drop (xs : List Nat) (m i : Nat) : lim (xs.drop m) i = lim xs (m + i) := by
  unfold lim
  rw [List.getD_eq_getElem?_getD, List.getD_eq_getElem?_getD, List.getElem?_drop]
theorem lim_append_left {xs ys : List Nat} {i : Nat} (h : i < xs.length) : lim (xs ++ ys) i = lim xs i := by
  unfold lim
  rw [List.getD_eq_getElem?_getD, List.getD_eq_getElem?_getD, List.getElem?_append_left h]
theorem lim_append_right {xs ys : List Nat} {i : Nat} (h : xs.length ≤ i) : lim (xs ++ ys) i = lim ys (i - xs.length) := by
  unfold lim
  rw [List.getD_eq_getElem?_getD, List.getD_eq_getElem?_getD, List.getElem?_append_right h]
theorem lim_set_same {xs : List Nat} {i v : Nat} (h : i < xs.length) : lim (xs.set i v) i = v := by
  unfold lim
  rw [List.getD_eq_getElem?_getD, List.getElem?_set_self h]; rfl
theorem lim_set_other {xs : List Nat} {i j v : Nat} (h : i ≠ j) : lim (xs.set i v) j = lim xs j := by
  unfold lim
  rw [List.getD_eq_getElem?_getD, List.getD_eq_getElem?_getD, List.getElem?_set_ne h]
theorem lim_replicate (n i : Nat) : lim (List.replicate n 0) i = 0 := by
  unfold lim
  rw [List.getD_eq_getElem?_getD, List.getElem?_replicate]
  split <;> rfl
theorem lim_ext {xs ys : List Nat} (hl : xs.length = ys.length) (h : ∀ i, i < xs.length → lim xs i = lim ys i) : xs = ys := by
  apply List.ext_getElem hl
  intro i h1 h2
  have := h i h1
  unfold lim at this
  rw [List.getD_eq_getElem?_getD, List.getD_eq_getElem?_getD, List.getElem?_eq_getElem h1, List.getElem?_eq_getElem h2] at this
  simpa using this

theorem okl_nil : okl [] := by intro x h; cases h
theorem okl_of_lim {xs : List Nat} (h : ∀ i, i < xs.length → lim xs i < 4294967296) : okl xs := by
  intro x hx
  obtain ⟨i, hi, rfl⟩ := List.getElem_of_mem hx
  have := h i hi
  unfold lim at this
  rw [List.getD_eq_getElem?_getD, List.getElem?_eq_getElem hi] at this
  simpa using this
theorem okl_take {xs : List Nat} (h : okl xs) (m : Nat) : okl (xs.take m) := fun x hx => h x (List.mem_of_mem_take hx)
theorem okl_drop {xs : List Nat} (h : okl xs) (m : Nat) : okl (xs.drop m) := fun x hx => h x (List.mem_of_mem_drop hx)
theorem okl_append {xs ys : List Nat} (h : okl xs) (k : okl ys) : okl (xs ++ ys) := by
  intro x hx
  rcases List.mem_append.1 hx with hx | hx
  · exact h x hx
  · exact k x hx
theorem okl_set {xs : List Nat} (h : okl xs) {v : Nat} (hv : v < 4294967296) (i : Nat) : okl (xs.set i v) := by
  intro x hx
  rcases List.mem_or_eq_of_mem_set hx with hx | hx
  · exact h x hx
  · omega
theorem okl_replicate (n : Nat) : okl (List.replicate n 0) := by
  intro x hx
  have := (List.mem_replicate.1 hx).2
  omega

theorem val_nil : val [] = 0 := rfl
theorem val_cons (x : Nat) (xs : List Nat) : val (x :: xs) = x + 4294967296 * val xs := rfl
theorem val_append (xs ys : List Nat) : val (xs ++ ys) = val xs + pw xs.length * val ys := by
  induction xs with
  | nil => simp [val, pw_zero]
  | cons x xs ih =>
    rw [List.cons_append, val_cons, val_cons, ih, List.length_cons, pw_succ, Nat.mul_add, Nat.mul_assoc]; omega
theorem val_replicate (n : Nat) : val (List.replicate n 0) = 0 := by
  induction n with
  | zero => rfl
  | succ n ih => rw [List.replicate_succ, val_cons, ih]
theorem val_lt {xs : List Nat} (h : okl xs) : val xs < pw xs.length := by
  induction xs with
  | nil => simp [val, pw_zero]
  | cons x xs ih =>
    have h1 := ih (fun y hy => h y (List.mem_cons_of_mem _ hy))
    have h2 := h x (List.mem_cons_self ..)
    rw [val_cons, List.length_cons, pw_succ]; omega
theorem take_succ_lim {xs : List Nat} {k : Nat} (h : k < xs.length) : xs.take (k + 1) = xs.take k ++ [lim xs k] := by
  rw [List.take_succ_eq_append_getElem h]
  unfold lim
  rw [List.getD_eq_getElem?_getD, List.getElem?_eq_getElem h]; rfl
theorem val_take_succ {xs : List Nat} {k : Nat} (h : k < xs.length) : val (xs.take (k + 1)) = val (xs.take k) + lim xs k * pw k := by
  rw [take_succ_lim h, val_append, List.length_take, Nat.min_eq_left (by omega)]
  simp [val, Nat.mul_comm]
/-- Beyond the end too. -/
theorem val_take_succ' (xs : List Nat) (k : Nat) : val (xs.take (k + 1)) = val (xs.take k) + lim xs k * pw k := by
  rcases Nat.lt_or_ge k xs.length with h | h
  · exact val_take_succ h
  · rw [lim_out h, List.take_of_length_le (by omega), List.take_of_length_le h]; omega
theorem val_take_le (xs : List Nat) (k : Nat) : val (xs.take k) ≤ val xs := by
  have := val_append (xs.take k) (xs.drop k)
  rw [List.take_append_drop] at this
  omega
theorem val_split (xs : List Nat) (k : Nat) (h : k ≤ xs.length) : val xs = val (xs.take k) + pw k * val (xs.drop k) := by
  have := val_append (xs.take k) (xs.drop k)
  rwa [List.take_append_drop, List.length_take, Nat.min_eq_left h] at this
theorem take_set_ge {xs : List Nat} {i k v : Nat} (h : k ≤ i) : (xs.set i v).take k = xs.take k := List.take_set_of_le h
theorem val_take_set {xs : List Nat} {k v : Nat} (h : k < xs.length) : val ((xs.set k v).take (k + 1)) = val (xs.take k) + v * pw k := by
  rw [val_take_succ (by simpa using h), take_set_ge (Nat.le_refl _), lim_set_same h]

theorem ofv_zero : ofv 0 = [] := by rw [ofv]; simp
theorem ofv_pos {v : Nat} (h : v ≠ 0) : ofv v = v % 4294967296 :: ofv (v / 4294967296) := by rw [ofv]; simp [h]
theorem okl_ofv (v : Nat) : okl (ofv v) := by
  induction v using Nat.strongRecOn with
  | ind v ih =>
    by_cases h : v = 0
    · rw [h, ofv_zero]; exact okl_nil
    · rw [ofv_pos h]
      intro x hx
      rcases List.mem_cons.1 hx with rfl | hx
      · omega
      · exact ih (v / 4294967296) (by omega) x hx
theorem val_ofv (v : Nat) : val (ofv v) = v := by
  induction v using Nat.strongRecOn with
  | ind v ih =>
    by_cases h : v = 0
    · rw [h, ofv_zero]; rfl
    · rw [ofv_pos h, val_cons, ih (v / 4294967296) (by omega)]; omega
theorem ofv_inj {u v : Nat} (h : ofv u = ofv v) : u = v := by rw [← val_ofv u, h, val_ofv]
theorem ofv_eq_nil {v : Nat} : ofv v = [] ↔ v = 0 := ⟨fun h => by rw [← val_ofv v, h]; rfl, fun h => by rw [h, ofv_zero]⟩

/-- A list whose last limb is not 0 is the canonical list of its value. -/
theorem ofv_val_of {xs : List Nat} (h : okl xs) (hl : xs = [] ∨ lim xs (xs.length - 1) ≠ 0) : ofv (val xs) = xs := by
  induction xs with
  | nil => exact ofv_zero
  | cons x xs ih =>
    have hx := h x (List.mem_cons_self ..)
    have hxs : okl xs := fun y hy => h y (List.mem_cons_of_mem _ hy)
    by_cases hn : xs = []
    · subst hn
      have : x ≠ 0 := by
        rcases hl with hl | hl
        · cases hl
        · simpa [lim] using hl
      rw [val_cons, val_nil, ofv_pos (by omega)]
      have e1 : (x + 4294967296 * 0) % 4294967296 = x := by omega
      have e2 : (x + 4294967296 * 0) / 4294967296 = 0 := by omega
      rw [e1, e2, ofv_zero]
    · have hlen : 0 < xs.length := List.length_pos_iff.2 hn
      have hl' : lim xs (xs.length - 1) ≠ 0 := by
        rcases hl with hl | hl
        · cases hl
        · rw [List.length_cons] at hl
          have e : xs.length + 1 - 1 = (xs.length - 1) + 1 := by omega
          rw [e, lim_cons_succ] at hl
          exact hl
      have hv := ih hxs (.inr hl')
      have hpos : val xs ≠ 0 := by
        intro e
        rw [e, ofv_zero] at hv
        exact hn hv.symm
      rw [val_cons, ofv_pos (by omega)]
      have e1 : (x + 4294967296 * val xs) % 4294967296 = x := by omega
      have e2 : (x + 4294967296 * val xs) / 4294967296 = val xs := by omega
      rw [e1, e2, hv]
theorem val_take_of_zeros {xs : List Nat} {m : Nat} (hz : ∀ i, m ≤ i → i < xs.length → lim xs i = 0) : val (xs.take m) = val xs := by
  rcases Nat.lt_or_ge xs.length m with h | h
  · rw [List.take_of_length_le (by omega)]
  · have hd : xs.drop m = List.replicate (xs.length - m) 0 := by
      apply lim_ext
      · simp
      · intro i hi
        rw [List.length_drop] at hi
        rw [lim_drop, lim_replicate]
        exact hz _ (by omega) (by omega)
    have := val_split xs m h
    rw [hd, val_replicate] at this
    omega
/-- What is below the zeros at the end. -/
theorem take_eq_ofv {xs : List Nat} {m : Nat} (h : okl xs) (hm : m ≤ xs.length) (hz : ∀ i, m ≤ i → i < xs.length → lim xs i = 0) (hl : m = 0 ∨ lim xs (m - 1) ≠ 0) :
    xs.take m = ofv (val xs) := by
  rw [← val_take_of_zeros hz]
  symm
  apply ofv_val_of (okl_take h m)
  rcases Nat.eq_zero_or_pos m with h0 | h0
  · left; rw [h0]; simp
  · right
    rw [List.length_take, Nat.min_eq_left hm, lim_take (by omega)]
    rcases hl with hl | hl
    · omega
    · exact hl
theorem len_ofv_le_of_lt {v k : Nat} (h : v < pw k) : (ofv v).length ≤ k := by
  induction k generalizing v with
  | zero =>
    rw [pw_zero] at h
    have : v = 0 := by omega
    rw [this, ofv_zero]; simp
  | succ k ih =>
    by_cases hv : v = 0
    · rw [hv, ofv_zero]; simp
    · rw [ofv_pos hv, List.length_cons]
      rw [pw_succ] at h
      have := ih (v := v / 4294967296) (by omega)
      omega
theorem len_ofv_le {xs : List Nat} (h : okl xs) : (ofv (val xs)).length ≤ xs.length := len_ofv_le_of_lt (val_lt h)
theorem lt_pw_len (v : Nat) : v < pw (ofv v).length := by
  have := val_lt (okl_ofv v)
  rwa [val_ofv] at this
/-- The last limb of a canonical list is not 0. -/
theorem ofv_last {v : Nat} (h : v ≠ 0) : lim (ofv v) ((ofv v).length - 1) ≠ 0 := by
  induction v using Nat.strongRecOn with
  | ind v ih =>
    rw [ofv_pos h, List.length_cons]
    by_cases hq : v / 4294967296 = 0
    · rw [hq, ofv_zero]
      simp [lim]; omega
    · have h1 := ih (v / 4294967296) (by omega) hq
      have hlen : 0 < (ofv (v / 4294967296)).length := List.length_pos_iff.2 (fun e => hq (ofv_eq_nil.1 e))
      have e : (ofv (v / 4294967296)).length + 1 - 1 = ((ofv (v / 4294967296)).length - 1) + 1 := by omega
      rw [e, lim_cons_succ]
      exact h1
theorem pw_le_of_len {v k : Nat} (h : k < (ofv v).length) : pw k ≤ v := by
  rcases Nat.lt_or_ge v (pw k) with h1 | h1
  · have := len_ofv_le_of_lt h1; omega
  · exact h1
theorem lt_of_len_lt {u v : Nat} (h : (ofv u).length < (ofv v).length) : u < v := by
  have h1 := lt_pw_len u
  have h2 := pw_le_of_len h
  omega
theorem take_len_ofv {xs : List Nat} (h : okl xs) : xs.take (ofv (val xs)).length = ofv (val xs) := by
  have key : ∀ m, m ≤ xs.length → (∀ i, m ≤ i → i < xs.length → lim xs i = 0) → ∃ k, k ≤ m ∧ (∀ i, k ≤ i → i < xs.length → lim xs i = 0) ∧ (k = 0 ∨ lim xs (k - 1) ≠ 0) := by
    intro m
    induction m with
    | zero => intro _ hz; exact ⟨0, Nat.le_refl _, hz, .inl rfl⟩
    | succ m ih =>
      intro hm hz
      by_cases h0 : lim xs m = 0
      · obtain ⟨k, hk, hz', hl⟩ := ih (by omega) (fun i hi hi' => by
          by_cases e : i = m
          · rw [e]; exact h0
          · exact hz i (by omega) hi')
        exact ⟨k, by omega, hz', hl⟩
      · exact ⟨m + 1, Nat.le_refl _, hz, .inr (by simpa using h0)⟩
  obtain ⟨k, hk, hz, hl⟩ := key xs.length (Nat.le_refl _) (fun i h1 h2 => by omega)
  have e := take_eq_ofv h hk hz hl
  have el : (ofv (val xs)).length = k := by rw [← e, List.length_take, Nat.min_eq_left hk]
  rw [el]; exact e
theorem lim_ofv_val {xs : List Nat} (h : okl xs) (i : Nat) : lim (ofv (val xs)) i = lim xs i := by
  rcases Nat.lt_or_ge i (ofv (val xs)).length with hi | hi
  · rw [← take_len_ofv h, lim_take hi]
  · rw [lim_out hi]
    rcases Nat.lt_or_ge i xs.length with h2 | h2
    · have hs := val_split xs (ofv (val xs)).length (len_ofv_le h)
      rw [take_len_ofv h, val_ofv] at hs
      have h0 : val (xs.drop (ofv (val xs)).length) = 0 := by
        have := pw_pos (ofv (val xs)).length
        rcases Nat.eq_zero_or_pos (val (xs.drop (ofv (val xs)).length)) with e | e
        · exact e
        · have := Nat.mul_pos this e; omega
      have hall : ∀ (l : List Nat) (j : Nat), val l = 0 → lim l j = 0 := by
        intro l
        induction l with
        | nil => intro j _; exact lim_nil j
        | cons y l ih =>
          intro j hv
          rw [val_cons] at hv
          match j with
          | 0 => rw [lim_cons_zero]; omega
          | j + 1 => rw [lim_cons_succ]; exact ih j (by omega)
      have := hall _ (i - (ofv (val xs)).length) h0
      rw [lim_drop] at this
      rw [← this]; congr 1; omega
    · rw [lim_out h2]
/-- Two canonical lists of one length are compared from the most significant limb. -/
theorem val_lt_of_top {xs ys : List Nat} (hx : okl xs) {i : Nat} (hi : i < xs.length) (hl : xs.length = ys.length)
    (heq : ∀ j, i < j → j < xs.length → lim xs j = lim ys j) (hlt : lim xs i < lim ys i) : val xs < val ys := by
  have sx := val_split xs (i + 1) (by omega)
  have sy := val_split ys (i + 1) (by omega)
  have hd : xs.drop (i + 1) = ys.drop (i + 1) := by
    apply lim_ext
    · simp [hl]
    · intro j hj
      rw [List.length_drop] at hj
      rw [lim_drop, lim_drop]
      exact heq _ (by omega) (by omega)
  rw [val_take_succ hi] at sx
  rw [val_take_succ (by omega), ← hd] at sy
  have b := val_lt (okl_take hx i)
  rw [List.length_take, Nat.min_eq_left (by omega)] at b
  have m := Nat.mul_le_mul_right (pw i) (show lim xs i + 1 ≤ lim ys i from hlt)
  rw [Nat.add_mul, Nat.one_mul] at m
  omega

theorem or_low {a b i : Nat} (ha : a < 2 ^ i) : a ||| 2 ^ i * b = a + 2 ^ i * b := by
  rw [Nat.or_comm, ← Nat.two_pow_add_eq_or_of_lt ha]; omega
theorem or_low32 {a b : Nat} (ha : a < 4294967296) : a ||| b * 4294967296 = a + 4294967296 * b := by
  rw [Nat.mul_comm b]; exact or_low (i := 32) ha
end Go.Proofs.Ytmmlfmjelhninaa
