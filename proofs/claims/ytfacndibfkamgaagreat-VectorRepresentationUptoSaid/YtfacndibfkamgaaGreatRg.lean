/-
  A region whose operations stand apart: each is shown once, whatever others have come before it; what it leaves stays true behind the others. (Calls beside allocations: no order of theirs has to be walked.)
-/
import Derived.Test.YtfacndibfkamgaaGreatSplit
import Derived.Deep.RegionHeld3
namespace Go.Proofs.YtfacndibfkamgaaGreat
open Go.RowKit
set_option linter.unusedVariables false

section
variable {P : Program} {md : Region.Mode} {Q : Exit → Act → World → Prop} {S : World → Prop}

/-- The slot that operation i writes. -/
def dstOf (ops : Array Oper) (i : Nat) : Option Tmp := (ops[i]?).bind (·.dst)
/-- The frame: whatever stands in the slots of the operations of a list. -/
def Upd (ops : Array Oper) (vals : Nat → Value) : List Nat → Act → Act
  | [], a => a
  | i :: is, a => Upd ops vals is (a.put (dstOf ops i) (vals i))
def upd (vals : Nat → Value) (i : Nat) (v : Value) : Nat → Value := fun j => if j = i then v else vals j
/-- Two operations write two slots. -/
def apartB (ops : Array Oper) (i j : Nat) : Bool := i != j && (match dstOf ops i with | none => true | some d => dstOf ops j != some d)
def dstsB (ops : Array Oper) : List Nat → Bool
  | [] => true
  | i :: is => is.all (fun j => apartB ops i j) && dstsB ops is
theorem apartB_spec {ops : Array Oper} {i j : Nat} (h : apartB ops i j = true) : i ≠ j ∧ ∀ d, dstOf ops i = some d → dstOf ops j ≠ some d := by
  unfold apartB at h
  simp only [Bool.and_eq_true, bne_iff_ne] at h
  refine ⟨h.1, fun d hd => ?_⟩
  have h2 := h.2
  rw [hd] at h2
  simpa using h2
theorem Upd_congr {ops : Array Oper} {vals vals' : Nat → Value} : ∀ (l : List Nat) (a : Act), (∀ i ∈ l, vals i = vals' i) → Upd ops vals l a = Upd ops vals' l a
  | [], _, _ => rfl
  | i :: is, a, h => by
    unfold Upd
    rw [h i (by simp)]
    exact Upd_congr is _ (fun j hj => h j (by simp [hj]))
theorem Act.put_put (a : Act) (d : Option Tmp) (u v : Value) : (a.put d u).put d v = a.put d v := by
  cases d with
  | none => rfl
  | some d => simp [Act.put]
theorem Upd_put_far {ops : Array Oper} {vals : Nat → Value} {i : Nat} {v : Value} : ∀ (l : List Nat) (a : Act), (∀ j ∈ l, apartB ops i j = true) → (Upd ops vals l a).put (dstOf ops i) v = Upd ops vals l (a.put (dstOf ops i) v)
  | [], _, _ => rfl
  | j :: js, a, h => by
    unfold Upd
    rw [Upd_put_far js _ (fun k hk => h k (by simp [hk]))]
    rw [Act.put_comm a v (vals j) (apartB_spec (h j (by simp))).2]
theorem apartB_symm {ops : Array Oper} {i j : Nat} (h : apartB ops i j = true) : apartB ops j i = true := by
  obtain ⟨h1, h2⟩ := apartB_spec h
  unfold apartB
  simp only [Bool.and_eq_true, bne_iff_ne]
  refine ⟨fun e => h1 e.symm, ?_⟩
  cases hd : dstOf ops j with
  | none => rfl
  | some d =>
    show (dstOf ops i != some d) = true
    simp only [bne_iff_ne]
    intro e
    exact h2 d e hd
theorem Upd_put {ops : Array Oper} {vals : Nat → Value} {i : Nat} {v : Value} : ∀ (l : List Nat) (a : Act), dstsB ops l = true → i ∈ l → (Upd ops vals l a).put (dstOf ops i) v = Upd ops (upd vals i v) l a
  | [], _, _, h => by cases h
  | j :: js, a, hd, hm => by
    unfold dstsB at hd
    simp only [Bool.and_eq_true, List.all_eq_true] at hd
    unfold Upd
    rcases Nat.decEq i j with hne | he
    · have hm' : i ∈ js := by
        rcases List.mem_cons.1 hm with h | h
        · exact absurd h hne
        · exact h
      rw [Upd_put js _ hd.2 hm']
      unfold upd
      rw [if_neg (fun e : j = i => hne e.symm)]
    · subst he
      rw [Upd_put_far js _ (fun k hk => hd.1 k hk), Act.put_put]
      have e : upd vals i v i = v := if_pos rfl
      rw [e]
      exact Upd_congr js _ (fun k hk => by
        have := (apartB_spec (hd.1 k hk)).1
        unfold upd
        rw [if_neg (fun e => this e.symm)])
/-- The slots as they stand. -/
def slots (ops : Array Oper) (a : Act) : Nat → Value := fun i => match dstOf ops i with | some d => a.tmps.getD d undef | none => undef
theorem put_self (a : Act) (d : Tmp) : a.put (some d) (a.tmps.getD d undef) = a := by
  show ({ a with tmps := a.tmps.setIfInBounds d (a.tmps.getD d undef) } : Act) = a
  have : a.tmps.setIfInBounds d (a.tmps.getD d undef) = a.tmps := by
    apply Array.ext
    · simp
    · intro i h1 h2
      rw [Array.getElem_setIfInBounds]
      split
      · rename_i e
        subst e
        simp [h2]
      · rfl
  rw [this]
theorem Upd_slots (ops : Array Oper) (a : Act) : ∀ l : List Nat, Upd ops (slots ops a) l a = a
  | [] => rfl
  | i :: is => by
    unfold Upd
    have : a.put (dstOf ops i) (slots ops a i) = a := by
      unfold slots
      cases dstOf ops i with
      | none => rfl
      | some d => exact put_self a d
    rw [this]
    exact Upd_slots ops a is

/-- The block that a value points to. -/
def blk : Value → Option Nat
  | .pointer (some p) => some p.block
  | _ => none
/-- The facts that the operations of a list have left. -/
def depP (Pf : Nat → Value → World → Prop) (vals : Nat → Value) (w : World) : List Nat → Prop
  | [] => True
  | j :: js => Pf j (vals j) w ∧ depP Pf vals w js
theorem depP_of {Pf : Nat → Value → World → Prop} {vals : Nat → Value} {w : World} : ∀ (l : List Nat), (∀ j ∈ l, Pf j (vals j) w) → depP Pf vals w l
  | [], _ => trivial
  | j :: js, h => ⟨h j (by simp), depP_of js (fun k hk => h k (by simp [hk]))⟩
/-- Those of a list that an operation waits for. -/
def waits (md : Region.Mode) (todo : List Nat) (o : Oper) : List Nat := todo.filter fun j => o.after.any fun e => Region.binds md e && e.on == j

/-- What an operation must leave: its fact, S, a world that keeps the others' facts, and no address of an older block. -/
def Leaves (S : World → Prop) (Pf : Nat → Value → World → Prop) (Step : World → World → Prop) (i : Nat) (w : World) (v : Value) (w' : World) : Prop :=
  Step w w' ∧ S w' ∧ Pf i v w' ∧ ∀ g, blk v = some g → w.heap.size ≤ g
/-- The operations of a list, each shown once. -/
def RgAll (P : Program) (md : Region.Mode) (ops : Array Oper) (Q : Exit → Act → World → Prop) (S : World → Prop) (Pf : Nat → Value → World → Prop) (Step : World → World → Prop) (todo : List Nat) (a0 : Act) (l : List Nat) : Prop :=
  ∀ i ∈ l, ∃ o, ops[i]? = some o ∧ ∀ (vals : Nat → Value) (w : World), S w → depP Pf vals w (waits md todo o) →
    ∀ K' : Act → World → Prop, Shut (∀ v w', Leaves S Pf Step i w v w' → K' ((Upd ops vals todo a0).put o.dst v) w') →
      if Region.wanted o (yielded ops (Upd ops vals todo a0).tmps) = true then Oper.wp P o (Upd ops vals todo a0) w K' Q else K' ((Upd ops vals todo a0).put o.dst undef) w
theorem RgAll.nil {ops : Array Oper} {Pf : Nat → Value → World → Prop} {Step : World → World → Prop} {todo : List Nat} {a0 : Act} : RgAll P md ops Q S Pf Step todo a0 [] := fun _ h => by cases h
theorem RgAll.cons {ops : Array Oper} {Pf : Nat → Value → World → Prop} {Step : World → World → Prop} {todo : List Nat} {a0 : Act} {i : Nat} {l : List Nat} {o : Oper} {ds : List Nat} (ho : ops[i]? = some o) (hds : waits md todo o = ds)
    (h : ∀ (vals : Nat → Value) (w : World), S w → depP Pf vals w ds →
      ∀ K' : Act → World → Prop, Shut (∀ v w', Leaves S Pf Step i w v w' → K' ((Upd ops vals todo a0).put o.dst v) w') →
        if Region.wanted o (yielded ops (Upd ops vals todo a0).tmps) = true then Oper.wp P o (Upd ops vals todo a0) w K' Q else K' ((Upd ops vals todo a0).put o.dst undef) w)
    (hs : RgAll P md ops Q S Pf Step todo a0 l) : RgAll P md ops Q S Pf Step todo a0 (i :: l) := fun j hj => by
  rcases List.mem_cons.1 hj with rfl | hj
  · exact ⟨o, ho, by rw [hds]; exact h⟩
  · exact hs j hj

theorem getD_true_set {l : Array Bool} {i j : Nat} (h : (l.setIfInBounds i true).getD j true = false) : l.getD j true = false ∧ j ≠ i := by
  by_cases hi : j = i
  · subst hi
    rw [Array.getD_eq_getD_getElem?] at h
    by_cases hl : j < l.size
    · simp [hl] at h
    · simp [hl] at h
  · refine ⟨?_, hi⟩
    rwa [getD_set_ne true (fun e => hi e.symm)] at h

theorem wpAnyH_rg_aux {ls : List Oper} {Pf : Nat → Value → World → Prop} {Step : World → World → Prop} {todo : List Nat} {a0 : Act}
    (hd : downB ls = true) (hnd : dstsB ls.toArray todo = true)
    (hst : ∀ j u w w', Step w w' → Pf j u w → Pf j u w') (hlt : ∀ j u w g, Pf j u w → blk u = some g → g < w.heap.size)
    (hop : RgAll P md ls.toArray Q S Pf Step todo a0 todo)
    (hend : ∀ vals w, S w → depP Pf vals w todo → (∀ i ∈ todo, ∀ j ∈ todo, i ≠ j → ∀ g, blk (vals i) = some g → blk (vals j) ≠ some g) → Q .normal (Upd ls.toArray vals todo a0) w) :
    ∀ (fuel : Nat) (listed : Array Bool) (vals : Nat → Value) (w : World), listed.size = ls.length → (todo.filter fun j => !listed.getD j true).length ≤ fuel →
      (∀ j, listed.getD j true = false → j ∈ todo) → S w → (∀ j ∈ todo, listed.getD j true = true → Pf j (vals j) w) →
      (∀ i ∈ todo, ∀ j ∈ todo, listed.getD i true = true → listed.getD j true = true → i ≠ j → ∀ g, blk (vals i) = some g → blk (vals j) ≠ some g) →
      wpAnyH P md ls.toArray Q S fuel listed (Upd ls.toArray vals todo a0) w := by
  intro fuel
  have none_left : ∀ (listed : Array Bool), listed.size = ls.length → Region.ready md ls.toArray listed = [] → ∀ j ∈ todo, listed.getD j true = true := by
    intro listed hs h0 j hj
    cases hl : listed.getD j true with
    | true => rfl
    | false =>
      exfalso
      have hjn : j < ls.length := by
        rcases Nat.lt_or_ge j listed.size with h | h
        · omega
        · rw [Array.getD_eq_getD_getElem?, Array.getElem?_eq_none h] at hl; cases hl
      obtain ⟨k, hk⟩ := ready_ex (md := md) (lh := listed) hd hs j j rfl hjn hl
      rw [h0] at hk
      cases hk
  induction fuel with
  | zero =>
    intro listed vals w hs hf hun hS hP hD
    have hall : ∀ j ∈ todo, listed.getD j true = true := by
      intro j hj
      cases hl : listed.getD j true with
      | true => rfl
      | false =>
        exfalso
        have : j ∈ todo.filter fun j => !listed.getD j true := List.mem_filter.2 ⟨hj, by simp only [hl, Bool.not_false]⟩
        have := List.length_pos_of_mem this
        omega
    refine ⟨?_, hend vals w hS (depP_of _ fun j hj => hP j hj (hall j hj)) (fun i hi j hj hne => hD i hi j hj (hall i hi) (hall j hj) hne)⟩
    apply List.eq_nil_iff_forall_not_mem.2
    intro j hj
    have h1 := (mem_ready.1 hj).1
    have h2 := hall j (hun j h1)
    rw [h1] at h2
    cases h2
  | succ fuel ih =>
    intro listed vals w hs hf hun hS hP hD
    refine ⟨fun h0 => ?_, fun i hi => ?_⟩
    · have hall := none_left listed hs h0
      exact hend vals w hS (depP_of _ fun j hj => hP j hj (hall j hj)) (fun i hi j hj hne => hD i hi j hj (hall i hi) (hall j hj) hne)
    · obtain ⟨h1, o, ho, hdep⟩ := mem_ready.1 hi
      have hit := hun i h1
      obtain ⟨o', ho', hstep⟩ := hop i hit
      obtain rfl : o' = o := by rw [ho] at ho'; exact (Option.some.inj ho').symm
      have hdst : dstOf ls.toArray i = o'.dst := by unfold dstOf; rw [ho]; rfl
      refine wpOp_step ho (fun K' hK => ?_)
      refine hstep vals w hS (depP_of _ fun j hj => ?_) K' (fun v w' hL => hK _ _ ?_)
      · obtain ⟨hj1, hj2⟩ := List.mem_filter.1 hj
        obtain ⟨e, he, he2⟩ := Array.any_eq_true'.1 hj2
        simp only [Bool.and_eq_true, beq_iff_eq] at he2
        have h3 := hdep e he he2.1
        rw [he2.2] at h3
        refine hP j hj1 ?_
        cases hl : listed.getD j true with
        | true => rfl
        | false =>
          exfalso
          rcases Nat.lt_or_ge j listed.size with h | h
          · simp [h] at hl h3
            rw [hl] at h3
            cases h3
          · rw [Array.getD_eq_getD_getElem?, Array.getElem?_eq_none h] at hl
            cases hl
      · obtain ⟨l1, l2, l3, l4⟩ := hL
        refine ⟨l2, ?_⟩
        rw [← hdst, Upd_put todo a0 hnd hit]
        have old : ∀ j, j ≠ i → upd vals i v j = vals j := fun j hj => if_neg hj
        have new : upd vals i v i = v := if_pos rfl
        have lis : ∀ j, j ≠ i → (listed.setIfInBounds i true).getD j true = listed.getD j true := fun j hj => getD_set_ne true (fun e => hj e.symm)
        refine ih _ _ w' (by simpa using hs) ?_ (fun j hj => hun j (getD_true_set hj).1) l2 ?_ ?_
        · have hlt2 : (todo.filter fun j => !(listed.setIfInBounds i true).getD j true).length < (todo.filter fun j => !listed.getD j true).length := by
            have e : (todo.filter fun j => !(listed.setIfInBounds i true).getD j true) = (todo.filter fun j => !listed.getD j true).filter fun j => j != i := by
              rw [List.filter_filter]
              apply List.filter_congr
              intro j _
              by_cases hji : j = i
              · subst hji
                have : (listed.setIfInBounds j true).getD j true = true := by
                  cases hl : (listed.setIfInBounds j true).getD j true with
                  | true => rfl
                  | false => exact absurd rfl (getD_true_set hl).2
                rw [this]
                simp
              · rw [lis j hji]
                simp [hji]
            rw [e]
            have hmem : i ∈ todo.filter fun j => !listed.getD j true := List.mem_filter.2 ⟨hit, by simp only [h1, Bool.not_false]⟩
            exact List.length_filter_lt_length_iff_exists.2 ⟨i, hmem, by simp⟩
          omega
        · intro j hj hl
          by_cases hji : j = i
          · subst hji; rw [new]; exact l3
          · rw [old j hji]
            exact hst j _ w w' l1 (hP j hj (by rw [← lis j hji]; exact hl))
        · intro a ha b hb hla hlb hne g hg hg'
          by_cases hai : a = i
          · subst hai
            rw [new] at hg
            rw [old b (fun e => hne e.symm)] at hg'
            rw [lis b (fun e => hne e.symm)] at hlb
            have h5 := hlt b _ w g (hP b hb hlb) hg'
            have h6 := l4 g hg
            omega
          · rw [old a hai] at hg
            rw [lis a hai] at hla
            by_cases hbi : b = i
            · subst hbi
              rw [new] at hg'
              have h5 := hlt a _ w g (hP a ha hla) hg
              have h6 := l4 g hg'
              omega
            · rw [old b hbi] at hg'
              rw [lis b hbi] at hlb
              exact hD a ha b hb hla hlb hne g hg hg'

/-- The operations that are not listed. -/
def todoOf (listed : Array Bool) : List Nat := (List.range listed.size).filter fun j => !listed.getD j true
/-- The kernel's question. -/
def rgB (ls : List Oper) (listed : Array Bool) (todo : List Nat) : Bool :=
  downB ls && dstsB ls.toArray todo && decide (listed.size = ls.length) && decide (todoOf listed = todo)
/-- The law: from a state in which the operations of 'todo' alone have not come up. -/
theorem wpAnyH_rg {ls : List Oper} (todo : List Nat) (Pf : Nat → Value → World → Prop) (Step : World → World → Prop) {fuel : Nat} {listed : Array Bool} {a0 : Act} {w : World}
    (hB : rgB ls listed todo = true) (hf : todo.length ≤ fuel) (hS : S w)
    (hst : ∀ j u w w', Step w w' → Pf j u w → Pf j u w') (hlt : ∀ j u w g, Pf j u w → blk u = some g → g < w.heap.size)
    (hop : RgAll P md ls.toArray Q S Pf Step todo a0 todo)
    (hend : ∀ vals w, S w → depP Pf vals w todo → (∀ i ∈ todo, ∀ j ∈ todo, i ≠ j → ∀ g, blk (vals i) = some g → blk (vals j) ≠ some g) → Q .normal (Upd ls.toArray vals todo a0) w) :
    wpAnyH P md ls.toArray Q S fuel listed a0 w := by
  simp only [rgB, Bool.and_eq_true, decide_eq_true_eq] at hB
  obtain ⟨⟨⟨b1, b2⟩, b3⟩, b4⟩ := hB
  have hun : ∀ j, listed.getD j true = false ↔ j ∈ todo := by
    intro j
    rw [← b4]
    unfold todoOf
    rw [List.mem_filter, List.mem_range]
    constructor
    · intro h
      refine ⟨?_, by simp only [h, Bool.not_false]⟩
      rcases Nat.lt_or_ge j listed.size with h' | h'
      · exact h'
      · rw [Array.getD_eq_getD_getElem?, Array.getElem?_eq_none h'] at h; cases h
    · intro h
      simpa using h.2
  have no : ∀ j ∈ todo, listed.getD j true = true → False := by
    intro j hj h
    rw [(hun j).2 hj] at h
    cases h
  have key := wpAnyH_rg_aux (P := P) (md := md) (Q := Q) (S := S) (a0 := a0) b1 b2 hst hlt hop hend fuel listed (slots ls.toArray a0) w b3
    (Nat.le_trans (List.length_filter_le _ _) hf) (fun j h => (hun j).1 h) hS
    (fun j hj h => (no j hj h).elim) (fun i hi j hj h => (no i hi h).elim)
  rwa [Upd_slots] at key

/-- The frame, with the slots written out. -/
def Upd2 (vals : Nat → Value) : List (Nat × Option Tmp) → Act → Act
  | [], a => a
  | p :: l, a => Upd2 vals l (a.put p.2 (vals p.1))
theorem Upd2_eq {ops : Array Oper} {vals : Nat → Value} : ∀ (td : List (Nat × Option Tmp)) (a : Act), td.all (fun p => dstOf ops p.1 == p.2) = true → Upd ops vals (td.map (·.1)) a = Upd2 vals td a
  | [], _, _ => rfl
  | p :: l, a, h => by
    simp only [List.all_cons, Bool.and_eq_true, beq_iff_eq] at h
    unfold Upd2
    show Upd ops vals (l.map (·.1)) (a.put (dstOf ops p.1) (vals p.1)) = _
    rw [h.1]
    exact Upd2_eq l _ h.2
/-- What is stable: it stays true behind new memory, and its address is one that is there. -/
structure Good (f : Value → World → Prop) : Prop where
  st : ∀ v w w', Below w.heap.size w w' → f v w → f v w'
  lt : ∀ v w g, f v w → blk v = some g → g < w.heap.size
/-- The facts of a list of operations; the others have the first. -/
def pfOf (d : Value → World → Prop) : List (Nat × (Value → World → Prop)) → Nat → Value → World → Prop
  | [], _ => d
  | p :: l, j => if j = p.1 then p.2 else pfOf d l j
theorem pfOf_good {d : Value → World → Prop} (hd : Good d) : ∀ (l : List (Nat × (Value → World → Prop))), (∀ p ∈ l, Good p.2) → ∀ j, Good (pfOf d l j)
  | [], _, _ => hd
  | p :: l, h, j => by
    unfold pfOf
    split
    · exact h p (by simp)
    · exact pfOf_good hd l (fun q hq => h q (by simp [hq])) j
def goods : List (Nat × (Value → World → Prop)) → Prop
  | [] => True
  | p :: l => Good p.2 ∧ goods l
theorem goods_all : ∀ (l : List (Nat × (Value → World → Prop))), goods l → ∀ p ∈ l, Good p.2
  | [], _, _, h => by cases h
  | q :: l, h, p, hp => by
    rcases List.mem_cons.1 hp with rfl | hp
    · exact h.1
    · exact goods_all l h.2 p hp
/-- What an operation must leave, behind new memory alone. -/
def LeavesB (f : Value → World → Prop) (w : World) (v : Value) (w' : World) : Prop := Below w.heap.size w w' ∧ f v w' ∧ ∀ g, blk v = some g → w.heap.size ≤ g
def RgOps (P : Program) (md : Region.Mode) (ops : Array Oper) (Q : Exit → Act → World → Prop) (C : World → Prop) (pf : Nat → Value → World → Prop) (w2 : World) (td : List (Nat × Option Tmp)) (a0 : Act) (l : List Nat) : Prop :=
  ∀ i ∈ l, ∃ o, ops[i]? = some o ∧ ∀ (vals : Nat → Value) (w : World), Below w2.heap.size w2 w → C w → depP pf vals w (waits md (td.map (·.1)) o) →
    ∀ K' : Act → World → Prop, Shut (∀ v w', LeavesB (pf i) w v w' → K' ((Upd2 vals td a0).put o.dst v) w') →
      if Region.wanted o (yielded ops (Upd2 vals td a0).tmps) = true then Oper.wp P o (Upd2 vals td a0) w K' Q else K' ((Upd2 vals td a0).put o.dst undef) w
theorem RgOps.nil {ops : Array Oper} {C : World → Prop} {pf : Nat → Value → World → Prop} {w2 : World} {td : List (Nat × Option Tmp)} {a0 : Act} : RgOps P md ops Q C pf w2 td a0 [] := fun _ h => by cases h
theorem RgOps.cons {ops : Array Oper} {C : World → Prop} {pf : Nat → Value → World → Prop} {w2 : World} {td : List (Nat × Option Tmp)} {a0 : Act} {i : Nat} {l : List Nat} {o : Oper} {ds : List Nat} {f : Value → World → Prop} (ho : ops[i]? = some o) (hf : pf i = f) (hds : waits md (td.map (·.1)) o = ds)
    (h : ∀ (vals : Nat → Value) (w : World), Below w2.heap.size w2 w → C w → depP pf vals w ds →
      ∀ K' : Act → World → Prop, Shut (∀ v w', LeavesB f w v w' → K' ((Upd2 vals td a0).put o.dst v) w') →
        if Region.wanted o (yielded ops (Upd2 vals td a0).tmps) = true then Oper.wp P o (Upd2 vals td a0) w K' Q else K' ((Upd2 vals td a0).put o.dst undef) w)
    (hs : RgOps P md ops Q C pf w2 td a0 l) : RgOps P md ops Q C pf w2 td a0 (i :: l) := fun j hj => by
  rcases List.mem_cons.1 hj with rfl | hj
  · subst hf
    exact ⟨o, ho, by rw [hds]; exact h⟩
  · exact hs j hj
/-- The law, behind new memory alone: C is what the loads read; it holds behind every world that keeps what stood at the start. -/
theorem wpAnyH_rgb {ls : List Oper} (td : List (Nat × Option Tmp)) (d : Value → World → Prop) (fs : List (Nat × (Value → World → Prop))) (w2 : World) {C : World → Prop} {fuel : Nat} {listed : Array Bool} {a0 : Act} {w : World}
    (hB : rgB ls listed (td.map (·.1)) = true) (hT : td.all (fun p => dstOf ls.toArray p.1 == p.2) = true) (hf : (td.map (·.1)).length ≤ fuel) (hb : Below w2.heap.size w2 w)
    (hC : ∀ w', Below w2.heap.size w2 w' → C w') (gd : Good d) (gs : goods fs)
    (hop : RgOps P md ls.toArray Q C (pfOf d fs) w2 td a0 (td.map (·.1)))
    (hend : ∀ vals w, Below w2.heap.size w2 w → depP (pfOf d fs) vals w (td.map (·.1)) → (∀ i ∈ td.map (·.1), ∀ j ∈ td.map (·.1), i ≠ j → ∀ g, blk (vals i) = some g → blk (vals j) ≠ some g) → Q .normal (Upd2 vals td a0) w) :
    wpAnyH P md ls.toArray Q C fuel listed a0 w := by
  have good := pfOf_good gd fs (goods_all fs gs)
  have key : wpAnyH P md ls.toArray Q (fun w' => Below w2.heap.size w2 w' ∧ C w') fuel listed a0 w := by
    refine wpAnyH_rg (td.map (·.1)) (pfOf d fs) (fun w w' => Below w.heap.size w w') hB hf ⟨hb, hC w hb⟩ (fun j u w w' hs h => (good j).st u w w' hs h) (fun j u w g h hg => (good j).lt u w g h hg) ?_ ?_
    · intro i hi
      obtain ⟨o, ho, h⟩ := hop i hi
      refine ⟨o, ho, fun vals w1 hS hdep K' hK => ?_⟩
      rw [Upd2_eq td a0 hT] at hK ⊢
      refine h vals w1 hS.1 hS.2 hdep K' (fun v w' hL => hK v w' ?_)
      have hb2 : Below w2.heap.size w2 w' := hS.1.trans (hL.1.mono hS.1.size)
      exact ⟨hL.1, ⟨hb2, hC w' hb2⟩, hL.2.1, hL.2.2⟩
    · intro vals w1 hS hdep hD
      rw [Upd2_eq td a0 hT]
      exact hend vals w1 hS.1 hdep hD
  clear hend hop
  revert key
  have weaken : ∀ (fuel : Nat) (listed : Array Bool) (a : Act) (w : World), wpAnyH P md ls.toArray Q (fun w' => Below w2.heap.size w2 w' ∧ C w') fuel listed a w → wpAnyH P md ls.toArray Q C fuel listed a w := by
    intro fuel
    induction fuel with
    | zero => exact fun _ _ _ h => h
    | succ fuel ih => exact fun _ _ _ h => ⟨h.1, fun i hi => wpOp_mono (fun a' w' h' => ⟨h'.1.2, ih _ _ _ h'.2⟩) (h.2 i hi)⟩
  exact weaken _ _ _ _

/-! The operation is looked up in the list: so it stands written out. -/
theorem getL {l : List Oper} {i : Nat} {o : Oper} (h : l[i]? = some o) : l.toArray[i]? = some o := by simpa using h
theorem wpAnyH_takeL {l : List Oper} {i : Nat} {oi : Oper} {v : Value} {fuel : Nat} {listed : Array Bool} {a : Act} {w : World} (hi : l[i]? = some oi)
    (hs : Region.noSelect l.toArray = true) (hf : Region.free md l.toArray listed i = true) (hr : (Region.ready md l.toArray listed).contains i = true)
    (hQ : ∀ c a w, Q (.panic c) (a.put oi.dst v) w → Q (.panic c) a w) (hy : YieldsIf P l.toArray S oi v a) (hS : S w)
    (h : wpAnyH P md l.toArray Q S fuel (listed.setIfInBounds i true) (a.put oi.dst v) w) : wpAnyH P md l.toArray Q S (fuel + 1) listed a w :=
  wpAnyH_take (getL hi) hs hf hr hQ hy hS h
theorem AllReadyH.consL {l : List Oper} {fuel : Nat} {listed : Array Bool} {a : Act} {w : World} {i : Nat} {o : Oper} {rs : List Nat} (ho : l[i]? = some o)
    (h : ∀ K' : Act → World → Prop, Shut (∀ a w, S w → (S w → wpAnyH P md l.toArray Q S fuel (listed.setIfInBounds i true) a w) → K' a w) → if Region.wanted o (yielded l.toArray a.tmps) = true then Oper.wp P o a w K' Q else K' (a.put o.dst undef) w)
    (hs : AllReadyH P md l.toArray Q S fuel listed a w rs) : AllReadyH P md l.toArray Q S fuel listed a w (i :: rs) := AllReadyH.cons (getL ho) h hs
theorem RgOps.consL {l0 : List Oper} {C : World → Prop} {pf : Nat → Value → World → Prop} {w2 : World} {td : List (Nat × Option Tmp)} {a0 : Act} {i : Nat} {l : List Nat} {o : Oper} {ds : List Nat} {f : Value → World → Prop} (ho : l0[i]? = some o) (hf : pf i = f) (hds : waits md (td.map (·.1)) o = ds)
    (h : ∀ (vals : Nat → Value) (w : World), Below w2.heap.size w2 w → C w → depP pf vals w ds →
      ∀ K' : Act → World → Prop, Shut (∀ v w', LeavesB f w v w' → K' ((Upd2 vals td a0).put o.dst v) w') →
        if Region.wanted o (yielded l0.toArray (Upd2 vals td a0).tmps) = true then Oper.wp P o (Upd2 vals td a0) w K' Q else K' ((Upd2 vals td a0).put o.dst undef) w)
    (hs : RgOps P md l0.toArray Q C pf w2 td a0 l) : RgOps P md l0.toArray Q C pf w2 td a0 (i :: l) := RgOps.cons (getL ho) hf hds h hs

/-! With operations that only compute taken as soon as they may come up (T), and others behind all of them. -/
/-- Each operation waits for earlier ones alone. -/
def downA (ops : List Oper) : Bool := (List.range ops.length).all fun i => match ops[i]? with
  | none => true
  | some o => o.after.all fun e => !Region.binds .any e || decide (e.on < i)
theorem downA_spec {ops : List Oper} (h : downA ops = true) {i : Nat} {o : Oper} (ho : ops[i]? = some o) : ∀ e ∈ o.after, Region.binds .any e = true → e.on < i := by
  have hi : i < ops.length := (List.getElem?_eq_some_iff.1 ho).1
  have h1 := List.all_eq_true.1 h i (List.mem_range.2 hi)
  simp only [ho] at h1
  intro e he hb
  have h2 := Array.all_eq_true'.1 h1 e he
  simpa [hb] using h2
theorem ready_exA {head : List Oper} {lh : Array Bool} (hd : downA head = true) (hs : lh.size = head.length) : ∀ (d i : Nat), i = d → i < head.length → lh.getD i true = false → ∃ j, j ∈ Region.ready .any head.toArray lh := by
  intro d
  induction d using Nat.strongRecOn with
  | _ d ih =>
    intro i hid hi hun
    obtain ⟨o, ho⟩ : ∃ o, head[i]? = some o := ⟨_, List.getElem?_eq_getElem hi⟩
    by_cases hall : ∀ e ∈ o.after, Region.binds .any e = true → lh.getD e.on false = true
    · exact ⟨i, mem_ready.2 ⟨hun, o, by simpa using ho, hall⟩⟩
    · simp only [Classical.not_forall] at hall
      obtain ⟨e, he, hb, hl⟩ := hall
      have hlt := downA_spec hd ho e he hb
      have hl' : lh.getD e.on false = false := by simpa using hl
      exact ih e.on (by omega) e.on rfl (by omega) (getD_in (by omega) hl')
/-- Whoever does not wait for i, and for whom i does not wait, is apart from it. -/
def freeB (ls : List Oper) (i : Nat) : Bool := (List.range ls.length).all fun j => j == i || match ls[i]?, ls[j]? with
  | some oi, some oj => (oj.after.any fun e => Region.binds .any e && e.on == i) || (oi.after.any fun e => Region.binds .any e && e.on == j) || oi.apart ls.toArray oj
  | _, _ => true
/-- Who comes behind: it waits for all of 'must', or for an earlier one that comes behind. -/
def behindB (ls : List Oper) (rest must : List Nat) : Bool := rest.all fun r => match ls[r]? with
  | none => false
  | some o => (must.all fun j => o.after.any fun e => Region.binds .any e && e.on == j) || (rest.any fun r' => decide (r' < r) && o.after.any fun e => Region.binds .any e && e.on == r')
def setAll (listed : Array Bool) : List Nat → Array Bool
  | [] => listed
  | i :: is => setAll (listed.setIfInBounds i true) is
def restOf (listed : Array Bool) (todo : List Nat) : List Nat := (List.range listed.size).filter fun j => !listed.getD j true && !todo.contains j
theorem freeB_spec {ls : List Oper} {i j : Nat} {oi oj : Oper} (h : freeB ls i = true) (hi : ls[i]? = some oi) (hj : ls[j]? = some oj) (hne : j ≠ i) (h1 : ∀ e ∈ oj.after, Region.binds .any e = true → e.on ≠ i) (h2 : ∀ e ∈ oi.after, Region.binds .any e = true → e.on ≠ j) : oi.apart ls.toArray oj = true := by
  unfold freeB at h
  have hjn : j < ls.length := (List.getElem?_eq_some_iff.1 hj).1
  have h3 := List.all_eq_true.1 h j (List.mem_range.2 hjn)
  simp only [hi, hj, Bool.or_eq_true, beq_iff_eq] at h3
  rcases h3 with h3 | (h3 | h3) | h3
  · exact absurd h3 hne
  · obtain ⟨e, he, hh⟩ := Array.any_eq_true'.1 h3
    simp only [Bool.and_eq_true, beq_iff_eq] at hh
    exact absurd hh.2 (h1 e he hh.1)
  · obtain ⟨e, he, hh⟩ := Array.any_eq_true'.1 h3
    simp only [Bool.and_eq_true, beq_iff_eq] at hh
    exact absurd hh.2 (h2 e he hh.1)
  · exact h3
theorem getD_false_true {l : Array Bool} {j : Nat} (h : l.getD j false = true) : l.getD j true = true := by
  rw [Array.getD_eq_getD_getElem?] at h ⊢
  cases hl : l[j]? with
  | none => rfl
  | some b => rw [hl] at h; simpa using h
theorem setAll_getD : ∀ (is : List Nat) (l : Array Bool) (j : Nat), (setAll l is).getD j true = true ↔ (l.getD j true = true ∨ j ∈ is)
  | [], l, j => by simp [setAll]
  | i :: is, l, j => by
    unfold setAll
    rw [setAll_getD is]
    constructor
    · intro h
      rcases h with h | h
      · by_cases hji : j = i
        · subst hji; simp
        · rw [getD_set_ne true (fun e => hji e.symm)] at h
          exact .inl h
      · simp [h]
    · intro h
      rcases h with h | h
      · left
        cases hh : (l.setIfInBounds i true).getD j true with
        | true => rfl
        | false => rw [(getD_true_set hh).1] at h; exact h
      · rcases List.mem_cons.1 h with rfl | h
        · left
          cases hh : (l.setIfInBounds j true).getD j true with
          | true => rfl
          | false => exact absurd rfl (getD_true_set hh).2
        · exact .inr h
theorem setAll_size : ∀ (is : List Nat) (l : Array Bool), (setAll l is).size = l.size
  | [], _ => rfl
  | i :: is, l => by unfold setAll; rw [setAll_size is]; simp
theorem arr_ext {a b : Array Bool} (hs : a.size = b.size) (h : ∀ j, a.getD j true = true ↔ b.getD j true = true) : a = b := by
  apply Array.ext hs
  intro i h1 h2
  have h3 := h i
  simp only [Array.getD_eq_getD_getElem?, Array.getElem?_eq_getElem h1, Array.getElem?_eq_getElem h2, Option.getD_some] at h3
  cases ha : a[i] <;> cases hb : b[i] <;> simp_all

theorem len_filter_ne {i : Nat} : ∀ {l : List Nat}, l.Nodup → i ∈ l → (l.filter fun j => j != i).length + 1 = l.length
  | [], _, h => by cases h
  | a :: tl, hn, h => by
    have hn' := List.nodup_cons.1 hn
    by_cases e : a = i
    · subst e
      have : (tl.filter fun j => j != a) = tl := List.filter_eq_self.2 (fun j hj => by simp only [bne_iff_ne]; intro e; subst e; exact hn'.1 hj)
      simp [this]
    · have hm : i ∈ tl := by
        rcases List.mem_cons.1 h with h | h
        · exact absurd h.symm e
        · exact h
      have := len_filter_ne hn'.2 hm
      simp only [List.filter_cons, bne_iff_ne, ne_eq, e, not_false_eq_true, if_true, List.length_cons]
      omega
theorem wpAnyH_rgt_aux {ls : List Oper} {Pf : Nat → Value → World → Prop} {Step : World → World → Prop} {todo T : List Nat} {a0 : Act} {listed0 : Array Bool} {f0 : Nat}
    (hd : downA ls = true) (hnd : dstsB ls.toArray todo = true) (hsel : Region.noSelect ls.toArray = true) (hfr : T.all (fun i => freeB ls i) = true)
    (hTt : ∀ i ∈ T, i ∈ todo) (hbe : behindB ls (restOf listed0 todo) (todo.filter fun j => !T.contains j) = true) (hcl : T.all (fun i => match ls[i]? with | none => true | some o => o.after.all fun e => !Region.binds .any e || !(restOf listed0 todo).contains e.on) = true) (hs0 : listed0.size = ls.length)
    (hQ0 : ∀ c a (d : Nat) v w, Q (.panic c) (a.put (some d) v) w → Q (.panic c) a w)
    (hst : ∀ j u w w', Step w w' → Pf j u w → Pf j u w') (hlt : ∀ j u w g, Pf j u w → blk u = some g → g < w.heap.size) (hrefl : ∀ w, Step w w)
    (hop : RgAll P .any ls.toArray Q S Pf Step todo a0 (todo.filter fun j => !T.contains j))
    (hta : ∀ i ∈ T, ∃ o, ls[i]? = some o ∧ ∀ (vals : Nat → Value) (w : World), S w → depP Pf vals w (waits .any todo o) → ∃ v, YieldsIf P ls.toArray S o v (Upd ls.toArray vals todo a0) ∧ Pf i v w ∧ blk v = none)
    (hend : ∀ vals w, S w → depP Pf vals w todo → (∀ i ∈ todo, ∀ j ∈ todo, i ≠ j → ∀ g, blk (vals i) = some g → blk (vals j) ≠ some g) → wpAnyH P .any ls.toArray Q S f0 (setAll listed0 todo) (Upd ls.toArray vals todo a0) w) :
    ∀ (k : Nat) (listed : Array Bool) (vals : Nat → Value) (w : World), listed.size = ls.length → (todo.filter fun j => !listed.getD j true).length = k →
      (∀ j, listed0.getD j true = true → listed.getD j true = true) → (∀ j, listed.getD j true = true → listed0.getD j true = true ∨ j ∈ todo) → S w → (∀ j ∈ todo, listed.getD j true = true → Pf j (vals j) w) →
      (∀ i ∈ todo, ∀ j ∈ todo, listed.getD i true = true → listed.getD j true = true → i ≠ j → ∀ g, blk (vals i) = some g → blk (vals j) ≠ some g) →
      wpAnyH P .any ls.toArray Q S (k + f0) listed (Upd ls.toArray vals todo a0) w := by
  have hQ : ∀ c a d v w, Q (.panic c) (a.put d v) w → Q (.panic c) a w := fun c a d v w h => by
    cases d with
    | none => exact h
    | some d => exact hQ0 c a d v w h
  intro k
  induction k with
  | zero =>
    intro listed vals w hs hk hsub hsup hS hP hD
    have hall : ∀ j ∈ todo, listed.getD j true = true := by
      intro j hj
      cases hl : listed.getD j true with
      | true => rfl
      | false =>
        exfalso
        have : j ∈ todo.filter fun j => !listed.getD j true := List.mem_filter.2 ⟨hj, by simp only [hl, Bool.not_false]⟩
        have := List.length_pos_of_mem this
        omega
    have e : listed = setAll listed0 todo := arr_ext (by rw [setAll_size, hs, hs0]) (fun j => by
      rw [setAll_getD]
      exact ⟨hsup j, fun h => h.elim (hsub j) (hall j)⟩)
    rw [Nat.zero_add, e]
    exact hend vals w hS (depP_of _ fun j hj => hP j hj (hall j hj)) (fun i hi j hj hne => hD i hi j hj (hall i hi) (hall j hj) hne)
  | succ k ih =>
    intro listed vals w hs hk hsub hsup hS hP hD
    -- one step, by an operation of 'todo'
    have next : ∀ i, i ∈ todo → listed.getD i true = false → ∀ (o : Oper), ls[i]? = some o → ∀ v w', Leaves S Pf Step i w v w' →
        wpAnyH P .any ls.toArray Q S (k + f0) (listed.setIfInBounds i true) ((Upd ls.toArray vals todo a0).put o.dst v) w' := by
      intro i hit h1 o ho v w' hL
      obtain ⟨l1, l2, l3, l4⟩ := hL
      have hdst : dstOf ls.toArray i = o.dst := by unfold dstOf; rw [getL ho]; rfl
      rw [← hdst, Upd_put todo a0 hnd hit]
      have old : ∀ j, j ≠ i → upd vals i v j = vals j := fun j hj => if_neg hj
      have new : upd vals i v i = v := if_pos rfl
      have lis : ∀ j, j ≠ i → (listed.setIfInBounds i true).getD j true = listed.getD j true := fun j hj => getD_set_ne true (fun e => hj e.symm)
      have self : (listed.setIfInBounds i true).getD i true = true := by
        cases hl : (listed.setIfInBounds i true).getD i true with
        | true => rfl
        | false => exact absurd rfl (getD_true_set hl).2
      refine ih _ _ w' (by simpa using hs) ?_ ?_ ?_ l2 ?_ ?_
      · have e : (todo.filter fun j => !(listed.setIfInBounds i true).getD j true) = (todo.filter fun j => !listed.getD j true).filter fun j => j != i := by
          rw [List.filter_filter]
          apply List.filter_congr
          intro j _
          by_cases hji : j = i
          · subst hji
            rw [self]
            simp
          · rw [lis j hji]
            simp [hji]
        have nod : todo.Nodup := by
          have : ∀ l : List Nat, dstsB ls.toArray l = true → l.Nodup := by
            intro l
            induction l with
            | nil => intro _; exact List.nodup_nil
            | cons a tl iha =>
              intro h
              unfold dstsB at h
              simp only [Bool.and_eq_true, List.all_eq_true] at h
              exact List.nodup_cons.2 ⟨fun hm => (apartB_spec (h.1 a hm)).1 rfl, iha h.2⟩
          exact this todo hnd
        have hmem : i ∈ todo.filter fun j => !listed.getD j true := List.mem_filter.2 ⟨hit, by simp only [h1, Bool.not_false]⟩
        rw [e]
        have := len_filter_ne (nod.filter fun j => !listed.getD j true) hmem
        omega
      · intro j hj
        by_cases hji : j = i
        · subst hji; exact self
        · rw [lis j hji]; exact hsub j hj
      · intro j hj
        by_cases hji : j = i
        · subst hji; exact .inr hit
        · exact hsup j (by rw [← lis j hji]; exact hj)
      · intro j hj hl
        by_cases hji : j = i
        · subst hji; rw [new]; exact l3
        · rw [old j hji]
          exact hst j _ w w' l1 (hP j hj (by rw [← lis j hji]; exact hl))
      · intro a ha b hb hla hlb hne g hg hg'
        by_cases hai : a = i
        · subst hai
          rw [new] at hg
          rw [old b (fun e => hne e.symm)] at hg'
          rw [lis b (fun e => hne e.symm)] at hlb
          have h5 := hlt b _ w g (hP b hb hlb) hg'
          have h6 := l4 g hg
          omega
        · rw [old a hai] at hg
          rw [lis a hai] at hla
          by_cases hbi : b = i
          · subst hbi
            rw [new] at hg'
            have h5 := hlt a _ w g (hP a ha hla) hg
            have h6 := l4 g hg'
            omega
          · rw [old b hbi] at hg'
            rw [lis b hbi] at hlb
            exact hD a ha b hb hla hlb hne g hg hg'
    have depsOf : ∀ (i : Nat) (o : Oper), ls.toArray[i]? = some o → (∀ e ∈ o.after, Region.binds .any e = true → listed.getD e.on false = true) → depP Pf vals w (waits .any todo o) := by
      intro i o ho hdep
      refine depP_of _ fun j hj => ?_
      obtain ⟨hj1, hj2⟩ := List.mem_filter.1 hj
      obtain ⟨e, he, he2⟩ := Array.any_eq_true'.1 hj2
      simp only [Bool.and_eq_true, beq_iff_eq] at he2
      have h3 := hdep e he he2.1
      rw [he2.2] at h3
      exact hP j hj1 (getD_false_true h3)
    rw [show k + 1 + f0 = (k + f0) + 1 by omega]
    by_cases hex : ∃ i, i ∈ T ∧ i ∈ Region.ready .any ls.toArray listed
    · obtain ⟨i, hiT, hir⟩ := hex
      obtain ⟨h1, o, ho, hdep⟩ := mem_ready.1 hir
      obtain ⟨o', ho', hv⟩ := hta i hiT
      have eo : o' = o := by
        have := getL ho'
        rw [ho] at this
        exact (Option.some.inj this).symm
      subst eo
      obtain ⟨v, hy, hpf, hbk⟩ := hv vals w hS (depsOf i o' ho hdep)
      refine wpAnyH_first ho (Region.noSelect_spec hsel) (fun c a w h => hQ c a _ _ w h) (k + f0) listed _ w (fun j oj hj hne hun hno => ?_) hir hy hS ?_
      · have hj' : ls[j]? = some oj := by simpa using hj
        refine freeB_spec (List.all_eq_true.1 hfr i hiT) ho' hj' hne hno (fun e he hb hej => ?_)
        have h3 := hdep e he hb
        rw [hej] at h3
        have := getD_false_true h3
        rw [hun] at this
        cases this
      · exact next i (hTt i hiT) h1 o' ho' v w ⟨hrefl w, hS, hpf, fun g hg => by rw [hbk] at hg; cases hg⟩
    · -- no operation that only computes is ready: who is ready is one of 'todo' (k + 1 > 0 of them have not come up)
      have left : ∃ j, j ∈ todo ∧ listed.getD j true = false := by
        cases hf : todo.filter fun j => !listed.getD j true with
        | nil => rw [hf] at hk; cases hk
        | cons j js =>
          have hm : j ∈ todo.filter fun j => !listed.getD j true := by rw [hf]; simp
          obtain ⟨h1, h2⟩ := List.mem_filter.1 hm
          exact ⟨j, h1, by simpa using h2⟩
      -- some operation outside T of 'todo' has not come up
      have bound : ∀ j, listed.getD j true = false → j < ls.length := by
        intro j hl
        rcases Nat.lt_or_ge j listed.size with h | h
        · omega
        · rw [Array.getD_eq_getD_getElem?, Array.getElem?_eq_none h] at hl; cases hl
      have notrest : ∀ r, r ∈ Region.ready .any ls.toArray listed → r ∉ todo → ∀ m, m ∈ todo → m ∉ T → listed.getD m true = false → False := by
        intro r
        induction r using Nat.strongRecOn with
        | _ r ihr =>
          intro hr hnt m hm hmT hmu
          obtain ⟨h1, o, ho, hdep⟩ := mem_ready.1 hr
          have ho' : ls[r]? = some o := by simpa using ho
          have hrr : r ∈ restOf listed0 todo := by
            refine List.mem_filter.2 ⟨List.mem_range.2 (by rw [hs0]; exact bound r h1), ?_⟩
            have : listed0.getD r true = false := by
              cases hl : listed0.getD r true with
              | false => rfl
              | true => rw [hsub r hl] at h1; cases h1
            simp only [this, Bool.not_false, Bool.true_and, Bool.not_eq_true']
            simpa using hnt
          have hb := List.all_eq_true.1 hbe r hrr
          simp only [ho', Bool.or_eq_true] at hb
          rcases hb with hb | hb
          · have h2 := List.all_eq_true.1 hb m (List.mem_filter.2 ⟨hm, by simpa using hmT⟩)
            obtain ⟨e, he, hh⟩ := Array.any_eq_true'.1 h2
            simp only [Bool.and_eq_true, beq_iff_eq] at hh
            have h3 := hdep e he hh.1
            rw [hh.2] at h3
            have := getD_false_true h3
            rw [hmu] at this
            cases this
          · obtain ⟨r', hr', hh⟩ := List.any_eq_true.1 hb
            simp only [Bool.and_eq_true, decide_eq_true_eq] at hh
            obtain ⟨e, he, hh2⟩ := Array.any_eq_true'.1 hh.2
            simp only [Bool.and_eq_true, beq_iff_eq] at hh2
            have h3 := hdep e he hh2.1
            rw [hh2.2] at h3
            have h4 := getD_false_true h3
            have h5 := (List.mem_filter.1 hr').2
            simp only [Bool.and_eq_true, Bool.not_eq_true', List.contains_eq_mem, decide_eq_false_iff_not] at h5
            rcases hsup r' h4 with h6 | h6
            · rw [h5.1] at h6; cases h6
            · exact h5.2 h6
      have someM : ∃ m, m ∈ todo ∧ m ∉ T ∧ listed.getD m true = false := by
        obtain ⟨j, hj, hju⟩ := left
        have least : ∀ d j, j = d → j ∈ todo → listed.getD j true = false → ∃ m, m ∈ todo ∧ m ∉ T ∧ listed.getD m true = false := by
          intro d
          induction d using Nat.strongRecOn with
          | _ d ihd =>
            intro j hjd hj hju
            by_cases hjT : j ∈ T
            · have hnr : j ∉ Region.ready .any ls.toArray listed := fun h => hex ⟨j, hjT, h⟩
              obtain ⟨o, ho⟩ : ∃ o, ls[j]? = some o := ⟨_, List.getElem?_eq_getElem (bound j hju)⟩
              have : ¬ ∀ e ∈ o.after, Region.binds .any e = true → listed.getD e.on false = true := fun hall => hnr (mem_ready.2 ⟨hju, o, getL ho, hall⟩)
              simp only [Classical.not_forall] at this
              obtain ⟨e, he, hb, hl⟩ := this
              have hlt' := downA_spec hd ho e he hb
              have hl' : listed.getD e.on true = false := by
                have hlf : listed.getD e.on false = false := by simpa using hl
                exact getD_in (by have := bound j hju; omega) hlf
              have het : e.on ∈ todo := by
                rcases Classical.em (e.on ∈ todo) with h | h
                · exact h
                · exfalso
                  have hrr : e.on ∈ restOf listed0 todo := by
                    refine List.mem_filter.2 ⟨List.mem_range.2 (by rw [hs0]; exact bound _ hl'), ?_⟩
                    have : listed0.getD e.on true = false := by
                      cases hl2 : listed0.getD e.on true with
                      | false => rfl
                      | true => rw [hsub _ hl2] at hl'; cases hl'
                    simp only [this, Bool.not_false, Bool.true_and, Bool.not_eq_true']
                    simpa using h
                  have h1 := List.all_eq_true.1 hcl j hjT
                  simp only [ho] at h1
                  have h2 := Array.all_eq_true'.1 h1 e he
                  simp only [hb, Bool.not_true, Bool.false_or, Bool.not_eq_true', List.contains_eq_mem, decide_eq_false_iff_not] at h2
                  exact h2 hrr
              exact ihd e.on (by omega) e.on rfl het hl'
            · exact ⟨j, hj, hjT, hju⟩
        exact least j j rfl hj hju
      obtain ⟨m, hm, hmT, hmu⟩ := someM
      refine ⟨fun h0 => ?_, fun i hi => ?_⟩
      · exfalso
        obtain ⟨j, hj⟩ := ready_exA (lh := listed) hd hs m m rfl (bound m hmu) hmu
        rw [h0] at hj
        cases hj
      · obtain ⟨h1, o, ho, hdep⟩ := mem_ready.1 hi
        by_cases hit : i ∈ todo
        · have hiT : i ∉ T := fun h => hex ⟨i, h, hi⟩
          obtain ⟨o', ho', hstep⟩ := hop i (List.mem_filter.2 ⟨hit, by simpa using hiT⟩)
          obtain rfl : o' = o := by rw [ho] at ho'; exact (Option.some.inj ho').symm
          refine wpOp_step ho (fun K' hK => ?_)
          refine hstep vals w hS (depsOf i o' ho hdep) K' (fun v w' hL => hK _ _ ⟨hL.2.1, ?_⟩)
          exact next i hit h1 o' (by simpa using ho) v w' hL
        · exact (notrest i hi hit m hm hmT hmu).elim

/-- The kernel's question. -/
def rgtB (ls : List Oper) (listed0 : Array Bool) (todo T : List Nat) : Bool :=
  downA ls && dstsB ls.toArray todo && Region.noSelect ls.toArray && T.all (fun i => freeB ls i) && T.all (fun i => todo.contains i) &&
  behindB ls (restOf listed0 todo) (todo.filter fun j => !T.contains j) &&
  T.all (fun i => match ls[i]? with | none => true | some o => o.after.all fun e => !Region.binds .any e || !(restOf listed0 todo).contains e.on) &&
  decide (listed0.size = ls.length) && todo.all (fun j => !listed0.getD j true)
/-- The law, behind new memory alone: 'td' the operations that are shown once (those of T only compute: they are taken first), what comes behind them is walked on. -/
theorem wpAnyH_rgt {ls : List Oper} (td : List (Nat × Option Tmp)) (T : List Nat) (d : Value → World → Prop) (fs : List (Nat × (Value → World → Prop))) (w2 : World) {C : World → Prop} {fuel f0 : Nat} {listed : Array Bool} {a0 : Act} {w : World}
    (hB : rgtB ls listed (td.map (·.1)) T = true) (hT : td.all (fun p => dstOf ls.toArray p.1 == p.2) = true) (hf : fuel = (td.map (·.1)).length + f0) (hb : Below w2.heap.size w2 w)
    (hC : ∀ w', Below w2.heap.size w2 w' → C w') (hQ0 : ∀ c a (d : Nat) v w, Q (.panic c) (a.put (some d) v) w → Q (.panic c) a w) (gd : Good d) (gs : goods fs)
    (hop : RgOps P .any ls.toArray Q C (pfOf d fs) w2 td a0 ((td.map (·.1)).filter fun j => !T.contains j))
    (hta : ∀ i ∈ T, ∃ o, ls[i]? = some o ∧ ∀ (vals : Nat → Value) (w : World), depP (pfOf d fs) vals w (waits .any (td.map (·.1)) o) → ∃ v, (∀ S : World → Prop, YieldsIf P ls.toArray S o v (Upd2 vals td a0)) ∧ pfOf d fs i v w ∧ blk v = none)
    (hend : ∀ vals w, Below w2.heap.size w2 w → depP (pfOf d fs) vals w (td.map (·.1)) → (∀ i ∈ td.map (·.1), ∀ j ∈ td.map (·.1), i ≠ j → ∀ g, blk (vals i) = some g → blk (vals j) ≠ some g) → wpAnyH P .any ls.toArray Q (fun w' => Below w2.heap.size w2 w' ∧ C w') f0 (setAll listed (td.map (·.1))) (Upd2 vals td a0) w) :
    wpAnyH P .any ls.toArray Q C fuel listed a0 w := by
  simp only [rgtB, Bool.and_eq_true, decide_eq_true_eq] at hB
  obtain ⟨⟨⟨⟨⟨⟨⟨⟨b1, b2⟩, b3⟩, b4⟩, b5⟩, b6⟩, b7⟩, b8⟩, b9⟩ := hB
  have good := pfOf_good gd fs (goods_all fs gs)
  generalize hpf : pfOf d fs = pf at *
  have e0 : Upd ls.toArray (slots ls.toArray a0) (td.map (·.1)) a0 = a0 := Upd_slots _ _ _
  have eU : ∀ vals, Upd ls.toArray vals (td.map (·.1)) a0 = Upd2 vals td a0 := fun vals => Upd2_eq td a0 hT
  generalize htd : td.map (·.1) = todo at *
  have key : wpAnyH P .any ls.toArray Q (fun w' => Below w2.heap.size w2 w' ∧ C w') fuel listed a0 w := by
    have hTt : ∀ i ∈ T, i ∈ todo := fun i hi => by
      have h1 := List.all_eq_true.1 b5 i hi
      rw [List.contains_eq_mem] at h1
      exact of_decide_eq_true h1
    rw [hf]
    have aux : wpAnyH P .any ls.toArray Q (fun w' => Below w2.heap.size w2 w' ∧ C w') (todo.length + f0) listed (Upd ls.toArray (slots ls.toArray a0) todo a0) w := ?_
    · rwa [e0] at aux
    refine wpAnyH_rgt_aux (P := P) (Q := Q) (S := fun w' => Below w2.heap.size w2 w' ∧ C w') (Pf := pf) (Step := fun w w' => Below w.heap.size w w') (todo := todo) (T := T) (a0 := a0) (listed0 := listed) (f0 := f0)
      b1 b2 b3 b4 hTt b6 b7 b8 hQ0 (fun j u w w' hs h => (good j).st u w w' hs h) (fun j u w g h hg => (good j).lt u w g h hg) (fun w => Below.refl _ _) ?_ ?_ ?_
      todo.length listed (slots ls.toArray a0) w b8 ?_ (fun _ h => h) (fun _ h => .inl h) ⟨hb, hC w hb⟩ ?_ ?_
    · intro i hi
      obtain ⟨o, ho, h⟩ := hop i hi
      refine ⟨o, ho, fun vals w1 hS hdep K' hK => ?_⟩
      rw [eU] at hK ⊢
      refine h vals w1 hS.1 hS.2 (by rw [htd]; exact hdep) K' (fun v w' hL => hK v w' ?_)
      have hb2 : Below w2.heap.size w2 w' := hS.1.trans (hL.1.mono hS.1.size)
      exact ⟨hL.1, ⟨hb2, hC w' hb2⟩, hL.2.1, hL.2.2⟩
    · intro i hi
      obtain ⟨o, ho, h⟩ := hta i hi
      refine ⟨o, ho, fun vals w1 hS hdep => ?_⟩
      rw [eU]
      obtain ⟨v, h1, h2, h3⟩ := h vals w1 hdep
      exact ⟨v, h1 _, h2, h3⟩
    · intro vals w1 hS hdep hD
      rw [eU]
      exact hend vals w1 hS.1 hdep hD
    · congr 1
      rw [List.filter_eq_self]
      intro j hj
      exact List.all_eq_true.1 b9 j hj
    · intro j hj h
      have := List.all_eq_true.1 b9 j hj
      rw [h] at this
      cases this
    · intro i hi j hj h
      have := List.all_eq_true.1 b9 i hi
      rw [h] at this
      cases this
  clear hend hop hta
  revert key
  have weaken : ∀ (fuel : Nat) (listed : Array Bool) (a : Act) (w : World), wpAnyH P .any ls.toArray Q (fun w' => Below w2.heap.size w2 w' ∧ C w') fuel listed a w → wpAnyH P .any ls.toArray Q C fuel listed a w := by
    intro fuel
    induction fuel with
    | zero => exact fun _ _ _ h => h
    | succ fuel ih => exact fun _ _ _ h => ⟨h.1, fun i hi => wpOp_mono (fun a' w' h' => ⟨h'.1.2, ih _ _ _ h'.2⟩) (h.2 i hi)⟩
  exact weaken _ _ _ _
/-- The operations that only compute, one by one. -/
def TaAll (P : Program) (l0 : List Oper) (pf : Nat → Value → World → Prop) (td : List (Nat × Option Tmp)) (a0 : Act) (T : List Nat) : Prop :=
  ∀ i ∈ T, ∃ o, l0[i]? = some o ∧ ∀ (vals : Nat → Value) (w : World), depP pf vals w (waits .any (td.map (·.1)) o) → ∃ v, (∀ S : World → Prop, YieldsIf P l0.toArray S o v (Upd2 vals td a0)) ∧ pf i v w ∧ blk v = none
theorem TaAll.nil {l0 : List Oper} {pf : Nat → Value → World → Prop} {td : List (Nat × Option Tmp)} {a0 : Act} : TaAll P l0 pf td a0 [] := fun _ h => by cases h
theorem TaAll.cons {l0 : List Oper} {pf : Nat → Value → World → Prop} {td : List (Nat × Option Tmp)} {a0 : Act} {i : Nat} {T : List Nat} {o : Oper} {ds : List Nat} {f : Value → World → Prop} (ho : l0[i]? = some o) (hf : pf i = f) (hds : waits .any (td.map (·.1)) o = ds)
    (h : ∀ (vals : Nat → Value) (w : World), depP pf vals w ds → ∃ v, (∀ S : World → Prop, YieldsIf P l0.toArray S o v (Upd2 vals td a0)) ∧ f v w ∧ blk v = none) (hs : TaAll P l0 pf td a0 T) : TaAll P l0 pf td a0 (i :: T) := fun j hj => by
  rcases List.mem_cons.1 hj with rfl | hj
  · subst hf
    exact ⟨o, ho, by rw [hds]; exact h⟩
  · exact hs j hj
end
end Go.Proofs.YtfacndibfkamgaaGreat
