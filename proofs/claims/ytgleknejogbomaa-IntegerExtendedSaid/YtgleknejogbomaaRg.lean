/-
  A region whose operations stand apart: each is shown once, whatever others have come before it; what it leaves stays true behind the others. (Calls beside allocations: no order of theirs has to be walked.)
-/
import Derived.Test.YtgleknejogbomaaSplit
import Derived.Deep.RegionHeld3
namespace Go.Proofs.Ytgleknejogbomaa
open Go.RowKit
set_option linter.unusedVariables false

section
variable {P : Program} {md : Region.Mode} {Q : Exit → Act → World → Prop} {S : World → Prop}

/-- The slot that operation i writes. -/
def dstOf (ops : Array Oper) (i : Nat) : Option Tmp := (ops[i]?).bind (·.dst)
/-- The frame: whatever stands in the slots of the operations of a list. -/
def Upd (ops : Array Oper) (vals : Nat → Value) : List Nat → Act → Act
  | [], a => a
  | i :: is, a => Upd ops vals is (a.put (dstOf ops i) (vals i))
def upd (vals : Nat → Value) (i : Nat) (v : Value) : Nat → Value := fun j => if j = i then v else vals j
/-- Two operations write two slots. -/
def apartB (ops : Array Oper) (i j : Nat) : Bool := i != j && (match dstOf ops i with | none => true | some d => dstOf ops j != some d)
def dstsB (ops : Array Oper) : List Nat → Bool
  | [] => true
  | i :: is => is.all (fun j => apartB ops i j) && dstsB ops is
theorem apartB_spec {ops : Array Oper} {i j : Nat} (h : apartB ops i j = true) : i ≠ j ∧ ∀ d, dstOf ops i = some d → dstOf ops j ≠ some d := by
  unfold apartB at h
  simp only [Bool.and_eq_true, bne_iff_ne] at h
  refine ⟨h.1, fun d hd => ?_⟩
  have h2 := h.2
  rw [hd] at h2
  simpa using h2
theorem Upd_congr {ops : Array Oper} {vals vals' : Nat → Value} : ∀ (l : List Nat) (a : Act), (∀ i ∈ l, vals i = vals' i) → Upd ops vals l a = Upd ops vals' l a
  | [], _, _ => rfl
  | i :: is, a, h => by
    unfold Upd
    rw [h i (by simp)]
    exact Upd_congr is _ (fun j hj => h j (by simp [hj]))
theorem Act.put_put (a : Act) (d : Option Tmp) (u v : Value) : (a.put d u).put d v = a.put d v := by
  cases d with
  | none => rfl
  | some d => simp [Act.put]
theorem Upd_put_far {ops : Array Oper} {vals : Nat → Value} {i : Nat} {v : Value} : ∀ (l : List Nat) (a : Act), (∀ j ∈ l, apartB ops i j = true) → (Upd ops vals l a).put (dstOf ops i) v = Upd ops vals l (a.put (dstOf ops i) v)
  | [], _, _ => rfl
  | j :: js, a, h => by
    unfold Upd
    rw [Upd_put_far js _ (fun k hk => h k (by simp [hk]))]
    rw [Act.put_comm a v (vals j) (apartB_spec (h j (by simp))).2]
theorem apartB_symm {ops : Array Oper} {i j : Nat} (h : apartB ops i j = true) : apartB ops j i = true := by
  obtain ⟨h1, h2⟩ := apartB_spec h
  unfold apartB
  simp only [Bool.and_eq_true, bne_iff_ne]
  refine ⟨fun e => h1 e.symm, ?_⟩
  cases hd : dstOf ops j with
  | none => rfl
  | some d =>
    show (dstOf ops i != some d) = true
    simp only [bne_iff_ne]
    intro e
    exact h2 d e hd
theorem Upd_put {ops : Array Oper} {vals : Nat → Value} {i : Nat} {v : Value} : ∀ (l : List Nat) (a : Act), dstsB ops l = true → i ∈ l → (Upd ops vals l a).put (dstOf ops i) v = Upd ops (upd vals i v) l a
  | [], _, _, h => by cases h
  | j :: js, a, hd, hm => by
    unfold dstsB at hd
    simp only [Bool.and_eq_true, List.all_eq_true] at hd
    unfold Upd
    rcases Nat.decEq i j with hne | he
    · have hm' : i ∈ js := by
        rcases List.mem_cons.1 hm with h | h
        · exact absurd h hne
        · exact h
      rw [Upd_put js _ hd.2 hm']
      unfold upd
      rw [if_neg (fun e : j = i => hne e.symm)]
    · subst he
      rw [Upd_put_far js _ (fun k hk => hd.1 k hk), Act.put_put]
      have e : upd vals i v i = v := if_pos rfl
      rw [e]
      exact Upd_congr js _ (fun k hk => by
        have := (apartB_spec (hd.1 k hk)).1
        unfold upd
        rw [if_neg (fun e => this e.symm)])
/-- The slots as they stand. -/
def slots (ops : Array Oper) (a : Act) : Nat → Value := fun i => match dstOf ops i with | some d => a.tmps.getD d undef | none => undef
theorem put_self (a : Act) (d : Tmp) : a.put (some d) (a.tmps.getD d undef) = a := by
  show ({ a with tmps := a.tmps.setIfInBounds d (a.tmps.getD d undef) } : Act) = a
  have : a.tmps.setIfInBounds d (a.tmps.getD d undef) = a.tmps := by
    apply Array.ext
    · simp
    · intro i h1 h2
      rw [Array.getElem_setIfInBounds]
      split
      · rename_i e
        subst e
        simp [h2]
      · rfl
  rw [this]
theorem Upd_slots (ops : Array Oper) (a : Act) : ∀ l : List Nat, Upd ops (slots ops a) l a = a
  | [] => rfl
  | i :: is => by
    unfold Upd
    have : a.put (dstOf ops i) (slots ops a i) = a := by
      unfold slots
      cases dstOf ops i with
      | none => rfl
      | some d => exact put_self a d
    rw [this]
    exact Upd_slots ops a is

/-- The block that a value points to. -/
def blk : Value → Option Nat
  | .pointer (some p) => some p.block
  | _ => none
/-- The facts that the operations of a list have left. -/
def depP (Pf : Nat → Value → World → Prop) (vals : Nat → Value) (w : World) : List Nat → Prop
  | [] => True
  | j :: js => Pf j (vals j) w ∧ depP Pf vals w js
theorem depP_of {Pf : Nat → Value → World → Prop} {vals : Nat → Value} {w : World} : ∀ (l : List Nat), (∀ j ∈ l, Pf j (vals j) w) → depP Pf vals w l
  | [], _ => trivial
  | j :: js, h => ⟨h j (by simp), depP_of js (fun k hk => h k (by simp [hk]))⟩
/-- Those of a list that an operation waits for. -/
def waits (md : Region.Mode) (todo : List Nat) (o : Oper) : List Nat := todo.filter fun j => o.after.any fun e => Region.binds md e && e.on == j

/-- What an operation must leave: its fact, S, a world that keeps the others' facts, and no address of an older block. -/
def Leaves (S : World → Prop) (Pf : Nat → Value → World → Prop) (Step : World → World → Prop) (i : Nat) (w : World) (v : Value) (w' : World) : Prop :=
  Step w w' ∧ S w' ∧ Pf i v w' ∧ ∀ g, blk v = some g → w.heap.size ≤ g
/-- The operations of a list, each shown once. -/
def RgAll (P : Program) (md : Region.Mode) (ops : Array Oper) (Q : Exit → Act → World → Prop) (S : World → Prop) (Pf : Nat → Value → World → Prop) (Step : World → World → Prop) (todo : List Nat) (a0 : Act) (l : List Nat) : Prop :=
  ∀ i ∈ l, ∃ o, ops[i]? = some o ∧ ∀ (vals : Nat → Value) (w : World), S w → depP Pf vals w (waits md todo o) →
    ∀ K' : Act → World → Prop, Shut (∀ v w', Leaves S Pf Step i w v w' → K' ((Upd ops vals todo a0).put o.dst v) w') →
      if Region.wanted o (yielded ops (Upd ops vals todo a0).tmps) = true then Oper.wp P o (Upd ops vals todo a0) w K' Q else K' ((Upd ops vals todo a0).put o.dst undef) w
theorem RgAll.nil {ops : Array Oper} {Pf : Nat → Value → World → Prop} {Step : World → World → Prop} {todo : List Nat} {a0 : Act} : RgAll P md ops Q S Pf Step todo a0 [] := fun _ h => by cases h
theorem RgAll.cons {ops : Array Oper} {Pf : Nat → Value → World → Prop} {Step : World → World → Prop} {todo : List Nat} {a0 : Act} {i : Nat} {l : List Nat} {o : Oper} {ds : List Nat} (ho : ops[i]? = some o) (hds : waits md todo o = ds)
    (h : ∀ (vals : Nat → Value) (w : World), S w → depP Pf vals w ds →
      ∀ K' : Act → World → Prop, Shut (∀ v w', Leaves S Pf Step i w v w' → K' ((Upd ops vals todo a0).put o.dst v) w') →
        if Region.wanted o (yielded ops (Upd ops vals todo a0).tmps) = true then Oper.wp P o (Upd ops vals todo a0) w K' Q else K' ((Upd ops vals todo a0).put o.dst undef) w)
    (hs : RgAll P md ops Q S Pf Step todo a0 l) : RgAll P md ops Q S Pf Step todo a0 (i :: l) := fun j hj => by
  rcases List.mem_cons.1 hj with rfl | hj
  · exact ⟨o, ho, by rw [hds]; exact h⟩
  · exact hs j hj

theorem getD_true_set {l : Array Bool} {i j : Nat} (h : (l.setIfInBounds i true).getD j true = false) : l.getD j true = false ∧ j ≠ i := by
  by_cases hi : j = i
  · subst hi
    rw [Array.getD_eq_getD_getElem?] at h
    by_cases hl : j < l.size
    · simp [hl] at h
    · simp [hl] at h
  · refine ⟨?_, hi⟩
    rwa [getD_set_ne true (fun e => hi e.symm)] at h

theorem wpAnyH_rg_aux {ls : List Oper} {Pf : Nat → Value → World → Prop} {Step : World → World → Prop} {todo : List Nat} {a0 : Act}
    (hd : downB ls = true) (hnd : dstsB ls.toArray todo = true)
    (hst : ∀ j u w w', Step w w' → Pf j u w → Pf j u w') (hlt : ∀ j u w g, Pf j u w → blk u = some g → g < w.heap.size)
    (hop : RgAll P md ls.toArray Q S Pf Step todo a0 todo)
    (hend : ∀ vals w, S w → depP Pf vals w todo → (∀ i ∈ todo, ∀ j ∈ todo, i ≠ j → ∀ g, blk (vals i) = some g → blk (vals j) ≠ some g) → Q .normal (Upd ls.toArray vals todo a0) w) :
    ∀ (fuel : Nat) (listed : Array Bool) (vals : Nat → Value) (w : World), listed.size = ls.length → (todo.filter fun j => !listed.getD j true).length ≤ fuel →
      (∀ j, listed.getD j true = false → j ∈ todo) → S w → (∀ j ∈ todo, listed.getD j true = true → Pf j (vals j) w) →
      (∀ i ∈ todo, ∀ j ∈ todo, listed.getD i true = true → listed.getD j true = true → i ≠ j → ∀ g, blk (vals i) = some g → blk (vals j) ≠ some g) →
      wpAnyH P md ls.toArray Q S fuel listed (Upd ls.toArray vals todo a0) w := by
  intro fuel
  have none_left : ∀ (listed : Array Bool), listed.size = ls.length → Region.ready md ls.toArray listed = [] → ∀ j ∈ todo, listed.getD j true = true := by
    intro listed hs h0 j hj
    cases hl : listed.getD j true with
    | true => rfl
    | false =>
      exfalso
      have hjn : j < ls.length := by
        rcases Nat.lt_or_ge j listed.size with h | h
        · omega
        · rw [Array.getD_eq_getD_getElem?, Array.getElem?_eq_none h] at hl; cases hl
      obtain ⟨k, hk⟩ := ready_ex (md := md) (lh := listed) hd hs j j rfl hjn hl
      rw [h0] at hk
      cases hk
  induction fuel with
  | zero =>
    intro listed vals w hs hf hun hS hP hD
    have hall : ∀ j ∈ todo, listed.getD j true = true := by
      intro j hj
      cases hl : listed.getD j true with
      | true => rfl
      | false =>
        exfalso
        have : j ∈ todo.filter fun j => !listed.getD j true := List.mem_filter.2 ⟨hj, by simp only [hl, Bool.not_false]⟩
        have := List.length_pos_of_mem this
        omega
    refine ⟨?_, hend vals w hS (depP_of _ fun j hj => hP j hj (hall j hj)) (fun i hi j hj hne => hD i hi j hj (hall i hi) (hall j hj) hne)⟩
    apply List.eq_nil_iff_forall_not_mem.2
    intro j hj
    have h1 := (mem_ready.1 hj).1
    have h2 := hall j (hun j h1)
    rw [h1] at h2
    cases h2
  | succ fuel ih =>
    intro listed vals w hs hf hun hS hP hD
    refine ⟨fun h0 => ?_, fun i hi => ?_⟩
    · have hall := none_left listed hs h0
      exact hend vals w hS (depP_of _ fun j hj => hP j hj (hall j hj)) (fun i hi j hj hne => hD i hi j hj (hall i hi) (hall j hj) hne)
    · obtain ⟨h1, o, ho, hdep⟩ := mem_ready.1 hi
      have hit := hun i h1
      obtain ⟨o', ho', hstep⟩ := hop i hit
      obtain rfl : o' = o := by rw [ho] at ho'; exact (Option.some.inj ho').symm
      have hdst : dstOf ls.toArray i = o'.dst := by unfold dstOf; rw [ho]; rfl
      refine wpOp_step ho (fun K' hK => ?_)
      refine hstep vals w hS (depP_of _ fun j hj => ?_) K' (fun v w' hL => hK _ _ ?_)
      · obtain ⟨hj1, hj2⟩ := List.mem_filter.1 hj
        obtain ⟨e, he, he2⟩ := Array.any_eq_true'.1 hj2
        simp only [Bool.and_eq_true, beq_iff_eq] at he2
        have h3 := hdep e he he2.1
        rw [he2.2] at h3
        refine hP j hj1 ?_
        cases hl : listed.getD j true with
        | true => rfl
        | false =>
          exfalso
          rcases Nat.lt_or_ge j listed.size with h | h
          · simp [h] at hl h3
            rw [hl] at h3
            cases h3
          · rw [Array.getD_eq_getD_getElem?, Array.getElem?_eq_none h] at hl
            cases hl
      · obtain ⟨l1, l2, l3, l4⟩ := hL
        refine ⟨l2, ?_⟩
        rw [← hdst, Upd_put todo a0 hnd hit]
        have old : ∀ j, j ≠ i → upd vals i v j = vals j := fun j hj => if_neg hj
        have new : upd vals i v i = v := if_pos rfl
        have lis : ∀ j, j ≠ i → (listed.setIfInBounds i true).getD j true = listed.getD j true := fun j hj => getD_set_ne true (fun e => hj e.symm)
        refine ih _ _ w' (by simpa using hs) ?_ (fun j hj => hun j (getD_true_set hj).1) l2 ?_ ?_
        · have hlt2 : (todo.filter fun j => !(listed.setIfInBounds i true).getD j true).length < (todo.filter fun j => !listed.getD j true).length := by
            have e : (todo.filter fun j => !(listed.setIfInBounds i true).getD j true) = (todo.filter fun j => !listed.getD j true).filter fun j => j != i := by
              rw [List.filter_filter]
              apply List.filter_congr
              intro j _
              by_cases hji : j = i
              · subst hji
                have : (listed.setIfInBounds j true).getD j true = true := by
                  cases hl : (listed.setIfInBounds j true).getD j true with
                  | true => rfl
                  | false => exact absurd rfl (getD_true_set hl).2
                rw [this]
                simp
              · rw [lis j hji]
                simp [hji]
            rw [e]
            have hmem : i ∈ todo.filter fun j => !listed.getD j true := List.mem_filter.2 ⟨hit, by simp only [h1, Bool.not_false]⟩
            exact List.length_filter_lt_length_iff_exists.2 ⟨i, hmem, by simp⟩
          omega
        · intro j hj hl
          by_cases hji : j = i
          · subst hji; rw [new]; exact l3
          · rw [old j hji]
            exact hst j _ w w' l1 (hP j hj (by rw [← lis j hji]; exact hl))
        · intro a ha b hb hla hlb hne g hg hg'
          by_cases hai : a = i
          · subst hai
            rw [new] at hg
            rw [old b (fun e => hne e.symm)] at hg'
            rw [lis b (fun e => hne e.symm)] at hlb
            have h5 := hlt b _ w g (hP b hb hlb) hg'
            have h6 := l4 g hg
            omega
          · rw [old a hai] at hg
            rw [lis a hai] at hla
            by_cases hbi : b = i
            · subst hbi
              rw [new] at hg'
              have h5 := hlt a _ w g (hP a ha hla) hg
              have h6 := l4 g hg'
              omega
            · rw [old b hbi] at hg'
              rw [lis b hbi] at hlb
              exact hD a ha b hb hla hlb hne g hg hg'

/-- The operations that are not listed. -/
def todoOf (listed : Array Bool) : List Nat := (List.range listed.size).filter fun j => !listed.getD j true
/-- The kernel's question. -/
def rgB (ls : List Oper) (listed : Array Bool) (todo : List Nat) : Bool :=
  downB ls && dstsB ls.toArray todo && decide (listed.size = ls.length) && decide (todoOf listed = todo)
/-- The law: from a state in which the operations of 'todo' alone have not come up. -/
theorem wpAnyH_rg {ls : List Oper} (todo : List Nat) (Pf : Nat → Value → World → Prop) (Step : World → World → Prop) {fuel : Nat} {listed : Array Bool} {a0 : Act} {w : World}
    (hB : rgB ls listed todo = true) (hf : todo.length ≤ fuel) (hS : S w)
    (hst : ∀ j u w w', Step w w' → Pf j u w → Pf j u w') (hlt : ∀ j u w g, Pf j u w → blk u = some g → g < w.heap.size)
    (hop : RgAll P md ls.toArray Q S Pf Step todo a0 todo)
    (hend : ∀ vals w, S w → depP Pf vals w todo → (∀ i ∈ todo, ∀ j ∈ todo, i ≠ j → ∀ g, blk (vals i) = some g → blk (vals j) ≠ some g) → Q .normal (Upd ls.toArray vals todo a0) w) :
    wpAnyH P md ls.toArray Q S fuel listed a0 w := by
  simp only [rgB, Bool.and_eq_true, decide_eq_true_eq] at hB
  obtain ⟨⟨⟨b1, b2⟩, b3⟩, b4⟩ := hB
  have hun : ∀ j, listed.getD j true = false ↔ j ∈ todo := by
    intro j
    rw [← b4]
    unfold todoOf
    rw [List.mem_filter, List.mem_range]
    constructor
    · intro h
      refine ⟨?_, by simp only [h, Bool.not_false]⟩
      rcases Nat.lt_or_ge j listed.size with h' | h'
      · exact h'
      · rw [Array.getD_eq_getD_getElem?, Array.getElem?_eq_none h'] at h; cases h
    · intro h
      simpa using h.2
  have no : ∀ j ∈ todo, listed.getD j true = true → False := by
    intro j hj h
    rw [(hun j).2 hj] at h
    cases h
  have key := wpAnyH_rg_aux (P := P) (md := md) (Q := Q) (S := S) (a0 := a0) b1 b2 hst hlt hop hend fuel listed (slots ls.toArray a0) w b3
    (Nat.le_trans (List.length_filter_le _ _) hf) (fun j h => (hun j).1 h) hS
    (fun j hj h => (no j hj h).elim) (fun i hi j hj h => (no i hi h).elim)
  rwa [Upd_slots] at key

/-- The frame, with the slots written out. -/
def Upd2 (vals : Nat → Value) : List (Nat × Option Tmp) → Act → Act
  | [], a => a
  | p :: l, a => Upd2 vals l (a.put p.2 (vals p.1))
theorem Upd2_eq {ops : Array Oper} {vals : Nat → Value} : ∀ (td : List (Nat × Option Tmp)) (a : Act), td.all (fun p => dstOf ops p.1 == p.2) = true → Upd ops vals (td.map (·.1)) a = Upd2 vals td a
  | [], _, _ => rfl
  | p :: l, a, h => by
    simp only [List.all_cons, Bool.and_eq_true, beq_iff_eq] at h
    unfold Upd2
    show Upd ops vals (l.map (·.1)) (a.put (dstOf ops p.1) (vals p.1)) = _
    rw [h.1]
    exact Upd2_eq l _ h.2
/-- What is stable: it stays true behind new memory, and its address is one that is there. -/
structure Good (f : Value → World → Prop) : Prop where
  st : ∀ v w w', Below w.heap.size w w' → f v w → f v w'
  lt : ∀ v w g, f v w → blk v = some g → g < w.heap.size
/-- The facts of a list of operations; the others have the first. -/
def pfOf (d : Value → World → Prop) : List (Nat × (Value → World → Prop)) → Nat → Value → World → Prop
  | [], _ => d
  | p :: l, j => if j = p.1 then p.2 else pfOf d l j
theorem pfOf_good {d : Value → World → Prop} (hd : Good d) : ∀ (l : List (Nat × (Value → World → Prop))), (∀ p ∈ l, Good p.2) → ∀ j, Good (pfOf d l j)
  | [], _, _ => hd
  | p :: l, h, j => by
    unfold pfOf
    split
    · exact h p (by simp)
    · exact pfOf_good hd l (fun q hq => h q (by simp [hq])) j
def goods : List (Nat × (Value → World → Prop)) → Prop
  | [] => True
  | p :: l => Good p.2 ∧ goods l
theorem goods_all : ∀ (l : List (Nat × (Value → World → Prop))), goods l → ∀ p ∈ l, Good p.2
  | [], _, _, h => by cases h
  | q :: l, h, p, hp => by
    rcases List.mem_cons.1 hp with rfl | hp
    · exact h.1
    · exact goods_all l h.2 p hp
/-- What an operation must leave, behind new memory alone. -/
def LeavesB (f : Value → World → Prop) (w : World) (v : Value) (w' : World) : Prop := Below w.heap.size w w' ∧ f v w' ∧ ∀ g, blk v = some g → w.heap.size ≤ g
def RgOps (P : Program) (md : Region.Mode) (ops : Array Oper) (Q : Exit → Act → World → Prop) (C : World → Prop) (pf : Nat → Value → World → Prop) (w2 : World) (td : List (Nat × Option Tmp)) (a0 : Act) (l : List Nat) : Prop :=
  ∀ i ∈ l, ∃ o, ops[i]? = some o ∧ ∀ (vals : Nat → Value) (w : World), Below w2.heap.size w2 w → C w → depP pf vals w (waits md (td.map (·.1)) o) →
    ∀ K' : Act → World → Prop, Shut (∀ v w', LeavesB (pf i) w v w' → K' ((Upd2 vals td a0).put o.dst v) w') →
      if Region.wanted o (yielded ops (Upd2 vals td a0).tmps) = true then Oper.wp P o (Upd2 vals td a0) w K' Q else K' ((Upd2 vals td a0).put o.dst undef) w
theorem RgOps.nil {ops : Array Oper} {C : World → Prop} {pf : Nat → Value → World → Prop} {w2 : World} {td : List (Nat × Option Tmp)} {a0 : Act} : RgOps P md ops Q C pf w2 td a0 [] := fun _ h => by cases h
theorem RgOps.cons {ops : Array Oper} {C : World → Prop} {pf : Nat → Value → World → Prop} {w2 : World} {td : List (Nat × Option Tmp)} {a0 : Act} {i : Nat} {l : List Nat} {o : Oper} {ds : List Nat} {f : Value → World → Prop} (ho : ops[i]? = some o) (hf : pf i = f) (hds : waits md (td.map (·.1)) o = ds)
    (h : ∀ (vals : Nat → Value) (w : World), Below w2.heap.size w2 w → C w → depP pf vals w ds →
      ∀ K' : Act → World → Prop, Shut (∀ v w', LeavesB f w v w' → K' ((Upd2 vals td a0).put o.dst v) w') →
        if Region.wanted o (yielded ops (Upd2 vals td a0).tmps) = true then Oper.wp P o (Upd2 vals td a0) w K' Q else K' ((Upd2 vals td a0).put o.dst undef) w)
    (hs : RgOps P md ops Q C pf w2 td a0 l) : RgOps P md ops Q C pf w2 td a0 (i :: l) := fun j hj => by
  rcases List.mem_cons.1 hj with rfl | hj
  · subst hf
    exact ⟨o, ho, by rw [hds]; exact h⟩
  · exact hs j hj
/-- The law, behind new memory alone: C is what the loads read; it holds behind every world that keeps what stood at the start. -/
theorem wpAnyH_rgb {ls : List Oper} (td : List (Nat × Option Tmp)) (d : Value → World → Prop) (fs : List (Nat × (Value → World → Prop))) (w2 : World) {C : World → Prop} {fuel : Nat} {listed : Array Bool} {a0 : Act} {w : World}
    (hB : rgB ls listed (td.map (·.1)) = true) (hT : td.all (fun p => dstOf ls.toArray p.1 == p.2) = true) (hf : (td.map (·.1)).length ≤ fuel) (hb : Below w2.heap.size w2 w)
    (hC : ∀ w', Below w2.heap.size w2 w' → C w') (gd : Good d) (gs : goods fs)
    (hop : RgOps P md ls.toArray Q C (pfOf d fs) w2 td a0 (td.map (·.1)))
    (hend : ∀ vals w, Below w2.heap.size w2 w → depP (pfOf d fs) vals w (td.map (·.1)) → (∀ i ∈ td.map (·.1), ∀ j ∈ td.map (·.1), i ≠ j → ∀ g, blk (vals i) = some g → blk (vals j) ≠ some g) → Q .normal (Upd2 vals td a0) w) :
    wpAnyH P md ls.toArray Q C fuel listed a0 w := by
  have good := pfOf_good gd fs (goods_all fs gs)
  have key : wpAnyH P md ls.toArray Q (fun w' => Below w2.heap.size w2 w' ∧ C w') fuel listed a0 w := by
    refine wpAnyH_rg (td.map (·.1)) (pfOf d fs) (fun w w' => Below w.heap.size w w') hB hf ⟨hb, hC w hb⟩ (fun j u w w' hs h => (good j).st u w w' hs h) (fun j u w g h hg => (good j).lt u w g h hg) ?_ ?_
    · intro i hi
      obtain ⟨o, ho, h⟩ := hop i hi
      refine ⟨o, ho, fun vals w1 hS hdep K' hK => ?_⟩
      rw [Upd2_eq td a0 hT] at hK ⊢
      refine h vals w1 hS.1 hS.2 hdep K' (fun v w' hL => hK v w' ?_)
      have hb2 : Below w2.heap.size w2 w' := hS.1.trans (hL.1.mono hS.1.size)
      exact ⟨hL.1, ⟨hb2, hC w' hb2⟩, hL.2.1, hL.2.2⟩
    · intro vals w1 hS hdep hD
      rw [Upd2_eq td a0 hT]
      exact hend vals w1 hS.1 hdep hD
  clear hend hop
  revert key
  have weaken : ∀ (fuel : Nat) (listed : Array Bool) (a : Act) (w : World), wpAnyH P md ls.toArray Q (fun w' => Below w2.heap.size w2 w' ∧ C w') fuel listed a w → wpAnyH P md ls.toArray Q C fuel listed a w := by
    intro fuel
    induction fuel with
    | zero => exact fun _ _ _ h => h
    | succ fuel ih => exact fun _ _ _ h => ⟨h.1, fun i hi => wpOp_mono (fun a' w' h' => ⟨h'.1.2, ih _ _ _ h'.2⟩) (h.2 i hi)⟩
  exact weaken _ _ _ _

/-! The operation is looked up in the list: so it stands written out. -/
theorem getL {l : List Oper} {i : Nat} {o : Oper} (h : l[i]? = some o) : l.toArray[i]? = some o := by simpa using h
theorem wpAnyH_takeL {l : List Oper} {i : Nat} {oi : Oper} {v : Value} {fuel : Nat} {listed : Array Bool} {a : Act} {w : World} (hi : l[i]? = some oi)
    (hs : Region.noSelect l.toArray = true) (hf : Region.free md l.toArray listed i = true) (hr : (Region.ready md l.toArray listed).contains i = true)
    (hQ : ∀ c a w, Q (.panic c) (a.put oi.dst v) w → Q (.panic c) a w) (hy : YieldsIf P l.toArray S oi v a) (hS : S w)
    (h : wpAnyH P md l.toArray Q S fuel (listed.setIfInBounds i true) (a.put oi.dst v) w) : wpAnyH P md l.toArray Q S (fuel + 1) listed a w :=
  wpAnyH_take (getL hi) hs hf hr hQ hy hS h
theorem AllReadyH.consL {l : List Oper} {fuel : Nat} {listed : Array Bool} {a : Act} {w : World} {i : Nat} {o : Oper} {rs : List Nat} (ho : l[i]? = some o)
    (h : ∀ K' : Act → World → Prop, Shut (∀ a w, S w → (S w → wpAnyH P md l.toArray Q S fuel (listed.setIfInBounds i true) a w) → K' a w) → if Region.wanted o (yielded l.toArray a.tmps) = true then Oper.wp P o a w K' Q else K' (a.put o.dst undef) w)
    (hs : AllReadyH P md l.toArray Q S fuel listed a w rs) : AllReadyH P md l.toArray Q S fuel listed a w (i :: rs) := AllReadyH.cons (getL ho) h hs
theorem RgOps.consL {l0 : List Oper} {C : World → Prop} {pf : Nat → Value → World → Prop} {w2 : World} {td : List (Nat × Option Tmp)} {a0 : Act} {i : Nat} {l : List Nat} {o : Oper} {ds : List Nat} {f : Value → World → Prop} (ho : l0[i]? = some o) (hf : pf i = f) (hds : waits md (td.map (·.1)) o = ds)
    (h : ∀ (vals : Nat → Value) (w : World), Below w2.heap.size w2 w → C w → depP pf vals w ds →
      ∀ K' : Act → World → Prop, Shut (∀ v w', LeavesB f w v w' → K' ((Upd2 vals td a0).put o.dst v) w') →
        if Region.wanted o (yielded l0.toArray (Upd2 vals td a0).tmps) = true then Oper.wp P o (Upd2 vals td a0) w K' Q else K' ((Upd2 vals td a0).put o.dst undef) w)
    (hs : RgOps P md l0.toArray Q C pf w2 td a0 l) : RgOps P md l0.toArray Q C pf w2 td a0 (i :: l) := RgOps.cons (getL ho) hf hds h hs
end
end Go.Proofs.Ytgleknejogbomaa
