/-
  A region whose last operations wait for all the others, one for the other: its head is walked as a region of its own, the tail behind it in its own order.
-/
import Derived.Test.YtfacndibfkamgaaGreatNA
import Derived.StillTail
import Derived.OrdersHeld
namespace Go.Proofs.YtfacndibfkamgaaGreat
set_option linter.unusedVariables false

section
variable {P : Program} {md : Region.Mode} {Q : Exit → Act → World → Prop} {N : Act → World → Prop}

theorem upon_then {o : Oper} {a : Act} {K : Act → World → Prop} {r : Result Next} (h : o.upon P a K (Exit.then N Q) r) : o.upon P a K Q r := by
  cases r with
  | ok n w' =>
    cases n <;> simp only [Oper.upon] at h ⊢ <;>
      first
        | exact h
        | exact Calls.mono h (fun e w'' he => by cases e <;> first | exact he | (obtain ⟨a', w'', h'⟩ := he; exact ⟨a', w'', h'⟩))
  | halt x w' => cases x <;> simp only [Oper.upon] at h ⊢ <;> exact h
theorem wpOp_head {head tail : List Oper} {i : Nat} {K K' : Act → World → Prop} {a : Act} {w : World} (hi : i < head.length)
    (hg : ∀ o, head[i]? = some o → ∀ tm, Region.wanted o (yielded (head ++ tail).toArray tm) = Region.wanted o (yielded head.toArray tm))
    (hK : ∀ a w, K a w → K' a w) (h : wpOp P head.toArray (Exit.then N Q) i K a w) : wpOp P (head ++ tail).toArray Q i K' a w := by
  obtain ⟨o, ho⟩ : ∃ o, head[i]? = some o := ⟨_, List.getElem?_eq_getElem hi⟩
  have e1 : head.toArray[i]? = some o := by simpa using ho
  have e2 : (head ++ tail).toArray[i]? = some o := by
    simp only [List.getElem?_toArray]
    rw [List.getElem?_append_left hi]; exact ho
  unfold wpOp at *
  simp only [e1] at h
  simp only [e2, hg o ho]
  split
  · rename_i hw
    simp only [hw, if_true] at h
    rcases h with h | ⟨h1, h2⟩
    · exact .inl (Oper.wp_mono hK (upon_then h))
    · obtain ⟨a', w', h'⟩ := h2
      exact .inr ⟨h1, a', w', h'⟩
  · rename_i hw
    simp only [hw] at h
    exact hK _ _ h

/-- Each of the first n operations looks, by its guard and its edges, at earlier ones alone. -/
def downB (ops : List Oper) : Bool := (List.range ops.length).all fun i => match ops[i]? with
  | none => true
  | some o => (match o.guard with | none => true | some (j, _) => decide (j < i)) && o.after.all fun e => decide (e.on < i)
theorem downB_spec {ops : List Oper} (h : downB ops = true) {i : Nat} {o : Oper} (ho : ops[i]? = some o) : (∀ j b, o.guard = some (j, b) → j < i) ∧ ∀ e ∈ o.after, e.on < i := by
  have hi : i < ops.length := (List.getElem?_eq_some_iff.1 ho).1
  have h1 := List.all_eq_true.1 h i (List.mem_range.2 hi)
  simp only [ho, Bool.and_eq_true] at h1
  refine ⟨fun j b hj => ?_, fun e he => ?_⟩
  · have h2 := h1.1
    simp only [hj, decide_eq_true_eq] at h2
    exact h2
  · have h2 := Array.all_eq_true'.1 h1.2 e he
    simpa using h2
theorem wanted_head {head tail : List Oper} (hd : downB head = true) {i : Nat} {o : Oper} (ho : head[i]? = some o) (tm : Array Value) : Region.wanted o (yielded (head ++ tail).toArray tm) = Region.wanted o (yielded head.toArray tm) := by
  unfold Region.wanted
  split
  · rfl
  · rename_i j b hj
    have h1 := (downB_spec hd ho).1 j b hj
    have hi : i < head.length := (List.getElem?_eq_some_iff.1 ho).1
    have e : (head ++ tail).toArray[j]? = head.toArray[j]? := by
      simp only [List.getElem?_toArray]
      exact List.getElem?_append_left (by omega)
    unfold yielded
    rw [e]
theorem wpAny_more {ops : Array Oper} : ∀ (f : Nat) (listed : Array Bool) (a : Act) (w : World), wpAny P md ops Q f listed a w → wpAny P md ops Q (f + 1) listed a w
  | 0, listed, a, w, h => ⟨fun _ => h.2, fun i hi => by rw [h.1] at hi; cases hi⟩
  | f + 1, listed, a, w, h => ⟨h.1, fun i hi => wpOp_mono (fun a' w' h' => wpAny_more f _ a' w' h') (h.2 i hi)⟩
theorem wpAny_much {ops : Array Oper} {g : Nat} {listed : Array Bool} {a : Act} {w : World} (h : wpAny P md ops Q g listed a w) : ∀ f, wpAny P md ops Q (f + g) listed a w
  | 0 => by rw [Nat.zero_add]; exact h
  | f + 1 => by rw [show f + 1 + g = (f + g) + 1 by omega]; exact wpAny_more _ _ _ _ (wpAny_much h f)
theorem getD_left {l : Array Bool} {g i : Nat} {b : Bool} (hi : i < l.size) : (l ++ Array.replicate g false).getD i b = l.getD i b := by
  rw [Array.getD_eq_getD_getElem?, Array.getD_eq_getD_getElem?, Array.getElem?_append_left hi]
/-- Some head operation is ready, as long as one is not listed. -/
theorem ready_ex {head : List Oper} {lh : Array Bool} (hd : downB head = true) (hs : lh.size = head.length) : ∀ (d i : Nat), i = d → i < head.length → lh.getD i true = false → ∃ j, j ∈ Region.ready md head.toArray lh := by
  intro d
  induction d using Nat.strongRecOn with
  | _ d ih =>
    intro i hid hi hun
    obtain ⟨o, ho⟩ : ∃ o, head[i]? = some o := ⟨_, List.getElem?_eq_getElem hi⟩
    by_cases hall : ∀ e ∈ o.after, Region.binds md e = true → lh.getD e.on false = true
    · exact ⟨i, mem_ready.2 ⟨hun, o, by simpa using ho, hall⟩⟩
    · simp only [Classical.not_forall] at hall
      obtain ⟨e, he, hb, hl⟩ := hall
      have hlt := (downB_spec hd ho).2 e he
      have hl' : lh.getD e.on false = false := by simpa using hl
      exact ih e.on (by omega) e.on rfl (by omega) (getD_in (by omega) hl')

theorem wpAny_split {head tail : List Oper} (hd : downB head = true) (hsink : Region.sinkB md (head ++ tail).toArray head.length = true) (hchain : Region.chainB md (head ++ tail).toArray head.length = true) (ht : 0 < tail.length)
    (hseq : Region.seqB md (head ++ tail).toArray tail.length head.length (Array.replicate head.length true ++ Array.replicate tail.length false) = true) :
    ∀ (f : Nat) (lh : Array Bool) (a : Act) (w : World), lh.size = head.length → HeadInv md (head ++ tail).toArray head.length (lh ++ Array.replicate tail.length false) →
      wpAny P md head.toArray (Exit.then (wpList P (head ++ tail).toArray Q tail) Q) f lh a w → wpAny P md (head ++ tail).toArray Q (f + tail.length) (lh ++ Array.replicate tail.length false) a w := by
  intro f
  induction f with
  | zero =>
    intro lh a w hs inv h
    have hallt : lh = Array.replicate head.length true := by
      apply Array.ext
      · simp [hs]
      · intro i h1 h2
        rw [Array.getElem_replicate]
        cases hl : lh[i] with
        | true => rfl
        | false =>
          exfalso
          obtain ⟨j, hj⟩ := ready_ex (md := md) hd hs i i rfl (by omega) (by simp [h1, hl])
          rw [h.1] at hj
          cases hj
    subst hallt
    rw [Nat.zero_add]
    exact wpAny_of_seq tail head.length _ a w (fun j => by simp [List.getElem?_append_right]) hseq h.2
  | succ f ih =>
    intro lh a w hs inv h
    by_cases hex : ∃ i, i < head.length ∧ lh.getD i true = false
    · obtain ⟨i0, hi0, hun⟩ := hex
      have hun' : (lh ++ Array.replicate tail.length false).getD i0 true = false := by rw [getD_left (by omega)]; exact hun
      have wait := tail_waits hsink hchain (by simp; omega) inv (head.length - i0) i0 rfl hi0 hun'
      have back : ∀ i, i ∈ Region.ready md (head ++ tail).toArray (lh ++ Array.replicate tail.length false) → i < head.length ∧ i ∈ Region.ready md head.toArray lh := by
        intro i hi
        have hin : i < head.length := by
          rcases Nat.lt_or_ge i head.length with h1 | h1
          · exact h1
          · exact absurd hi (wait i h1)
        refine ⟨hin, ?_⟩
        obtain ⟨h1, o, h2, h3⟩ := mem_ready.1 hi
        have h2' : head[i]? = some o := by
          simp only [List.getElem?_toArray] at h2
          rwa [List.getElem?_append_left hin] at h2
        refine mem_ready.2 ⟨by rwa [getD_left (by omega)] at h1, o, by simpa using h2', fun e he hb => ?_⟩
        have h4 := h3 e he hb
        have h5 := (downB_spec hd h2').2 e he
        rwa [getD_left (by omega)] at h4
      rw [show f + 1 + tail.length = (f + tail.length) + 1 by omega]
      refine ⟨fun h0 => ?_, fun i hi => ?_⟩
      · exfalso
        obtain ⟨j, hj⟩ := ready_ex (md := md) hd hs i0 i0 rfl hi0 hun
        obtain ⟨h1, o, h2, h3⟩ := mem_ready.1 hj
        have hjn : j < head.length := by
          have := (Array.getElem?_eq_some_iff.1 h2).1
          simpa using this
        have h2' : head[j]? = some o := by simpa using h2
        have : j ∈ Region.ready md (head ++ tail).toArray (lh ++ Array.replicate tail.length false) := by
          refine mem_ready.2 ⟨by rw [getD_left (by omega)]; exact h1, o, ?_, fun e he hb => ?_⟩
          · simp only [List.getElem?_toArray]
            rw [List.getElem?_append_left hjn]; exact h2'
          · have h5 := (downB_spec hd h2').2 e he
            rw [getD_left (by omega)]
            exact h3 e he hb
        rw [h0] at this
        cases this
      · obtain ⟨hin, hr⟩ := back i hi
        have e1 : (lh ++ Array.replicate tail.length false).setIfInBounds i true = lh.setIfInBounds i true ++ Array.replicate tail.length false := by
          rw [Array.setIfInBounds_append_left (by omega)]
        refine wpOp_head hin (fun o ho tm => wanted_head hd ho tm) (fun a' w' h' => ?_) (h.2 i hr)
        rw [e1]
        refine ih _ a' w' (by simpa using hs) ?_ h'
        rw [← e1]
        exact inv.set hi hin
    · have hallt : lh = Array.replicate head.length true := by
        apply Array.ext
        · simp [hs]
        · intro i h1 h2
          rw [Array.getElem_replicate]
          cases hl : lh[i] with
          | true => rfl
          | false => exact absurd ⟨i, by omega, by simp [h1, hl]⟩ hex
      subst hallt
      have hr0 : Region.ready md head.toArray (Array.replicate head.length true) = [] := by
        apply List.eq_nil_iff_forall_not_mem.2
        intro j hj
        obtain ⟨h1, o, h2, h3⟩ := mem_ready.1 hj
        have hjn : j < head.length := by
          have := (Array.getElem?_eq_some_iff.1 h2).1
          simpa using this
        simp [hjn] at h1
      have hw := h.1 hr0
      exact wpAny_much (wpAny_of_seq tail head.length _ a w (fun j => by simp [List.getElem?_append_right]) hseq hw) (f + 1)

/-- The kernel's question. -/
def splitB (ops : List Oper) (n : Nat) : Bool :=
  downB (ops.take n) && decide (n < ops.length) && Region.sinkB .any ops.toArray n && Region.chainB .any ops.toArray n && Region.seqB .any ops.toArray (ops.length - n) n (Array.replicate n true ++ Array.replicate (ops.length - n) false)
/-- The head is walked with a condition S on the world (as Derived/OrdersHeld.lean's 'wpAnyH'), the tail behind it in its own order, without S. -/
theorem wp_region_held_split {id : Nat} {a : Act} {w : World} {l : List Oper} {S : World → Prop} (n : Nat) (hm : P.follows .mixedOrders = true) (hB : splitB l n = true)
    (h : wpAnyH P .any (l.take n).toArray (Exit.then (wpList P l.toArray Q (l.drop n)) Q) S n (Array.replicate n false) a w.drew) : (Code.region id l.toArray true).wp P Q a w := by
  simp only [splitB, Bool.and_eq_true, decide_eq_true_eq] at hB
  obtain ⟨⟨⟨⟨hd, hn⟩, hs⟩, hc⟩, hq⟩ := hB
  have htl : (l.take n).length = n := by simp; omega
  have hdl : (l.drop n).length = l.length - n := by simp
  have happ : l.take n ++ l.drop n = l := List.take_append_drop n l
  have key := wpAny_split (P := P) (md := .any) (Q := Q) (head := l.take n) (tail := l.drop n) hd (by rw [happ, htl]; exact hs) (by rw [happ, htl]; exact hc) (by omega) (by rw [happ, htl, hdl]; exact hq)
    n (Array.replicate n false) a w.drew (by simp [htl]) (by
      rw [happ, htl, hdl]
      refine ⟨by simp; omega, fun j oj _ hl => ?_, fun t _ ht => ?_⟩
      · have e : Array.replicate n false ++ Array.replicate (l.length - n) false = Array.replicate l.length false := by
          rw [Array.replicate_append_replicate, show n + (l.length - n) = l.length by omega]
        rw [e, getD_replicate_false] at hl
        cases hl
      · have e : Array.replicate n false ++ Array.replicate (l.length - n) false = Array.replicate l.length false := by
          rw [Array.replicate_append_replicate, show n + (l.length - n) = l.length by omega]
        rw [e]
        exact getD_in (by simpa using ht) (getD_replicate_false _ _)) (by rw [happ]; exact wpAny_of_held _ _ _ _ h)
  refine wp_region_any hm ?_
  rw [happ, hdl, show n + (l.length - n) = l.length by omega, Array.replicate_append_replicate, show n + (l.length - n) = l.length by omega] at key
  simpa using key
end
end Go.Proofs.YtfacndibfkamgaaGreat
