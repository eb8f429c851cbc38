/-
  Functions of three integers; comparisons and signs by a number given by an equation.
-/
import Derived.Test.YtfacndibfkamgaaGreatZC
import Derived.Test.YtfacndibfkamgaaGreatZB
namespace Go.Proofs.YtfacndibfkamgaaGreat
open Go.RowKit
set_option linter.unusedVariables false

theorem begin3 (w : World) (s : Bool) (A : Option Addr) (n c : Nat) (t : Bool) (B : Option Addr) (m d : Nat) (u : Bool) (C : Option Addr) (k e : Nat) :
    Hid (Below w.heap.size w (((w.alloc (.cells #[.bool s, .slice A n c] 27)).alloc (.cells #[.bool t, .slice B m d] 27)).alloc (.cells #[.bool u, .slice C k e] 27))) ∧ Hid (Zb (((w.alloc (.cells #[.bool s, .slice A n c] 27)).alloc (.cells #[.bool t, .slice B m d] 27)).alloc (.cells #[.bool u, .slice C k e] 27)) w.heap.size s A n c) ∧ Hid (Zb (((w.alloc (.cells #[.bool s, .slice A n c] 27)).alloc (.cells #[.bool t, .slice B m d] 27)).alloc (.cells #[.bool u, .slice C k e] 27)) (w.heap.size + 1) t B m d) ∧ Hid (Zb (((w.alloc (.cells #[.bool s, .slice A n c] 27)).alloc (.cells #[.bool t, .slice B m d] 27)).alloc (.cells #[.bool u, .slice C k e] 27)) (w.heap.size + 2) u C k e) := by
  obtain ⟨b, x, y⟩ := begin2 w s A n c t B m d
  refine ⟨b.out.alloc b.out.size _, x.out.alloc _, y.out.alloc _, ?_⟩
  have := Zb.new ((w.alloc (.cells #[.bool s, .slice A n c] 27)).alloc (.cells #[.bool t, .slice B m d] 27)) u C k e
  simp only [World.size_alloc] at this
  exact this
theorem keep3 {w w' : World} {B g1 g2 g3 n1 c1 n2 c2 n3 c3 : Nat} {s1 s2 s3 : Bool} {A1 A2 A3 : Option Addr} (X1 : Hid (Zb w g1 s1 A1 n1 c1)) (X2 : Hid (Zb w g2 s2 A2 n2 c2)) (X3 : Hid (Zb w g3 s3 A3 n3 c3)) (hb : Below B w w') (h1 : g1 < B) (h2 : g2 < B) (h3 : g3 < B) :
    w'.cell? ⟨g1, 0, none⟩ = some (.bool s1) ∧ w'.cell? ⟨g1, 1, none⟩ = some (.slice A1 n1 c1) ∧ w'.cell? ⟨g2, 0, none⟩ = some (.bool s2) ∧ w'.cell? ⟨g2, 1, none⟩ = some (.slice A2 n2 c2) ∧ w'.cell? ⟨g3, 0, none⟩ = some (.bool s3) ∧ w'.cell? ⟨g3, 1, none⟩ = some (.slice A3 n3 c3) := by
  obtain ⟨a, b⟩ := (X1.out.below hb h1).cells
  obtain ⟨c, d⟩ := (X2.out.below hb h2).cells
  obtain ⟨e, f⟩ := (X3.out.below hb h3).cells
  exact ⟨a, b, c, d, e, f⟩
theorem compare_k {A B : Option Addr} {n c m d : Nat} {s t : Bool} {w : World} {x y r : Int} (h : Zin w s A n c x) (h' : Zin w t B m d y) (hr : sg (x - y) = r) :
    Calls Tryz.prog 111 #[.agg #[.bool s, .slice A n c], .agg #[.bool t, .slice B m d]] w fun e w' => e = .returned (.int .i64 r) ∧ Below w.heap.size w w' := by
  subst hr; exact compare_z h h'
theorem sign_k {A : Option Addr} {c n : Nat} {s : Bool} {w : World} {z r : Int} (h : Zin w s A n c z) (hr : sg z = r) :
    Calls Tryz.prog 74 #[.agg #[.bool s, .slice A n c]] w fun e w' => e = .returned (.int .i64 r) ∧ Below w.heap.size w w' := by
  subst hr; exact sign_z h
theorem sg_swap (x y : Int) : sg (y - x) = -sg (x - y) := by
  rcases sg_cases (x - y) with ⟨e, h⟩ | ⟨e, h⟩ | ⟨e, h⟩ <;> rw [e]
  · exact sg_pos (by omega)
  · have : y - x = 0 := by omega
    rw [this]; rfl
  · exact sg_neg (by omega)
end Go.Proofs.YtfacndibfkamgaaGreat
