/-
  Contract of the reference's Bezout.
-/
import Derived.Test.YtfacndibfkamgaaGreatZext
import Derived.Test.YtfacndibfkamgaaGreatZcan
namespace Go.Proofs.YtfacndibfkamgaaGreat
open Go.RowKit
set_option linter.unusedVariables false

theorem rsign_k {A : Option Addr} {n c : Nat} {s : Bool} {w : World} {x r : Int} (h : Zin w s A n c x) (hl : n ≤ 70368744177664) (hr : sg x = r) :
    Calls Tryz.prog 37 #[.agg #[.bool s, .slice A n c]] w fun e w' => e = .returned (.int .i64 r) ∧ Below w.heap.size w w' := by
  subst hr; exact rsign_z h hl
theorem rcompare_k {A B : Option Addr} {n c m d : Nat} {s t : Bool} {w : World} {x y r : Int} (h : Zin w s A n c x) (h' : Zin w t B m d y) (hl : n ≤ 70368744177663) (hl' : m ≤ 70368744177663) (hr : sg (x - y) = r) :
    Calls Tryz.prog 38 #[.agg #[.bool s, .slice A n c], .agg #[.bool t, .slice B m d]] w fun e w' => e = .returned (.int .i64 r) ∧ Below w.heap.size w w' := by
  subst hr; exact rcompare_z h h' hl hl'
theorem begin5 (w : World) (s1 : Bool) (A1 : Option Addr) (n1 c1 : Nat) (s2 : Bool) (A2 : Option Addr) (n2 c2 : Nat) (s3 : Bool) (A3 : Option Addr) (n3 c3 : Nat) (s4 : Bool) (A4 : Option Addr) (n4 c4 : Nat) (s5 : Bool) (A5 : Option Addr) (n5 c5 : Nat) :
    Hid (Below w.heap.size w (((((w.alloc (.cells #[.bool s1, .slice A1 n1 c1] 27)).alloc (.cells #[.bool s2, .slice A2 n2 c2] 27)).alloc (.cells #[.bool s3, .slice A3 n3 c3] 27)).alloc (.cells #[.bool s4, .slice A4 n4 c4] 27)).alloc (.cells #[.bool s5, .slice A5 n5 c5] 27))) ∧ Hid (Zb (((((w.alloc (.cells #[.bool s1, .slice A1 n1 c1] 27)).alloc (.cells #[.bool s2, .slice A2 n2 c2] 27)).alloc (.cells #[.bool s3, .slice A3 n3 c3] 27)).alloc (.cells #[.bool s4, .slice A4 n4 c4] 27)).alloc (.cells #[.bool s5, .slice A5 n5 c5] 27)) (w.heap.size) s1 A1 n1 c1) ∧ Hid (Zb (((((w.alloc (.cells #[.bool s1, .slice A1 n1 c1] 27)).alloc (.cells #[.bool s2, .slice A2 n2 c2] 27)).alloc (.cells #[.bool s3, .slice A3 n3 c3] 27)).alloc (.cells #[.bool s4, .slice A4 n4 c4] 27)).alloc (.cells #[.bool s5, .slice A5 n5 c5] 27)) (w.heap.size + 1) s2 A2 n2 c2) ∧ Hid (Zb (((((w.alloc (.cells #[.bool s1, .slice A1 n1 c1] 27)).alloc (.cells #[.bool s2, .slice A2 n2 c2] 27)).alloc (.cells #[.bool s3, .slice A3 n3 c3] 27)).alloc (.cells #[.bool s4, .slice A4 n4 c4] 27)).alloc (.cells #[.bool s5, .slice A5 n5 c5] 27)) (w.heap.size + 2) s3 A3 n3 c3) ∧ Hid (Zb (((((w.alloc (.cells #[.bool s1, .slice A1 n1 c1] 27)).alloc (.cells #[.bool s2, .slice A2 n2 c2] 27)).alloc (.cells #[.bool s3, .slice A3 n3 c3] 27)).alloc (.cells #[.bool s4, .slice A4 n4 c4] 27)).alloc (.cells #[.bool s5, .slice A5 n5 c5] 27)) (w.heap.size + 3) s4 A4 n4 c4) ∧ Hid (Zb (((((w.alloc (.cells #[.bool s1, .slice A1 n1 c1] 27)).alloc (.cells #[.bool s2, .slice A2 n2 c2] 27)).alloc (.cells #[.bool s3, .slice A3 n3 c3] 27)).alloc (.cells #[.bool s4, .slice A4 n4 c4] 27)).alloc (.cells #[.bool s5, .slice A5 n5 c5] 27)) (w.heap.size + 4) s5 A5 n5 c5) := by
  refine ⟨?_, ?_, ?_, ?_, ?_, ?_⟩
  · exact (((((Below.refl _ _).alloc (Nat.le_refl _) _).alloc (by simp) _).alloc (by simp; omega) _).alloc (by simp; omega) _).alloc (by simp; omega) _
  · have := Zb.new w s1 A1 n1 c1
    exact ((((this).alloc _).alloc _).alloc _).alloc _
  · have := Zb.new (w.alloc (.cells #[.bool s1, .slice A1 n1 c1] 27)) s2 A2 n2 c2
    simp only [World.size_alloc] at this
    exact (((this).alloc _).alloc _).alloc _
  · have := Zb.new ((w.alloc (.cells #[.bool s1, .slice A1 n1 c1] 27)).alloc (.cells #[.bool s2, .slice A2 n2 c2] 27)) s3 A3 n3 c3
    simp only [World.size_alloc] at this
    exact ((this).alloc _).alloc _
  · have := Zb.new (((w.alloc (.cells #[.bool s1, .slice A1 n1 c1] 27)).alloc (.cells #[.bool s2, .slice A2 n2 c2] 27)).alloc (.cells #[.bool s3, .slice A3 n3 c3] 27)) s4 A4 n4 c4
    simp only [World.size_alloc] at this
    exact (this).alloc _
  · have := Zb.new ((((w.alloc (.cells #[.bool s1, .slice A1 n1 c1] 27)).alloc (.cells #[.bool s2, .slice A2 n2 c2] 27)).alloc (.cells #[.bool s3, .slice A3 n3 c3] 27)).alloc (.cells #[.bool s4, .slice A4 n4 c4] 27)) s5 A5 n5 c5
    simp only [World.size_alloc] at this
    exact this
end Go.Proofs.YtfacndibfkamgaaGreat
