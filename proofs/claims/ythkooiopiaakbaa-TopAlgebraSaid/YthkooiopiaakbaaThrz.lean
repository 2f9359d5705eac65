/- The three balls in general. -/
import Derived.Test.YthkooiopiaakbaaThra
import Derived.Test.YthkooiopiaakbaaThrb
import Derived.Test.YthkooiopiaakbaaBald
namespace Go.Proofs.Ythkooiopiaakbaa
open Go.RowKit Go.Lib
set_option linter.unusedVariables false

def lim3 (x y r : Int) : Prop := (-4194304 ≤ x ∧ x ≤ 4194304) ∧ (-4194304 ≤ y ∧ y ≤ 4194304) ∧ 0 ≤ r ∧ r ≤ 1000
theorem wiB_iff {n lo hi : Int} (h : wiB n lo hi = true) : lo ≤ n ∧ n ≤ hi := by unfold wiB at h; simpa using h

theorem three_any (x0 y0 r0 x1 y1 r1 x2 y2 r2 : Int) :
    (∃ (aX aY bX bY cX cY : Nat) (aR bR cR : Int), ∀ w, Calls Try.prog 68 #[.agg #[.int .i64 x0, .int .i64 y0, .int .i64 r0, .int .i64 x1, .int .i64 y1, .int .i64 r1, .int .i64 x2, .int .i64 y2, .int .i64 r2]] w (Mem (.tuple #[.agg #[.complex .f64 aX aY, .int .i64 aR, .complex .f64 bX bY, .int .i64 bR, .complex .f64 cX cY, .int .i64 cR], .bool false]) w)) ∨
    ((lim3 x0 y0 r0 ∧ lim3 x1 y1 r1 ∧ lim3 x2 y2 r2) ∧ ∀ w, Calls Try.prog 68 #[.agg #[.int .i64 x0, .int .i64 y0, .int .i64 r0, .int .i64 x1, .int .i64 y1, .int .i64 r1, .int .i64 x2, .int .i64 y2, .int .i64 r2]] w (Mem (.tuple #[.agg #[.complex .f64 (fi x0) (fi y0), .int .i64 r0, .complex .f64 (fi x1) (fi y1), .int .i64 r1, .complex .f64 (fi x2) (fi y2), .int .i64 r2], .bool true]) w)) := by
  have W00 := fun w => within_memB x0 (-4194304) 4194304 w
  have W01 := fun w => within_memB y0 (-4194304) 4194304 w
  have W02 := fun w => within_memB r0 0 1000 w
  have B0 := Lib.hid fun w => Ball_mem x0 y0 r0 w
  have W10 := fun w => within_memB x1 (-4194304) 4194304 w
  have W11 := fun w => within_memB y1 (-4194304) 4194304 w
  have W12 := fun w => within_memB r1 0 1000 w
  have B1 := Lib.hid fun w => Ball_mem x1 y1 r1 w
  have W20 := fun w => within_memB x2 (-4194304) 4194304 w
  have W21 := fun w => within_memB y2 (-4194304) 4194304 w
  have W22 := fun w => within_memB r2 0 1000 w
  have B2 := Lib.hid fun w => Ball_mem x2 y2 r2 w
  by_cases k00 : wiB x0 (-4194304) 4194304 = true
  case neg =>
    rw [show wiB x0 (-4194304) 4194304 = false by simpa using k00] at W00
    exact .inl ⟨_, _, _, _, _, _, _, _, _, fun w => three_00 (Lib.hid W00)  w⟩
  rw [k00] at W00
  by_cases k01 : wiB y0 (-4194304) 4194304 = true
  case neg =>
    rw [show wiB y0 (-4194304) 4194304 = false by simpa using k01] at W01
    exact .inl ⟨_, _, _, _, _, _, _, _, _, fun w => three_01 (Lib.hid W00) (Lib.hid W01)  w⟩
  rw [k01] at W01
  by_cases k02 : wiB r0 0 1000 = true
  case neg =>
    rw [show wiB r0 0 1000 = false by simpa using k02] at W02
    exact .inl ⟨_, _, _, _, _, _, _, _, _, fun w => three_02 (Lib.hid W00) (Lib.hid W01) (Lib.hid W02)  w⟩
  rw [k02] at W02
  by_cases k10 : wiB x1 (-4194304) 4194304 = true
  case neg =>
    rw [show wiB x1 (-4194304) 4194304 = false by simpa using k10] at W10
    exact .inl ⟨_, _, _, _, _, _, _, _, _, fun w => three_10 (Lib.hid W00) (Lib.hid W01) (Lib.hid W02) (Lib.hid W10) B0 w⟩
  rw [k10] at W10
  by_cases k11 : wiB y1 (-4194304) 4194304 = true
  case neg =>
    rw [show wiB y1 (-4194304) 4194304 = false by simpa using k11] at W11
    exact .inl ⟨_, _, _, _, _, _, _, _, _, fun w => three_11 (Lib.hid W00) (Lib.hid W01) (Lib.hid W02) (Lib.hid W10) (Lib.hid W11) B0 w⟩
  rw [k11] at W11
  by_cases k12 : wiB r1 0 1000 = true
  case neg =>
    rw [show wiB r1 0 1000 = false by simpa using k12] at W12
    exact .inl ⟨_, _, _, _, _, _, _, _, _, fun w => three_12 (Lib.hid W00) (Lib.hid W01) (Lib.hid W02) (Lib.hid W10) (Lib.hid W11) (Lib.hid W12) B0 w⟩
  rw [k12] at W12
  by_cases k20 : wiB x2 (-4194304) 4194304 = true
  case neg =>
    rw [show wiB x2 (-4194304) 4194304 = false by simpa using k20] at W20
    exact .inl ⟨_, _, _, _, _, _, _, _, _, fun w => three_20 (Lib.hid W00) (Lib.hid W01) (Lib.hid W02) (Lib.hid W10) (Lib.hid W11) (Lib.hid W12) (Lib.hid W20) B0 B1 w⟩
  rw [k20] at W20
  by_cases k21 : wiB y2 (-4194304) 4194304 = true
  case neg =>
    rw [show wiB y2 (-4194304) 4194304 = false by simpa using k21] at W21
    exact .inl ⟨_, _, _, _, _, _, _, _, _, fun w => three_21 (Lib.hid W00) (Lib.hid W01) (Lib.hid W02) (Lib.hid W10) (Lib.hid W11) (Lib.hid W12) (Lib.hid W20) (Lib.hid W21) B0 B1 w⟩
  rw [k21] at W21
  by_cases k22 : wiB r2 0 1000 = true
  case neg =>
    rw [show wiB r2 0 1000 = false by simpa using k22] at W22
    exact .inl ⟨_, _, _, _, _, _, _, _, _, fun w => three_22 (Lib.hid W00) (Lib.hid W01) (Lib.hid W02) (Lib.hid W10) (Lib.hid W11) (Lib.hid W12) (Lib.hid W20) (Lib.hid W21) (Lib.hid W22) B0 B1 w⟩
  rw [k22] at W22
  exact .inr ⟨⟨⟨wiB_iff k00, wiB_iff k01, wiB_iff k02⟩, ⟨wiB_iff k10, wiB_iff k11, wiB_iff k12⟩, ⟨wiB_iff k20, wiB_iff k21, wiB_iff k22⟩⟩, fun w => three_30 (Lib.hid W00) (Lib.hid W01) (Lib.hid W02) (Lib.hid W10) (Lib.hid W11) (Lib.hid W12) (Lib.hid W20) (Lib.hid W21) (Lib.hid W22) B0 B1 B2 w⟩
end Go.Proofs.Ythkooiopiaakbaa
