/- The statement's function on the balls of ranges and fractions answers true. -/
import Derived.Test.YthodhenhmjgodaaRefd
namespace Go.Proofs.Ythodhenhmjgodaa
open Go.RowKit Go.Lib
attribute [local go_sem] run_store_float run_store_complex
set_option linter.unusedVariables false

set_option maxHeartbeats 2000000 in
theorem makes_walk (lo hi num den : Int) (w : World) : Calls Try.prog 3 #[.agg #[.int .i64 lo, .int .i64 hi], .int .i64 num, .int .i64 den] w (Mem (.bool true) w) := by
  have A := Lib.hid (fun w => awake_any w)
  have H1 := fun w => OfRange_any lo hi w
  have H3 := fun w => RefRange_any lo hi w
  have H2 := fun w => OfFrac_any num den w
  obtain ⟨V4, hp, H4⟩ := pair_frac (n := num) (d := den)
  obtain ⟨x, y, r, c, e1, e3⟩ := pair_range lo hi
  obtain ⟨x', y', r', c', e2, e4⟩ := hp
  rw [e1] at H1
  rw [e2] at H2
  rw [e3] at H3
  rw [e4] at H4
  have I1 := Lib.hid (fun w => is_any x y r c w)
  have I2 := Lib.hid (fun w => is_any x' y' r' c' w)
  clear e1 e2 e3 e4
  unfold balV refV at *
  generalize fi x = fx at *
  generalize fi y = fy at *
  generalize fi x' = fx' at *
  generalize fi y' = fy' at *
  replace H1 := Lib.hid H1
  replace H2 := Lib.hid H2
  replace H3 := Lib.hid H3
  replace H4 := Lib.hid H4
  go_enter Try.func3, Try.ntmps3
  go_wp2_with fail
  refine (A.out _).mono ?_
  rintro e w1 ⟨rfl, hb⟩
  have a0 : At w1 w.heap.size #[.int .i64 lo, .int .i64 hi] := At.below (At.new _ _ _) hb
  have hb1 : Below w.heap.size w w1 := Below.via ((Below.refl _ _).alloc (by simp) _) hb
  have q0 := a0.cell; have z0 := a0.lt
  have A0 := Lib.hid a0
  have z1 := hb1.size
  clear hb a0
  go_wp2_with fail
  refine (H1.out _).mono ?_
  rintro e w2 ⟨rfl, hb⟩
  have A0' := Lib.hid (A0.out.below hb)
  have hb2 : Below w.heap.size w w2 := Below.via hb1 hb
  have z2 := hb2.size
  clear q0 z0 A0 hb hb1 z1
  go_wp2_with fail
  refine (H2.out _).mono ?_
  rintro e w3 ⟨rfl, hb⟩
  have a0 := (A0'.out.old _).below hb
  have A1 : Hid (At w3 w2.heap.size #[.complex .f64 fx fy, .int .i64 r]) := Lib.hid (At.below (At.new _ _ _) hb)
  have hb3 : Below w.heap.size w w3 := Below.via (hb2.alloc (by first | exact z2 | (simp <;> omega)) _) hb
  have z3 := hb3.size
  have q0 := a0.cell; have z0 := a0.lt
  have A0 := Lib.hid a0
  clear hb hb2 z2 A0' a0
  go_wp2_with fail
  refine (H3.out _).mono ?_
  rintro e w4 ⟨rfl, hb⟩
  have A1' := Lib.hid ((A1.out.old _).below hb)
  have A2 : Hid (At w4 w3.heap.size #[.complex .f64 fx' fy', .int .i64 r']) := Lib.hid (At.below (At.new _ _ _) hb)
  have hb4 : Below w.heap.size w w4 := Below.via (hb3.alloc (by first | exact z3 | (simp <;> omega)) _) hb
  have z4 := hb4.size
  clear hb hb3 z3 A1 q0 z0 A0
  go_wp2_with fail
  refine (H4.out _).mono ?_
  rintro e w5 ⟨rfl, hb⟩
  have a1 := (A1'.out.old _).below hb
  have a2 := (A2.out.old _).below hb
  have a3 : At w5 w4.heap.size #[.int .i64 x, .int .i64 y, .int .i64 r] := At.below (At.new _ _ _) hb
  have hb5 : Below w.heap.size w w5 := Below.via (hb4.alloc (by first | exact z4 | (simp <;> omega)) _) hb
  have z5 := hb5.size
  have q1 := a1.cell; have q2 := a2.cell; have q3 := a3.cell
  have y1 := a1.lt; have y2 := a2.lt; have y3 := a3.lt
  have A1 := Lib.hid a1; have A2' := Lib.hid a2; have A3 := Lib.hid a3
  clear hb hb4 z4 A1' A2 a1 a2 a3 H1 H2 H3 H4 A
  go_wp2_with fail
  refine (I1.out _).mono ?_
  rintro e w6 ⟨rfl, hb⟩
  have a2 := (A2'.out.old _).below hb
  have a4 : At w6 w5.heap.size #[.int .i64 x', .int .i64 y', .int .i64 r'] := At.below (At.new _ _ _) hb
  have hb6 : Below w.heap.size w w6 := Below.via (hb5.alloc (by first | exact z5 | (simp <;> omega)) _) hb
  have z6 := hb6.size
  clear q1 q2 q3 y1 y2 y3 A1 A2' A3 hb hb5 z5 I1
  have q2 := a2.cell; have q4 := a4.cell
  have y2 := a2.lt; have y4 := a4.lt
  clear a2 a4
  go_wp2_with fail
  refine (I2.out _).mono ?_
  rintro e w7 ⟨rfl, hb⟩
  have hb7 : Below w.heap.size w w7 := Below.via hb6 hb
  clear hb hb6 z6
  have z7 := hb7.size
  go_wp2_with fail
  go_ret
  refine ⟨rfl, ?_⟩
  repeat (first | with_reducible exact hb7 | with_reducible refine Below.drew ?_ | with_reducible refine below_drewN ?_ _ | refine Below.alloc ?_ (by first | exact z7 | (simp <;> omega)) _)

end Go.Proofs.Ythodhenhmjgodaa
