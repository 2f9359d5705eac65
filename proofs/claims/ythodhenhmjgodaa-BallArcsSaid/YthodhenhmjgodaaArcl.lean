/- The statement's function on arcs answers true. -/
import Derived.Test.YthodhenhmjgodaaUnia
import Derived.Test.YthodhenhmjgodaaAwake
import Derived.Test.YthodhenhmjgodaaRefb
namespace Go.Proofs.Ythodhenhmjgodaa
open Go.RowKit Go.Lib
attribute [local go_sem] run_store_float run_store_complex
set_option linter.unusedVariables false

set_option maxRecDepth 100000 in
set_option maxHeartbeats 4000000 in
theorem arcs_core {lo hi n d X Y R e X2 Y2 R2 e2 : Int} {fX fY fX2 fY2 : Nat}
    (T1 : Hid (∀ w, Calls Try.prog 59 #[.agg #[.int .i64 lo, .int .i64 hi]] w (Mem (.tuple #[.agg #[.complex .f64 fX fY, .int .i64 R], .int .i64 e]) w)))
    (T2 : Hid (∀ w, Calls Try.prog 60 #[.int .i64 n, .int .i64 d] w (Mem (.tuple #[.agg #[.complex .f64 fX2 fY2, .int .i64 R2], .int .i64 e2]) w)))
    (RA : Hid (∀ w, Calls Try.prog 61 #[.agg #[.int .i64 lo, .int .i64 hi]] w (Mem (.tuple #[.agg #[.int .i64 X, .int .i64 Y, .int .i64 R], .int .i64 e]) w)))
    (RU : Hid (∀ w, Calls Try.prog 62 #[.int .i64 n, .int .i64 d] w (Mem (.tuple #[.agg #[.int .i64 X2, .int .i64 Y2, .int .i64 R2], .int .i64 e2]) w)))
    (IS : Hid (∀ w, Calls Try.prog 22 #[.agg #[.complex .f64 fX fY, .int .i64 R], .int .i64 e, .agg #[.int .i64 X, .int .i64 Y, .int .i64 R], .int .i64 e] w (Mem (.bool true) w)))
    (IS2 : Hid (∀ w, Calls Try.prog 22 #[.agg #[.complex .f64 fX2 fY2, .int .i64 R2], .int .i64 e2, .agg #[.int .i64 X2, .int .i64 Y2, .int .i64 R2], .int .i64 e2] w (Mem (.bool true) w))) (w : World) :
    Calls Try.prog 10 #[.agg #[.int .i64 lo, .int .i64 hi], .int .i64 n, .int .i64 d] w (Mem (.bool true) w) := by
  have A := Lib.hid (fun w => awake_any w)
  go_enter Try.func10, Try.ntmps10
  go_wp2_with fail
  have K := (Hold.start w).new #[.int .i64 lo, .int .i64 hi] 23 (n := w.heap.size) (by simp)
  refine (A.out _).mono ?_
  rintro e_1 w1 ⟨rfl, hb⟩
  have K' := Hold.mem (K) hb
  clear hb K
  have K := K'
  clear K'
  obtain ⟨_, sz1, h0, _⟩ := id K
  have q0 := h0.cell; have f0 := h0.frozen; have z1_0 := h0.lt
  clear h0
  go_wp2_with fail
  refine (T1.out _).mono ?_
  rintro e_2 w2 ⟨rfl, hb⟩
  have K' := Hold.mem (K) hb
  clear hb K
  have K := K'
  clear K'
  clear q0 f0
  obtain ⟨_, sz2, h0, _⟩ := id K
  have q0 := h0.cell; have f0 := h0.frozen; have z2_0 := h0.lt
  clear h0
  go_wp2_with fail
  refine (T2.out _).mono ?_
  rintro e_3 w3 ⟨rfl, hb⟩
  have K' := Hold.mem ((K).new #[.complex .f64 fX fY, .int .i64 R] 27 (n := w2.heap.size) (by first | rfl | (simp <;> omega))) hb
  clear hb K
  have K := K'
  clear K'
  clear q0 f0
  obtain ⟨_, sz3, h0, h1, _⟩ := id K
  have q0 := h0.cell; have f0 := h0.frozen; have z3_0 := h0.lt
  have q1 := h1.cell; have f1 := h1.frozen; have z3_1 := h1.lt
  clear h0 h1
  go_wp2_with fail
  refine (RA.out _).mono ?_
  rintro e_4 w4 ⟨rfl, hb⟩
  have K' := Hold.mem ((K).new #[.complex .f64 fX2 fY2, .int .i64 R2] 27 (n := w3.heap.size) (by first | rfl | (simp <;> omega))) hb
  clear hb K
  have K := K'
  clear K'
  clear q0 f0 q1 f1
  obtain ⟨_, sz4, h0, h1, h2, _⟩ := id K
  have q0 := h0.cell; have f0 := h0.frozen; have z4_0 := h0.lt
  have q1 := h1.cell; have f1 := h1.frozen; have z4_1 := h1.lt
  have q2 := h2.cell; have f2 := h2.frozen; have z4_2 := h2.lt
  clear h0 h1 h2
  go_wp2_with fail
  refine (RU.out _).mono ?_
  rintro e_5 w5 ⟨rfl, hb⟩
  have K' := Hold.mem ((K).new #[.int .i64 X, .int .i64 Y, .int .i64 R] 33 (n := w4.heap.size) (by first | rfl | (simp <;> omega))) hb
  clear hb K
  have K := K'
  clear K'
  clear q0 f0 q1 f1 q2 f2
  obtain ⟨_, sz5, h0, h1, h2, h3, _⟩ := id K
  have q0 := h0.cell; have f0 := h0.frozen; have z5_0 := h0.lt
  have q1 := h1.cell; have f1 := h1.frozen; have z5_1 := h1.lt
  have q2 := h2.cell; have f2 := h2.frozen; have z5_2 := h2.lt
  have q3 := h3.cell; have f3 := h3.frozen; have z5_3 := h3.lt
  clear h0 h1 h2 h3
  go_wp2_with fail
  refine (IS.out _).mono ?_
  rintro e_6 w6 ⟨rfl, hb⟩
  have K' := Hold.mem ((K).new #[.int .i64 X2, .int .i64 Y2, .int .i64 R2] 33 (n := w5.heap.size) (by first | rfl | (simp <;> omega))) hb
  clear hb K
  have K := K'
  clear K'
  clear q0 f0 q1 f1 q2 f2 q3 f3
  obtain ⟨_, sz6, h0, h1, h2, h3, h4, _⟩ := id K
  have q0 := h0.cell; have f0 := h0.frozen; have z6_0 := h0.lt
  have q1 := h1.cell; have f1 := h1.frozen; have z6_1 := h1.lt
  have q2 := h2.cell; have f2 := h2.frozen; have z6_2 := h2.lt
  have q3 := h3.cell; have f3 := h3.frozen; have z6_3 := h3.lt
  have q4 := h4.cell; have f4 := h4.frozen; have z6_4 := h4.lt
  clear h0 h1 h2 h3 h4
  go_wp2_with fail
  refine (IS2.out _).mono ?_
  rintro e_7 w7 ⟨rfl, hb⟩
  have K' := Hold.mem (K) hb
  clear hb K
  have K := K'
  clear K'
  clear q0 f0 q1 f1 q2 f2 q3 f3 q4 f4
  obtain ⟨_, sz7, h0, h1, h2, h3, h4, _⟩ := id K
  have q0 := h0.cell; have f0 := h0.frozen; have z7_0 := h0.lt
  have q1 := h1.cell; have f1 := h1.frozen; have z7_1 := h1.lt
  have q2 := h2.cell; have f2 := h2.frozen; have z7_2 := h2.lt
  have q3 := h3.cell; have f3 := h3.frozen; have z7_3 := h3.lt
  have q4 := h4.cell; have f4 := h4.frozen; have z7_4 := h4.lt
  clear h0 h1 h2 h3 h4
  go_wp2_with fail
  go_ret
  exact ⟨rfl, (K).below⟩

theorem arcs_walk (lo hi n d : Int) (w : World) : Calls Try.prog 10 #[.agg #[.int .i64 lo, .int .i64 hi], .int .i64 n, .int .i64 d] w (Mem (.bool true) w) := by
  have T1 := fun w => Arc_any (lo := lo) (hi := hi) (fun _ => DirOk_any ((lo + hi) / 2)) w
  have T2 := fun w => Unit_any n d w
  have RA := fun w => refArc_any lo hi w
  have RU := fun w => refUnit_any n d w
  obtain ⟨X, Y, R, e, p1, p2⟩ := pair_arc lo hi
  obtain ⟨X2, Y2, R2, e2, p3, p4⟩ := pair_unit n d
  rw [p1] at T1
  rw [p2] at RA
  rw [p3] at T2
  rw [p4] at RU
  exact arcs_core (Lib.hid T1) (Lib.hid T2) (Lib.hid RA) (Lib.hid RU) (Lib.hid fun w => is_any X Y R e w) (Lib.hid fun w => is_any X2 Y2 R2 e2 w) w

end Go.Proofs.Ythodhenhmjgodaa
