/- The three balls of a statement: where all are. -/
import Derived.Test.YthkooiopiaakbaaFltw
import Derived.Test.YthkooiopiaakbaaRefa
import Derived.Test.YthkooiopiaakbaaTurn
namespace Go.Proofs.Ythkooiopiaakbaa
open Go.RowKit Go.Lib
attribute [local go_sem] run_store_float run_store_complex
set_option linter.unusedVariables false

set_option maxRecDepth 100000 in
set_option maxHeartbeats 1000000 in
theorem three_30 {x0 y0 r0 x1 y1 r1 x2 y2 r2 : Int} {g0 k0 g1 k1 g2 k2 : Nat}
    (W00 : Hid (∀ w, Calls Try.prog 31 #[.int .i64 x0, .int .i64 (-4194304), .int .i64 4194304] w (Mem (.bool true) w)))
    (W01 : Hid (∀ w, Calls Try.prog 31 #[.int .i64 y0, .int .i64 (-4194304), .int .i64 4194304] w (Mem (.bool true) w)))
    (W02 : Hid (∀ w, Calls Try.prog 31 #[.int .i64 r0, .int .i64 0, .int .i64 1000] w (Mem (.bool true) w)))
    (W10 : Hid (∀ w, Calls Try.prog 31 #[.int .i64 x1, .int .i64 (-4194304), .int .i64 4194304] w (Mem (.bool true) w)))
    (W11 : Hid (∀ w, Calls Try.prog 31 #[.int .i64 y1, .int .i64 (-4194304), .int .i64 4194304] w (Mem (.bool true) w)))
    (W12 : Hid (∀ w, Calls Try.prog 31 #[.int .i64 r1, .int .i64 0, .int .i64 1000] w (Mem (.bool true) w)))
    (W20 : Hid (∀ w, Calls Try.prog 31 #[.int .i64 x2, .int .i64 (-4194304), .int .i64 4194304] w (Mem (.bool true) w)))
    (W21 : Hid (∀ w, Calls Try.prog 31 #[.int .i64 y2, .int .i64 (-4194304), .int .i64 4194304] w (Mem (.bool true) w)))
    (W22 : Hid (∀ w, Calls Try.prog 31 #[.int .i64 r2, .int .i64 0, .int .i64 1000] w (Mem (.bool true) w)))
    (B0 : Hid (∀ w, Calls Try.prog 49 #[.int .i64 x0, .int .i64 y0, .int .i64 r0] w (Mem (.agg #[.complex .f64 g0 k0, .int .i64 r0]) w)))
    (B1 : Hid (∀ w, Calls Try.prog 49 #[.int .i64 x1, .int .i64 y1, .int .i64 r1] w (Mem (.agg #[.complex .f64 g1 k1, .int .i64 r1]) w)))
    (B2 : Hid (∀ w, Calls Try.prog 49 #[.int .i64 x2, .int .i64 y2, .int .i64 r2] w (Mem (.agg #[.complex .f64 g2 k2, .int .i64 r2]) w))) (w : World) :
    Calls Try.prog 68 #[.agg #[.int .i64 x0, .int .i64 y0, .int .i64 r0, .int .i64 x1, .int .i64 y1, .int .i64 r1, .int .i64 x2, .int .i64 y2, .int .i64 r2]] w (Mem (.tuple #[.agg #[.complex .f64 g0 k0, .int .i64 r0, .complex .f64 g1 k1, .int .i64 r1, .complex .f64 g2 k2, .int .i64 r2], .bool true]) w) := by
  go_enter Try.func68, Try.ntmps68
  go_wp2_with fail
  have K := (((Hold.start w).new #[.int .i64 x0, .int .i64 y0, .int .i64 r0, .int .i64 x1, .int .i64 y1, .int .i64 r1, .int .i64 x2, .int .i64 y2, .int .i64 r2] 83 (n := w.heap.size) (by simp)).new #[.complex .f64 0 0, .int .i64 0, .complex .f64 0 0, .int .i64 0, .complex .f64 0 0, .int .i64 0] 84 (n := w.heap.size + 1) (by simp)).new #[.complex .f64 0 0, .int .i64 0, .complex .f64 0 0, .int .i64 0, .complex .f64 0 0, .int .i64 0] 84 (n := w.heap.size + 1 + 1) (by simp)
  refine wp_loop_rounds 4 ?_
  rw [rounds_succ]
  obtain ⟨_, sz1, h0, h1, h2, _⟩ := id K
  have q0 := h0.cell; have f0 := h0.frozen; have z1_0 := h0.lt
  have q1 := h1.cell; have f1 := h1.frozen; have z1_1 := h1.lt
  have q2 := h2.cell; have f2 := h2.frozen; have z1_2 := h2.lt
  clear h0 h1 h2
  go_wp2_with fail
  refine (W00.out _).mono ?_
  rintro e_1 w1 ⟨rfl, hb⟩
  have K' := Hold.mem (K) hb
  clear hb K
  have K := K'
  clear K'
  clear q0 f0 q1 f1 q2 f2
  obtain ⟨_, sz2, h0, h1, h2, _⟩ := id K
  have q0 := h0.cell; have f0 := h0.frozen; have z2_0 := h0.lt
  have q1 := h1.cell; have f1 := h1.frozen; have z2_1 := h1.lt
  have q2 := h2.cell; have f2 := h2.frozen; have z2_2 := h2.lt
  clear h0 h1 h2
  go_wp2_with fail
  refine (W01.out _).mono ?_
  rintro e_2 w2 ⟨rfl, hb⟩
  have K' := Hold.mem (K) hb
  clear hb K
  have K := K'
  clear K'
  clear q0 f0 q1 f1 q2 f2
  obtain ⟨_, sz3, h0, h1, h2, _⟩ := id K
  have q0 := h0.cell; have f0 := h0.frozen; have z3_0 := h0.lt
  have q1 := h1.cell; have f1 := h1.frozen; have z3_1 := h1.lt
  have q2 := h2.cell; have f2 := h2.frozen; have z3_2 := h2.lt
  clear h0 h1 h2
  go_wp2_with fail
  refine (W02.out _).mono ?_
  rintro e_3 w3 ⟨rfl, hb⟩
  have K' := Hold.mem (K) hb
  clear hb K
  have K := K'
  clear K'
  clear q0 f0 q1 f1 q2 f2
  obtain ⟨_, sz4, h0, h1, h2, _⟩ := id K
  have q0 := h0.cell; have f0 := h0.frozen; have z4_0 := h0.lt
  have q1 := h1.cell; have f1 := h1.frozen; have z4_1 := h1.lt
  have q2 := h2.cell; have f2 := h2.frozen; have z4_2 := h2.lt
  clear h0 h1 h2
  go_wp2_with fail
  clear q0 f0 q1 f1 q2 f2
  obtain ⟨_, sz5, h0, h1, h2, _⟩ := id K
  have z5_0 := h0.lt; have z5_1 := h1.lt; have z5_2 := h2.lt
  clear h0 h1 h2
  have hne : Hid (∃ w', Hold w.heap.size w [(w.heap.size + 1 + 1, #[.complex .f64 0 0, .int .i64 0, .complex .f64 0 0, .int .i64 0, .complex .f64 0 0, .int .i64 0]), (w.heap.size + 1, #[.complex .f64 0 0, .int .i64 0, .complex .f64 0 0, .int .i64 0, .complex .f64 0 0, .int .i64 0]), (w.heap.size, #[.int .i64 x0, .int .i64 y0, .int .i64 r0, .int .i64 x1, .int .i64 y1, .int .i64 r1, .int .i64 x2, .int .i64 y2, .int .i64 r2])] w') := ⟨_, K.drew⟩
  refine wp_region_tail (Hold w.heap.size w [(w.heap.size + 1 + 1, #[.complex .f64 0 0, .int .i64 0, .complex .f64 0 0, .int .i64 0, .complex .f64 0 0, .int .i64 0]), (w.heap.size + 1, #[.complex .f64 0 0, .int .i64 0, .complex .f64 0 0, .int .i64 0, .complex .f64 0 0, .int .i64 0]), (w.heap.size, #[.int .i64 x0, .int .i64 y0, .int .i64 r0, .int .i64 x1, .int .i64 y1, .int .i64 r1, .int .i64 x2, .int .i64 y2, .int .i64 r2])]) 15 15 (by kernel_rfl) (by kernel_rfl) (fun _ _ d _ _ h => by cases d <;> exact h) (Hold.lasting _ _ _) K.drew ?_
  simp only [List.take_succ_cons, List.take_zero, List.drop_succ_cons, List.drop_zero]
  clear K
  repeat (first
    | (refine calm_skip (by rfl) ?_; simp only [Act.put, List.setIfInBounds_toArray, List.set_cons_zero, List.set_cons_succ])
    | (refine calm_step hne.out (by rfl) rfl (by simp) ?_; apply Exists.intro; refine ⟨?_, ?_⟩
       · (intro r _ K hK; go_big_quiet_op; first
          | exact hK
          | (apply Exists.intro; refine ⟨fun _ hw => ?_, ?_⟩; (first
             | with_reducible exact rfl
             | with_reducible exact cm_mem hw (B0.out _)
             | (obtain ⟨_, _, h0, h1, h2, _⟩ := hw.s; have q0 := h0.cell; have q1 := h1.cell; have q2 := h2.cell; clear h0 h1 h2; simp [q0, q1, q2, go_sem]; exact rfl)); exact hK))))
  refine wpCalm_nil ?_
  intro w4 K
  clear hne
  obtain ⟨_, sz6, h0, h1, h2, _⟩ := id K
  have q0 := h0.cell; have f0 := h0.frozen; have z6_0 := h0.lt
  have q1 := h1.cell; have f1 := h1.frozen; have z6_1 := h1.lt
  have q2 := h2.cell; have f2 := h2.frozen; have z6_2 := h2.lt
  clear h0 h1 h2
  go_wp2_with fail
  have K' := (show Hold w.heap.size w [(w.heap.size + 1 + 1, #[.complex .f64 g0 k0, .int .i64 r0, .complex .f64 0 0, .int .i64 0, .complex .f64 0 0, .int .i64 0]), (w.heap.size + 1, #[.complex .f64 0 0, .int .i64 0, .complex .f64 0 0, .int .i64 0, .complex .f64 0 0, .int .i64 0]), (w.heap.size, #[.int .i64 x0, .int .i64 y0, .int .i64 r0, .int .i64 x1, .int .i64 y1, .int .i64 r1, .int .i64 x2, .int .i64 y2, .int .i64 r2])] _ from ((show Hold w.heap.size w [(w.heap.size + 1 + 1, #[.complex .f64 g0 k0, .int .i64 0, .complex .f64 0 0, .int .i64 0, .complex .f64 0 0, .int .i64 0]), (w.heap.size + 1, #[.complex .f64 0 0, .int .i64 0, .complex .f64 0 0, .int .i64 0, .complex .f64 0 0, .int .i64 0]), (w.heap.size, #[.int .i64 x0, .int .i64 y0, .int .i64 r0, .int .i64 x1, .int .i64 y1, .int .i64 r1, .int .i64 x2, .int .i64 y2, .int .i64 r2])] _ from (K).set (by omega) (by simp <;> omega) 0 (.complex .f64 g0 k0))).set (by omega) (by simp <;> omega) 1 (.int .i64 r0))
  clear K
  have K := K'
  clear K'
  obtain ⟨_, sz7, h0, h1, h2, _⟩ := id K
  have q0 := h0.cell; have f0 := h0.frozen; have z7_0 := h0.lt
  have q1 := h1.cell; have f1 := h1.frozen; have z7_1 := h1.lt
  have q2 := h2.cell; have f2 := h2.frozen; have z7_2 := h2.lt
  clear h0 h1 h2
  rw [rounds_succ]
  go_wp2_with fail
  refine (W10.out _).mono ?_
  rintro e_5 w5 ⟨rfl, hb⟩
  have K' := Hold.mem (K) hb
  clear hb K
  have K := K'
  clear K'
  clear q0 f0 q1 f1 q2 f2
  obtain ⟨_, sz8, h0, h1, h2, _⟩ := id K
  have q0 := h0.cell; have f0 := h0.frozen; have z8_0 := h0.lt
  have q1 := h1.cell; have f1 := h1.frozen; have z8_1 := h1.lt
  have q2 := h2.cell; have f2 := h2.frozen; have z8_2 := h2.lt
  clear h0 h1 h2
  go_wp2_with fail
  refine (W11.out _).mono ?_
  rintro e_6 w6 ⟨rfl, hb⟩
  have K' := Hold.mem (K) hb
  clear hb K
  have K := K'
  clear K'
  clear q0 f0 q1 f1 q2 f2
  obtain ⟨_, sz9, h0, h1, h2, _⟩ := id K
  have q0 := h0.cell; have f0 := h0.frozen; have z9_0 := h0.lt
  have q1 := h1.cell; have f1 := h1.frozen; have z9_1 := h1.lt
  have q2 := h2.cell; have f2 := h2.frozen; have z9_2 := h2.lt
  clear h0 h1 h2
  go_wp2_with fail
  refine (W12.out _).mono ?_
  rintro e_7 w7 ⟨rfl, hb⟩
  have K' := Hold.mem (K) hb
  clear hb K
  have K := K'
  clear K'
  clear q0 f0 q1 f1 q2 f2
  obtain ⟨_, sz10, h0, h1, h2, _⟩ := id K
  have q0 := h0.cell; have f0 := h0.frozen; have z10_0 := h0.lt
  have q1 := h1.cell; have f1 := h1.frozen; have z10_1 := h1.lt
  have q2 := h2.cell; have f2 := h2.frozen; have z10_2 := h2.lt
  clear h0 h1 h2
  go_wp2_with fail
  clear q0 f0 q1 f1 q2 f2
  obtain ⟨_, sz11, h0, h1, h2, _⟩ := id K
  have z11_0 := h0.lt; have z11_1 := h1.lt; have z11_2 := h2.lt
  clear h0 h1 h2
  have hne : Hid (∃ w', Hold w.heap.size w [(w.heap.size + 1 + 1, #[.complex .f64 g0 k0, .int .i64 r0, .complex .f64 0 0, .int .i64 0, .complex .f64 0 0, .int .i64 0]), (w.heap.size + 1, #[.complex .f64 0 0, .int .i64 0, .complex .f64 0 0, .int .i64 0, .complex .f64 0 0, .int .i64 0]), (w.heap.size, #[.int .i64 x0, .int .i64 y0, .int .i64 r0, .int .i64 x1, .int .i64 y1, .int .i64 r1, .int .i64 x2, .int .i64 y2, .int .i64 r2])] w') := ⟨_, K.drew⟩
  refine wp_region_tail (Hold w.heap.size w [(w.heap.size + 1 + 1, #[.complex .f64 g0 k0, .int .i64 r0, .complex .f64 0 0, .int .i64 0, .complex .f64 0 0, .int .i64 0]), (w.heap.size + 1, #[.complex .f64 0 0, .int .i64 0, .complex .f64 0 0, .int .i64 0, .complex .f64 0 0, .int .i64 0]), (w.heap.size, #[.int .i64 x0, .int .i64 y0, .int .i64 r0, .int .i64 x1, .int .i64 y1, .int .i64 r1, .int .i64 x2, .int .i64 y2, .int .i64 r2])]) 15 15 (by kernel_rfl) (by kernel_rfl) (fun _ _ d _ _ h => by cases d <;> exact h) (Hold.lasting _ _ _) K.drew ?_
  simp only [List.take_succ_cons, List.take_zero, List.drop_succ_cons, List.drop_zero]
  clear K
  repeat (first
    | (refine calm_skip (by rfl) ?_; simp only [Act.put, List.setIfInBounds_toArray, List.set_cons_zero, List.set_cons_succ])
    | (refine calm_step hne.out (by rfl) rfl (by simp) ?_; apply Exists.intro; refine ⟨?_, ?_⟩
       · (intro r _ K hK; go_big_quiet_op; first
          | exact hK
          | (apply Exists.intro; refine ⟨fun _ hw => ?_, ?_⟩; (first
             | with_reducible exact rfl
             | with_reducible exact cm_mem hw (B1.out _)
             | (obtain ⟨_, _, h0, h1, h2, _⟩ := hw.s; have q0 := h0.cell; have q1 := h1.cell; have q2 := h2.cell; clear h0 h1 h2; simp [q0, q1, q2, go_sem]; exact rfl)); exact hK))))
  refine wpCalm_nil ?_
  intro w8 K
  clear hne
  obtain ⟨_, sz12, h0, h1, h2, _⟩ := id K
  have q0 := h0.cell; have f0 := h0.frozen; have z12_0 := h0.lt
  have q1 := h1.cell; have f1 := h1.frozen; have z12_1 := h1.lt
  have q2 := h2.cell; have f2 := h2.frozen; have z12_2 := h2.lt
  clear h0 h1 h2
  go_wp2_with fail
  have K' := (show Hold w.heap.size w [(w.heap.size + 1 + 1, #[.complex .f64 g0 k0, .int .i64 r0, .complex .f64 g1 k1, .int .i64 r1, .complex .f64 0 0, .int .i64 0]), (w.heap.size + 1, #[.complex .f64 0 0, .int .i64 0, .complex .f64 0 0, .int .i64 0, .complex .f64 0 0, .int .i64 0]), (w.heap.size, #[.int .i64 x0, .int .i64 y0, .int .i64 r0, .int .i64 x1, .int .i64 y1, .int .i64 r1, .int .i64 x2, .int .i64 y2, .int .i64 r2])] _ from ((show Hold w.heap.size w [(w.heap.size + 1 + 1, #[.complex .f64 g0 k0, .int .i64 r0, .complex .f64 g1 k1, .int .i64 0, .complex .f64 0 0, .int .i64 0]), (w.heap.size + 1, #[.complex .f64 0 0, .int .i64 0, .complex .f64 0 0, .int .i64 0, .complex .f64 0 0, .int .i64 0]), (w.heap.size, #[.int .i64 x0, .int .i64 y0, .int .i64 r0, .int .i64 x1, .int .i64 y1, .int .i64 r1, .int .i64 x2, .int .i64 y2, .int .i64 r2])] _ from (K).set (by omega) (by simp <;> omega) 2 (.complex .f64 g1 k1))).set (by omega) (by simp <;> omega) 3 (.int .i64 r1))
  clear K
  have K := K'
  clear K'
  obtain ⟨_, sz13, h0, h1, h2, _⟩ := id K
  have q0 := h0.cell; have f0 := h0.frozen; have z13_0 := h0.lt
  have q1 := h1.cell; have f1 := h1.frozen; have z13_1 := h1.lt
  have q2 := h2.cell; have f2 := h2.frozen; have z13_2 := h2.lt
  clear h0 h1 h2
  rw [rounds_succ]
  go_wp2_with fail
  refine (W20.out _).mono ?_
  rintro e_9 w9 ⟨rfl, hb⟩
  have K' := Hold.mem (K) hb
  clear hb K
  have K := K'
  clear K'
  clear q0 f0 q1 f1 q2 f2
  obtain ⟨_, sz14, h0, h1, h2, _⟩ := id K
  have q0 := h0.cell; have f0 := h0.frozen; have z14_0 := h0.lt
  have q1 := h1.cell; have f1 := h1.frozen; have z14_1 := h1.lt
  have q2 := h2.cell; have f2 := h2.frozen; have z14_2 := h2.lt
  clear h0 h1 h2
  go_wp2_with fail
  refine (W21.out _).mono ?_
  rintro e_10 w10 ⟨rfl, hb⟩
  have K' := Hold.mem (K) hb
  clear hb K
  have K := K'
  clear K'
  clear q0 f0 q1 f1 q2 f2
  obtain ⟨_, sz15, h0, h1, h2, _⟩ := id K
  have q0 := h0.cell; have f0 := h0.frozen; have z15_0 := h0.lt
  have q1 := h1.cell; have f1 := h1.frozen; have z15_1 := h1.lt
  have q2 := h2.cell; have f2 := h2.frozen; have z15_2 := h2.lt
  clear h0 h1 h2
  go_wp2_with fail
  refine (W22.out _).mono ?_
  rintro e_11 w11 ⟨rfl, hb⟩
  have K' := Hold.mem (K) hb
  clear hb K
  have K := K'
  clear K'
  clear q0 f0 q1 f1 q2 f2
  obtain ⟨_, sz16, h0, h1, h2, _⟩ := id K
  have q0 := h0.cell; have f0 := h0.frozen; have z16_0 := h0.lt
  have q1 := h1.cell; have f1 := h1.frozen; have z16_1 := h1.lt
  have q2 := h2.cell; have f2 := h2.frozen; have z16_2 := h2.lt
  clear h0 h1 h2
  go_wp2_with fail
  clear q0 f0 q1 f1 q2 f2
  obtain ⟨_, sz17, h0, h1, h2, _⟩ := id K
  have z17_0 := h0.lt; have z17_1 := h1.lt; have z17_2 := h2.lt
  clear h0 h1 h2
  have hne : Hid (∃ w', Hold w.heap.size w [(w.heap.size + 1 + 1, #[.complex .f64 g0 k0, .int .i64 r0, .complex .f64 g1 k1, .int .i64 r1, .complex .f64 0 0, .int .i64 0]), (w.heap.size + 1, #[.complex .f64 0 0, .int .i64 0, .complex .f64 0 0, .int .i64 0, .complex .f64 0 0, .int .i64 0]), (w.heap.size, #[.int .i64 x0, .int .i64 y0, .int .i64 r0, .int .i64 x1, .int .i64 y1, .int .i64 r1, .int .i64 x2, .int .i64 y2, .int .i64 r2])] w') := ⟨_, K.drew⟩
  refine wp_region_tail (Hold w.heap.size w [(w.heap.size + 1 + 1, #[.complex .f64 g0 k0, .int .i64 r0, .complex .f64 g1 k1, .int .i64 r1, .complex .f64 0 0, .int .i64 0]), (w.heap.size + 1, #[.complex .f64 0 0, .int .i64 0, .complex .f64 0 0, .int .i64 0, .complex .f64 0 0, .int .i64 0]), (w.heap.size, #[.int .i64 x0, .int .i64 y0, .int .i64 r0, .int .i64 x1, .int .i64 y1, .int .i64 r1, .int .i64 x2, .int .i64 y2, .int .i64 r2])]) 15 15 (by kernel_rfl) (by kernel_rfl) (fun _ _ d _ _ h => by cases d <;> exact h) (Hold.lasting _ _ _) K.drew ?_
  simp only [List.take_succ_cons, List.take_zero, List.drop_succ_cons, List.drop_zero]
  clear K
  repeat (first
    | (refine calm_skip (by rfl) ?_; simp only [Act.put, List.setIfInBounds_toArray, List.set_cons_zero, List.set_cons_succ])
    | (refine calm_step hne.out (by rfl) rfl (by simp) ?_; apply Exists.intro; refine ⟨?_, ?_⟩
       · (intro r _ K hK; go_big_quiet_op; first
          | exact hK
          | (apply Exists.intro; refine ⟨fun _ hw => ?_, ?_⟩; (first
             | with_reducible exact rfl
             | with_reducible exact cm_mem hw (B2.out _)
             | (obtain ⟨_, _, h0, h1, h2, _⟩ := hw.s; have q0 := h0.cell; have q1 := h1.cell; have q2 := h2.cell; clear h0 h1 h2; simp [q0, q1, q2, go_sem]; exact rfl)); exact hK))))
  refine wpCalm_nil ?_
  intro w12 K
  clear hne
  obtain ⟨_, sz18, h0, h1, h2, _⟩ := id K
  have q0 := h0.cell; have f0 := h0.frozen; have z18_0 := h0.lt
  have q1 := h1.cell; have f1 := h1.frozen; have z18_1 := h1.lt
  have q2 := h2.cell; have f2 := h2.frozen; have z18_2 := h2.lt
  clear h0 h1 h2
  go_wp2_with fail
  have K' := (show Hold w.heap.size w [(w.heap.size + 1 + 1, #[.complex .f64 g0 k0, .int .i64 r0, .complex .f64 g1 k1, .int .i64 r1, .complex .f64 g2 k2, .int .i64 r2]), (w.heap.size + 1, #[.complex .f64 0 0, .int .i64 0, .complex .f64 0 0, .int .i64 0, .complex .f64 0 0, .int .i64 0]), (w.heap.size, #[.int .i64 x0, .int .i64 y0, .int .i64 r0, .int .i64 x1, .int .i64 y1, .int .i64 r1, .int .i64 x2, .int .i64 y2, .int .i64 r2])] _ from ((show Hold w.heap.size w [(w.heap.size + 1 + 1, #[.complex .f64 g0 k0, .int .i64 r0, .complex .f64 g1 k1, .int .i64 r1, .complex .f64 g2 k2, .int .i64 0]), (w.heap.size + 1, #[.complex .f64 0 0, .int .i64 0, .complex .f64 0 0, .int .i64 0, .complex .f64 0 0, .int .i64 0]), (w.heap.size, #[.int .i64 x0, .int .i64 y0, .int .i64 r0, .int .i64 x1, .int .i64 y1, .int .i64 r1, .int .i64 x2, .int .i64 y2, .int .i64 r2])] _ from (K).set (by omega) (by simp <;> omega) 4 (.complex .f64 g2 k2))).set (by omega) (by simp <;> omega) 5 (.int .i64 r2))
  clear K
  have K := K'
  clear K'
  obtain ⟨_, sz19, h0, h1, h2, _⟩ := id K
  have q0 := h0.cell; have f0 := h0.frozen; have z19_0 := h0.lt
  have q1 := h1.cell; have f1 := h1.frozen; have z19_1 := h1.lt
  have q2 := h2.cell; have f2 := h2.frozen; have z19_2 := h2.lt
  clear h0 h1 h2
  rw [rounds_succ]
  go_wp2_with fail
  refine bodyPost_ret (v := .tuple #[.agg #[.complex .f64 g0 k0, .int .i64 r0, .complex .f64 g1 k1, .int .i64 r1, .complex .f64 g2 k2, .int .i64 r2], .bool true]) (by simp [results, Try.results68, go_sem, *]) rfl ⟨rfl, ?_⟩
  repeat (first | with_reducible exact K.below | with_reducible refine Below.setCell ?_ (by simp <;> omega) _ | with_reducible refine Below.alloc ?_ (by first | exact K.size | (simp <;> omega)) _)

end Go.Proofs.Ythkooiopiaakbaa
