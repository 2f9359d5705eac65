/- The statement's function on sums answers true: where the first ball is none, or the quarters are too many. -/
import Derived.Test.YthodhenhmjgodaaFltw
import Derived.Test.YthodhenhmjgodaaRtur
import Derived.Test.YthodhenhmjgodaaAdda
import Derived.Test.YthodhenhmjgodaaConj
namespace Go.Proofs.Ythodhenhmjgodaa
open Go.RowKit Go.Lib
attribute [local go_sem] run_store_float run_store_complex
set_option linter.unusedVariables false

set_option maxRecDepth 100000 in
set_option maxHeartbeats 8000000 in
theorem adds_bad {x y r u v s q f : Int} {fx fy fu fv : Nat}
    (BX : Hid (∀ w, Calls Try.prog 23 #[.agg #[.int .i64 x, .int .i64 y, .int .i64 r]] w (Mem (.agg #[.complex .f64 fx fy, .int .i64 r]) w)))
    (BY : Hid (∀ w, Calls Try.prog 23 #[.agg #[.int .i64 u, .int .i64 v, .int .i64 s]] w (Mem (.agg #[.complex .f64 fu fv, .int .i64 s]) w)))
    (PL : Hid (∀ w, Calls Try.prog 24 #[.agg #[.complex .f64 fx fy, .int .i64 r], .agg #[.complex .f64 fu fv, .int .i64 s]] w (Mem (.tuple #[.agg #[.complex .f64 0 0, .int .i64 0], .int .i64 2]) w)))
    (MI : Hid (∀ w, Calls Try.prog 25 #[.agg #[.complex .f64 fx fy, .int .i64 r], .agg #[.complex .f64 fu fv, .int .i64 s]] w (Mem (.tuple #[.agg #[.complex .f64 0 0, .int .i64 0], .int .i64 2]) w)))
    (CO : Hid (∀ w, Calls Try.prog 26 #[.agg #[.complex .f64 fx fy, .int .i64 r]] w (Mem (.tuple #[.agg #[.complex .f64 0 0, .int .i64 0], .int .i64 2]) w)))
    (TU : Hid (∀ w, Calls Try.prog 27 #[.agg #[.complex .f64 fx fy, .int .i64 r], .int .i64 q] w (Mem (.tuple #[.agg #[.complex .f64 0 0, .int .i64 0], .int .i64 2]) w)))
    (EX : Hid (∀ w, Calls Try.prog 28 #[.agg #[.int .i64 x, .int .i64 y, .int .i64 r]] w (Mem (.int .i64 2) w)))
    (I0 : Hid (∀ w, Calls Try.prog 22 #[.agg #[.complex .f64 0 0, .int .i64 0], .int .i64 2, .agg #[.int .i64 0, .int .i64 0, .int .i64 0], .int .i64 2] w (Mem (.bool true) w))) (w : World) :
    Calls Try.prog 4 #[.agg #[.int .i64 x, .int .i64 y, .int .i64 r], .agg #[.int .i64 u, .int .i64 v, .int .i64 s], .int .i64 q] w (Mem (.bool true) w) := by
  have A := Lib.hid (fun w => awake_any w)
  go_enter Try.func4, Try.ntmps4
  go_wp2_with fail
  have K := ((Hold.start w).new #[.int .i64 x, .int .i64 y, .int .i64 r] 39 (n := w.heap.size) (by simp)).new #[.int .i64 u, .int .i64 v, .int .i64 s] 39 (n := w.heap.size + 1) (by simp)
  refine (A.out _).mono ?_
  rintro e_1 w1 ⟨rfl, hb⟩
  have K' := Hold.mem (K) hb
  clear hb K
  have K := K'
  clear K'
  go_wp2_with fail
  obtain ⟨_, sz1, h0, h1, _⟩ := id K
  have z1_0 := h0.lt; have z1_1 := h1.lt
  clear h0 h1
  have hne : Hid (∃ w', Hold w.heap.size w [(w.heap.size + 1, #[.int .i64 u, .int .i64 v, .int .i64 s]), (w.heap.size, #[.int .i64 x, .int .i64 y, .int .i64 r])] w') := ⟨_, K.drew⟩
  refine wp_region_two (Hold w.heap.size w [(w.heap.size + 1, #[.int .i64 u, .int .i64 v, .int .i64 s]), (w.heap.size, #[.int .i64 x, .int .i64 y, .int .i64 r])]) 4 7 8 (by decide) (by kernel_rfl) (by kernel_rfl) (Hold.lasting _ _ _) K.drew (c := #[.complex .f64 0 0, .int .i64 0]) (c' := #[.complex .f64 0 0, .int .i64 0]) rfl rfl ⟨rfl, rfl, fun _ _ => ⟨_, by go_simp; exact rfl⟩⟩ ⟨rfl, rfl, fun _ _ => ⟨_, by go_simp; exact rfl⟩⟩ ?_
  simp only [List.take_succ_cons, List.take_zero, List.drop_succ_cons, List.drop_zero]
  clear K
  repeat (first
    | (refine calm_skip (by rfl) ?_; simp only [Act.put, List.setIfInBounds_toArray, List.set_cons_zero, List.set_cons_succ])
    | (refine calm_step hne.out (by rfl) rfl (by simp) ?_; apply Exists.intro; refine ⟨?_, ?_⟩
       · (intro r _ K hK; go_big_quiet_op; first
          | exact hK
          | (apply Exists.intro; refine ⟨fun _ hw => ?_, ?_⟩; (first
             | with_reducible exact rfl
             | with_reducible exact cm_mem hw (BX.out _)
             | with_reducible exact cm_mem hw (BY.out _)
             | (obtain ⟨_, _, h0, h1, _⟩ := hw.s; have q0 := h0.cell; have q1 := h1.cell; clear h0 h1; simp [q0, q1, go_sem]; exact rfl)); exact hK))))
  refine wpCalm_nil ?_
  intro b1 b2 w2 hge_b1 hge_b2 hne_b1 K ha ha'
  clear hne
  have K' := (K.cons ha).cons ha'
  clear ha ha' K
  have K := K'
  clear K'
  simp only [Act.put, List.setIfInBounds_toArray, List.set_cons_zero, List.set_cons_succ]
  obtain ⟨_, sz2, h0, h1, h2, h3, _⟩ := id K
  have q0 := h0.cell; have f0 := h0.frozen; have z2_0 := h0.lt
  have q1 := h1.cell; have f1 := h1.frozen; have z2_1 := h1.lt
  have q2 := h2.cell; have f2 := h2.frozen; have z2_2 := h2.lt
  have q3 := h3.cell; have f3 := h3.frozen; have z2_3 := h3.lt
  clear h0 h1 h2 h3
  go_wp2_with fail
  refine (PL.out _).mono ?_
  rintro e_3 w3 ⟨rfl, hb⟩
  have K' := Hold.mem (((((K).sub (l' := [(b1, #[.complex .f64 0 0, .int .i64 0]), (b2, #[.complex .f64 0 0, .int .i64 0]), (w.heap.size + 1, #[.int .i64 u, .int .i64 v, .int .i64 s]), (w.heap.size, #[.int .i64 x, .int .i64 y, .int .i64 r])]) (by simp)).set2 (v0 := .complex .f64 fx fy) (v1 := .int .i64 r) (by omega) (by simp <;> omega)).sub (l' := [(b2, #[.complex .f64 0 0, .int .i64 0]), (b1, #[.complex .f64 fx fy, .int .i64 r]), (w.heap.size + 1, #[.int .i64 u, .int .i64 v, .int .i64 s]), (w.heap.size, #[.int .i64 x, .int .i64 y, .int .i64 r])]) (by simp)).set2 (v0 := .complex .f64 fu fv) (v1 := .int .i64 s) (by omega) (by simp <;> omega)) hb
  clear hb K
  have K := K'
  clear K'
  clear q0 f0 q1 f1 q2 f2 q3 f3
  obtain ⟨_, sz3, h0, h1, h2, h3, _⟩ := id K
  have q0 := h0.cell; have f0 := h0.frozen; have z3_0 := h0.lt
  have q1 := h1.cell; have f1 := h1.frozen; have z3_1 := h1.lt
  have q2 := h2.cell; have f2 := h2.frozen; have z3_2 := h2.lt
  have q3 := h3.cell; have f3 := h3.frozen; have z3_3 := h3.lt
  clear h0 h1 h2 h3
  go_wp2_with fail
  refine (MI.out _).mono ?_
  rintro e_4 w4 ⟨rfl, hb⟩
  have K' := Hold.mem ((K).new #[.complex .f64 0 0, .int .i64 0] 27 (n := w3.heap.size) (by first | rfl | (simp <;> omega))) hb
  clear hb K
  have K := K'
  clear K'
  clear q0 f0 q1 f1 q2 f2 q3 f3
  obtain ⟨_, sz4, h0, h1, h2, h3, h4, _⟩ := id K
  have q0 := h0.cell; have f0 := h0.frozen; have z4_0 := h0.lt
  have q1 := h1.cell; have f1 := h1.frozen; have z4_1 := h1.lt
  have q2 := h2.cell; have f2 := h2.frozen; have z4_2 := h2.lt
  have q3 := h3.cell; have f3 := h3.frozen; have z4_3 := h3.lt
  have q4 := h4.cell; have f4 := h4.frozen; have z4_4 := h4.lt
  clear h0 h1 h2 h3 h4
  go_wp2_with fail
  refine (CO.out _).mono ?_
  rintro e_5 w5 ⟨rfl, hb⟩
  have K' := Hold.mem ((K).new #[.complex .f64 0 0, .int .i64 0] 27 (n := w4.heap.size) (by first | rfl | (simp <;> omega))) hb
  clear hb K
  have K := K'
  clear K'
  clear q0 f0 q1 f1 q2 f2 q3 f3 q4 f4
  obtain ⟨_, sz5, h0, h1, h2, h3, h4, h5, _⟩ := id K
  have q0 := h0.cell; have f0 := h0.frozen; have z5_0 := h0.lt
  have q1 := h1.cell; have f1 := h1.frozen; have z5_1 := h1.lt
  have q2 := h2.cell; have f2 := h2.frozen; have z5_2 := h2.lt
  have q3 := h3.cell; have f3 := h3.frozen; have z5_3 := h3.lt
  have q4 := h4.cell; have f4 := h4.frozen; have z5_4 := h4.lt
  have q5 := h5.cell; have f5 := h5.frozen; have z5_5 := h5.lt
  clear h0 h1 h2 h3 h4 h5
  go_wp2_with fail
  refine (TU.out _).mono ?_
  rintro e_6 w6 ⟨rfl, hb⟩
  have K' := Hold.mem ((K).new #[.complex .f64 0 0, .int .i64 0] 27 (n := w5.heap.size) (by first | rfl | (simp <;> omega))) hb
  clear hb K
  have K := K'
  clear K'
  clear q0 f0 q1 f1 q2 f2 q3 f3 q4 f4 q5 f5
  obtain ⟨_, sz6, h0, h1, h2, h3, h4, h5, h6, _⟩ := id K
  have q0 := h0.cell; have f0 := h0.frozen; have z6_0 := h0.lt
  have q1 := h1.cell; have f1 := h1.frozen; have z6_1 := h1.lt
  have q2 := h2.cell; have f2 := h2.frozen; have z6_2 := h2.lt
  have q3 := h3.cell; have f3 := h3.frozen; have z6_3 := h3.lt
  have q4 := h4.cell; have f4 := h4.frozen; have z6_4 := h4.lt
  have q5 := h5.cell; have f5 := h5.frozen; have z6_5 := h5.lt
  have q6 := h6.cell; have f6 := h6.frozen; have z6_6 := h6.lt
  clear h0 h1 h2 h3 h4 h5 h6
  go_wp2_with fail
  refine (EX.out _).mono ?_
  rintro e_7 w7 ⟨rfl, hb⟩
  have K' := Hold.mem ((K).new #[.complex .f64 0 0, .int .i64 0] 27 (n := w6.heap.size) (by first | rfl | (simp <;> omega))) hb
  clear hb K
  have K := K'
  clear K'
  clear q0 f0 q1 f1 q2 f2 q3 f3 q4 f4 q5 f5 q6 f6
  obtain ⟨_, sz7, h0, h1, h2, h3, h4, h5, h6, h7, _⟩ := id K
  have q0 := h0.cell; have f0 := h0.frozen; have z7_0 := h0.lt
  have q1 := h1.cell; have f1 := h1.frozen; have z7_1 := h1.lt
  have q2 := h2.cell; have f2 := h2.frozen; have z7_2 := h2.lt
  have q3 := h3.cell; have f3 := h3.frozen; have z7_3 := h3.lt
  have q4 := h4.cell; have f4 := h4.frozen; have z7_4 := h4.lt
  have q5 := h5.cell; have f5 := h5.frozen; have z7_5 := h5.lt
  have q6 := h6.cell; have f6 := h6.frozen; have z7_6 := h6.lt
  have q7 := h7.cell; have f7 := h7.frozen; have z7_7 := h7.lt
  clear h0 h1 h2 h3 h4 h5 h6 h7
  go_wp2_with fail
  refine (I0.out _).mono ?_
  rintro e_8 w8 ⟨rfl, hb⟩
  have K' := Hold.mem (K) hb
  clear hb K
  have K := K'
  clear K'
  clear q0 f0 q1 f1 q2 f2 q3 f3 q4 f4 q5 f5 q6 f6 q7 f7
  obtain ⟨_, sz8, h0, h1, h2, h3, h4, h5, h6, h7, _⟩ := id K
  have q0 := h0.cell; have f0 := h0.frozen; have z8_0 := h0.lt
  have q1 := h1.cell; have f1 := h1.frozen; have z8_1 := h1.lt
  have q2 := h2.cell; have f2 := h2.frozen; have z8_2 := h2.lt
  have q3 := h3.cell; have f3 := h3.frozen; have z8_3 := h3.lt
  have q4 := h4.cell; have f4 := h4.frozen; have z8_4 := h4.lt
  have q5 := h5.cell; have f5 := h5.frozen; have z8_5 := h5.lt
  have q6 := h6.cell; have f6 := h6.frozen; have z8_6 := h6.lt
  have q7 := h7.cell; have f7 := h7.frozen; have z8_7 := h7.lt
  clear h0 h1 h2 h3 h4 h5 h6 h7
  go_wp2_with fail
  refine (I0.out _).mono ?_
  rintro e_9 w9 ⟨rfl, hb⟩
  have K' := Hold.mem (K) hb
  clear hb K
  have K := K'
  clear K'
  clear q0 f0 q1 f1 q2 f2 q3 f3 q4 f4 q5 f5 q6 f6 q7 f7
  obtain ⟨_, sz9, h0, h1, h2, h3, h4, h5, h6, h7, _⟩ := id K
  have q0 := h0.cell; have f0 := h0.frozen; have z9_0 := h0.lt
  have q1 := h1.cell; have f1 := h1.frozen; have z9_1 := h1.lt
  have q2 := h2.cell; have f2 := h2.frozen; have z9_2 := h2.lt
  have q3 := h3.cell; have f3 := h3.frozen; have z9_3 := h3.lt
  have q4 := h4.cell; have f4 := h4.frozen; have z9_4 := h4.lt
  have q5 := h5.cell; have f5 := h5.frozen; have z9_5 := h5.lt
  have q6 := h6.cell; have f6 := h6.frozen; have z9_6 := h6.lt
  have q7 := h7.cell; have f7 := h7.frozen; have z9_7 := h7.lt
  clear h0 h1 h2 h3 h4 h5 h6 h7
  go_wp2_with fail
  refine (I0.out _).mono ?_
  rintro e_10 w10 ⟨rfl, hb⟩
  have K' := Hold.mem (K) hb
  clear hb K
  have K := K'
  clear K'
  clear q0 f0 q1 f1 q2 f2 q3 f3 q4 f4 q5 f5 q6 f6 q7 f7
  obtain ⟨_, sz10, h0, h1, h2, h3, h4, h5, h6, h7, _⟩ := id K
  have q0 := h0.cell; have f0 := h0.frozen; have z10_0 := h0.lt
  have q1 := h1.cell; have f1 := h1.frozen; have z10_1 := h1.lt
  have q2 := h2.cell; have f2 := h2.frozen; have z10_2 := h2.lt
  have q3 := h3.cell; have f3 := h3.frozen; have z10_3 := h3.lt
  have q4 := h4.cell; have f4 := h4.frozen; have z10_4 := h4.lt
  have q5 := h5.cell; have f5 := h5.frozen; have z10_5 := h5.lt
  have q6 := h6.cell; have f6 := h6.frozen; have z10_6 := h6.lt
  have q7 := h7.cell; have f7 := h7.frozen; have z10_7 := h7.lt
  clear h0 h1 h2 h3 h4 h5 h6 h7
  go_wp2_with fail
  refine (I0.out _).mono ?_
  rintro e_11 w11 ⟨rfl, hb⟩
  have K' := Hold.mem (K) hb
  clear hb K
  have K := K'
  clear K'
  clear q0 f0 q1 f1 q2 f2 q3 f3 q4 f4 q5 f5 q6 f6 q7 f7
  obtain ⟨_, sz11, h0, h1, h2, h3, h4, h5, h6, h7, _⟩ := id K
  have q0 := h0.cell; have f0 := h0.frozen; have z11_0 := h0.lt
  have q1 := h1.cell; have f1 := h1.frozen; have z11_1 := h1.lt
  have q2 := h2.cell; have f2 := h2.frozen; have z11_2 := h2.lt
  have q3 := h3.cell; have f3 := h3.frozen; have z11_3 := h3.lt
  have q4 := h4.cell; have f4 := h4.frozen; have z11_4 := h4.lt
  have q5 := h5.cell; have f5 := h5.frozen; have z11_5 := h5.lt
  have q6 := h6.cell; have f6 := h6.frozen; have z11_6 := h6.lt
  have q7 := h7.cell; have f7 := h7.frozen; have z11_7 := h7.lt
  clear h0 h1 h2 h3 h4 h5 h6 h7
  go_wp2_with fail
  go_ret
  exact ⟨rfl, (K).below⟩

set_option maxRecDepth 100000 in
set_option maxHeartbeats 8000000 in
theorem adds_q_bad {x y r u v s q x' y' cx cy f : Int} {fx fy fu fv fC gC : Nat}
    (BX : Hid (∀ w, Calls Try.prog 23 #[.agg #[.int .i64 x, .int .i64 y, .int .i64 r]] w (Mem (.agg #[.complex .f64 fx fy, .int .i64 r]) w)))
    (BY : Hid (∀ w, Calls Try.prog 23 #[.agg #[.int .i64 u, .int .i64 v, .int .i64 s]] w (Mem (.agg #[.complex .f64 fu fv, .int .i64 s]) w)))
    (PL : Hid (∀ w, Calls Try.prog 24 #[.agg #[.complex .f64 fx fy, .int .i64 r], .agg #[.complex .f64 fu fv, .int .i64 s]] w (Mem (.tuple #[.agg #[.complex .f64 0 0, .int .i64 0], .int .i64 2]) w)))
    (MI : Hid (∀ w, Calls Try.prog 25 #[.agg #[.complex .f64 fx fy, .int .i64 r], .agg #[.complex .f64 fu fv, .int .i64 s]] w (Mem (.tuple #[.agg #[.complex .f64 0 0, .int .i64 0], .int .i64 2]) w)))
    (CO : Hid (∀ w, Calls Try.prog 26 #[.agg #[.complex .f64 fx fy, .int .i64 r]] w (Mem (.tuple #[.agg #[.complex .f64 fC gC, .int .i64 r], .int .i64 0]) w)))
    (TU : Hid (∀ w, Calls Try.prog 27 #[.agg #[.complex .f64 fx fy, .int .i64 r], .int .i64 q] w (Mem (.tuple #[.agg #[.complex .f64 0 0, .int .i64 0], .int .i64 2]) w)))
    (EX : Hid (∀ w, Calls Try.prog 28 #[.agg #[.int .i64 x, .int .i64 y, .int .i64 r]] w (Mem (.int .i64 0) w)))
    (OX : Hid (∀ w, Calls Try.prog 30 #[.agg #[.complex .f64 fx fy, .int .i64 r]] w (Mem (.agg #[.int .i64 x', .int .i64 y', .int .i64 r]) w)))
    (RC : Hid (∀ w, Calls Try.prog 29 #[.agg #[.int .i64 x', .int .i64 y', .int .i64 r]] w (Mem (.agg #[.int .i64 cx, .int .i64 cy, .int .i64 r]) w)))
    (IC : Hid (∀ w, Calls Try.prog 22 #[.agg #[.complex .f64 fC gC, .int .i64 r], .int .i64 0, .agg #[.int .i64 cx, .int .i64 cy, .int .i64 r], .int .i64 0] w (Mem (.bool true) w)))
    (WI : Hid (∀ w, Calls Try.prog 31 #[.int .i64 q, .int .i64 (-1000000000), .int .i64 1000000000] w (Mem (.bool false) w)))
    (I0 : Hid (∀ w, Calls Try.prog 22 #[.agg #[.complex .f64 0 0, .int .i64 0], .int .i64 2, .agg #[.int .i64 0, .int .i64 0, .int .i64 0], .int .i64 2] w (Mem (.bool true) w)))
    (EY : Hid (∀ w, Calls Try.prog 28 #[.agg #[.int .i64 u, .int .i64 v, .int .i64 s]] w (Mem (.int .i64 2) w))) (w : World) :
    Calls Try.prog 4 #[.agg #[.int .i64 x, .int .i64 y, .int .i64 r], .agg #[.int .i64 u, .int .i64 v, .int .i64 s], .int .i64 q] w (Mem (.bool true) w) := by
  have A := Lib.hid (fun w => awake_any w)
  go_enter Try.func4, Try.ntmps4
  go_wp2_with fail
  have K := ((Hold.start w).new #[.int .i64 x, .int .i64 y, .int .i64 r] 39 (n := w.heap.size) (by simp)).new #[.int .i64 u, .int .i64 v, .int .i64 s] 39 (n := w.heap.size + 1) (by simp)
  refine (A.out _).mono ?_
  rintro e_1 w1 ⟨rfl, hb⟩
  have K' := Hold.mem (K) hb
  clear hb K
  have K := K'
  clear K'
  go_wp2_with fail
  obtain ⟨_, sz1, h0, h1, _⟩ := id K
  have z1_0 := h0.lt; have z1_1 := h1.lt
  clear h0 h1
  have hne : Hid (∃ w', Hold w.heap.size w [(w.heap.size + 1, #[.int .i64 u, .int .i64 v, .int .i64 s]), (w.heap.size, #[.int .i64 x, .int .i64 y, .int .i64 r])] w') := ⟨_, K.drew⟩
  refine wp_region_two (Hold w.heap.size w [(w.heap.size + 1, #[.int .i64 u, .int .i64 v, .int .i64 s]), (w.heap.size, #[.int .i64 x, .int .i64 y, .int .i64 r])]) 4 7 8 (by decide) (by kernel_rfl) (by kernel_rfl) (Hold.lasting _ _ _) K.drew (c := #[.complex .f64 0 0, .int .i64 0]) (c' := #[.complex .f64 0 0, .int .i64 0]) rfl rfl ⟨rfl, rfl, fun _ _ => ⟨_, by go_simp; exact rfl⟩⟩ ⟨rfl, rfl, fun _ _ => ⟨_, by go_simp; exact rfl⟩⟩ ?_
  simp only [List.take_succ_cons, List.take_zero, List.drop_succ_cons, List.drop_zero]
  clear K
  repeat (first
    | (refine calm_skip (by rfl) ?_; simp only [Act.put, List.setIfInBounds_toArray, List.set_cons_zero, List.set_cons_succ])
    | (refine calm_step hne.out (by rfl) rfl (by simp) ?_; apply Exists.intro; refine ⟨?_, ?_⟩
       · (intro r _ K hK; go_big_quiet_op; first
          | exact hK
          | (apply Exists.intro; refine ⟨fun _ hw => ?_, ?_⟩; (first
             | with_reducible exact rfl
             | with_reducible exact cm_mem hw (BX.out _)
             | with_reducible exact cm_mem hw (BY.out _)
             | (obtain ⟨_, _, h0, h1, _⟩ := hw.s; have q0 := h0.cell; have q1 := h1.cell; clear h0 h1; simp [q0, q1, go_sem]; exact rfl)); exact hK))))
  refine wpCalm_nil ?_
  intro b1 b2 w2 hge_b1 hge_b2 hne_b1 K ha ha'
  clear hne
  have K' := (K.cons ha).cons ha'
  clear ha ha' K
  have K := K'
  clear K'
  simp only [Act.put, List.setIfInBounds_toArray, List.set_cons_zero, List.set_cons_succ]
  obtain ⟨_, sz2, h0, h1, h2, h3, _⟩ := id K
  have q0 := h0.cell; have f0 := h0.frozen; have z2_0 := h0.lt
  have q1 := h1.cell; have f1 := h1.frozen; have z2_1 := h1.lt
  have q2 := h2.cell; have f2 := h2.frozen; have z2_2 := h2.lt
  have q3 := h3.cell; have f3 := h3.frozen; have z2_3 := h3.lt
  clear h0 h1 h2 h3
  go_wp2_with fail
  refine (PL.out _).mono ?_
  rintro e_3 w3 ⟨rfl, hb⟩
  have K' := Hold.mem (((((K).sub (l' := [(b1, #[.complex .f64 0 0, .int .i64 0]), (b2, #[.complex .f64 0 0, .int .i64 0]), (w.heap.size + 1, #[.int .i64 u, .int .i64 v, .int .i64 s]), (w.heap.size, #[.int .i64 x, .int .i64 y, .int .i64 r])]) (by simp)).set2 (v0 := .complex .f64 fx fy) (v1 := .int .i64 r) (by omega) (by simp <;> omega)).sub (l' := [(b2, #[.complex .f64 0 0, .int .i64 0]), (b1, #[.complex .f64 fx fy, .int .i64 r]), (w.heap.size + 1, #[.int .i64 u, .int .i64 v, .int .i64 s]), (w.heap.size, #[.int .i64 x, .int .i64 y, .int .i64 r])]) (by simp)).set2 (v0 := .complex .f64 fu fv) (v1 := .int .i64 s) (by omega) (by simp <;> omega)) hb
  clear hb K
  have K := K'
  clear K'
  clear q0 f0 q1 f1 q2 f2 q3 f3
  obtain ⟨_, sz3, h0, h1, h2, h3, _⟩ := id K
  have q0 := h0.cell; have f0 := h0.frozen; have z3_0 := h0.lt
  have q1 := h1.cell; have f1 := h1.frozen; have z3_1 := h1.lt
  have q2 := h2.cell; have f2 := h2.frozen; have z3_2 := h2.lt
  have q3 := h3.cell; have f3 := h3.frozen; have z3_3 := h3.lt
  clear h0 h1 h2 h3
  go_wp2_with fail
  refine (MI.out _).mono ?_
  rintro e_4 w4 ⟨rfl, hb⟩
  have K' := Hold.mem ((K).new #[.complex .f64 0 0, .int .i64 0] 27 (n := w3.heap.size) (by first | rfl | (simp <;> omega))) hb
  clear hb K
  have K := K'
  clear K'
  clear q0 f0 q1 f1 q2 f2 q3 f3
  obtain ⟨_, sz4, h0, h1, h2, h3, h4, _⟩ := id K
  have q0 := h0.cell; have f0 := h0.frozen; have z4_0 := h0.lt
  have q1 := h1.cell; have f1 := h1.frozen; have z4_1 := h1.lt
  have q2 := h2.cell; have f2 := h2.frozen; have z4_2 := h2.lt
  have q3 := h3.cell; have f3 := h3.frozen; have z4_3 := h3.lt
  have q4 := h4.cell; have f4 := h4.frozen; have z4_4 := h4.lt
  clear h0 h1 h2 h3 h4
  go_wp2_with fail
  refine (CO.out _).mono ?_
  rintro e_5 w5 ⟨rfl, hb⟩
  have K' := Hold.mem ((K).new #[.complex .f64 0 0, .int .i64 0] 27 (n := w4.heap.size) (by first | rfl | (simp <;> omega))) hb
  clear hb K
  have K := K'
  clear K'
  clear q0 f0 q1 f1 q2 f2 q3 f3 q4 f4
  obtain ⟨_, sz5, h0, h1, h2, h3, h4, h5, _⟩ := id K
  have q0 := h0.cell; have f0 := h0.frozen; have z5_0 := h0.lt
  have q1 := h1.cell; have f1 := h1.frozen; have z5_1 := h1.lt
  have q2 := h2.cell; have f2 := h2.frozen; have z5_2 := h2.lt
  have q3 := h3.cell; have f3 := h3.frozen; have z5_3 := h3.lt
  have q4 := h4.cell; have f4 := h4.frozen; have z5_4 := h4.lt
  have q5 := h5.cell; have f5 := h5.frozen; have z5_5 := h5.lt
  clear h0 h1 h2 h3 h4 h5
  go_wp2_with fail
  refine (TU.out _).mono ?_
  rintro e_6 w6 ⟨rfl, hb⟩
  have K' := Hold.mem ((K).new #[.complex .f64 fC gC, .int .i64 r] 27 (n := w5.heap.size) (by first | rfl | (simp <;> omega))) hb
  clear hb K
  have K := K'
  clear K'
  clear q0 f0 q1 f1 q2 f2 q3 f3 q4 f4 q5 f5
  obtain ⟨_, sz6, h0, h1, h2, h3, h4, h5, h6, _⟩ := id K
  have q0 := h0.cell; have f0 := h0.frozen; have z6_0 := h0.lt
  have q1 := h1.cell; have f1 := h1.frozen; have z6_1 := h1.lt
  have q2 := h2.cell; have f2 := h2.frozen; have z6_2 := h2.lt
  have q3 := h3.cell; have f3 := h3.frozen; have z6_3 := h3.lt
  have q4 := h4.cell; have f4 := h4.frozen; have z6_4 := h4.lt
  have q5 := h5.cell; have f5 := h5.frozen; have z6_5 := h5.lt
  have q6 := h6.cell; have f6 := h6.frozen; have z6_6 := h6.lt
  clear h0 h1 h2 h3 h4 h5 h6
  go_wp2_with fail
  refine (EX.out _).mono ?_
  rintro e_7 w7 ⟨rfl, hb⟩
  have K' := Hold.mem ((K).new #[.complex .f64 0 0, .int .i64 0] 27 (n := w6.heap.size) (by first | rfl | (simp <;> omega))) hb
  clear hb K
  have K := K'
  clear K'
  clear q0 f0 q1 f1 q2 f2 q3 f3 q4 f4 q5 f5 q6 f6
  obtain ⟨_, sz7, h0, h1, h2, h3, h4, h5, h6, h7, _⟩ := id K
  have q0 := h0.cell; have f0 := h0.frozen; have z7_0 := h0.lt
  have q1 := h1.cell; have f1 := h1.frozen; have z7_1 := h1.lt
  have q2 := h2.cell; have f2 := h2.frozen; have z7_2 := h2.lt
  have q3 := h3.cell; have f3 := h3.frozen; have z7_3 := h3.lt
  have q4 := h4.cell; have f4 := h4.frozen; have z7_4 := h4.lt
  have q5 := h5.cell; have f5 := h5.frozen; have z7_5 := h5.lt
  have q6 := h6.cell; have f6 := h6.frozen; have z7_6 := h6.lt
  have q7 := h7.cell; have f7 := h7.frozen; have z7_7 := h7.lt
  clear h0 h1 h2 h3 h4 h5 h6 h7
  go_wp2_with fail
  clear q0 f0 q1 f1 q2 f2 q3 f3 q4 f4 q5 f5 q6 f6 q7 f7
  obtain ⟨_, sz8, h0, h1, h2, h3, h4, h5, h6, h7, _⟩ := id K
  have z8_0 := h0.lt; have z8_1 := h1.lt; have z8_2 := h2.lt; have z8_3 := h3.lt; have z8_4 := h4.lt; have z8_5 := h5.lt; have z8_6 := h6.lt; have z8_7 := h7.lt
  clear h0 h1 h2 h3 h4 h5 h6 h7
  have hne : Hid (∃ w', Hold w.heap.size w [(w6.heap.size, #[.complex .f64 0 0, .int .i64 0]), (w5.heap.size, #[.complex .f64 fC gC, .int .i64 r]), (w4.heap.size, #[.complex .f64 0 0, .int .i64 0]), (w3.heap.size, #[.complex .f64 0 0, .int .i64 0]), (b2, #[.complex .f64 fu fv, .int .i64 s]), (b1, #[.complex .f64 fx fy, .int .i64 r]), (w.heap.size + 1, #[.int .i64 u, .int .i64 v, .int .i64 s]), (w.heap.size, #[.int .i64 x, .int .i64 y, .int .i64 r])] w') := ⟨_, K.drew⟩
  refine wp_region_tail (Hold w.heap.size w [(w6.heap.size, #[.complex .f64 0 0, .int .i64 0]), (w5.heap.size, #[.complex .f64 fC gC, .int .i64 r]), (w4.heap.size, #[.complex .f64 0 0, .int .i64 0]), (w3.heap.size, #[.complex .f64 0 0, .int .i64 0]), (b2, #[.complex .f64 fu fv, .int .i64 s]), (b1, #[.complex .f64 fx fy, .int .i64 r]), (w.heap.size + 1, #[.int .i64 u, .int .i64 v, .int .i64 s]), (w.heap.size, #[.int .i64 x, .int .i64 y, .int .i64 r])]) 7 7 (by kernel_rfl) (by kernel_rfl) (fun _ _ d _ _ h => by cases d <;> exact h) (Hold.lasting _ _ _) K.drew ?_
  simp only [List.take_succ_cons, List.take_zero, List.drop_succ_cons, List.drop_zero]
  clear K
  repeat (first
    | (refine calm_skip (by rfl) ?_; simp only [Act.put, List.setIfInBounds_toArray, List.set_cons_zero, List.set_cons_succ])
    | (refine calm_step hne.out (by rfl) rfl (by simp) ?_; apply Exists.intro; refine ⟨?_, ?_⟩
       · (intro r _ K hK; go_big_quiet_op; first
          | exact hK
          | (apply Exists.intro; refine ⟨fun _ hw => ?_, ?_⟩; (first
             | with_reducible exact rfl
             | with_reducible exact cm_mem hw (OX.out _)
             | with_reducible exact cm_mem hw (RC.out _)
             | with_reducible exact cm_mem hw (IC.out _)
             | (obtain ⟨_, _, h0, h1, h2, h3, h4, h5, h6, h7, _⟩ := hw.s; have q0 := h0.cell; have q1 := h1.cell; have q2 := h2.cell; have q3 := h3.cell; have q4 := h4.cell; have q5 := h5.cell; have q6 := h6.cell; have q7 := h7.cell; clear h0 h1 h2 h3 h4 h5 h6 h7; simp [q0, q1, q2, q3, q4, q5, q6, q7, go_sem]; exact rfl)); exact hK))))
  refine wpCalm_nil ?_
  intro w8 K
  clear hne
  obtain ⟨_, sz9, h0, h1, h2, h3, h4, h5, h6, h7, _⟩ := id K
  have q0 := h0.cell; have f0 := h0.frozen; have z9_0 := h0.lt
  have q1 := h1.cell; have f1 := h1.frozen; have z9_1 := h1.lt
  have q2 := h2.cell; have f2 := h2.frozen; have z9_2 := h2.lt
  have q3 := h3.cell; have f3 := h3.frozen; have z9_3 := h3.lt
  have q4 := h4.cell; have f4 := h4.frozen; have z9_4 := h4.lt
  have q5 := h5.cell; have f5 := h5.frozen; have z9_5 := h5.lt
  have q6 := h6.cell; have f6 := h6.frozen; have z9_6 := h6.lt
  have q7 := h7.cell; have f7 := h7.frozen; have z9_7 := h7.lt
  clear h0 h1 h2 h3 h4 h5 h6 h7
  go_wp2_with fail
  refine (WI.out _).mono ?_
  rintro e_9 w9 ⟨rfl, hb⟩
  have K' := Hold.mem (K) hb
  clear hb K
  have K := K'
  clear K'
  clear q0 f0 q1 f1 q2 f2 q3 f3 q4 f4 q5 f5 q6 f6 q7 f7
  obtain ⟨_, sz10, h0, h1, h2, h3, h4, h5, h6, h7, _⟩ := id K
  have q0 := h0.cell; have f0 := h0.frozen; have z10_0 := h0.lt
  have q1 := h1.cell; have f1 := h1.frozen; have z10_1 := h1.lt
  have q2 := h2.cell; have f2 := h2.frozen; have z10_2 := h2.lt
  have q3 := h3.cell; have f3 := h3.frozen; have z10_3 := h3.lt
  have q4 := h4.cell; have f4 := h4.frozen; have z10_4 := h4.lt
  have q5 := h5.cell; have f5 := h5.frozen; have z10_5 := h5.lt
  have q6 := h6.cell; have f6 := h6.frozen; have z10_6 := h6.lt
  have q7 := h7.cell; have f7 := h7.frozen; have z10_7 := h7.lt
  clear h0 h1 h2 h3 h4 h5 h6 h7
  go_wp2_with fail
  refine (I0.out _).mono ?_
  rintro e_10 w10 ⟨rfl, hb⟩
  have K' := Hold.mem (K) hb
  clear hb K
  have K := K'
  clear K'
  clear q0 f0 q1 f1 q2 f2 q3 f3 q4 f4 q5 f5 q6 f6 q7 f7
  obtain ⟨_, sz11, h0, h1, h2, h3, h4, h5, h6, h7, _⟩ := id K
  have q0 := h0.cell; have f0 := h0.frozen; have z11_0 := h0.lt
  have q1 := h1.cell; have f1 := h1.frozen; have z11_1 := h1.lt
  have q2 := h2.cell; have f2 := h2.frozen; have z11_2 := h2.lt
  have q3 := h3.cell; have f3 := h3.frozen; have z11_3 := h3.lt
  have q4 := h4.cell; have f4 := h4.frozen; have z11_4 := h4.lt
  have q5 := h5.cell; have f5 := h5.frozen; have z11_5 := h5.lt
  have q6 := h6.cell; have f6 := h6.frozen; have z11_6 := h6.lt
  have q7 := h7.cell; have f7 := h7.frozen; have z11_7 := h7.lt
  clear h0 h1 h2 h3 h4 h5 h6 h7
  go_wp2_with fail
  refine (EY.out _).mono ?_
  rintro e_11 w11 ⟨rfl, hb⟩
  have K' := Hold.mem (K) hb
  clear hb K
  have K := K'
  clear K'
  clear q0 f0 q1 f1 q2 f2 q3 f3 q4 f4 q5 f5 q6 f6 q7 f7
  obtain ⟨_, sz12, h0, h1, h2, h3, h4, h5, h6, h7, _⟩ := id K
  have q0 := h0.cell; have f0 := h0.frozen; have z12_0 := h0.lt
  have q1 := h1.cell; have f1 := h1.frozen; have z12_1 := h1.lt
  have q2 := h2.cell; have f2 := h2.frozen; have z12_2 := h2.lt
  have q3 := h3.cell; have f3 := h3.frozen; have z12_3 := h3.lt
  have q4 := h4.cell; have f4 := h4.frozen; have z12_4 := h4.lt
  have q5 := h5.cell; have f5 := h5.frozen; have z12_5 := h5.lt
  have q6 := h6.cell; have f6 := h6.frozen; have z12_6 := h6.lt
  have q7 := h7.cell; have f7 := h7.frozen; have z12_7 := h7.lt
  clear h0 h1 h2 h3 h4 h5 h6 h7
  go_wp2_with fail
  refine (I0.out _).mono ?_
  rintro e_12 w12 ⟨rfl, hb⟩
  have K' := Hold.mem (K) hb
  clear hb K
  have K := K'
  clear K'
  clear q0 f0 q1 f1 q2 f2 q3 f3 q4 f4 q5 f5 q6 f6 q7 f7
  obtain ⟨_, sz13, h0, h1, h2, h3, h4, h5, h6, h7, _⟩ := id K
  have q0 := h0.cell; have f0 := h0.frozen; have z13_0 := h0.lt
  have q1 := h1.cell; have f1 := h1.frozen; have z13_1 := h1.lt
  have q2 := h2.cell; have f2 := h2.frozen; have z13_2 := h2.lt
  have q3 := h3.cell; have f3 := h3.frozen; have z13_3 := h3.lt
  have q4 := h4.cell; have f4 := h4.frozen; have z13_4 := h4.lt
  have q5 := h5.cell; have f5 := h5.frozen; have z13_5 := h5.lt
  have q6 := h6.cell; have f6 := h6.frozen; have z13_6 := h6.lt
  have q7 := h7.cell; have f7 := h7.frozen; have z13_7 := h7.lt
  clear h0 h1 h2 h3 h4 h5 h6 h7
  go_wp2_with fail
  refine (I0.out _).mono ?_
  rintro e_13 w13 ⟨rfl, hb⟩
  have K' := Hold.mem (K) hb
  clear hb K
  have K := K'
  clear K'
  clear q0 f0 q1 f1 q2 f2 q3 f3 q4 f4 q5 f5 q6 f6 q7 f7
  obtain ⟨_, sz14, h0, h1, h2, h3, h4, h5, h6, h7, _⟩ := id K
  have q0 := h0.cell; have f0 := h0.frozen; have z14_0 := h0.lt
  have q1 := h1.cell; have f1 := h1.frozen; have z14_1 := h1.lt
  have q2 := h2.cell; have f2 := h2.frozen; have z14_2 := h2.lt
  have q3 := h3.cell; have f3 := h3.frozen; have z14_3 := h3.lt
  have q4 := h4.cell; have f4 := h4.frozen; have z14_4 := h4.lt
  have q5 := h5.cell; have f5 := h5.frozen; have z14_5 := h5.lt
  have q6 := h6.cell; have f6 := h6.frozen; have z14_6 := h6.lt
  have q7 := h7.cell; have f7 := h7.frozen; have z14_7 := h7.lt
  clear h0 h1 h2 h3 h4 h5 h6 h7
  go_wp2_with fail
  go_ret
  exact ⟨rfl, (K).below⟩

end Go.Proofs.Ythodhenhmjgodaa
