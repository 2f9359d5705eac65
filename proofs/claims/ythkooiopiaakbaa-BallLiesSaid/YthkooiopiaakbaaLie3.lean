/- The statement's function on where balls lie answers true: its second part is not. -/
import Derived.Test.YthkooiopiaakbaaFltw
import Derived.Test.YthkooiopiaakbaaHulb
import Derived.Test.YthkooiopiaakbaaCont
import Derived.Test.YthkooiopiaakbaaWhoc
import Derived.Test.YthkooiopiaakbaaRefd
namespace Go.Proofs.Ythkooiopiaakbaa
open Go.RowKit Go.Lib
attribute [local go_sem] run_store_float run_store_complex
set_option linter.unusedVariables false

set_option maxRecDepth 100000 in
set_option maxHeartbeats 8000000 in
theorem lies_b2_bad {x y r u v s z0 z1 c0 c1 : Int} {fx fy fu fv fz gz : Nat}
    (BX : Hid (∀ w, Calls Try.prog 23 #[.agg #[.int .i64 x, .int .i64 y, .int .i64 r]] w (Mem (.agg #[.complex .f64 fx fy, .int .i64 r]) w)))
    (BY : Hid (∀ w, Calls Try.prog 23 #[.agg #[.int .i64 u, .int .i64 v, .int .i64 s]] w (Mem (.agg #[.complex .f64 fu fv, .int .i64 s]) w)))
    (C0 : Hid (∀ w, Calls Try.prog 51 #[.int .i64 z0] w (Mem (.int .i64 c0) w)))
    (C1 : Hid (∀ w, Calls Try.prog 51 #[.int .i64 z1] w (Mem (.int .i64 c1) w)))
    (NU : Hid (∀ w, Calls Try.prog 36 #[.int .i64 c0, .int .i64 c1] w (Mem (.complex .f64 fz gz) w)))
    (CT : Hid (∀ w, Calls Try.prog 50 #[.agg #[.complex .f64 fx fy, .int .i64 r], .complex .f64 fz gz] w (Mem (.tuple #[.bool false, .int .i64 2]) w)))
    (EX : Hid (∀ w, Calls Try.prog 28 #[.agg #[.int .i64 x, .int .i64 y, .int .i64 r]] w (Mem (.int .i64 0) w)))
    (W0 : Hid (∀ w, Calls Try.prog 31 #[.int .i64 c0, .int .i64 (-134217728), .int .i64 134217728] w (Mem (.bool true) w)))
    (W1 : Hid (∀ w, Calls Try.prog 31 #[.int .i64 c1, .int .i64 (-134217728), .int .i64 134217728] w (Mem (.bool false) w)))
    (ME : Hid (∀ w, Calls Try.prog 53 #[.agg #[.complex .f64 fx fy, .int .i64 r], .agg #[.complex .f64 fu fv, .int .i64 s]] w (Mem (.tuple #[.bool false, .int .i64 2]) w)))
    (IN : Hid (∀ w, Calls Try.prog 54 #[.agg #[.complex .f64 fx fy, .int .i64 r], .agg #[.complex .f64 fu fv, .int .i64 s]] w (Mem (.tuple #[.bool false, .int .i64 2]) w)))
    (HU : Hid (∀ w, Calls Try.prog 55 #[.agg #[.complex .f64 fx fy, .int .i64 r], .agg #[.complex .f64 fu fv, .int .i64 s]] w (Mem (.tuple #[.agg #[.complex .f64 0 0, .int .i64 0], .int .i64 2]) w)))
    (TW : Hid (∀ w, Calls Try.prog 38 #[.agg #[.int .i64 x, .int .i64 y, .int .i64 r], .agg #[.int .i64 u, .int .i64 v, .int .i64 s]] w (Mem (.int .i64 2) w)))
    (I0 : Hid (∀ w, Calls Try.prog 22 #[.agg #[.complex .f64 0 0, .int .i64 0], .int .i64 2, .agg #[.int .i64 0, .int .i64 0, .int .i64 0], .int .i64 2] w (Mem (.bool true) w))) (w : World) :
    Calls Try.prog 9 #[.agg #[.int .i64 x, .int .i64 y, .int .i64 r], .agg #[.int .i64 u, .int .i64 v, .int .i64 s], .agg #[.int .i64 z0, .int .i64 z1]] w (Mem (.bool true) w) := by
  have A := Lib.hid (fun w => awake_any w)
  go_enter Try.func9, Try.ntmps9
  go_wp2_with fail
  have K := (((Hold.start w).new #[.int .i64 x, .int .i64 y, .int .i64 r] 39 (n := w.heap.size) (by simp)).new #[.int .i64 u, .int .i64 v, .int .i64 s] 39 (n := w.heap.size + 1) (by simp)).new #[.int .i64 z0, .int .i64 z1] 58 (n := w.heap.size + 1 + 1) (by simp)
  refine (A.out _).mono ?_
  rintro e_1 w1 ⟨rfl, hb⟩
  have K' := Hold.mem (K) hb
  clear hb K
  have K := K'
  clear K'
  go_wp2_with fail
  obtain ⟨_, sz1, h0, h1, h2, _⟩ := id K
  have z1_0 := h0.lt; have z1_1 := h1.lt; have z1_2 := h2.lt
  clear h0 h1 h2
  have hne : Hid (∃ w', Hold w.heap.size w [(w.heap.size + 1 + 1, #[.int .i64 z0, .int .i64 z1]), (w.heap.size + 1, #[.int .i64 u, .int .i64 v, .int .i64 s]), (w.heap.size, #[.int .i64 x, .int .i64 y, .int .i64 r])] w') := ⟨_, K.drew⟩
  refine wp_region_two (Hold w.heap.size w [(w.heap.size + 1 + 1, #[.int .i64 z0, .int .i64 z1]), (w.heap.size + 1, #[.int .i64 u, .int .i64 v, .int .i64 s]), (w.heap.size, #[.int .i64 x, .int .i64 y, .int .i64 r])]) 4 7 8 (by decide) (by kernel_rfl) (by kernel_rfl) (Hold.lasting _ _ _) K.drew (c := #[.complex .f64 0 0, .int .i64 0]) (c' := #[.complex .f64 0 0, .int .i64 0]) rfl rfl ⟨rfl, rfl, fun _ _ => ⟨_, by go_simp; exact rfl⟩⟩ ⟨rfl, rfl, fun _ _ => ⟨_, by go_simp; exact rfl⟩⟩ ?_
  simp only [List.take_succ_cons, List.take_zero, List.drop_succ_cons, List.drop_zero]
  clear K
  repeat (first
    | (refine calm_skip (by rfl) ?_; simp only [Act.put, List.setIfInBounds_toArray, List.set_cons_zero, List.set_cons_succ])
    | (refine calm_step hne.out (by rfl) rfl (by simp) ?_; apply Exists.intro; refine ⟨?_, ?_⟩
       · (intro r _ K hK; go_big_quiet_op; first
          | exact hK
          | (apply Exists.intro; refine ⟨fun _ hw => ?_, ?_⟩; (first
             | with_reducible exact rfl
             | with_reducible exact cm_mem hw (BX.out _)
             | with_reducible exact cm_mem hw (BY.out _)
             | (obtain ⟨_, _, h0, h1, h2, _⟩ := hw.s; have q0 := h0.cell; have q1 := h1.cell; have q2 := h2.cell; clear h0 h1 h2; simp [q0, q1, q2, go_sem]; exact rfl)); exact hK))))
  refine wpCalm_nil ?_
  intro b1 b2 w2 hge_b1 hge_b2 hne_b1 K ha ha'
  clear hne
  have K' := (K.cons ha).cons ha'
  clear ha ha' K
  have K := K'
  clear K'
  simp only [Act.put, List.setIfInBounds_toArray, List.set_cons_zero, List.set_cons_succ]
  obtain ⟨_, sz2, h0, h1, h2, h3, h4, _⟩ := id K
  have q0 := h0.cell; have f0 := h0.frozen; have z2_0 := h0.lt
  have q1 := h1.cell; have f1 := h1.frozen; have z2_1 := h1.lt
  have q2 := h2.cell; have f2 := h2.frozen; have z2_2 := h2.lt
  have q3 := h3.cell; have f3 := h3.frozen; have z2_3 := h3.lt
  have q4 := h4.cell; have f4 := h4.frozen; have z2_4 := h4.lt
  clear h0 h1 h2 h3 h4
  go_wp2_with fail
  clear q0 f0 q1 f1 q2 f2 q3 f3 q4 f4
  have K' := ((((K).sub (l' := [(b1, #[.complex .f64 0 0, .int .i64 0]), (b2, #[.complex .f64 0 0, .int .i64 0]), (w.heap.size + 1 + 1, #[.int .i64 z0, .int .i64 z1]), (w.heap.size + 1, #[.int .i64 u, .int .i64 v, .int .i64 s]), (w.heap.size, #[.int .i64 x, .int .i64 y, .int .i64 r])]) (by simp)).set2 (v0 := .complex .f64 fx fy) (v1 := .int .i64 r) (by omega) (by simp <;> omega)).sub (l' := [(b2, #[.complex .f64 0 0, .int .i64 0]), (b1, #[.complex .f64 fx fy, .int .i64 r]), (w.heap.size + 1 + 1, #[.int .i64 z0, .int .i64 z1]), (w.heap.size + 1, #[.int .i64 u, .int .i64 v, .int .i64 s]), (w.heap.size, #[.int .i64 x, .int .i64 y, .int .i64 r])]) (by simp)).set2 (v0 := .complex .f64 fu fv) (v1 := .int .i64 s) (by omega) (by simp <;> omega)
  clear K
  have K := K'
  clear K'
  obtain ⟨_, sz3, h0, h1, h2, h3, h4, _⟩ := id K
  have z3_0 := h0.lt; have z3_1 := h1.lt; have z3_2 := h2.lt; have z3_3 := h3.lt; have z3_4 := h4.lt
  clear h0 h1 h2 h3 h4
  have hne : Hid (∃ w', Hold w.heap.size w [(b2, #[.complex .f64 fu fv, .int .i64 s]), (b1, #[.complex .f64 fx fy, .int .i64 r]), (w.heap.size + 1 + 1, #[.int .i64 z0, .int .i64 z1]), (w.heap.size + 1, #[.int .i64 u, .int .i64 v, .int .i64 s]), (w.heap.size, #[.int .i64 x, .int .i64 y, .int .i64 r])] w') := ⟨_, K.drew⟩
  refine wp_region_tail (Hold w.heap.size w [(b2, #[.complex .f64 fu fv, .int .i64 s]), (b1, #[.complex .f64 fx fy, .int .i64 r]), (w.heap.size + 1 + 1, #[.int .i64 z0, .int .i64 z1]), (w.heap.size + 1, #[.int .i64 u, .int .i64 v, .int .i64 s]), (w.heap.size, #[.int .i64 x, .int .i64 y, .int .i64 r])]) 9 14 (by kernel_rfl) (by kernel_rfl) (fun _ _ d _ _ h => by cases d <;> exact h) (Hold.lasting _ _ _) K.drew ?_
  simp only [List.take_succ_cons, List.take_zero, List.drop_succ_cons, List.drop_zero]
  clear K
  repeat (first
    | (refine calm_skip (by rfl) ?_; simp only [Act.put, List.setIfInBounds_toArray, List.set_cons_zero, List.set_cons_succ])
    | (refine calm_step hne.out (by rfl) rfl (by simp) ?_; apply Exists.intro; refine ⟨?_, ?_⟩
       · (intro r _ K hK; go_big_quiet_op; first
          | exact hK
          | (apply Exists.intro; refine ⟨fun _ hw => ?_, ?_⟩; (first
             | with_reducible exact rfl
             | with_reducible exact cm_mem hw (C0.out _)
             | with_reducible exact cm_mem hw (C1.out _)
             | with_reducible exact cm_mem hw (NU.out _)
             | with_reducible exact cm_mem hw (CT.out _)
             | (obtain ⟨_, _, h0, h1, h2, h3, h4, _⟩ := hw.s; have q0 := h0.cell; have q1 := h1.cell; have q2 := h2.cell; have q3 := h3.cell; have q4 := h4.cell; clear h0 h1 h2 h3 h4; simp [q0, q1, q2, q3, q4, go_sem]; exact rfl)); exact hK))))
  refine wpCalm_nil ?_
  intro w3 K
  clear hne
  obtain ⟨_, sz4, h0, h1, h2, h3, h4, _⟩ := id K
  have q0 := h0.cell; have f0 := h0.frozen; have z4_0 := h0.lt
  have q1 := h1.cell; have f1 := h1.frozen; have z4_1 := h1.lt
  have q2 := h2.cell; have f2 := h2.frozen; have z4_2 := h2.lt
  have q3 := h3.cell; have f3 := h3.frozen; have z4_3 := h3.lt
  have q4 := h4.cell; have f4 := h4.frozen; have z4_4 := h4.lt
  clear h0 h1 h2 h3 h4
  go_wp2_with fail
  refine (EX.out _).mono ?_
  rintro e_4 w4 ⟨rfl, hb⟩
  have K' := Hold.mem (K) hb
  clear hb K
  have K := K'
  clear K'
  clear q0 f0 q1 f1 q2 f2 q3 f3 q4 f4
  obtain ⟨_, sz5, h0, h1, h2, h3, h4, _⟩ := id K
  have q0 := h0.cell; have f0 := h0.frozen; have z5_0 := h0.lt
  have q1 := h1.cell; have f1 := h1.frozen; have z5_1 := h1.lt
  have q2 := h2.cell; have f2 := h2.frozen; have z5_2 := h2.lt
  have q3 := h3.cell; have f3 := h3.frozen; have z5_3 := h3.lt
  have q4 := h4.cell; have f4 := h4.frozen; have z5_4 := h4.lt
  clear h0 h1 h2 h3 h4
  go_wp2_with fail
  refine (C0.out _).mono ?_
  rintro e_5 w5 ⟨rfl, hb⟩
  have K' := Hold.mem (K) hb
  clear hb K
  have K := K'
  clear K'
  clear q0 f0 q1 f1 q2 f2 q3 f3 q4 f4
  obtain ⟨_, sz6, h0, h1, h2, h3, h4, _⟩ := id K
  have q0 := h0.cell; have f0 := h0.frozen; have z6_0 := h0.lt
  have q1 := h1.cell; have f1 := h1.frozen; have z6_1 := h1.lt
  have q2 := h2.cell; have f2 := h2.frozen; have z6_2 := h2.lt
  have q3 := h3.cell; have f3 := h3.frozen; have z6_3 := h3.lt
  have q4 := h4.cell; have f4 := h4.frozen; have z6_4 := h4.lt
  clear h0 h1 h2 h3 h4
  go_wp2_with fail
  refine (W0.out _).mono ?_
  rintro e_6 w6 ⟨rfl, hb⟩
  have K' := Hold.mem (K) hb
  clear hb K
  have K := K'
  clear K'
  clear q0 f0 q1 f1 q2 f2 q3 f3 q4 f4
  obtain ⟨_, sz7, h0, h1, h2, h3, h4, _⟩ := id K
  have q0 := h0.cell; have f0 := h0.frozen; have z7_0 := h0.lt
  have q1 := h1.cell; have f1 := h1.frozen; have z7_1 := h1.lt
  have q2 := h2.cell; have f2 := h2.frozen; have z7_2 := h2.lt
  have q3 := h3.cell; have f3 := h3.frozen; have z7_3 := h3.lt
  have q4 := h4.cell; have f4 := h4.frozen; have z7_4 := h4.lt
  clear h0 h1 h2 h3 h4
  go_wp2_with fail
  refine (C1.out _).mono ?_
  rintro e_7 w7 ⟨rfl, hb⟩
  have K' := Hold.mem (K) hb
  clear hb K
  have K := K'
  clear K'
  clear q0 f0 q1 f1 q2 f2 q3 f3 q4 f4
  obtain ⟨_, sz8, h0, h1, h2, h3, h4, _⟩ := id K
  have q0 := h0.cell; have f0 := h0.frozen; have z8_0 := h0.lt
  have q1 := h1.cell; have f1 := h1.frozen; have z8_1 := h1.lt
  have q2 := h2.cell; have f2 := h2.frozen; have z8_2 := h2.lt
  have q3 := h3.cell; have f3 := h3.frozen; have z8_3 := h3.lt
  have q4 := h4.cell; have f4 := h4.frozen; have z8_4 := h4.lt
  clear h0 h1 h2 h3 h4
  go_wp2_with fail
  refine (W1.out _).mono ?_
  rintro e_8 w8 ⟨rfl, hb⟩
  have K' := Hold.mem (K) hb
  clear hb K
  have K := K'
  clear K'
  clear q0 f0 q1 f1 q2 f2 q3 f3 q4 f4
  obtain ⟨_, sz9, h0, h1, h2, h3, h4, _⟩ := id K
  have q0 := h0.cell; have f0 := h0.frozen; have z9_0 := h0.lt
  have q1 := h1.cell; have f1 := h1.frozen; have z9_1 := h1.lt
  have q2 := h2.cell; have f2 := h2.frozen; have z9_2 := h2.lt
  have q3 := h3.cell; have f3 := h3.frozen; have z9_3 := h3.lt
  have q4 := h4.cell; have f4 := h4.frozen; have z9_4 := h4.lt
  clear h0 h1 h2 h3 h4
  go_wp2_with fail
  clear q0 f0 q1 f1 q2 f2 q3 f3 q4 f4
  obtain ⟨_, sz10, h0, h1, h2, h3, h4, _⟩ := id K
  have z10_0 := h0.lt; have z10_1 := h1.lt; have z10_2 := h2.lt; have z10_3 := h3.lt; have z10_4 := h4.lt
  clear h0 h1 h2 h3 h4
  have hne : Hid (∃ w', Hold w.heap.size w [(b2, #[.complex .f64 fu fv, .int .i64 s]), (b1, #[.complex .f64 fx fy, .int .i64 r]), (w.heap.size + 1 + 1, #[.int .i64 z0, .int .i64 z1]), (w.heap.size + 1, #[.int .i64 u, .int .i64 v, .int .i64 s]), (w.heap.size, #[.int .i64 x, .int .i64 y, .int .i64 r])] w') := ⟨_, K.drew⟩
  refine wp_region_tail (Hold w.heap.size w [(b2, #[.complex .f64 fu fv, .int .i64 s]), (b1, #[.complex .f64 fx fy, .int .i64 r]), (w.heap.size + 1 + 1, #[.int .i64 z0, .int .i64 z1]), (w.heap.size + 1, #[.int .i64 u, .int .i64 v, .int .i64 s]), (w.heap.size, #[.int .i64 x, .int .i64 y, .int .i64 r])]) 18 18 (by kernel_rfl) (by kernel_rfl) (fun _ _ d _ _ h => by cases d <;> exact h) (Hold.lasting _ _ _) K.drew ?_
  simp only [List.take_succ_cons, List.take_zero, List.drop_succ_cons, List.drop_zero]
  clear K
  repeat (first
    | (refine calm_skip (by rfl) ?_; simp only [Act.put, List.setIfInBounds_toArray, List.set_cons_zero, List.set_cons_succ])
    | (refine calm_step hne.out (by rfl) rfl (by simp) ?_; apply Exists.intro; refine ⟨?_, ?_⟩
       · (intro r _ K hK; go_big_quiet_op; first
          | exact hK
          | (apply Exists.intro; refine ⟨fun _ hw => ?_, ?_⟩; (first
             | with_reducible exact rfl
             | (obtain ⟨_, _, h0, h1, h2, h3, h4, _⟩ := hw.s; have q0 := h0.cell; have q1 := h1.cell; have q2 := h2.cell; have q3 := h3.cell; have q4 := h4.cell; clear h0 h1 h2 h3 h4; simp [q0, q1, q2, q3, q4, go_sem]; exact rfl)); exact hK))))
  refine wpCalm_nil ?_
  intro w9 K
  clear hne
  obtain ⟨_, sz11, h0, h1, h2, h3, h4, _⟩ := id K
  have q0 := h0.cell; have f0 := h0.frozen; have z11_0 := h0.lt
  have q1 := h1.cell; have f1 := h1.frozen; have z11_1 := h1.lt
  have q2 := h2.cell; have f2 := h2.frozen; have z11_2 := h2.lt
  have q3 := h3.cell; have f3 := h3.frozen; have z11_3 := h3.lt
  have q4 := h4.cell; have f4 := h4.frozen; have z11_4 := h4.lt
  clear h0 h1 h2 h3 h4
  go_wp2_with fail
  refine (ME.out _).mono ?_
  rintro e_10 w10 ⟨rfl, hb⟩
  have K' := Hold.mem (K) hb
  clear hb K
  have K := K'
  clear K'
  clear q0 f0 q1 f1 q2 f2 q3 f3 q4 f4
  obtain ⟨_, sz12, h0, h1, h2, h3, h4, _⟩ := id K
  have q0 := h0.cell; have f0 := h0.frozen; have z12_0 := h0.lt
  have q1 := h1.cell; have f1 := h1.frozen; have z12_1 := h1.lt
  have q2 := h2.cell; have f2 := h2.frozen; have z12_2 := h2.lt
  have q3 := h3.cell; have f3 := h3.frozen; have z12_3 := h3.lt
  have q4 := h4.cell; have f4 := h4.frozen; have z12_4 := h4.lt
  clear h0 h1 h2 h3 h4
  go_wp2_with fail
  refine (IN.out _).mono ?_
  rintro e_11 w11 ⟨rfl, hb⟩
  have K' := Hold.mem (K) hb
  clear hb K
  have K := K'
  clear K'
  clear q0 f0 q1 f1 q2 f2 q3 f3 q4 f4
  obtain ⟨_, sz13, h0, h1, h2, h3, h4, _⟩ := id K
  have q0 := h0.cell; have f0 := h0.frozen; have z13_0 := h0.lt
  have q1 := h1.cell; have f1 := h1.frozen; have z13_1 := h1.lt
  have q2 := h2.cell; have f2 := h2.frozen; have z13_2 := h2.lt
  have q3 := h3.cell; have f3 := h3.frozen; have z13_3 := h3.lt
  have q4 := h4.cell; have f4 := h4.frozen; have z13_4 := h4.lt
  clear h0 h1 h2 h3 h4
  go_wp2_with fail
  refine (HU.out _).mono ?_
  rintro e_12 w12 ⟨rfl, hb⟩
  have K' := Hold.mem (K) hb
  clear hb K
  have K := K'
  clear K'
  clear q0 f0 q1 f1 q2 f2 q3 f3 q4 f4
  obtain ⟨_, sz14, h0, h1, h2, h3, h4, _⟩ := id K
  have q0 := h0.cell; have f0 := h0.frozen; have z14_0 := h0.lt
  have q1 := h1.cell; have f1 := h1.frozen; have z14_1 := h1.lt
  have q2 := h2.cell; have f2 := h2.frozen; have z14_2 := h2.lt
  have q3 := h3.cell; have f3 := h3.frozen; have z14_3 := h3.lt
  have q4 := h4.cell; have f4 := h4.frozen; have z14_4 := h4.lt
  clear h0 h1 h2 h3 h4
  go_wp2_with fail
  refine (TW.out _).mono ?_
  rintro e_13 w13 ⟨rfl, hb⟩
  have K' := Hold.mem ((K).new #[.complex .f64 0 0, .int .i64 0] 27 (n := w12.heap.size) (by first | rfl | (simp <;> omega))) hb
  clear hb K
  have K := K'
  clear K'
  clear q0 f0 q1 f1 q2 f2 q3 f3 q4 f4
  obtain ⟨_, sz15, h0, h1, h2, h3, h4, h5, _⟩ := id K
  have q0 := h0.cell; have f0 := h0.frozen; have z15_0 := h0.lt
  have q1 := h1.cell; have f1 := h1.frozen; have z15_1 := h1.lt
  have q2 := h2.cell; have f2 := h2.frozen; have z15_2 := h2.lt
  have q3 := h3.cell; have f3 := h3.frozen; have z15_3 := h3.lt
  have q4 := h4.cell; have f4 := h4.frozen; have z15_4 := h4.lt
  have q5 := h5.cell; have f5 := h5.frozen; have z15_5 := h5.lt
  clear h0 h1 h2 h3 h4 h5
  go_wp2_with fail
  refine (I0.out _).mono ?_
  rintro e_14 w14 ⟨rfl, hb⟩
  have K' := Hold.mem (K) hb
  clear hb K
  have K := K'
  clear K'
  clear q0 f0 q1 f1 q2 f2 q3 f3 q4 f4 q5 f5
  obtain ⟨_, sz16, h0, h1, h2, h3, h4, h5, _⟩ := id K
  have q0 := h0.cell; have f0 := h0.frozen; have z16_0 := h0.lt
  have q1 := h1.cell; have f1 := h1.frozen; have z16_1 := h1.lt
  have q2 := h2.cell; have f2 := h2.frozen; have z16_2 := h2.lt
  have q3 := h3.cell; have f3 := h3.frozen; have z16_3 := h3.lt
  have q4 := h4.cell; have f4 := h4.frozen; have z16_4 := h4.lt
  have q5 := h5.cell; have f5 := h5.frozen; have z16_5 := h5.lt
  clear h0 h1 h2 h3 h4 h5
  go_wp2_with fail
  go_ret
  exact ⟨rfl, (K).below⟩

set_option maxRecDepth 100000 in
set_option maxHeartbeats 8000000 in
theorem lies_b2_e {x y r u v s z0 z1 c0 c1 x' y' u' v' X Y R e e1 e2 : Int} {fx fy fu fv fz gz fH gH : Nat} {bm bn bp' bq' : Bool} (he : e ≠ 0)
    (BX : Hid (∀ w, Calls Try.prog 23 #[.agg #[.int .i64 x, .int .i64 y, .int .i64 r]] w (Mem (.agg #[.complex .f64 fx fy, .int .i64 r]) w)))
    (BY : Hid (∀ w, Calls Try.prog 23 #[.agg #[.int .i64 u, .int .i64 v, .int .i64 s]] w (Mem (.agg #[.complex .f64 fu fv, .int .i64 s]) w)))
    (C0 : Hid (∀ w, Calls Try.prog 51 #[.int .i64 z0] w (Mem (.int .i64 c0) w)))
    (C1 : Hid (∀ w, Calls Try.prog 51 #[.int .i64 z1] w (Mem (.int .i64 c1) w)))
    (NU : Hid (∀ w, Calls Try.prog 36 #[.int .i64 c0, .int .i64 c1] w (Mem (.complex .f64 fz gz) w)))
    (CT : Hid (∀ w, Calls Try.prog 50 #[.agg #[.complex .f64 fx fy, .int .i64 r], .complex .f64 fz gz] w (Mem (.tuple #[.bool false, .int .i64 2]) w)))
    (EX : Hid (∀ w, Calls Try.prog 28 #[.agg #[.int .i64 x, .int .i64 y, .int .i64 r]] w (Mem (.int .i64 0) w)))
    (W0 : Hid (∀ w, Calls Try.prog 31 #[.int .i64 c0, .int .i64 (-134217728), .int .i64 134217728] w (Mem (.bool true) w)))
    (W1 : Hid (∀ w, Calls Try.prog 31 #[.int .i64 c1, .int .i64 (-134217728), .int .i64 134217728] w (Mem (.bool false) w)))
    (ME : Hid (∀ w, Calls Try.prog 53 #[.agg #[.complex .f64 fx fy, .int .i64 r], .agg #[.complex .f64 fu fv, .int .i64 s]] w (Mem (.tuple #[.bool bm, .int .i64 0]) w)))
    (IN : Hid (∀ w, Calls Try.prog 54 #[.agg #[.complex .f64 fx fy, .int .i64 r], .agg #[.complex .f64 fu fv, .int .i64 s]] w (Mem (.tuple #[.bool bn, .int .i64 0]) w)))
    (HU : Hid (∀ w, Calls Try.prog 55 #[.agg #[.complex .f64 fx fy, .int .i64 r], .agg #[.complex .f64 fu fv, .int .i64 s]] w (Mem (.tuple #[.agg #[.complex .f64 fH gH, .int .i64 R], .int .i64 e]) w)))
    (TW : Hid (∀ w, Calls Try.prog 38 #[.agg #[.int .i64 x, .int .i64 y, .int .i64 r], .agg #[.int .i64 u, .int .i64 v, .int .i64 s]] w (Mem (.int .i64 0) w)))
    (OX : Hid (∀ w, Calls Try.prog 30 #[.agg #[.complex .f64 fx fy, .int .i64 r]] w (Mem (.agg #[.int .i64 x', .int .i64 y', .int .i64 r]) w)))
    (OY : Hid (∀ w, Calls Try.prog 30 #[.agg #[.complex .f64 fu fv, .int .i64 s]] w (Mem (.agg #[.int .i64 u', .int .i64 v', .int .i64 s]) w)))
    (RH : Hid (∀ w, Calls Try.prog 56 #[.agg #[.int .i64 x', .int .i64 y', .int .i64 r], .agg #[.int .i64 u', .int .i64 v', .int .i64 s]] w (Mem (.tuple #[.agg #[.int .i64 X, .int .i64 Y, .int .i64 R], .int .i64 e]) w)))
    (RM : Hid (∀ w, Calls Try.prog 57 #[.agg #[.int .i64 x', .int .i64 y', .int .i64 r], .agg #[.int .i64 u', .int .i64 v', .int .i64 s]] w (Mem (.bool bm) w)))
    (RI : Hid (∀ w, Calls Try.prog 58 #[.agg #[.int .i64 x', .int .i64 y', .int .i64 r], .agg #[.int .i64 u', .int .i64 v', .int .i64 s]] w (Mem (.bool bn) w)))
    (IH : Hid (∀ w, Calls Try.prog 22 #[.agg #[.complex .f64 fH gH, .int .i64 R], .int .i64 e, .agg #[.int .i64 X, .int .i64 Y, .int .i64 R], .int .i64 e] w (Mem (.bool true) w)))
    (KA : Hid (∀ w, Calls Try.prog 54 #[.agg #[.complex .f64 fx fy, .int .i64 r], .agg #[.complex .f64 fH gH, .int .i64 R]] w (Mem (.tuple #[.bool bp', .int .i64 e1]) w)))
    (KB : Hid (∀ w, Calls Try.prog 54 #[.agg #[.complex .f64 fu fv, .int .i64 s], .agg #[.complex .f64 fH gH, .int .i64 R]] w (Mem (.tuple #[.bool bq', .int .i64 e2]) w))) (w : World) :
    Calls Try.prog 9 #[.agg #[.int .i64 x, .int .i64 y, .int .i64 r], .agg #[.int .i64 u, .int .i64 v, .int .i64 s], .agg #[.int .i64 z0, .int .i64 z1]] w (Mem (.bool true) w) := by
  have A := Lib.hid (fun w => awake_any w)
  have g1 : (e != 0) = true := by simpa using he
  have g2 : (e == 0) = false := by simpa using he
  clear he
  go_enter Try.func9, Try.ntmps9
  go_wp2_with fail
  have K := (((Hold.start w).new #[.int .i64 x, .int .i64 y, .int .i64 r] 39 (n := w.heap.size) (by simp)).new #[.int .i64 u, .int .i64 v, .int .i64 s] 39 (n := w.heap.size + 1) (by simp)).new #[.int .i64 z0, .int .i64 z1] 58 (n := w.heap.size + 1 + 1) (by simp)
  refine (A.out _).mono ?_
  rintro e_1 w1 ⟨rfl, hb⟩
  have K' := Hold.mem (K) hb
  clear hb K
  have K := K'
  clear K'
  go_wp2_with fail
  obtain ⟨_, sz1, h0, h1, h2, _⟩ := id K
  have z1_0 := h0.lt; have z1_1 := h1.lt; have z1_2 := h2.lt
  clear h0 h1 h2
  have hne : Hid (∃ w', Hold w.heap.size w [(w.heap.size + 1 + 1, #[.int .i64 z0, .int .i64 z1]), (w.heap.size + 1, #[.int .i64 u, .int .i64 v, .int .i64 s]), (w.heap.size, #[.int .i64 x, .int .i64 y, .int .i64 r])] w') := ⟨_, K.drew⟩
  refine wp_region_two (Hold w.heap.size w [(w.heap.size + 1 + 1, #[.int .i64 z0, .int .i64 z1]), (w.heap.size + 1, #[.int .i64 u, .int .i64 v, .int .i64 s]), (w.heap.size, #[.int .i64 x, .int .i64 y, .int .i64 r])]) 4 7 8 (by decide) (by kernel_rfl) (by kernel_rfl) (Hold.lasting _ _ _) K.drew (c := #[.complex .f64 0 0, .int .i64 0]) (c' := #[.complex .f64 0 0, .int .i64 0]) rfl rfl ⟨rfl, rfl, fun _ _ => ⟨_, by go_simp; exact rfl⟩⟩ ⟨rfl, rfl, fun _ _ => ⟨_, by go_simp; exact rfl⟩⟩ ?_
  simp only [List.take_succ_cons, List.take_zero, List.drop_succ_cons, List.drop_zero]
  clear K
  repeat (first
    | (refine calm_skip (by rfl) ?_; simp only [Act.put, List.setIfInBounds_toArray, List.set_cons_zero, List.set_cons_succ])
    | (refine calm_step hne.out (by rfl) rfl (by simp) ?_; apply Exists.intro; refine ⟨?_, ?_⟩
       · (intro r _ K hK; go_big_quiet_op; first
          | exact hK
          | (apply Exists.intro; refine ⟨fun _ hw => ?_, ?_⟩; (first
             | with_reducible exact rfl
             | with_reducible exact cm_mem hw (BX.out _)
             | with_reducible exact cm_mem hw (BY.out _)
             | (obtain ⟨_, _, h0, h1, h2, _⟩ := hw.s; have q0 := h0.cell; have q1 := h1.cell; have q2 := h2.cell; clear h0 h1 h2; simp [q0, q1, q2, go_sem]; exact rfl)); exact hK))))
  refine wpCalm_nil ?_
  intro b1 b2 w2 hge_b1 hge_b2 hne_b1 K ha ha'
  clear hne
  have K' := (K.cons ha).cons ha'
  clear ha ha' K
  have K := K'
  clear K'
  simp only [Act.put, List.setIfInBounds_toArray, List.set_cons_zero, List.set_cons_succ]
  obtain ⟨_, sz2, h0, h1, h2, h3, h4, _⟩ := id K
  have q0 := h0.cell; have f0 := h0.frozen; have z2_0 := h0.lt
  have q1 := h1.cell; have f1 := h1.frozen; have z2_1 := h1.lt
  have q2 := h2.cell; have f2 := h2.frozen; have z2_2 := h2.lt
  have q3 := h3.cell; have f3 := h3.frozen; have z2_3 := h3.lt
  have q4 := h4.cell; have f4 := h4.frozen; have z2_4 := h4.lt
  clear h0 h1 h2 h3 h4
  go_wp2_with fail
  clear q0 f0 q1 f1 q2 f2 q3 f3 q4 f4
  have K' := ((((K).sub (l' := [(b1, #[.complex .f64 0 0, .int .i64 0]), (b2, #[.complex .f64 0 0, .int .i64 0]), (w.heap.size + 1 + 1, #[.int .i64 z0, .int .i64 z1]), (w.heap.size + 1, #[.int .i64 u, .int .i64 v, .int .i64 s]), (w.heap.size, #[.int .i64 x, .int .i64 y, .int .i64 r])]) (by simp)).set2 (v0 := .complex .f64 fx fy) (v1 := .int .i64 r) (by omega) (by simp <;> omega)).sub (l' := [(b2, #[.complex .f64 0 0, .int .i64 0]), (b1, #[.complex .f64 fx fy, .int .i64 r]), (w.heap.size + 1 + 1, #[.int .i64 z0, .int .i64 z1]), (w.heap.size + 1, #[.int .i64 u, .int .i64 v, .int .i64 s]), (w.heap.size, #[.int .i64 x, .int .i64 y, .int .i64 r])]) (by simp)).set2 (v0 := .complex .f64 fu fv) (v1 := .int .i64 s) (by omega) (by simp <;> omega)
  clear K
  have K := K'
  clear K'
  obtain ⟨_, sz3, h0, h1, h2, h3, h4, _⟩ := id K
  have z3_0 := h0.lt; have z3_1 := h1.lt; have z3_2 := h2.lt; have z3_3 := h3.lt; have z3_4 := h4.lt
  clear h0 h1 h2 h3 h4
  have hne : Hid (∃ w', Hold w.heap.size w [(b2, #[.complex .f64 fu fv, .int .i64 s]), (b1, #[.complex .f64 fx fy, .int .i64 r]), (w.heap.size + 1 + 1, #[.int .i64 z0, .int .i64 z1]), (w.heap.size + 1, #[.int .i64 u, .int .i64 v, .int .i64 s]), (w.heap.size, #[.int .i64 x, .int .i64 y, .int .i64 r])] w') := ⟨_, K.drew⟩
  refine wp_region_tail (Hold w.heap.size w [(b2, #[.complex .f64 fu fv, .int .i64 s]), (b1, #[.complex .f64 fx fy, .int .i64 r]), (w.heap.size + 1 + 1, #[.int .i64 z0, .int .i64 z1]), (w.heap.size + 1, #[.int .i64 u, .int .i64 v, .int .i64 s]), (w.heap.size, #[.int .i64 x, .int .i64 y, .int .i64 r])]) 9 14 (by kernel_rfl) (by kernel_rfl) (fun _ _ d _ _ h => by cases d <;> exact h) (Hold.lasting _ _ _) K.drew ?_
  simp only [List.take_succ_cons, List.take_zero, List.drop_succ_cons, List.drop_zero]
  clear K
  repeat (first
    | (refine calm_skip (by rfl) ?_; simp only [Act.put, List.setIfInBounds_toArray, List.set_cons_zero, List.set_cons_succ])
    | (refine calm_step hne.out (by rfl) rfl (by simp) ?_; apply Exists.intro; refine ⟨?_, ?_⟩
       · (intro r _ K hK; go_big_quiet_op; first
          | exact hK
          | (apply Exists.intro; refine ⟨fun _ hw => ?_, ?_⟩; (first
             | with_reducible exact rfl
             | with_reducible exact cm_mem hw (C0.out _)
             | with_reducible exact cm_mem hw (C1.out _)
             | with_reducible exact cm_mem hw (NU.out _)
             | with_reducible exact cm_mem hw (CT.out _)
             | (obtain ⟨_, _, h0, h1, h2, h3, h4, _⟩ := hw.s; have q0 := h0.cell; have q1 := h1.cell; have q2 := h2.cell; have q3 := h3.cell; have q4 := h4.cell; clear h0 h1 h2 h3 h4; simp [q0, q1, q2, q3, q4, go_sem]; exact rfl)); exact hK))))
  refine wpCalm_nil ?_
  intro w3 K
  clear hne
  obtain ⟨_, sz4, h0, h1, h2, h3, h4, _⟩ := id K
  have q0 := h0.cell; have f0 := h0.frozen; have z4_0 := h0.lt
  have q1 := h1.cell; have f1 := h1.frozen; have z4_1 := h1.lt
  have q2 := h2.cell; have f2 := h2.frozen; have z4_2 := h2.lt
  have q3 := h3.cell; have f3 := h3.frozen; have z4_3 := h3.lt
  have q4 := h4.cell; have f4 := h4.frozen; have z4_4 := h4.lt
  clear h0 h1 h2 h3 h4
  go_wp2_with fail
  refine (EX.out _).mono ?_
  rintro e_4 w4 ⟨rfl, hb⟩
  have K' := Hold.mem (K) hb
  clear hb K
  have K := K'
  clear K'
  clear q0 f0 q1 f1 q2 f2 q3 f3 q4 f4
  obtain ⟨_, sz5, h0, h1, h2, h3, h4, _⟩ := id K
  have q0 := h0.cell; have f0 := h0.frozen; have z5_0 := h0.lt
  have q1 := h1.cell; have f1 := h1.frozen; have z5_1 := h1.lt
  have q2 := h2.cell; have f2 := h2.frozen; have z5_2 := h2.lt
  have q3 := h3.cell; have f3 := h3.frozen; have z5_3 := h3.lt
  have q4 := h4.cell; have f4 := h4.frozen; have z5_4 := h4.lt
  clear h0 h1 h2 h3 h4
  go_wp2_with fail
  refine (C0.out _).mono ?_
  rintro e_5 w5 ⟨rfl, hb⟩
  have K' := Hold.mem (K) hb
  clear hb K
  have K := K'
  clear K'
  clear q0 f0 q1 f1 q2 f2 q3 f3 q4 f4
  obtain ⟨_, sz6, h0, h1, h2, h3, h4, _⟩ := id K
  have q0 := h0.cell; have f0 := h0.frozen; have z6_0 := h0.lt
  have q1 := h1.cell; have f1 := h1.frozen; have z6_1 := h1.lt
  have q2 := h2.cell; have f2 := h2.frozen; have z6_2 := h2.lt
  have q3 := h3.cell; have f3 := h3.frozen; have z6_3 := h3.lt
  have q4 := h4.cell; have f4 := h4.frozen; have z6_4 := h4.lt
  clear h0 h1 h2 h3 h4
  go_wp2_with fail
  refine (W0.out _).mono ?_
  rintro e_6 w6 ⟨rfl, hb⟩
  have K' := Hold.mem (K) hb
  clear hb K
  have K := K'
  clear K'
  clear q0 f0 q1 f1 q2 f2 q3 f3 q4 f4
  obtain ⟨_, sz7, h0, h1, h2, h3, h4, _⟩ := id K
  have q0 := h0.cell; have f0 := h0.frozen; have z7_0 := h0.lt
  have q1 := h1.cell; have f1 := h1.frozen; have z7_1 := h1.lt
  have q2 := h2.cell; have f2 := h2.frozen; have z7_2 := h2.lt
  have q3 := h3.cell; have f3 := h3.frozen; have z7_3 := h3.lt
  have q4 := h4.cell; have f4 := h4.frozen; have z7_4 := h4.lt
  clear h0 h1 h2 h3 h4
  go_wp2_with fail
  refine (C1.out _).mono ?_
  rintro e_7 w7 ⟨rfl, hb⟩
  have K' := Hold.mem (K) hb
  clear hb K
  have K := K'
  clear K'
  clear q0 f0 q1 f1 q2 f2 q3 f3 q4 f4
  obtain ⟨_, sz8, h0, h1, h2, h3, h4, _⟩ := id K
  have q0 := h0.cell; have f0 := h0.frozen; have z8_0 := h0.lt
  have q1 := h1.cell; have f1 := h1.frozen; have z8_1 := h1.lt
  have q2 := h2.cell; have f2 := h2.frozen; have z8_2 := h2.lt
  have q3 := h3.cell; have f3 := h3.frozen; have z8_3 := h3.lt
  have q4 := h4.cell; have f4 := h4.frozen; have z8_4 := h4.lt
  clear h0 h1 h2 h3 h4
  go_wp2_with fail
  refine (W1.out _).mono ?_
  rintro e_8 w8 ⟨rfl, hb⟩
  have K' := Hold.mem (K) hb
  clear hb K
  have K := K'
  clear K'
  clear q0 f0 q1 f1 q2 f2 q3 f3 q4 f4
  obtain ⟨_, sz9, h0, h1, h2, h3, h4, _⟩ := id K
  have q0 := h0.cell; have f0 := h0.frozen; have z9_0 := h0.lt
  have q1 := h1.cell; have f1 := h1.frozen; have z9_1 := h1.lt
  have q2 := h2.cell; have f2 := h2.frozen; have z9_2 := h2.lt
  have q3 := h3.cell; have f3 := h3.frozen; have z9_3 := h3.lt
  have q4 := h4.cell; have f4 := h4.frozen; have z9_4 := h4.lt
  clear h0 h1 h2 h3 h4
  go_wp2_with fail
  clear q0 f0 q1 f1 q2 f2 q3 f3 q4 f4
  obtain ⟨_, sz10, h0, h1, h2, h3, h4, _⟩ := id K
  have z10_0 := h0.lt; have z10_1 := h1.lt; have z10_2 := h2.lt; have z10_3 := h3.lt; have z10_4 := h4.lt
  clear h0 h1 h2 h3 h4
  have hne : Hid (∃ w', Hold w.heap.size w [(b2, #[.complex .f64 fu fv, .int .i64 s]), (b1, #[.complex .f64 fx fy, .int .i64 r]), (w.heap.size + 1 + 1, #[.int .i64 z0, .int .i64 z1]), (w.heap.size + 1, #[.int .i64 u, .int .i64 v, .int .i64 s]), (w.heap.size, #[.int .i64 x, .int .i64 y, .int .i64 r])] w') := ⟨_, K.drew⟩
  refine wp_region_tail (Hold w.heap.size w [(b2, #[.complex .f64 fu fv, .int .i64 s]), (b1, #[.complex .f64 fx fy, .int .i64 r]), (w.heap.size + 1 + 1, #[.int .i64 z0, .int .i64 z1]), (w.heap.size + 1, #[.int .i64 u, .int .i64 v, .int .i64 s]), (w.heap.size, #[.int .i64 x, .int .i64 y, .int .i64 r])]) 18 18 (by kernel_rfl) (by kernel_rfl) (fun _ _ d _ _ h => by cases d <;> exact h) (Hold.lasting _ _ _) K.drew ?_
  simp only [List.take_succ_cons, List.take_zero, List.drop_succ_cons, List.drop_zero]
  clear K
  repeat (first
    | (refine calm_skip (by rfl) ?_; simp only [Act.put, List.setIfInBounds_toArray, List.set_cons_zero, List.set_cons_succ])
    | (refine calm_step hne.out (by rfl) rfl (by simp) ?_; apply Exists.intro; refine ⟨?_, ?_⟩
       · (intro r _ K hK; go_big_quiet_op; first
          | exact hK
          | (apply Exists.intro; refine ⟨fun _ hw => ?_, ?_⟩; (first
             | with_reducible exact rfl
             | (obtain ⟨_, _, h0, h1, h2, h3, h4, _⟩ := hw.s; have q0 := h0.cell; have q1 := h1.cell; have q2 := h2.cell; have q3 := h3.cell; have q4 := h4.cell; clear h0 h1 h2 h3 h4; simp [q0, q1, q2, q3, q4, go_sem]; exact rfl)); exact hK))))
  refine wpCalm_nil ?_
  intro w9 K
  clear hne
  obtain ⟨_, sz11, h0, h1, h2, h3, h4, _⟩ := id K
  have q0 := h0.cell; have f0 := h0.frozen; have z11_0 := h0.lt
  have q1 := h1.cell; have f1 := h1.frozen; have z11_1 := h1.lt
  have q2 := h2.cell; have f2 := h2.frozen; have z11_2 := h2.lt
  have q3 := h3.cell; have f3 := h3.frozen; have z11_3 := h3.lt
  have q4 := h4.cell; have f4 := h4.frozen; have z11_4 := h4.lt
  clear h0 h1 h2 h3 h4
  go_wp2_with fail
  refine (ME.out _).mono ?_
  rintro e_10 w10 ⟨rfl, hb⟩
  have K' := Hold.mem (K) hb
  clear hb K
  have K := K'
  clear K'
  clear q0 f0 q1 f1 q2 f2 q3 f3 q4 f4
  obtain ⟨_, sz12, h0, h1, h2, h3, h4, _⟩ := id K
  have q0 := h0.cell; have f0 := h0.frozen; have z12_0 := h0.lt
  have q1 := h1.cell; have f1 := h1.frozen; have z12_1 := h1.lt
  have q2 := h2.cell; have f2 := h2.frozen; have z12_2 := h2.lt
  have q3 := h3.cell; have f3 := h3.frozen; have z12_3 := h3.lt
  have q4 := h4.cell; have f4 := h4.frozen; have z12_4 := h4.lt
  clear h0 h1 h2 h3 h4
  go_wp2_with fail
  refine (IN.out _).mono ?_
  rintro e_11 w11 ⟨rfl, hb⟩
  have K' := Hold.mem (K) hb
  clear hb K
  have K := K'
  clear K'
  clear q0 f0 q1 f1 q2 f2 q3 f3 q4 f4
  obtain ⟨_, sz13, h0, h1, h2, h3, h4, _⟩ := id K
  have q0 := h0.cell; have f0 := h0.frozen; have z13_0 := h0.lt
  have q1 := h1.cell; have f1 := h1.frozen; have z13_1 := h1.lt
  have q2 := h2.cell; have f2 := h2.frozen; have z13_2 := h2.lt
  have q3 := h3.cell; have f3 := h3.frozen; have z13_3 := h3.lt
  have q4 := h4.cell; have f4 := h4.frozen; have z13_4 := h4.lt
  clear h0 h1 h2 h3 h4
  go_wp2_with fail
  refine (HU.out _).mono ?_
  rintro e_12 w12 ⟨rfl, hb⟩
  have K' := Hold.mem (K) hb
  clear hb K
  have K := K'
  clear K'
  clear q0 f0 q1 f1 q2 f2 q3 f3 q4 f4
  obtain ⟨_, sz14, h0, h1, h2, h3, h4, _⟩ := id K
  have q0 := h0.cell; have f0 := h0.frozen; have z14_0 := h0.lt
  have q1 := h1.cell; have f1 := h1.frozen; have z14_1 := h1.lt
  have q2 := h2.cell; have f2 := h2.frozen; have z14_2 := h2.lt
  have q3 := h3.cell; have f3 := h3.frozen; have z14_3 := h3.lt
  have q4 := h4.cell; have f4 := h4.frozen; have z14_4 := h4.lt
  clear h0 h1 h2 h3 h4
  go_wp2_with fail
  refine (TW.out _).mono ?_
  rintro e_13 w13 ⟨rfl, hb⟩
  have K' := Hold.mem ((K).new #[.complex .f64 fH gH, .int .i64 R] 27 (n := w12.heap.size) (by first | rfl | (simp <;> omega))) hb
  clear hb K
  have K := K'
  clear K'
  clear q0 f0 q1 f1 q2 f2 q3 f3 q4 f4
  obtain ⟨_, sz15, h0, h1, h2, h3, h4, h5, _⟩ := id K
  have q0 := h0.cell; have f0 := h0.frozen; have z15_0 := h0.lt
  have q1 := h1.cell; have f1 := h1.frozen; have z15_1 := h1.lt
  have q2 := h2.cell; have f2 := h2.frozen; have z15_2 := h2.lt
  have q3 := h3.cell; have f3 := h3.frozen; have z15_3 := h3.lt
  have q4 := h4.cell; have f4 := h4.frozen; have z15_4 := h4.lt
  have q5 := h5.cell; have f5 := h5.frozen; have z15_5 := h5.lt
  clear h0 h1 h2 h3 h4 h5
  go_wp2_with fail
  clear q0 f0 q1 f1 q2 f2 q3 f3 q4 f4 q5 f5
  obtain ⟨_, sz16, h0, h1, h2, h3, h4, h5, _⟩ := id K
  have z16_0 := h0.lt; have z16_1 := h1.lt; have z16_2 := h2.lt; have z16_3 := h3.lt; have z16_4 := h4.lt; have z16_5 := h5.lt
  clear h0 h1 h2 h3 h4 h5
  have hne : Hid (∃ w', Hold w.heap.size w [(w12.heap.size, #[.complex .f64 fH gH, .int .i64 R]), (b2, #[.complex .f64 fu fv, .int .i64 s]), (b1, #[.complex .f64 fx fy, .int .i64 r]), (w.heap.size + 1 + 1, #[.int .i64 z0, .int .i64 z1]), (w.heap.size + 1, #[.int .i64 u, .int .i64 v, .int .i64 s]), (w.heap.size, #[.int .i64 x, .int .i64 y, .int .i64 r])] w') := ⟨_, K.drew⟩
  refine wp_region_float (Hold w.heap.size w [(w12.heap.size, #[.complex .f64 fH gH, .int .i64 R]), (b2, #[.complex .f64 fu fv, .int .i64 s]), (b1, #[.complex .f64 fx fy, .int .i64 r]), (w.heap.size + 1 + 1, #[.int .i64 z0, .int .i64 z1]), (w.heap.size + 1, #[.int .i64 u, .int .i64 v, .int .i64 s]), (w.heap.size, #[.int .i64 x, .int .i64 y, .int .i64 r])]) 5 8 19 (by kernel_rfl) (by kernel_rfl) (fun _ _ d _ _ h => by cases d <;> exact h) (Hold.lasting _ _ _) K.drew (c := #[.int .i64 0, .int .i64 0, .int .i64 0]) rfl ⟨rfl, rfl, fun _ _ => ⟨_, by go_simp; exact rfl⟩⟩ ?_
  simp only [List.take_succ_cons, List.take_zero, List.drop_succ_cons, List.drop_zero]
  clear K
  repeat (first
    | (refine calm_skip (by rfl) ?_; simp only [Act.put, List.setIfInBounds_toArray, List.set_cons_zero, List.set_cons_succ])
    | (refine calm_step hne.out (by rfl) rfl (by simp) ?_; apply Exists.intro; refine ⟨?_, ?_⟩
       · (intro r _ K hK; go_big_quiet_op; first
          | exact hK
          | (apply Exists.intro; refine ⟨fun _ hw => ?_, ?_⟩; (first
             | with_reducible exact rfl
             | with_reducible exact cm_mem hw (OX.out _)
             | with_reducible exact cm_mem hw (OY.out _)
             | with_reducible exact cm_mem hw (RH.out _)
             | (obtain ⟨_, _, h0, h1, h2, h3, h4, h5, _⟩ := hw.s; have q0 := h0.cell; have q1 := h1.cell; have q2 := h2.cell; have q3 := h3.cell; have q4 := h4.cell; have q5 := h5.cell; clear h0 h1 h2 h3 h4 h5; simp [q0, q1, q2, q3, q4, q5, go_sem]; exact rfl)); exact hK))))
  refine wpCalm_nil ?_
  intro b3 w14 hge_b3 K ha
  clear hne
  have K' := K.cons ha
  clear ha K
  have K := K'
  clear K'
  simp only [Act.put, List.setIfInBounds_toArray, List.set_cons_zero, List.set_cons_succ]
  obtain ⟨_, sz17, h0, h1, h2, h3, h4, h5, h6, _⟩ := id K
  have q0 := h0.cell; have f0 := h0.frozen; have z17_0 := h0.lt
  have q1 := h1.cell; have f1 := h1.frozen; have z17_1 := h1.lt
  have q2 := h2.cell; have f2 := h2.frozen; have z17_2 := h2.lt
  have q3 := h3.cell; have f3 := h3.frozen; have z17_3 := h3.lt
  have q4 := h4.cell; have f4 := h4.frozen; have z17_4 := h4.lt
  have q5 := h5.cell; have f5 := h5.frozen; have z17_5 := h5.lt
  have q6 := h6.cell; have f6 := h6.frozen; have z17_6 := h6.lt
  clear h0 h1 h2 h3 h4 h5 h6
  go_wp2_with fail
  clear q0 f0 q1 f1 q2 f2 q3 f3 q4 f4 q5 f5 q6 f6
  have K' := (K).set3 (v0 := .int .i64 X) (v1 := .int .i64 Y) (v2 := .int .i64 R) (by omega) (by simp <;> omega)
  clear K
  have K := K'
  clear K'
  obtain ⟨_, sz18, h0, h1, h2, h3, h4, h5, h6, _⟩ := id K
  have z18_0 := h0.lt; have z18_1 := h1.lt; have z18_2 := h2.lt; have z18_3 := h3.lt; have z18_4 := h4.lt; have z18_5 := h5.lt; have z18_6 := h6.lt
  clear h0 h1 h2 h3 h4 h5 h6
  have hne : Hid (∃ w', Hold w.heap.size w [(b3, #[.int .i64 X, .int .i64 Y, .int .i64 R]), (w12.heap.size, #[.complex .f64 fH gH, .int .i64 R]), (b2, #[.complex .f64 fu fv, .int .i64 s]), (b1, #[.complex .f64 fx fy, .int .i64 r]), (w.heap.size + 1 + 1, #[.int .i64 z0, .int .i64 z1]), (w.heap.size + 1, #[.int .i64 u, .int .i64 v, .int .i64 s]), (w.heap.size, #[.int .i64 x, .int .i64 y, .int .i64 r])] w') := ⟨_, K.drew⟩
  refine wp_region_tail (Hold w.heap.size w [(b3, #[.int .i64 X, .int .i64 Y, .int .i64 R]), (w12.heap.size, #[.complex .f64 fH gH, .int .i64 R]), (b2, #[.complex .f64 fu fv, .int .i64 s]), (b1, #[.complex .f64 fx fy, .int .i64 r]), (w.heap.size + 1 + 1, #[.int .i64 z0, .int .i64 z1]), (w.heap.size + 1, #[.int .i64 u, .int .i64 v, .int .i64 s]), (w.heap.size, #[.int .i64 x, .int .i64 y, .int .i64 r])]) 32 32 (by kernel_rfl) (by kernel_rfl) (fun _ _ d _ _ h => by cases d <;> exact h) (Hold.lasting _ _ _) K.drew ?_
  simp only [List.take_succ_cons, List.take_zero, List.drop_succ_cons, List.drop_zero]
  clear K
  repeat (first
    | (refine calm_skip (by rfl) ?_; simp only [Act.put, List.setIfInBounds_toArray, List.set_cons_zero, List.set_cons_succ])
    | (refine calm_step hne.out (by rfl) rfl (by simp) ?_; apply Exists.intro; refine ⟨?_, ?_⟩
       · (intro r _ K hK; go_big_quiet_op; first
          | exact hK
          | (apply Exists.intro; refine ⟨fun _ hw => ?_, ?_⟩; (first
             | with_reducible exact rfl
             | with_reducible exact cm_mem hw (OX.out _)
             | with_reducible exact cm_mem hw (OY.out _)
             | with_reducible exact cm_mem hw (RM.out _)
             | with_reducible exact cm_mem hw (RI.out _)
             | with_reducible exact cm_mem hw (IH.out _)
             | (obtain ⟨_, _, h0, h1, h2, h3, h4, h5, h6, _⟩ := hw.s; have q0 := h0.cell; have q1 := h1.cell; have q2 := h2.cell; have q3 := h3.cell; have q4 := h4.cell; have q5 := h5.cell; have q6 := h6.cell; clear h0 h1 h2 h3 h4 h5 h6; simp [q0, q1, q2, q3, q4, q5, q6, go_sem]; exact rfl)); exact hK))))
  refine wpCalm_nil ?_
  intro w15 K
  clear hne
  obtain ⟨_, sz19, h0, h1, h2, h3, h4, h5, h6, _⟩ := id K
  have q0 := h0.cell; have f0 := h0.frozen; have z19_0 := h0.lt
  have q1 := h1.cell; have f1 := h1.frozen; have z19_1 := h1.lt
  have q2 := h2.cell; have f2 := h2.frozen; have z19_2 := h2.lt
  have q3 := h3.cell; have f3 := h3.frozen; have z19_3 := h3.lt
  have q4 := h4.cell; have f4 := h4.frozen; have z19_4 := h4.lt
  have q5 := h5.cell; have f5 := h5.frozen; have z19_5 := h5.lt
  have q6 := h6.cell; have f6 := h6.frozen; have z19_6 := h6.lt
  clear h0 h1 h2 h3 h4 h5 h6
  go_wp2_with fail
  refine (KA.out _).mono ?_
  rintro e_16 w16 ⟨rfl, hb⟩
  have K' := Hold.mem (K) hb
  clear hb K
  have K := K'
  clear K'
  clear q0 f0 q1 f1 q2 f2 q3 f3 q4 f4 q5 f5 q6 f6
  obtain ⟨_, sz20, h0, h1, h2, h3, h4, h5, h6, _⟩ := id K
  have q0 := h0.cell; have f0 := h0.frozen; have z20_0 := h0.lt
  have q1 := h1.cell; have f1 := h1.frozen; have z20_1 := h1.lt
  have q2 := h2.cell; have f2 := h2.frozen; have z20_2 := h2.lt
  have q3 := h3.cell; have f3 := h3.frozen; have z20_3 := h3.lt
  have q4 := h4.cell; have f4 := h4.frozen; have z20_4 := h4.lt
  have q5 := h5.cell; have f5 := h5.frozen; have z20_5 := h5.lt
  have q6 := h6.cell; have f6 := h6.frozen; have z20_6 := h6.lt
  clear h0 h1 h2 h3 h4 h5 h6
  go_wp2_with fail
  refine (KB.out _).mono ?_
  rintro e_17 w17 ⟨rfl, hb⟩
  have K' := Hold.mem (K) hb
  clear hb K
  have K := K'
  clear K'
  clear q0 f0 q1 f1 q2 f2 q3 f3 q4 f4 q5 f5 q6 f6
  obtain ⟨_, sz21, h0, h1, h2, h3, h4, h5, h6, _⟩ := id K
  have q0 := h0.cell; have f0 := h0.frozen; have z21_0 := h0.lt
  have q1 := h1.cell; have f1 := h1.frozen; have z21_1 := h1.lt
  have q2 := h2.cell; have f2 := h2.frozen; have z21_2 := h2.lt
  have q3 := h3.cell; have f3 := h3.frozen; have z21_3 := h3.lt
  have q4 := h4.cell; have f4 := h4.frozen; have z21_4 := h4.lt
  have q5 := h5.cell; have f5 := h5.frozen; have z21_5 := h5.lt
  have q6 := h6.cell; have f6 := h6.frozen; have z21_6 := h6.lt
  clear h0 h1 h2 h3 h4 h5 h6
  go_wp2_with fail
  go_ret
  exact ⟨rfl, (K).below⟩

set_option maxRecDepth 100000 in
set_option maxHeartbeats 8000000 in
theorem lies_b2_z {x y r u v s z0 z1 c0 c1 x' y' u' v' X Y R : Int} {fx fy fu fv fz gz fH gH : Nat} {bm bn : Bool}
    (BX : Hid (∀ w, Calls Try.prog 23 #[.agg #[.int .i64 x, .int .i64 y, .int .i64 r]] w (Mem (.agg #[.complex .f64 fx fy, .int .i64 r]) w)))
    (BY : Hid (∀ w, Calls Try.prog 23 #[.agg #[.int .i64 u, .int .i64 v, .int .i64 s]] w (Mem (.agg #[.complex .f64 fu fv, .int .i64 s]) w)))
    (C0 : Hid (∀ w, Calls Try.prog 51 #[.int .i64 z0] w (Mem (.int .i64 c0) w)))
    (C1 : Hid (∀ w, Calls Try.prog 51 #[.int .i64 z1] w (Mem (.int .i64 c1) w)))
    (NU : Hid (∀ w, Calls Try.prog 36 #[.int .i64 c0, .int .i64 c1] w (Mem (.complex .f64 fz gz) w)))
    (CT : Hid (∀ w, Calls Try.prog 50 #[.agg #[.complex .f64 fx fy, .int .i64 r], .complex .f64 fz gz] w (Mem (.tuple #[.bool false, .int .i64 2]) w)))
    (EX : Hid (∀ w, Calls Try.prog 28 #[.agg #[.int .i64 x, .int .i64 y, .int .i64 r]] w (Mem (.int .i64 0) w)))
    (W0 : Hid (∀ w, Calls Try.prog 31 #[.int .i64 c0, .int .i64 (-134217728), .int .i64 134217728] w (Mem (.bool true) w)))
    (W1 : Hid (∀ w, Calls Try.prog 31 #[.int .i64 c1, .int .i64 (-134217728), .int .i64 134217728] w (Mem (.bool false) w)))
    (ME : Hid (∀ w, Calls Try.prog 53 #[.agg #[.complex .f64 fx fy, .int .i64 r], .agg #[.complex .f64 fu fv, .int .i64 s]] w (Mem (.tuple #[.bool bm, .int .i64 0]) w)))
    (IN : Hid (∀ w, Calls Try.prog 54 #[.agg #[.complex .f64 fx fy, .int .i64 r], .agg #[.complex .f64 fu fv, .int .i64 s]] w (Mem (.tuple #[.bool bn, .int .i64 0]) w)))
    (HU : Hid (∀ w, Calls Try.prog 55 #[.agg #[.complex .f64 fx fy, .int .i64 r], .agg #[.complex .f64 fu fv, .int .i64 s]] w (Mem (.tuple #[.agg #[.complex .f64 fH gH, .int .i64 R], .int .i64 0]) w)))
    (TW : Hid (∀ w, Calls Try.prog 38 #[.agg #[.int .i64 x, .int .i64 y, .int .i64 r], .agg #[.int .i64 u, .int .i64 v, .int .i64 s]] w (Mem (.int .i64 0) w)))
    (OX : Hid (∀ w, Calls Try.prog 30 #[.agg #[.complex .f64 fx fy, .int .i64 r]] w (Mem (.agg #[.int .i64 x', .int .i64 y', .int .i64 r]) w)))
    (OY : Hid (∀ w, Calls Try.prog 30 #[.agg #[.complex .f64 fu fv, .int .i64 s]] w (Mem (.agg #[.int .i64 u', .int .i64 v', .int .i64 s]) w)))
    (RH : Hid (∀ w, Calls Try.prog 56 #[.agg #[.int .i64 x', .int .i64 y', .int .i64 r], .agg #[.int .i64 u', .int .i64 v', .int .i64 s]] w (Mem (.tuple #[.agg #[.int .i64 X, .int .i64 Y, .int .i64 R], .int .i64 0]) w)))
    (RM : Hid (∀ w, Calls Try.prog 57 #[.agg #[.int .i64 x', .int .i64 y', .int .i64 r], .agg #[.int .i64 u', .int .i64 v', .int .i64 s]] w (Mem (.bool bm) w)))
    (RI : Hid (∀ w, Calls Try.prog 58 #[.agg #[.int .i64 x', .int .i64 y', .int .i64 r], .agg #[.int .i64 u', .int .i64 v', .int .i64 s]] w (Mem (.bool bn) w)))
    (IH : Hid (∀ w, Calls Try.prog 22 #[.agg #[.complex .f64 fH gH, .int .i64 R], .int .i64 0, .agg #[.int .i64 X, .int .i64 Y, .int .i64 R], .int .i64 0] w (Mem (.bool true) w)))
    (KA : Hid (∀ w, Calls Try.prog 54 #[.agg #[.complex .f64 fx fy, .int .i64 r], .agg #[.complex .f64 fH gH, .int .i64 R]] w (Mem (.tuple #[.bool true, .int .i64 0]) w)))
    (KB : Hid (∀ w, Calls Try.prog 54 #[.agg #[.complex .f64 fu fv, .int .i64 s], .agg #[.complex .f64 fH gH, .int .i64 R]] w (Mem (.tuple #[.bool true, .int .i64 0]) w))) (w : World) :
    Calls Try.prog 9 #[.agg #[.int .i64 x, .int .i64 y, .int .i64 r], .agg #[.int .i64 u, .int .i64 v, .int .i64 s], .agg #[.int .i64 z0, .int .i64 z1]] w (Mem (.bool true) w) := by
  have A := Lib.hid (fun w => awake_any w)
  go_enter Try.func9, Try.ntmps9
  go_wp2_with fail
  have K := (((Hold.start w).new #[.int .i64 x, .int .i64 y, .int .i64 r] 39 (n := w.heap.size) (by simp)).new #[.int .i64 u, .int .i64 v, .int .i64 s] 39 (n := w.heap.size + 1) (by simp)).new #[.int .i64 z0, .int .i64 z1] 58 (n := w.heap.size + 1 + 1) (by simp)
  refine (A.out _).mono ?_
  rintro e_1 w1 ⟨rfl, hb⟩
  have K' := Hold.mem (K) hb
  clear hb K
  have K := K'
  clear K'
  go_wp2_with fail
  obtain ⟨_, sz1, h0, h1, h2, _⟩ := id K
  have z1_0 := h0.lt; have z1_1 := h1.lt; have z1_2 := h2.lt
  clear h0 h1 h2
  have hne : Hid (∃ w', Hold w.heap.size w [(w.heap.size + 1 + 1, #[.int .i64 z0, .int .i64 z1]), (w.heap.size + 1, #[.int .i64 u, .int .i64 v, .int .i64 s]), (w.heap.size, #[.int .i64 x, .int .i64 y, .int .i64 r])] w') := ⟨_, K.drew⟩
  refine wp_region_two (Hold w.heap.size w [(w.heap.size + 1 + 1, #[.int .i64 z0, .int .i64 z1]), (w.heap.size + 1, #[.int .i64 u, .int .i64 v, .int .i64 s]), (w.heap.size, #[.int .i64 x, .int .i64 y, .int .i64 r])]) 4 7 8 (by decide) (by kernel_rfl) (by kernel_rfl) (Hold.lasting _ _ _) K.drew (c := #[.complex .f64 0 0, .int .i64 0]) (c' := #[.complex .f64 0 0, .int .i64 0]) rfl rfl ⟨rfl, rfl, fun _ _ => ⟨_, by go_simp; exact rfl⟩⟩ ⟨rfl, rfl, fun _ _ => ⟨_, by go_simp; exact rfl⟩⟩ ?_
  simp only [List.take_succ_cons, List.take_zero, List.drop_succ_cons, List.drop_zero]
  clear K
  repeat (first
    | (refine calm_skip (by rfl) ?_; simp only [Act.put, List.setIfInBounds_toArray, List.set_cons_zero, List.set_cons_succ])
    | (refine calm_step hne.out (by rfl) rfl (by simp) ?_; apply Exists.intro; refine ⟨?_, ?_⟩
       · (intro r _ K hK; go_big_quiet_op; first
          | exact hK
          | (apply Exists.intro; refine ⟨fun _ hw => ?_, ?_⟩; (first
             | with_reducible exact rfl
             | with_reducible exact cm_mem hw (BX.out _)
             | with_reducible exact cm_mem hw (BY.out _)
             | (obtain ⟨_, _, h0, h1, h2, _⟩ := hw.s; have q0 := h0.cell; have q1 := h1.cell; have q2 := h2.cell; clear h0 h1 h2; simp [q0, q1, q2, go_sem]; exact rfl)); exact hK))))
  refine wpCalm_nil ?_
  intro b1 b2 w2 hge_b1 hge_b2 hne_b1 K ha ha'
  clear hne
  have K' := (K.cons ha).cons ha'
  clear ha ha' K
  have K := K'
  clear K'
  simp only [Act.put, List.setIfInBounds_toArray, List.set_cons_zero, List.set_cons_succ]
  obtain ⟨_, sz2, h0, h1, h2, h3, h4, _⟩ := id K
  have q0 := h0.cell; have f0 := h0.frozen; have z2_0 := h0.lt
  have q1 := h1.cell; have f1 := h1.frozen; have z2_1 := h1.lt
  have q2 := h2.cell; have f2 := h2.frozen; have z2_2 := h2.lt
  have q3 := h3.cell; have f3 := h3.frozen; have z2_3 := h3.lt
  have q4 := h4.cell; have f4 := h4.frozen; have z2_4 := h4.lt
  clear h0 h1 h2 h3 h4
  go_wp2_with fail
  clear q0 f0 q1 f1 q2 f2 q3 f3 q4 f4
  have K' := ((((K).sub (l' := [(b1, #[.complex .f64 0 0, .int .i64 0]), (b2, #[.complex .f64 0 0, .int .i64 0]), (w.heap.size + 1 + 1, #[.int .i64 z0, .int .i64 z1]), (w.heap.size + 1, #[.int .i64 u, .int .i64 v, .int .i64 s]), (w.heap.size, #[.int .i64 x, .int .i64 y, .int .i64 r])]) (by simp)).set2 (v0 := .complex .f64 fx fy) (v1 := .int .i64 r) (by omega) (by simp <;> omega)).sub (l' := [(b2, #[.complex .f64 0 0, .int .i64 0]), (b1, #[.complex .f64 fx fy, .int .i64 r]), (w.heap.size + 1 + 1, #[.int .i64 z0, .int .i64 z1]), (w.heap.size + 1, #[.int .i64 u, .int .i64 v, .int .i64 s]), (w.heap.size, #[.int .i64 x, .int .i64 y, .int .i64 r])]) (by simp)).set2 (v0 := .complex .f64 fu fv) (v1 := .int .i64 s) (by omega) (by simp <;> omega)
  clear K
  have K := K'
  clear K'
  obtain ⟨_, sz3, h0, h1, h2, h3, h4, _⟩ := id K
  have z3_0 := h0.lt; have z3_1 := h1.lt; have z3_2 := h2.lt; have z3_3 := h3.lt; have z3_4 := h4.lt
  clear h0 h1 h2 h3 h4
  have hne : Hid (∃ w', Hold w.heap.size w [(b2, #[.complex .f64 fu fv, .int .i64 s]), (b1, #[.complex .f64 fx fy, .int .i64 r]), (w.heap.size + 1 + 1, #[.int .i64 z0, .int .i64 z1]), (w.heap.size + 1, #[.int .i64 u, .int .i64 v, .int .i64 s]), (w.heap.size, #[.int .i64 x, .int .i64 y, .int .i64 r])] w') := ⟨_, K.drew⟩
  refine wp_region_tail (Hold w.heap.size w [(b2, #[.complex .f64 fu fv, .int .i64 s]), (b1, #[.complex .f64 fx fy, .int .i64 r]), (w.heap.size + 1 + 1, #[.int .i64 z0, .int .i64 z1]), (w.heap.size + 1, #[.int .i64 u, .int .i64 v, .int .i64 s]), (w.heap.size, #[.int .i64 x, .int .i64 y, .int .i64 r])]) 9 14 (by kernel_rfl) (by kernel_rfl) (fun _ _ d _ _ h => by cases d <;> exact h) (Hold.lasting _ _ _) K.drew ?_
  simp only [List.take_succ_cons, List.take_zero, List.drop_succ_cons, List.drop_zero]
  clear K
  repeat (first
    | (refine calm_skip (by rfl) ?_; simp only [Act.put, List.setIfInBounds_toArray, List.set_cons_zero, List.set_cons_succ])
    | (refine calm_step hne.out (by rfl) rfl (by simp) ?_; apply Exists.intro; refine ⟨?_, ?_⟩
       · (intro r _ K hK; go_big_quiet_op; first
          | exact hK
          | (apply Exists.intro; refine ⟨fun _ hw => ?_, ?_⟩; (first
             | with_reducible exact rfl
             | with_reducible exact cm_mem hw (C0.out _)
             | with_reducible exact cm_mem hw (C1.out _)
             | with_reducible exact cm_mem hw (NU.out _)
             | with_reducible exact cm_mem hw (CT.out _)
             | (obtain ⟨_, _, h0, h1, h2, h3, h4, _⟩ := hw.s; have q0 := h0.cell; have q1 := h1.cell; have q2 := h2.cell; have q3 := h3.cell; have q4 := h4.cell; clear h0 h1 h2 h3 h4; simp [q0, q1, q2, q3, q4, go_sem]; exact rfl)); exact hK))))
  refine wpCalm_nil ?_
  intro w3 K
  clear hne
  obtain ⟨_, sz4, h0, h1, h2, h3, h4, _⟩ := id K
  have q0 := h0.cell; have f0 := h0.frozen; have z4_0 := h0.lt
  have q1 := h1.cell; have f1 := h1.frozen; have z4_1 := h1.lt
  have q2 := h2.cell; have f2 := h2.frozen; have z4_2 := h2.lt
  have q3 := h3.cell; have f3 := h3.frozen; have z4_3 := h3.lt
  have q4 := h4.cell; have f4 := h4.frozen; have z4_4 := h4.lt
  clear h0 h1 h2 h3 h4
  go_wp2_with fail
  refine (EX.out _).mono ?_
  rintro e_4 w4 ⟨rfl, hb⟩
  have K' := Hold.mem (K) hb
  clear hb K
  have K := K'
  clear K'
  clear q0 f0 q1 f1 q2 f2 q3 f3 q4 f4
  obtain ⟨_, sz5, h0, h1, h2, h3, h4, _⟩ := id K
  have q0 := h0.cell; have f0 := h0.frozen; have z5_0 := h0.lt
  have q1 := h1.cell; have f1 := h1.frozen; have z5_1 := h1.lt
  have q2 := h2.cell; have f2 := h2.frozen; have z5_2 := h2.lt
  have q3 := h3.cell; have f3 := h3.frozen; have z5_3 := h3.lt
  have q4 := h4.cell; have f4 := h4.frozen; have z5_4 := h4.lt
  clear h0 h1 h2 h3 h4
  go_wp2_with fail
  refine (C0.out _).mono ?_
  rintro e_5 w5 ⟨rfl, hb⟩
  have K' := Hold.mem (K) hb
  clear hb K
  have K := K'
  clear K'
  clear q0 f0 q1 f1 q2 f2 q3 f3 q4 f4
  obtain ⟨_, sz6, h0, h1, h2, h3, h4, _⟩ := id K
  have q0 := h0.cell; have f0 := h0.frozen; have z6_0 := h0.lt
  have q1 := h1.cell; have f1 := h1.frozen; have z6_1 := h1.lt
  have q2 := h2.cell; have f2 := h2.frozen; have z6_2 := h2.lt
  have q3 := h3.cell; have f3 := h3.frozen; have z6_3 := h3.lt
  have q4 := h4.cell; have f4 := h4.frozen; have z6_4 := h4.lt
  clear h0 h1 h2 h3 h4
  go_wp2_with fail
  refine (W0.out _).mono ?_
  rintro e_6 w6 ⟨rfl, hb⟩
  have K' := Hold.mem (K) hb
  clear hb K
  have K := K'
  clear K'
  clear q0 f0 q1 f1 q2 f2 q3 f3 q4 f4
  obtain ⟨_, sz7, h0, h1, h2, h3, h4, _⟩ := id K
  have q0 := h0.cell; have f0 := h0.frozen; have z7_0 := h0.lt
  have q1 := h1.cell; have f1 := h1.frozen; have z7_1 := h1.lt
  have q2 := h2.cell; have f2 := h2.frozen; have z7_2 := h2.lt
  have q3 := h3.cell; have f3 := h3.frozen; have z7_3 := h3.lt
  have q4 := h4.cell; have f4 := h4.frozen; have z7_4 := h4.lt
  clear h0 h1 h2 h3 h4
  go_wp2_with fail
  refine (C1.out _).mono ?_
  rintro e_7 w7 ⟨rfl, hb⟩
  have K' := Hold.mem (K) hb
  clear hb K
  have K := K'
  clear K'
  clear q0 f0 q1 f1 q2 f2 q3 f3 q4 f4
  obtain ⟨_, sz8, h0, h1, h2, h3, h4, _⟩ := id K
  have q0 := h0.cell; have f0 := h0.frozen; have z8_0 := h0.lt
  have q1 := h1.cell; have f1 := h1.frozen; have z8_1 := h1.lt
  have q2 := h2.cell; have f2 := h2.frozen; have z8_2 := h2.lt
  have q3 := h3.cell; have f3 := h3.frozen; have z8_3 := h3.lt
  have q4 := h4.cell; have f4 := h4.frozen; have z8_4 := h4.lt
  clear h0 h1 h2 h3 h4
  go_wp2_with fail
  refine (W1.out _).mono ?_
  rintro e_8 w8 ⟨rfl, hb⟩
  have K' := Hold.mem (K) hb
  clear hb K
  have K := K'
  clear K'
  clear q0 f0 q1 f1 q2 f2 q3 f3 q4 f4
  obtain ⟨_, sz9, h0, h1, h2, h3, h4, _⟩ := id K
  have q0 := h0.cell; have f0 := h0.frozen; have z9_0 := h0.lt
  have q1 := h1.cell; have f1 := h1.frozen; have z9_1 := h1.lt
  have q2 := h2.cell; have f2 := h2.frozen; have z9_2 := h2.lt
  have q3 := h3.cell; have f3 := h3.frozen; have z9_3 := h3.lt
  have q4 := h4.cell; have f4 := h4.frozen; have z9_4 := h4.lt
  clear h0 h1 h2 h3 h4
  go_wp2_with fail
  clear q0 f0 q1 f1 q2 f2 q3 f3 q4 f4
  obtain ⟨_, sz10, h0, h1, h2, h3, h4, _⟩ := id K
  have z10_0 := h0.lt; have z10_1 := h1.lt; have z10_2 := h2.lt; have z10_3 := h3.lt; have z10_4 := h4.lt
  clear h0 h1 h2 h3 h4
  have hne : Hid (∃ w', Hold w.heap.size w [(b2, #[.complex .f64 fu fv, .int .i64 s]), (b1, #[.complex .f64 fx fy, .int .i64 r]), (w.heap.size + 1 + 1, #[.int .i64 z0, .int .i64 z1]), (w.heap.size + 1, #[.int .i64 u, .int .i64 v, .int .i64 s]), (w.heap.size, #[.int .i64 x, .int .i64 y, .int .i64 r])] w') := ⟨_, K.drew⟩
  refine wp_region_tail (Hold w.heap.size w [(b2, #[.complex .f64 fu fv, .int .i64 s]), (b1, #[.complex .f64 fx fy, .int .i64 r]), (w.heap.size + 1 + 1, #[.int .i64 z0, .int .i64 z1]), (w.heap.size + 1, #[.int .i64 u, .int .i64 v, .int .i64 s]), (w.heap.size, #[.int .i64 x, .int .i64 y, .int .i64 r])]) 18 18 (by kernel_rfl) (by kernel_rfl) (fun _ _ d _ _ h => by cases d <;> exact h) (Hold.lasting _ _ _) K.drew ?_
  simp only [List.take_succ_cons, List.take_zero, List.drop_succ_cons, List.drop_zero]
  clear K
  repeat (first
    | (refine calm_skip (by rfl) ?_; simp only [Act.put, List.setIfInBounds_toArray, List.set_cons_zero, List.set_cons_succ])
    | (refine calm_step hne.out (by rfl) rfl (by simp) ?_; apply Exists.intro; refine ⟨?_, ?_⟩
       · (intro r _ K hK; go_big_quiet_op; first
          | exact hK
          | (apply Exists.intro; refine ⟨fun _ hw => ?_, ?_⟩; (first
             | with_reducible exact rfl
             | (obtain ⟨_, _, h0, h1, h2, h3, h4, _⟩ := hw.s; have q0 := h0.cell; have q1 := h1.cell; have q2 := h2.cell; have q3 := h3.cell; have q4 := h4.cell; clear h0 h1 h2 h3 h4; simp [q0, q1, q2, q3, q4, go_sem]; exact rfl)); exact hK))))
  refine wpCalm_nil ?_
  intro w9 K
  clear hne
  obtain ⟨_, sz11, h0, h1, h2, h3, h4, _⟩ := id K
  have q0 := h0.cell; have f0 := h0.frozen; have z11_0 := h0.lt
  have q1 := h1.cell; have f1 := h1.frozen; have z11_1 := h1.lt
  have q2 := h2.cell; have f2 := h2.frozen; have z11_2 := h2.lt
  have q3 := h3.cell; have f3 := h3.frozen; have z11_3 := h3.lt
  have q4 := h4.cell; have f4 := h4.frozen; have z11_4 := h4.lt
  clear h0 h1 h2 h3 h4
  go_wp2_with fail
  refine (ME.out _).mono ?_
  rintro e_10 w10 ⟨rfl, hb⟩
  have K' := Hold.mem (K) hb
  clear hb K
  have K := K'
  clear K'
  clear q0 f0 q1 f1 q2 f2 q3 f3 q4 f4
  obtain ⟨_, sz12, h0, h1, h2, h3, h4, _⟩ := id K
  have q0 := h0.cell; have f0 := h0.frozen; have z12_0 := h0.lt
  have q1 := h1.cell; have f1 := h1.frozen; have z12_1 := h1.lt
  have q2 := h2.cell; have f2 := h2.frozen; have z12_2 := h2.lt
  have q3 := h3.cell; have f3 := h3.frozen; have z12_3 := h3.lt
  have q4 := h4.cell; have f4 := h4.frozen; have z12_4 := h4.lt
  clear h0 h1 h2 h3 h4
  go_wp2_with fail
  refine (IN.out _).mono ?_
  rintro e_11 w11 ⟨rfl, hb⟩
  have K' := Hold.mem (K) hb
  clear hb K
  have K := K'
  clear K'
  clear q0 f0 q1 f1 q2 f2 q3 f3 q4 f4
  obtain ⟨_, sz13, h0, h1, h2, h3, h4, _⟩ := id K
  have q0 := h0.cell; have f0 := h0.frozen; have z13_0 := h0.lt
  have q1 := h1.cell; have f1 := h1.frozen; have z13_1 := h1.lt
  have q2 := h2.cell; have f2 := h2.frozen; have z13_2 := h2.lt
  have q3 := h3.cell; have f3 := h3.frozen; have z13_3 := h3.lt
  have q4 := h4.cell; have f4 := h4.frozen; have z13_4 := h4.lt
  clear h0 h1 h2 h3 h4
  go_wp2_with fail
  refine (HU.out _).mono ?_
  rintro e_12 w12 ⟨rfl, hb⟩
  have K' := Hold.mem (K) hb
  clear hb K
  have K := K'
  clear K'
  clear q0 f0 q1 f1 q2 f2 q3 f3 q4 f4
  obtain ⟨_, sz14, h0, h1, h2, h3, h4, _⟩ := id K
  have q0 := h0.cell; have f0 := h0.frozen; have z14_0 := h0.lt
  have q1 := h1.cell; have f1 := h1.frozen; have z14_1 := h1.lt
  have q2 := h2.cell; have f2 := h2.frozen; have z14_2 := h2.lt
  have q3 := h3.cell; have f3 := h3.frozen; have z14_3 := h3.lt
  have q4 := h4.cell; have f4 := h4.frozen; have z14_4 := h4.lt
  clear h0 h1 h2 h3 h4
  go_wp2_with fail
  refine (TW.out _).mono ?_
  rintro e_13 w13 ⟨rfl, hb⟩
  have K' := Hold.mem ((K).new #[.complex .f64 fH gH, .int .i64 R] 27 (n := w12.heap.size) (by first | rfl | (simp <;> omega))) hb
  clear hb K
  have K := K'
  clear K'
  clear q0 f0 q1 f1 q2 f2 q3 f3 q4 f4
  obtain ⟨_, sz15, h0, h1, h2, h3, h4, h5, _⟩ := id K
  have q0 := h0.cell; have f0 := h0.frozen; have z15_0 := h0.lt
  have q1 := h1.cell; have f1 := h1.frozen; have z15_1 := h1.lt
  have q2 := h2.cell; have f2 := h2.frozen; have z15_2 := h2.lt
  have q3 := h3.cell; have f3 := h3.frozen; have z15_3 := h3.lt
  have q4 := h4.cell; have f4 := h4.frozen; have z15_4 := h4.lt
  have q5 := h5.cell; have f5 := h5.frozen; have z15_5 := h5.lt
  clear h0 h1 h2 h3 h4 h5
  go_wp2_with fail
  clear q0 f0 q1 f1 q2 f2 q3 f3 q4 f4 q5 f5
  obtain ⟨_, sz16, h0, h1, h2, h3, h4, h5, _⟩ := id K
  have z16_0 := h0.lt; have z16_1 := h1.lt; have z16_2 := h2.lt; have z16_3 := h3.lt; have z16_4 := h4.lt; have z16_5 := h5.lt
  clear h0 h1 h2 h3 h4 h5
  have hne : Hid (∃ w', Hold w.heap.size w [(w12.heap.size, #[.complex .f64 fH gH, .int .i64 R]), (b2, #[.complex .f64 fu fv, .int .i64 s]), (b1, #[.complex .f64 fx fy, .int .i64 r]), (w.heap.size + 1 + 1, #[.int .i64 z0, .int .i64 z1]), (w.heap.size + 1, #[.int .i64 u, .int .i64 v, .int .i64 s]), (w.heap.size, #[.int .i64 x, .int .i64 y, .int .i64 r])] w') := ⟨_, K.drew⟩
  refine wp_region_float (Hold w.heap.size w [(w12.heap.size, #[.complex .f64 fH gH, .int .i64 R]), (b2, #[.complex .f64 fu fv, .int .i64 s]), (b1, #[.complex .f64 fx fy, .int .i64 r]), (w.heap.size + 1 + 1, #[.int .i64 z0, .int .i64 z1]), (w.heap.size + 1, #[.int .i64 u, .int .i64 v, .int .i64 s]), (w.heap.size, #[.int .i64 x, .int .i64 y, .int .i64 r])]) 5 8 19 (by kernel_rfl) (by kernel_rfl) (fun _ _ d _ _ h => by cases d <;> exact h) (Hold.lasting _ _ _) K.drew (c := #[.int .i64 0, .int .i64 0, .int .i64 0]) rfl ⟨rfl, rfl, fun _ _ => ⟨_, by go_simp; exact rfl⟩⟩ ?_
  simp only [List.take_succ_cons, List.take_zero, List.drop_succ_cons, List.drop_zero]
  clear K
  repeat (first
    | (refine calm_skip (by rfl) ?_; simp only [Act.put, List.setIfInBounds_toArray, List.set_cons_zero, List.set_cons_succ])
    | (refine calm_step hne.out (by rfl) rfl (by simp) ?_; apply Exists.intro; refine ⟨?_, ?_⟩
       · (intro r _ K hK; go_big_quiet_op; first
          | exact hK
          | (apply Exists.intro; refine ⟨fun _ hw => ?_, ?_⟩; (first
             | with_reducible exact rfl
             | with_reducible exact cm_mem hw (OX.out _)
             | with_reducible exact cm_mem hw (OY.out _)
             | with_reducible exact cm_mem hw (RH.out _)
             | (obtain ⟨_, _, h0, h1, h2, h3, h4, h5, _⟩ := hw.s; have q0 := h0.cell; have q1 := h1.cell; have q2 := h2.cell; have q3 := h3.cell; have q4 := h4.cell; have q5 := h5.cell; clear h0 h1 h2 h3 h4 h5; simp [q0, q1, q2, q3, q4, q5, go_sem]; exact rfl)); exact hK))))
  refine wpCalm_nil ?_
  intro b3 w14 hge_b3 K ha
  clear hne
  have K' := K.cons ha
  clear ha K
  have K := K'
  clear K'
  simp only [Act.put, List.setIfInBounds_toArray, List.set_cons_zero, List.set_cons_succ]
  obtain ⟨_, sz17, h0, h1, h2, h3, h4, h5, h6, _⟩ := id K
  have q0 := h0.cell; have f0 := h0.frozen; have z17_0 := h0.lt
  have q1 := h1.cell; have f1 := h1.frozen; have z17_1 := h1.lt
  have q2 := h2.cell; have f2 := h2.frozen; have z17_2 := h2.lt
  have q3 := h3.cell; have f3 := h3.frozen; have z17_3 := h3.lt
  have q4 := h4.cell; have f4 := h4.frozen; have z17_4 := h4.lt
  have q5 := h5.cell; have f5 := h5.frozen; have z17_5 := h5.lt
  have q6 := h6.cell; have f6 := h6.frozen; have z17_6 := h6.lt
  clear h0 h1 h2 h3 h4 h5 h6
  go_wp2_with fail
  clear q0 f0 q1 f1 q2 f2 q3 f3 q4 f4 q5 f5 q6 f6
  have K' := (K).set3 (v0 := .int .i64 X) (v1 := .int .i64 Y) (v2 := .int .i64 R) (by omega) (by simp <;> omega)
  clear K
  have K := K'
  clear K'
  obtain ⟨_, sz18, h0, h1, h2, h3, h4, h5, h6, _⟩ := id K
  have z18_0 := h0.lt; have z18_1 := h1.lt; have z18_2 := h2.lt; have z18_3 := h3.lt; have z18_4 := h4.lt; have z18_5 := h5.lt; have z18_6 := h6.lt
  clear h0 h1 h2 h3 h4 h5 h6
  have hne : Hid (∃ w', Hold w.heap.size w [(b3, #[.int .i64 X, .int .i64 Y, .int .i64 R]), (w12.heap.size, #[.complex .f64 fH gH, .int .i64 R]), (b2, #[.complex .f64 fu fv, .int .i64 s]), (b1, #[.complex .f64 fx fy, .int .i64 r]), (w.heap.size + 1 + 1, #[.int .i64 z0, .int .i64 z1]), (w.heap.size + 1, #[.int .i64 u, .int .i64 v, .int .i64 s]), (w.heap.size, #[.int .i64 x, .int .i64 y, .int .i64 r])] w') := ⟨_, K.drew⟩
  refine wp_region_tail (Hold w.heap.size w [(b3, #[.int .i64 X, .int .i64 Y, .int .i64 R]), (w12.heap.size, #[.complex .f64 fH gH, .int .i64 R]), (b2, #[.complex .f64 fu fv, .int .i64 s]), (b1, #[.complex .f64 fx fy, .int .i64 r]), (w.heap.size + 1 + 1, #[.int .i64 z0, .int .i64 z1]), (w.heap.size + 1, #[.int .i64 u, .int .i64 v, .int .i64 s]), (w.heap.size, #[.int .i64 x, .int .i64 y, .int .i64 r])]) 32 32 (by kernel_rfl) (by kernel_rfl) (fun _ _ d _ _ h => by cases d <;> exact h) (Hold.lasting _ _ _) K.drew ?_
  simp only [List.take_succ_cons, List.take_zero, List.drop_succ_cons, List.drop_zero]
  clear K
  repeat (first
    | (refine calm_skip (by rfl) ?_; simp only [Act.put, List.setIfInBounds_toArray, List.set_cons_zero, List.set_cons_succ])
    | (refine calm_step hne.out (by rfl) rfl (by simp) ?_; apply Exists.intro; refine ⟨?_, ?_⟩
       · (intro r _ K hK; go_big_quiet_op; first
          | exact hK
          | (apply Exists.intro; refine ⟨fun _ hw => ?_, ?_⟩; (first
             | with_reducible exact rfl
             | with_reducible exact cm_mem hw (OX.out _)
             | with_reducible exact cm_mem hw (OY.out _)
             | with_reducible exact cm_mem hw (RM.out _)
             | with_reducible exact cm_mem hw (RI.out _)
             | with_reducible exact cm_mem hw (IH.out _)
             | (obtain ⟨_, _, h0, h1, h2, h3, h4, h5, h6, _⟩ := hw.s; have q0 := h0.cell; have q1 := h1.cell; have q2 := h2.cell; have q3 := h3.cell; have q4 := h4.cell; have q5 := h5.cell; have q6 := h6.cell; clear h0 h1 h2 h3 h4 h5 h6; simp [q0, q1, q2, q3, q4, q5, q6, go_sem]; exact rfl)); exact hK))))
  refine wpCalm_nil ?_
  intro w15 K
  clear hne
  obtain ⟨_, sz19, h0, h1, h2, h3, h4, h5, h6, _⟩ := id K
  have q0 := h0.cell; have f0 := h0.frozen; have z19_0 := h0.lt
  have q1 := h1.cell; have f1 := h1.frozen; have z19_1 := h1.lt
  have q2 := h2.cell; have f2 := h2.frozen; have z19_2 := h2.lt
  have q3 := h3.cell; have f3 := h3.frozen; have z19_3 := h3.lt
  have q4 := h4.cell; have f4 := h4.frozen; have z19_4 := h4.lt
  have q5 := h5.cell; have f5 := h5.frozen; have z19_5 := h5.lt
  have q6 := h6.cell; have f6 := h6.frozen; have z19_6 := h6.lt
  clear h0 h1 h2 h3 h4 h5 h6
  go_wp2_with fail
  refine (KA.out _).mono ?_
  rintro e_16 w16 ⟨rfl, hb⟩
  have K' := Hold.mem (K) hb
  clear hb K
  have K := K'
  clear K'
  clear q0 f0 q1 f1 q2 f2 q3 f3 q4 f4 q5 f5 q6 f6
  obtain ⟨_, sz20, h0, h1, h2, h3, h4, h5, h6, _⟩ := id K
  have q0 := h0.cell; have f0 := h0.frozen; have z20_0 := h0.lt
  have q1 := h1.cell; have f1 := h1.frozen; have z20_1 := h1.lt
  have q2 := h2.cell; have f2 := h2.frozen; have z20_2 := h2.lt
  have q3 := h3.cell; have f3 := h3.frozen; have z20_3 := h3.lt
  have q4 := h4.cell; have f4 := h4.frozen; have z20_4 := h4.lt
  have q5 := h5.cell; have f5 := h5.frozen; have z20_5 := h5.lt
  have q6 := h6.cell; have f6 := h6.frozen; have z20_6 := h6.lt
  clear h0 h1 h2 h3 h4 h5 h6
  go_wp2_with fail
  refine (KB.out _).mono ?_
  rintro e_17 w17 ⟨rfl, hb⟩
  have K' := Hold.mem (K) hb
  clear hb K
  have K := K'
  clear K'
  clear q0 f0 q1 f1 q2 f2 q3 f3 q4 f4 q5 f5 q6 f6
  obtain ⟨_, sz21, h0, h1, h2, h3, h4, h5, h6, _⟩ := id K
  have q0 := h0.cell; have f0 := h0.frozen; have z21_0 := h0.lt
  have q1 := h1.cell; have f1 := h1.frozen; have z21_1 := h1.lt
  have q2 := h2.cell; have f2 := h2.frozen; have z21_2 := h2.lt
  have q3 := h3.cell; have f3 := h3.frozen; have z21_3 := h3.lt
  have q4 := h4.cell; have f4 := h4.frozen; have z21_4 := h4.lt
  have q5 := h5.cell; have f5 := h5.frozen; have z21_5 := h5.lt
  have q6 := h6.cell; have f6 := h6.frozen; have z21_6 := h6.lt
  clear h0 h1 h2 h3 h4 h5 h6
  go_wp2_with fail
  go_ret
  exact ⟨rfl, (K).below⟩

end Go.Proofs.Ythkooiopiaakbaa
