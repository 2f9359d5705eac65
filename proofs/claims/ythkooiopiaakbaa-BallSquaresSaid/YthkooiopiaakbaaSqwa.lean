/- The statement on squares answers true: its walks. -/
import Derived.Test.YthkooiopiaakbaaHlda
import Derived.Test.YthkooiopiaakbaaAwake
namespace Go.Proofs.Ythkooiopiaakbaa
open Go.RowKit Go.Lib
attribute [local go_sem] run_store_float run_store_complex
set_option linter.unusedVariables false

set_option maxRecDepth 100000 in
set_option maxHeartbeats 4000000 in
theorem sq_n1 {x y r u v s : Int}
    (N1 : Hid (∀ w, Calls Try.prog 47 #[.agg #[.int .i64 x, .int .i64 y, .int .i64 r]] w (Mem (.bool false) w))) (w : World) :
    Calls Try.prog 14 #[.agg #[.int .i64 x, .int .i64 y, .int .i64 r], .agg #[.int .i64 u, .int .i64 v, .int .i64 s]] w (Mem (.bool true) w) := by
  have HA := Lib.hid (fun w => awake_any w)
  go_enter Try.func14, Try.ntmps14
  go_wp2_with fail
  have K := ((Hold.start w).new #[.int .i64 x, .int .i64 y, .int .i64 r] 39 (n := w.heap.size) (by simp)).new #[.int .i64 u, .int .i64 v, .int .i64 s] 39 (n := w.heap.size + 1) (by simp)
  refine (HA.out _).mono ?_
  rintro e_1 w1 ⟨rfl, hb⟩
  have K' := Hold.mem (K) hb
  clear hb K
  have K := K'
  clear K'
  obtain ⟨_, sz1, _, h1, _⟩ := id K
  have q1 := h1.cell; have f1 := h1.frozen; have z1 := h1.lt
  clear h1
  go_wp2_with fail
  refine (N1.out _).mono ?_
  rintro e_2 w2 ⟨rfl, hb⟩
  have K' := Hold.mem (K) hb
  clear hb K
  have K := K'
  clear K'
  clear q1 f1 z1 sz1
  obtain ⟨_, sz2, h0, _, _⟩ := id K
  have q0 := h0.cell; have f0 := h0.frozen; have z0 := h0.lt
  clear h0
  go_wp2_with fail
  go_ret
  exact ⟨rfl, (K).below⟩

set_option maxRecDepth 100000 in
set_option maxHeartbeats 4000000 in
theorem sq_n2 {x y r u v s : Int}
    (N1 : Hid (∀ w, Calls Try.prog 47 #[.agg #[.int .i64 x, .int .i64 y, .int .i64 r]] w (Mem (.bool true) w)))
    (N2 : Hid (∀ w, Calls Try.prog 47 #[.agg #[.int .i64 u, .int .i64 v, .int .i64 s]] w (Mem (.bool false) w))) (w : World) :
    Calls Try.prog 14 #[.agg #[.int .i64 x, .int .i64 y, .int .i64 r], .agg #[.int .i64 u, .int .i64 v, .int .i64 s]] w (Mem (.bool true) w) := by
  have HA := Lib.hid (fun w => awake_any w)
  go_enter Try.func14, Try.ntmps14
  go_wp2_with fail
  have K := ((Hold.start w).new #[.int .i64 x, .int .i64 y, .int .i64 r] 39 (n := w.heap.size) (by simp)).new #[.int .i64 u, .int .i64 v, .int .i64 s] 39 (n := w.heap.size + 1) (by simp)
  refine (HA.out _).mono ?_
  rintro e_1 w1 ⟨rfl, hb⟩
  have K' := Hold.mem (K) hb
  clear hb K
  have K := K'
  clear K'
  obtain ⟨_, sz1, _, h1, _⟩ := id K
  have q1 := h1.cell; have f1 := h1.frozen; have z1 := h1.lt
  clear h1
  go_wp2_with fail
  refine (N1.out _).mono ?_
  rintro e_2 w2 ⟨rfl, hb⟩
  have K' := Hold.mem (K) hb
  clear hb K
  have K := K'
  clear K'
  clear q1 f1 z1 sz1
  obtain ⟨_, sz2, h0, _, _⟩ := id K
  have q0 := h0.cell; have f0 := h0.frozen; have z0 := h0.lt
  clear h0
  go_wp2_with fail
  refine (N2.out _).mono ?_
  rintro e_3 w3 ⟨rfl, hb⟩
  have K' := Hold.mem (K) hb
  clear hb K
  have K := K'
  clear K'
  clear q0 f0 z0 sz2
  obtain ⟨_, sz3, _, h1, _⟩ := id K
  have q1 := h1.cell; have f1 := h1.frozen; have z1 := h1.lt
  clear h1
  go_wp2_with fail
  go_ret
  exact ⟨rfl, (K).below⟩

set_option maxRecDepth 100000 in
set_option maxHeartbeats 4000000 in
theorem sq_nn {x y r u v s RR RP RQ e g : Int} {fx fy fu fv fR gR fP gP fQ gQ : Nat} (he : e ≠ 0) (hg : g ≠ 0)
    (N1 : Hid (∀ w, Calls Try.prog 47 #[.agg #[.int .i64 x, .int .i64 y, .int .i64 r]] w (Mem (.bool true) w)))
    (N2 : Hid (∀ w, Calls Try.prog 47 #[.agg #[.int .i64 u, .int .i64 v, .int .i64 s]] w (Mem (.bool true) w)))
    (BX : Hid (∀ w, Calls Try.prog 23 #[.agg #[.int .i64 x, .int .i64 y, .int .i64 r]] w (Mem (.agg #[.complex .f64 fx fy, .int .i64 r]) w)))
    (BY : Hid (∀ w, Calls Try.prog 23 #[.agg #[.int .i64 u, .int .i64 v, .int .i64 s]] w (Mem (.agg #[.complex .f64 fu fv, .int .i64 s]) w)))
    (RT : Hid (∀ w, Calls Try.prog 43 #[.agg #[.complex .f64 fx fy, .int .i64 r]] w (Mem (.tuple #[.agg #[.complex .f64 fR gR, .int .i64 RR], .int .i64 e]) w)))
    (TM : Hid (∀ w, Calls Try.prog 37 #[.agg #[.complex .f64 fx fy, .int .i64 r], .agg #[.complex .f64 fu fv, .int .i64 s]] w (Mem (.tuple #[.agg #[.complex .f64 fP gP, .int .i64 RP], .int .i64 0]) w)))
    (QU : Hid (∀ w, Calls Try.prog 41 #[.agg #[.complex .f64 fP gP, .int .i64 RP], .agg #[.complex .f64 fu fv, .int .i64 s]] w (Mem (.tuple #[.agg #[.complex .f64 fQ gQ, .int .i64 RQ], .int .i64 g]) w))) (w : World) :
    Calls Try.prog 14 #[.agg #[.int .i64 x, .int .i64 y, .int .i64 r], .agg #[.int .i64 u, .int .i64 v, .int .i64 s]] w (Mem (.bool true) w) := by
  have HA := Lib.hid (fun w => awake_any w)
  have e1 : (e == 0) = false := by simpa using he
  clear he
  have g1 : (g != 0) = true := by simpa using hg
  have g2 : (g == 0) = false := by simpa using hg
  clear hg
  go_enter Try.func14, Try.ntmps14
  go_wp2_with fail
  have K := ((Hold.start w).new #[.int .i64 x, .int .i64 y, .int .i64 r] 39 (n := w.heap.size) (by simp)).new #[.int .i64 u, .int .i64 v, .int .i64 s] 39 (n := w.heap.size + 1) (by simp)
  refine (HA.out _).mono ?_
  rintro e_1 w1 ⟨rfl, hb⟩
  have K' := Hold.mem (K) hb
  clear hb K
  have K := K'
  clear K'
  obtain ⟨_, sz1, _, h1, _⟩ := id K
  have q1 := h1.cell; have f1 := h1.frozen; have z1 := h1.lt
  clear h1
  go_wp2_with fail
  refine (N1.out _).mono ?_
  rintro e_2 w2 ⟨rfl, hb⟩
  have K' := Hold.mem (K) hb
  clear hb K
  have K := K'
  clear K'
  clear q1 f1 z1 sz1
  obtain ⟨_, sz2, h0, _, _⟩ := id K
  have q0 := h0.cell; have f0 := h0.frozen; have z0 := h0.lt
  clear h0
  go_wp2_with fail
  refine (N2.out _).mono ?_
  rintro e_3 w3 ⟨rfl, hb⟩
  have K' := Hold.mem (K) hb
  clear hb K
  have K := K'
  clear K'
  clear q0 f0 z0 sz2
  obtain ⟨_, sz3, _, h1, _⟩ := id K
  have q1 := h1.cell; have f1 := h1.frozen; have z1 := h1.lt
  clear h1
  go_wp2_with fail
  refine (BX.out _).mono ?_
  rintro e_4 w4 ⟨rfl, hb⟩
  have K' := Hold.mem (K) hb
  clear hb K
  have K := K'
  clear K'
  clear q1 f1 z1 sz3
  obtain ⟨_, sz4, _, h1, _⟩ := id K
  have q1 := h1.cell; have f1 := h1.frozen; have z1 := h1.lt
  clear h1
  go_wp2_with fail
  refine (RT.out _).mono ?_
  rintro e_5 w5 ⟨rfl, hb⟩
  have K' := Hold.mem (K) hb
  clear hb K
  have K := K'
  clear K'
  clear q1 f1 z1 sz4
  obtain ⟨_, sz5, _, h1, _⟩ := id K
  have q1 := h1.cell; have f1 := h1.frozen; have z1 := h1.lt
  clear h1
  go_wp2_with fail
  clear q1 f1 z1 sz5
  have K' := (K).new #[.complex .f64 fR gR, .int .i64 RR] 27 (n := w5.heap.size) (by first | rfl | (simp <;> omega))
  clear K
  have K := K'
  clear K'
  obtain ⟨_, sz6, h0, h1, h2, _⟩ := id K
  have z6_0 := h0.lt; have z6_1 := h1.lt; have z6_2 := h2.lt
  clear h0 h1 h2
  have hne : Hid (∃ w', Hold w.heap.size w [(w5.heap.size, #[.complex .f64 fR gR, .int .i64 RR]), (w.heap.size + 1, #[.int .i64 u, .int .i64 v, .int .i64 s]), (w.heap.size, #[.int .i64 x, .int .i64 y, .int .i64 r])] w') := ⟨_, K.drew⟩
  refine wp_region_float (Hold w.heap.size w [(w5.heap.size, #[.complex .f64 fR gR, .int .i64 RR]), (w.heap.size + 1, #[.int .i64 u, .int .i64 v, .int .i64 s]), (w.heap.size, #[.int .i64 x, .int .i64 y, .int .i64 r])]) 5 8 11 (by kernel_rfl) (by kernel_rfl) (fun _ _ d _ _ h => by cases d <;> exact h) (Hold.lasting _ _ _) K.drew (c := #[.complex .f64 0 0, .int .i64 0]) rfl ⟨rfl, rfl, fun _ _ => ⟨_, by go_simp; exact rfl⟩⟩ ?_
  simp only [List.take_succ_cons, List.take_zero, List.drop_succ_cons, List.drop_zero]
  clear K
  repeat (first
    | (refine calm_skip (by rfl) ?_; simp only [Act.put, List.setIfInBounds_toArray, List.set_cons_zero, List.set_cons_succ])
    | (refine calm_step hne.out (by rfl) rfl (by simp) ?_; apply Exists.intro; refine ⟨?_, ?_⟩
       · (intro r _ K hK; go_big_quiet_op; first
          | exact hK
          | (apply Exists.intro; refine ⟨fun _ hw => ?_, ?_⟩; (first
             | with_reducible exact rfl
             | with_reducible exact cm_mem hw (BX.out _)
             | with_reducible exact cm_mem hw (BY.out _)
             | with_reducible exact cm_mem hw (TM.out _)
             | (obtain ⟨_, _, h0, h1, h2, _⟩ := hw.s; have q0 := h0.cell; have q1 := h1.cell; have q2 := h2.cell; clear h0 h1 h2; simp [q0, q1, q2, go_sem]; exact rfl)); exact hK))))
  refine wpCalm_nil ?_
  intro b2 w6 hge_b2 K ha
  clear hne
  have K' := K.cons ha
  clear ha K
  have K := K'
  clear K'
  simp only [Act.put, List.setIfInBounds_toArray, List.set_cons_zero, List.set_cons_succ]
  obtain ⟨_, sz7, h0, h1, h2, h3, _⟩ := id K
  have q0 := h0.cell; have f0 := h0.frozen; have z7_0 := h0.lt
  have q1 := h1.cell; have f1 := h1.frozen; have z7_1 := h1.lt
  have q2 := h2.cell; have f2 := h2.frozen; have z7_2 := h2.lt
  have q3 := h3.cell; have f3 := h3.frozen; have z7_3 := h3.lt
  clear h0 h1 h2 h3
  go_wp2_with fail
  clear q0 f0 q1 f1 q2 f2 q3 f3
  have K' := (K).set2 (v0 := .complex .f64 fP gP) (v1 := .int .i64 RP) (by omega) (by simp <;> omega)
  clear K
  have K := K'
  clear K'
  obtain ⟨_, sz8, h0, h1, h2, h3, _⟩ := id K
  have z8_0 := h0.lt; have z8_1 := h1.lt; have z8_2 := h2.lt; have z8_3 := h3.lt
  clear h0 h1 h2 h3
  have hne : Hid (∃ w', Hold w.heap.size w [(b2, #[.complex .f64 fP gP, .int .i64 RP]), (w5.heap.size, #[.complex .f64 fR gR, .int .i64 RR]), (w.heap.size + 1, #[.int .i64 u, .int .i64 v, .int .i64 s]), (w.heap.size, #[.int .i64 x, .int .i64 y, .int .i64 r])] w') := ⟨_, K.drew⟩
  refine wp_region_float (Hold w.heap.size w [(b2, #[.complex .f64 fP gP, .int .i64 RP]), (w5.heap.size, #[.complex .f64 fR gR, .int .i64 RR]), (w.heap.size + 1, #[.int .i64 u, .int .i64 v, .int .i64 s]), (w.heap.size, #[.int .i64 x, .int .i64 y, .int .i64 r])]) 4 7 13 (by kernel_rfl) (by kernel_rfl) (fun _ _ d _ _ h => by cases d <;> exact h) (Hold.lasting _ _ _) K.drew (c := #[.complex .f64 0 0, .int .i64 0]) rfl ⟨rfl, rfl, fun _ _ => ⟨_, by go_simp; exact rfl⟩⟩ ?_
  simp only [List.take_succ_cons, List.take_zero, List.drop_succ_cons, List.drop_zero]
  clear K
  repeat (first
    | (refine calm_skip (by rfl) ?_; simp only [Act.put, List.setIfInBounds_toArray, List.set_cons_zero, List.set_cons_succ])
    | (refine calm_step hne.out (by rfl) rfl (by simp) ?_; apply Exists.intro; refine ⟨?_, ?_⟩
       · (intro r _ K hK; go_big_quiet_op; first
          | exact hK
          | (apply Exists.intro; refine ⟨fun _ hw => ?_, ?_⟩; (first
             | with_reducible exact rfl
             | with_reducible exact cm_mem hw (BY.out _)
             | with_reducible exact cm_mem hw (QU.out _)
             | (obtain ⟨_, _, h0, h1, h2, h3, _⟩ := hw.s; have q0 := h0.cell; have q1 := h1.cell; have q2 := h2.cell; have q3 := h3.cell; clear h0 h1 h2 h3; simp [q0, q1, q2, q3, go_sem]; exact rfl)); exact hK))))
  refine wpCalm_nil ?_
  intro b3 w7 hge_b3 K ha
  clear hne
  have K' := K.cons ha
  clear ha K
  have K := K'
  clear K'
  simp only [Act.put, List.setIfInBounds_toArray, List.set_cons_zero, List.set_cons_succ]
  obtain ⟨_, sz9, h0, h1, h2, h3, h4, _⟩ := id K
  have q0 := h0.cell; have f0 := h0.frozen; have z9_0 := h0.lt
  have q1 := h1.cell; have f1 := h1.frozen; have z9_1 := h1.lt
  have q2 := h2.cell; have f2 := h2.frozen; have z9_2 := h2.lt
  have q3 := h3.cell; have f3 := h3.frozen; have z9_3 := h3.lt
  have q4 := h4.cell; have f4 := h4.frozen; have z9_4 := h4.lt
  clear h0 h1 h2 h3 h4
  go_wp2_with fail
  go_ret
  exact ⟨rfl, ((K).set2 (v0 := .complex .f64 fQ gQ) (v1 := .int .i64 RQ) (by omega) (by simp <;> omega)).below⟩

set_option maxRecDepth 100000 in
set_option maxHeartbeats 4000000 in
theorem sq_ny {x y r u v s RR RP RQ e : Int} {fx fy fu fv fR gR fP gP fQ gQ : Nat} (he : e ≠ 0)
    (N1 : Hid (∀ w, Calls Try.prog 47 #[.agg #[.int .i64 x, .int .i64 y, .int .i64 r]] w (Mem (.bool true) w)))
    (N2 : Hid (∀ w, Calls Try.prog 47 #[.agg #[.int .i64 u, .int .i64 v, .int .i64 s]] w (Mem (.bool true) w)))
    (BX : Hid (∀ w, Calls Try.prog 23 #[.agg #[.int .i64 x, .int .i64 y, .int .i64 r]] w (Mem (.agg #[.complex .f64 fx fy, .int .i64 r]) w)))
    (BY : Hid (∀ w, Calls Try.prog 23 #[.agg #[.int .i64 u, .int .i64 v, .int .i64 s]] w (Mem (.agg #[.complex .f64 fu fv, .int .i64 s]) w)))
    (RT : Hid (∀ w, Calls Try.prog 43 #[.agg #[.complex .f64 fx fy, .int .i64 r]] w (Mem (.tuple #[.agg #[.complex .f64 fR gR, .int .i64 RR], .int .i64 e]) w)))
    (TM : Hid (∀ w, Calls Try.prog 37 #[.agg #[.complex .f64 fx fy, .int .i64 r], .agg #[.complex .f64 fu fv, .int .i64 s]] w (Mem (.tuple #[.agg #[.complex .f64 fP gP, .int .i64 RP], .int .i64 0]) w)))
    (QU : Hid (∀ w, Calls Try.prog 41 #[.agg #[.complex .f64 fP gP, .int .i64 RP], .agg #[.complex .f64 fu fv, .int .i64 s]] w (Mem (.tuple #[.agg #[.complex .f64 fQ gQ, .int .i64 RQ], .int .i64 0]) w)))
    (M2 : Hid (∀ w, Calls Try.prog 53 #[.agg #[.complex .f64 fQ gQ, .int .i64 RQ], .agg #[.complex .f64 fx fy, .int .i64 r]] w (Mem (.tuple #[.bool true, .int .i64 0]) w))) (w : World) :
    Calls Try.prog 14 #[.agg #[.int .i64 x, .int .i64 y, .int .i64 r], .agg #[.int .i64 u, .int .i64 v, .int .i64 s]] w (Mem (.bool true) w) := by
  have HA := Lib.hid (fun w => awake_any w)
  have e1 : (e == 0) = false := by simpa using he
  clear he
  go_enter Try.func14, Try.ntmps14
  go_wp2_with fail
  have K := ((Hold.start w).new #[.int .i64 x, .int .i64 y, .int .i64 r] 39 (n := w.heap.size) (by simp)).new #[.int .i64 u, .int .i64 v, .int .i64 s] 39 (n := w.heap.size + 1) (by simp)
  refine (HA.out _).mono ?_
  rintro e_1 w1 ⟨rfl, hb⟩
  have K' := Hold.mem (K) hb
  clear hb K
  have K := K'
  clear K'
  obtain ⟨_, sz1, _, h1, _⟩ := id K
  have q1 := h1.cell; have f1 := h1.frozen; have z1 := h1.lt
  clear h1
  go_wp2_with fail
  refine (N1.out _).mono ?_
  rintro e_2 w2 ⟨rfl, hb⟩
  have K' := Hold.mem (K) hb
  clear hb K
  have K := K'
  clear K'
  clear q1 f1 z1 sz1
  obtain ⟨_, sz2, h0, _, _⟩ := id K
  have q0 := h0.cell; have f0 := h0.frozen; have z0 := h0.lt
  clear h0
  go_wp2_with fail
  refine (N2.out _).mono ?_
  rintro e_3 w3 ⟨rfl, hb⟩
  have K' := Hold.mem (K) hb
  clear hb K
  have K := K'
  clear K'
  clear q0 f0 z0 sz2
  obtain ⟨_, sz3, _, h1, _⟩ := id K
  have q1 := h1.cell; have f1 := h1.frozen; have z1 := h1.lt
  clear h1
  go_wp2_with fail
  refine (BX.out _).mono ?_
  rintro e_4 w4 ⟨rfl, hb⟩
  have K' := Hold.mem (K) hb
  clear hb K
  have K := K'
  clear K'
  clear q1 f1 z1 sz3
  obtain ⟨_, sz4, _, h1, _⟩ := id K
  have q1 := h1.cell; have f1 := h1.frozen; have z1 := h1.lt
  clear h1
  go_wp2_with fail
  refine (RT.out _).mono ?_
  rintro e_5 w5 ⟨rfl, hb⟩
  have K' := Hold.mem (K) hb
  clear hb K
  have K := K'
  clear K'
  clear q1 f1 z1 sz4
  obtain ⟨_, sz5, _, h1, _⟩ := id K
  have q1 := h1.cell; have f1 := h1.frozen; have z1 := h1.lt
  clear h1
  go_wp2_with fail
  clear q1 f1 z1 sz5
  have K' := (K).new #[.complex .f64 fR gR, .int .i64 RR] 27 (n := w5.heap.size) (by first | rfl | (simp <;> omega))
  clear K
  have K := K'
  clear K'
  obtain ⟨_, sz6, h0, h1, h2, _⟩ := id K
  have z6_0 := h0.lt; have z6_1 := h1.lt; have z6_2 := h2.lt
  clear h0 h1 h2
  have hne : Hid (∃ w', Hold w.heap.size w [(w5.heap.size, #[.complex .f64 fR gR, .int .i64 RR]), (w.heap.size + 1, #[.int .i64 u, .int .i64 v, .int .i64 s]), (w.heap.size, #[.int .i64 x, .int .i64 y, .int .i64 r])] w') := ⟨_, K.drew⟩
  refine wp_region_float (Hold w.heap.size w [(w5.heap.size, #[.complex .f64 fR gR, .int .i64 RR]), (w.heap.size + 1, #[.int .i64 u, .int .i64 v, .int .i64 s]), (w.heap.size, #[.int .i64 x, .int .i64 y, .int .i64 r])]) 5 8 11 (by kernel_rfl) (by kernel_rfl) (fun _ _ d _ _ h => by cases d <;> exact h) (Hold.lasting _ _ _) K.drew (c := #[.complex .f64 0 0, .int .i64 0]) rfl ⟨rfl, rfl, fun _ _ => ⟨_, by go_simp; exact rfl⟩⟩ ?_
  simp only [List.take_succ_cons, List.take_zero, List.drop_succ_cons, List.drop_zero]
  clear K
  repeat (first
    | (refine calm_skip (by rfl) ?_; simp only [Act.put, List.setIfInBounds_toArray, List.set_cons_zero, List.set_cons_succ])
    | (refine calm_step hne.out (by rfl) rfl (by simp) ?_; apply Exists.intro; refine ⟨?_, ?_⟩
       · (intro r _ K hK; go_big_quiet_op; first
          | exact hK
          | (apply Exists.intro; refine ⟨fun _ hw => ?_, ?_⟩; (first
             | with_reducible exact rfl
             | with_reducible exact cm_mem hw (BX.out _)
             | with_reducible exact cm_mem hw (BY.out _)
             | with_reducible exact cm_mem hw (TM.out _)
             | (obtain ⟨_, _, h0, h1, h2, _⟩ := hw.s; have q0 := h0.cell; have q1 := h1.cell; have q2 := h2.cell; clear h0 h1 h2; simp [q0, q1, q2, go_sem]; exact rfl)); exact hK))))
  refine wpCalm_nil ?_
  intro b2 w6 hge_b2 K ha
  clear hne
  have K' := K.cons ha
  clear ha K
  have K := K'
  clear K'
  simp only [Act.put, List.setIfInBounds_toArray, List.set_cons_zero, List.set_cons_succ]
  obtain ⟨_, sz7, h0, h1, h2, h3, _⟩ := id K
  have q0 := h0.cell; have f0 := h0.frozen; have z7_0 := h0.lt
  have q1 := h1.cell; have f1 := h1.frozen; have z7_1 := h1.lt
  have q2 := h2.cell; have f2 := h2.frozen; have z7_2 := h2.lt
  have q3 := h3.cell; have f3 := h3.frozen; have z7_3 := h3.lt
  clear h0 h1 h2 h3
  go_wp2_with fail
  clear q0 f0 q1 f1 q2 f2 q3 f3
  have K' := (K).set2 (v0 := .complex .f64 fP gP) (v1 := .int .i64 RP) (by omega) (by simp <;> omega)
  clear K
  have K := K'
  clear K'
  obtain ⟨_, sz8, h0, h1, h2, h3, _⟩ := id K
  have z8_0 := h0.lt; have z8_1 := h1.lt; have z8_2 := h2.lt; have z8_3 := h3.lt
  clear h0 h1 h2 h3
  have hne : Hid (∃ w', Hold w.heap.size w [(b2, #[.complex .f64 fP gP, .int .i64 RP]), (w5.heap.size, #[.complex .f64 fR gR, .int .i64 RR]), (w.heap.size + 1, #[.int .i64 u, .int .i64 v, .int .i64 s]), (w.heap.size, #[.int .i64 x, .int .i64 y, .int .i64 r])] w') := ⟨_, K.drew⟩
  refine wp_region_float (Hold w.heap.size w [(b2, #[.complex .f64 fP gP, .int .i64 RP]), (w5.heap.size, #[.complex .f64 fR gR, .int .i64 RR]), (w.heap.size + 1, #[.int .i64 u, .int .i64 v, .int .i64 s]), (w.heap.size, #[.int .i64 x, .int .i64 y, .int .i64 r])]) 4 7 13 (by kernel_rfl) (by kernel_rfl) (fun _ _ d _ _ h => by cases d <;> exact h) (Hold.lasting _ _ _) K.drew (c := #[.complex .f64 0 0, .int .i64 0]) rfl ⟨rfl, rfl, fun _ _ => ⟨_, by go_simp; exact rfl⟩⟩ ?_
  simp only [List.take_succ_cons, List.take_zero, List.drop_succ_cons, List.drop_zero]
  clear K
  repeat (first
    | (refine calm_skip (by rfl) ?_; simp only [Act.put, List.setIfInBounds_toArray, List.set_cons_zero, List.set_cons_succ])
    | (refine calm_step hne.out (by rfl) rfl (by simp) ?_; apply Exists.intro; refine ⟨?_, ?_⟩
       · (intro r _ K hK; go_big_quiet_op; first
          | exact hK
          | (apply Exists.intro; refine ⟨fun _ hw => ?_, ?_⟩; (first
             | with_reducible exact rfl
             | with_reducible exact cm_mem hw (BY.out _)
             | with_reducible exact cm_mem hw (QU.out _)
             | (obtain ⟨_, _, h0, h1, h2, h3, _⟩ := hw.s; have q0 := h0.cell; have q1 := h1.cell; have q2 := h2.cell; have q3 := h3.cell; clear h0 h1 h2 h3; simp [q0, q1, q2, q3, go_sem]; exact rfl)); exact hK))))
  refine wpCalm_nil ?_
  intro b3 w7 hge_b3 K ha
  clear hne
  have K' := K.cons ha
  clear ha K
  have K := K'
  clear K'
  simp only [Act.put, List.setIfInBounds_toArray, List.set_cons_zero, List.set_cons_succ]
  obtain ⟨_, sz9, h0, h1, h2, h3, h4, _⟩ := id K
  have q0 := h0.cell; have f0 := h0.frozen; have z9_0 := h0.lt
  have q1 := h1.cell; have f1 := h1.frozen; have z9_1 := h1.lt
  have q2 := h2.cell; have f2 := h2.frozen; have z9_2 := h2.lt
  have q3 := h3.cell; have f3 := h3.frozen; have z9_3 := h3.lt
  have q4 := h4.cell; have f4 := h4.frozen; have z9_4 := h4.lt
  clear h0 h1 h2 h3 h4
  go_wp2_with fail
  clear q0 f0 q1 f1 q2 f2 q3 f3 q4 f4
  have K' := (K).set2 (v0 := .complex .f64 fQ gQ) (v1 := .int .i64 RQ) (by omega) (by simp <;> omega)
  clear K
  have K := K'
  clear K'
  obtain ⟨_, sz10, h0, h1, h2, h3, h4, _⟩ := id K
  have z10_0 := h0.lt; have z10_1 := h1.lt; have z10_2 := h2.lt; have z10_3 := h3.lt; have z10_4 := h4.lt
  clear h0 h1 h2 h3 h4
  have hne : Hid (∃ w', Hold w.heap.size w [(b3, #[.complex .f64 fQ gQ, .int .i64 RQ]), (b2, #[.complex .f64 fP gP, .int .i64 RP]), (w5.heap.size, #[.complex .f64 fR gR, .int .i64 RR]), (w.heap.size + 1, #[.int .i64 u, .int .i64 v, .int .i64 s]), (w.heap.size, #[.int .i64 x, .int .i64 y, .int .i64 r])] w') := ⟨_, K.drew⟩
  refine wp_region_tail (Hold w.heap.size w [(b3, #[.complex .f64 fQ gQ, .int .i64 RQ]), (b2, #[.complex .f64 fP gP, .int .i64 RP]), (w5.heap.size, #[.complex .f64 fR gR, .int .i64 RR]), (w.heap.size + 1, #[.int .i64 u, .int .i64 v, .int .i64 s]), (w.heap.size, #[.int .i64 x, .int .i64 y, .int .i64 r])]) 4 9 (by kernel_rfl) (by kernel_rfl) (fun _ _ d _ _ h => by cases d <;> exact h) (Hold.lasting _ _ _) K.drew ?_
  simp only [List.take_succ_cons, List.take_zero, List.drop_succ_cons, List.drop_zero]
  clear K
  repeat (first
    | (refine calm_skip (by rfl) ?_; simp only [Act.put, List.setIfInBounds_toArray, List.set_cons_zero, List.set_cons_succ])
    | (refine calm_step hne.out (by rfl) rfl (by simp) ?_; apply Exists.intro; refine ⟨?_, ?_⟩
       · (intro r _ K hK; go_big_quiet_op; first
          | exact hK
          | (apply Exists.intro; refine ⟨fun _ hw => ?_, ?_⟩; (first
             | with_reducible exact rfl
             | with_reducible exact cm_mem hw (BX.out _)
             | with_reducible exact cm_mem hw (M2.out _)
             | (obtain ⟨_, _, h0, h1, h2, h3, h4, _⟩ := hw.s; have q0 := h0.cell; have q1 := h1.cell; have q2 := h2.cell; have q3 := h3.cell; have q4 := h4.cell; clear h0 h1 h2 h3 h4; simp [q0, q1, q2, q3, q4, go_sem]; exact rfl)); exact hK))))
  refine wpCalm_nil ?_
  intro w8 K
  clear hne
  obtain ⟨_, sz11, _, _, _, _, _, _⟩ := id K
  go_wp2_with fail
  go_ret
  exact ⟨rfl, (K).below⟩

end Go.Proofs.Ythkooiopiaakbaa
