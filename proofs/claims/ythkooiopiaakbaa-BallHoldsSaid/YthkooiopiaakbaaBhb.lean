/- The statement on what balls hold answers true: where there is no quotient. -/
import Derived.Test.YthkooiopiaakbaaHlda
import Derived.Test.YthkooiopiaakbaaAwake
namespace Go.Proofs.Ythkooiopiaakbaa
open Go.RowKit Go.Lib
attribute [local go_sem] run_store_float run_store_complex
set_option linter.unusedVariables false

set_option maxRecDepth 100000 in
set_option maxHeartbeats 4000000 in
theorem bh_8 {x y r u v s p0 p1 q0 q1 PA0 PA1 PA RR QA0 QA1 QA SS cU cV cW cZ m1 m2 m3 m4 t1 t2 t3 t4 RS RP : Int} {fx fy fu fv fS gS fP gP : Nat}
    (N1 : Hid (∀ w, Calls Try.prog 47 #[.agg #[.int .i64 x, .int .i64 y, .int .i64 r]] w (Mem (.bool true) w)))
    (N2 : Hid (∀ w, Calls Try.prog 47 #[.agg #[.int .i64 u, .int .i64 v, .int .i64 s]] w (Mem (.bool true) w)))
    (A0 : Hid (∀ w, Calls Try.prog 31 #[.int .i64 p0, .int .i64 (-100), .int .i64 100] w (Mem (.bool true) w)))
    (B0 : Hid (∀ w, Calls Try.prog 31 #[.int .i64 q0, .int .i64 (-100), .int .i64 100] w (Mem (.bool true) w)))
    (A1 : Hid (∀ w, Calls Try.prog 31 #[.int .i64 p1, .int .i64 (-100), .int .i64 100] w (Mem (.bool true) w)))
    (B1 : Hid (∀ w, Calls Try.prog 31 #[.int .i64 q1, .int .i64 (-100), .int .i64 100] w (Mem (.bool true) w)))
    (v0 : IntKind.i64.wrap (p0 * p0) = PA0)
    (v1 : IntKind.i64.wrap (p1 * p1) = PA1)
    (v2 : IntKind.i64.wrap (PA0 + PA1) = PA)
    (v3 : IntKind.i64.wrap (r * r) = RR)
    (gA : decide (RR < PA) = false)
    (v4 : IntKind.i64.wrap (q0 * q0) = QA0)
    (v5 : IntKind.i64.wrap (q1 * q1) = QA1)
    (v6 : IntKind.i64.wrap (QA0 + QA1) = QA)
    (v7 : IntKind.i64.wrap (s * s) = SS)
    (gB : decide (SS < QA) = false)
    (v8 : IntKind.i64.wrap (x + p0) = cU)
    (v9 : IntKind.i64.wrap (y + p1) = cV)
    (v10 : IntKind.i64.wrap (u + q0) = cW)
    (v11 : IntKind.i64.wrap (v + q1) = cZ)
    (v12 : IntKind.i64.wrap (cU + cW) = m1)
    (v13 : IntKind.i64.wrap (cV + cZ) = m2)
    (v14 : IntKind.i64.wrap (cU * cW) = t1)
    (v15 : IntKind.i64.wrap (cV * cZ) = t2)
    (v16 : IntKind.i64.wrap (t1 - t2) = m3)
    (v17 : IntKind.i64.wrap (cU * cZ) = t3)
    (v18 : IntKind.i64.wrap (cV * cW) = t4)
    (v19 : IntKind.i64.wrap (t3 + t4) = m4)
    (BX : Hid (∀ w, Calls Try.prog 23 #[.agg #[.int .i64 x, .int .i64 y, .int .i64 r]] w (Mem (.agg #[.complex .f64 fx fy, .int .i64 r]) w)))
    (BY : Hid (∀ w, Calls Try.prog 23 #[.agg #[.int .i64 u, .int .i64 v, .int .i64 s]] w (Mem (.agg #[.complex .f64 fu fv, .int .i64 s]) w)))
    (PL : Hid (∀ w, Calls Try.prog 24 #[.agg #[.complex .f64 fx fy, .int .i64 r], .agg #[.complex .f64 fu fv, .int .i64 s]] w (Mem (.tuple #[.agg #[.complex .f64 fS gS, .int .i64 RS], .int .i64 0]) w)))
    (H1 : Hid (∀ w, Calls Try.prog 48 #[.agg #[.complex .f64 fS gS, .int .i64 RS], .int .i64 m1, .int .i64 m2, .int .i64 1] w (Mem (.bool true) w)))
    (TM : Hid (∀ w, Calls Try.prog 37 #[.agg #[.complex .f64 fx fy, .int .i64 r], .agg #[.complex .f64 fu fv, .int .i64 s]] w (Mem (.tuple #[.agg #[.complex .f64 fP gP, .int .i64 RP], .int .i64 0]) w)))
    (H2 : Hid (∀ w, Calls Try.prog 48 #[.agg #[.complex .f64 fP gP, .int .i64 RP], .int .i64 m3, .int .i64 m4, .int .i64 1048576] w (Mem (.bool true) w)))
    (QU : Hid (∀ w, Calls Try.prog 41 #[.agg #[.complex .f64 fx fy, .int .i64 r], .agg #[.complex .f64 fu fv, .int .i64 s]] w (Mem (.tuple #[.agg #[.complex .f64 0 0, .int .i64 0], .int .i64 8]) w))) (w : World) :
    Calls Try.prog 8 #[.agg #[.int .i64 x, .int .i64 y, .int .i64 r], .agg #[.int .i64 u, .int .i64 v, .int .i64 s], .agg #[.int .i64 p0, .int .i64 p1, .int .i64 q0, .int .i64 q1]] w (Mem (.bool true) w) := by
  have HA := Lib.hid (fun w => awake_any w)
  go_enter Try.func8, Try.ntmps8
  go_wp2_with fail
  have K := (((Hold.start w).new #[.int .i64 x, .int .i64 y, .int .i64 r] 39 (n := w.heap.size) (by simp)).new #[.int .i64 u, .int .i64 v, .int .i64 s] 39 (n := w.heap.size + 1) (by simp)).new #[.int .i64 p0, .int .i64 p1, .int .i64 q0, .int .i64 q1] 60 (n := w.heap.size + 1 + 1) (by simp)
  refine (HA.out _).mono ?_
  rintro e_1 w1 ⟨rfl, hb⟩
  have K' := Hold.mem (K) hb
  clear hb K
  have K := K'
  clear K'
  obtain ⟨_, sz1, _, _, h2, _⟩ := id K
  have q2 := h2.cell; have f2 := h2.frozen; have z2 := h2.lt
  clear h2
  go_wp2_with fail
  refine (N1.out _).mono ?_
  rintro e_2 w2 ⟨rfl, hb⟩
  have K' := Hold.mem (K) hb
  clear hb K
  have K := K'
  clear K'
  clear q2 f2 z2 sz1
  obtain ⟨_, sz2, _, h1, _, _⟩ := id K
  have q1 := h1.cell; have f1 := h1.frozen; have z1 := h1.lt
  clear h1
  go_wp2_with fail
  refine (N2.out _).mono ?_
  rintro e_3 w3 ⟨rfl, hb⟩
  have K' := Hold.mem (K) hb
  clear hb K
  have K := K'
  clear K'
  clear q1 f1 z1 sz2
  obtain ⟨_, sz3, h0, _, _, _⟩ := id K
  have q0 := h0.cell; have f0 := h0.frozen; have z0 := h0.lt
  clear h0
  go_wp2_with fail
  refine wp_loop_rounds 3 ?_
  rw [rounds_succ]
  go_wp2_with fail
  refine (A0.out _).mono ?_
  rintro e_4 w4 ⟨rfl, hb⟩
  have K' := Hold.mem (K) hb
  clear hb K
  have K := K'
  clear K'
  clear q0 f0 z0 sz3
  obtain ⟨_, sz4, h0, h1, h2, _⟩ := id K
  have q0 := h0.cell; have f0 := h0.frozen; have z0 := h0.lt
  have q1 := h1.cell; have f1 := h1.frozen; have z1 := h1.lt
  have q2 := h2.cell; have f2 := h2.frozen; have z2 := h2.lt
  clear h0 h1 h2
  go_wp2_with fail
  refine (B0.out _).mono ?_
  rintro e_5 w5 ⟨rfl, hb⟩
  have K' := Hold.mem (K) hb
  clear hb K
  have K := K'
  clear K'
  clear q0 f0 q1 f1 q2 f2 z0 z1 z2 sz4
  obtain ⟨_, sz5, h0, h1, h2, _⟩ := id K
  have q0 := h0.cell; have f0 := h0.frozen; have z0 := h0.lt
  have q1 := h1.cell; have f1 := h1.frozen; have z1 := h1.lt
  have q2 := h2.cell; have f2 := h2.frozen; have z2 := h2.lt
  clear h0 h1 h2
  go_wp2_with fail
  rw [rounds_succ]
  go_wp2_with fail
  refine (A1.out _).mono ?_
  rintro e_6 w6 ⟨rfl, hb⟩
  have K' := Hold.mem (K) hb
  clear hb K
  have K := K'
  clear K'
  clear q0 f0 q1 f1 q2 f2 z0 z1 z2 sz5
  obtain ⟨_, sz6, h0, h1, h2, _⟩ := id K
  have q0 := h0.cell; have f0 := h0.frozen; have z0 := h0.lt
  have q1 := h1.cell; have f1 := h1.frozen; have z1 := h1.lt
  have q2 := h2.cell; have f2 := h2.frozen; have z2 := h2.lt
  clear h0 h1 h2
  go_wp2_with fail
  refine (B1.out _).mono ?_
  rintro e_7 w7 ⟨rfl, hb⟩
  have K' := Hold.mem (K) hb
  clear hb K
  have K := K'
  clear K'
  clear q0 f0 q1 f1 q2 f2 z0 z1 z2 sz6
  obtain ⟨_, sz7, h0, h1, h2, _⟩ := id K
  have q0 := h0.cell; have f0 := h0.frozen; have z0 := h0.lt
  have q1 := h1.cell; have f1 := h1.frozen; have z1 := h1.lt
  have q2 := h2.cell; have f2 := h2.frozen; have z2 := h2.lt
  clear h0 h1 h2
  go_wp2_with fail
  rw [rounds_succ]
  go_wp2_with fail
  clear q0 f0 q1 f1 q2 f2 z0 z1 z2 sz7
  obtain ⟨_, sz8, h0, h1, h2, _⟩ := id K
  have z8_0 := h0.lt; have z8_1 := h1.lt; have z8_2 := h2.lt
  clear h0 h1 h2
  have hne : Hid (∃ w', Hold w.heap.size w [(w.heap.size + 1 + 1, #[.int .i64 p0, .int .i64 p1, .int .i64 q0, .int .i64 q1]), (w.heap.size + 1, #[.int .i64 u, .int .i64 v, .int .i64 s]), (w.heap.size, #[.int .i64 x, .int .i64 y, .int .i64 r])] w') := ⟨_, K.drew⟩
  refine wp_region_mix (Hold w.heap.size w [(w.heap.size + 1 + 1, #[.int .i64 p0, .int .i64 p1, .int .i64 q0, .int .i64 q1]), (w.heap.size + 1, #[.int .i64 u, .int .i64 v, .int .i64 s]), (w.heap.size, #[.int .i64 x, .int .i64 y, .int .i64 r])]) 28 [] rfl (by decide) (by kernel_rfl) (by kernel_rfl) (Hold.lasting _ _ _) K.drew (fun x hx => by cases hx) ?_
  simp only [List.take_succ_cons, List.take_zero, List.drop_succ_cons, List.drop_zero, List.length_cons, List.length_nil, List.take_nil, List.drop_nil]
  clear K
  repeat (first
    | (refine calm_skip (by rfl) ?_; simp only [Act.put, List.setIfInBounds_toArray, List.set_cons_zero, List.set_cons_succ])
    | (refine calm_step hne.out (by rfl) rfl (by simp) ?_; apply Exists.intro; refine ⟨?_, ?_⟩
       · (intro r _ K hK; go_big_quiet_op; first
          | exact hK
          | (apply Exists.intro; refine ⟨fun _ hw => ?_, ?_⟩; (first
             | with_reducible exact rfl
             | (obtain ⟨_, _, h0, h1, h2, _⟩ := hw.s; have q0 := h0.cell; have q1 := h1.cell; have q2 := h2.cell; clear h0 h1 h2; simp [q0, q1, q2, go_sem]; exact rfl)); exact hK))))
  refine wpCalm_nil ?_
  try simp only [Fin]
  intro  w8 K hx
  clear hne
  clear hx
  try simp only [Act.put, List.setIfInBounds_toArray, List.set_cons_zero, List.set_cons_succ]
  obtain ⟨_, sz9, _, h1, h2, _⟩ := id K
  have q1 := h1.cell; have f1 := h1.frozen; have z1 := h1.lt
  have q2 := h2.cell; have f2 := h2.frozen; have z2 := h2.lt
  clear h1 h2
  go_wp2_with fail
  clear q1 f1 q2 f2 z1 z2 sz9
  obtain ⟨_, sz10, h0, h1, h2, _⟩ := id K
  have z10_0 := h0.lt; have z10_1 := h1.lt; have z10_2 := h2.lt
  clear h0 h1 h2
  have hne : Hid (∃ w', Hold w.heap.size w [(w.heap.size + 1 + 1, #[.int .i64 p0, .int .i64 p1, .int .i64 q0, .int .i64 q1]), (w.heap.size + 1, #[.int .i64 u, .int .i64 v, .int .i64 s]), (w.heap.size, #[.int .i64 x, .int .i64 y, .int .i64 r])] w') := ⟨_, K.drew⟩
  refine wp_region_float (Hold w.heap.size w [(w.heap.size + 1 + 1, #[.int .i64 p0, .int .i64 p1, .int .i64 q0, .int .i64 q1]), (w.heap.size + 1, #[.int .i64 u, .int .i64 v, .int .i64 s]), (w.heap.size, #[.int .i64 x, .int .i64 y, .int .i64 r])]) 5 8 12 (by kernel_rfl) (by kernel_rfl) (fun _ _ d _ _ h => by cases d <;> exact h) (Hold.lasting _ _ _) K.drew (c := #[.complex .f64 0 0, .int .i64 0]) rfl ⟨rfl, rfl, fun _ _ => ⟨_, by go_simp; exact rfl⟩⟩ ?_
  simp only [List.take_succ_cons, List.take_zero, List.drop_succ_cons, List.drop_zero]
  clear K
  repeat (first
    | (refine calm_skip (by rfl) ?_; simp only [Act.put, List.setIfInBounds_toArray, List.set_cons_zero, List.set_cons_succ])
    | (refine calm_step hne.out (by rfl) rfl (by simp) ?_; apply Exists.intro; refine ⟨?_, ?_⟩
       · (intro r _ K hK; go_big_quiet_op; first
          | exact hK
          | (apply Exists.intro; refine ⟨fun _ hw => ?_, ?_⟩; (first
             | with_reducible exact rfl
             | with_reducible exact cm_mem hw (BX.out _)
             | with_reducible exact cm_mem hw (BY.out _)
             | with_reducible exact cm_mem hw (PL.out _)
             | (obtain ⟨_, _, h0, h1, h2, _⟩ := hw.s; have q0 := h0.cell; have q1 := h1.cell; have q2 := h2.cell; clear h0 h1 h2; simp [q0, q1, q2, go_sem]; exact rfl)); exact hK))))
  refine wpCalm_nil ?_
  intro b1 w9 hge_b1 K ha
  clear hne
  have K' := K.cons ha
  clear ha K
  have K := K'
  clear K'
  simp only [Act.put, List.setIfInBounds_toArray, List.set_cons_zero, List.set_cons_succ]
  obtain ⟨_, sz11, h0, h1, h2, h3, _⟩ := id K
  have q0 := h0.cell; have f0 := h0.frozen; have z11_0 := h0.lt
  have q1 := h1.cell; have f1 := h1.frozen; have z11_1 := h1.lt
  have q2 := h2.cell; have f2 := h2.frozen; have z11_2 := h2.lt
  have q3 := h3.cell; have f3 := h3.frozen; have z11_3 := h3.lt
  clear h0 h1 h2 h3
  go_wp2_with fail
  refine (H1.out _).mono ?_
  rintro e_10 w10 ⟨rfl, hb⟩
  have K' := Hold.mem ((K).set2 (v0 := .complex .f64 fS gS) (v1 := .int .i64 RS) (by omega) (by simp <;> omega)) hb
  clear hb K
  have K := K'
  clear K'
  clear q0 f0 q1 f1 q2 f2 q3 f3
  obtain ⟨_, sz12, _, _, h2, h3, _⟩ := id K
  have q2 := h2.cell; have f2 := h2.frozen; have z2 := h2.lt
  have q3 := h3.cell; have f3 := h3.frozen; have z3 := h3.lt
  clear h2 h3
  go_wp2_with fail
  clear q2 f2 q3 f3 z2 z3 sz12
  obtain ⟨_, sz13, h0, h1, h2, h3, _⟩ := id K
  have z13_0 := h0.lt; have z13_1 := h1.lt; have z13_2 := h2.lt; have z13_3 := h3.lt
  clear h0 h1 h2 h3
  have hne : Hid (∃ w', Hold w.heap.size w [(b1, #[.complex .f64 fS gS, .int .i64 RS]), (w.heap.size + 1 + 1, #[.int .i64 p0, .int .i64 p1, .int .i64 q0, .int .i64 q1]), (w.heap.size + 1, #[.int .i64 u, .int .i64 v, .int .i64 s]), (w.heap.size, #[.int .i64 x, .int .i64 y, .int .i64 r])] w') := ⟨_, K.drew⟩
  refine wp_region_float (Hold w.heap.size w [(b1, #[.complex .f64 fS gS, .int .i64 RS]), (w.heap.size + 1 + 1, #[.int .i64 p0, .int .i64 p1, .int .i64 q0, .int .i64 q1]), (w.heap.size + 1, #[.int .i64 u, .int .i64 v, .int .i64 s]), (w.heap.size, #[.int .i64 x, .int .i64 y, .int .i64 r])]) 5 8 14 (by kernel_rfl) (by kernel_rfl) (fun _ _ d _ _ h => by cases d <;> exact h) (Hold.lasting _ _ _) K.drew (c := #[.complex .f64 0 0, .int .i64 0]) rfl ⟨rfl, rfl, fun _ _ => ⟨_, by go_simp; exact rfl⟩⟩ ?_
  simp only [List.take_succ_cons, List.take_zero, List.drop_succ_cons, List.drop_zero]
  clear K
  repeat (first
    | (refine calm_skip (by rfl) ?_; simp only [Act.put, List.setIfInBounds_toArray, List.set_cons_zero, List.set_cons_succ])
    | (refine calm_step hne.out (by rfl) rfl (by simp) ?_; apply Exists.intro; refine ⟨?_, ?_⟩
       · (intro r _ K hK; go_big_quiet_op; first
          | exact hK
          | (apply Exists.intro; refine ⟨fun _ hw => ?_, ?_⟩; (first
             | with_reducible exact rfl
             | with_reducible exact cm_mem hw (BX.out _)
             | with_reducible exact cm_mem hw (BY.out _)
             | with_reducible exact cm_mem hw (TM.out _)
             | (obtain ⟨_, _, h0, h1, h2, h3, _⟩ := hw.s; have q0 := h0.cell; have q1 := h1.cell; have q2 := h2.cell; have q3 := h3.cell; clear h0 h1 h2 h3; simp [q0, q1, q2, q3, go_sem]; exact rfl)); exact hK))))
  refine wpCalm_nil ?_
  intro b2 w11 hge_b2 K ha
  clear hne
  have K' := K.cons ha
  clear ha K
  have K := K'
  clear K'
  simp only [Act.put, List.setIfInBounds_toArray, List.set_cons_zero, List.set_cons_succ]
  obtain ⟨_, sz14, h0, h1, h2, h3, h4, _⟩ := id K
  have q0 := h0.cell; have f0 := h0.frozen; have z14_0 := h0.lt
  have q1 := h1.cell; have f1 := h1.frozen; have z14_1 := h1.lt
  have q2 := h2.cell; have f2 := h2.frozen; have z14_2 := h2.lt
  have q3 := h3.cell; have f3 := h3.frozen; have z14_3 := h3.lt
  have q4 := h4.cell; have f4 := h4.frozen; have z14_4 := h4.lt
  clear h0 h1 h2 h3 h4
  go_wp2_with fail
  refine (H2.out _).mono ?_
  rintro e_12 w12 ⟨rfl, hb⟩
  have K' := Hold.mem ((K).set2 (v0 := .complex .f64 fP gP) (v1 := .int .i64 RP) (by omega) (by simp <;> omega)) hb
  clear hb K
  have K := K'
  clear K'
  clear q0 f0 q1 f1 q2 f2 q3 f3 q4 f4
  obtain ⟨_, sz15, _, _, _, h3, h4, _⟩ := id K
  have q3 := h3.cell; have f3 := h3.frozen; have z3 := h3.lt
  have q4 := h4.cell; have f4 := h4.frozen; have z4 := h4.lt
  clear h3 h4
  go_wp2_with fail
  clear q3 f3 q4 f4 z3 z4 sz15
  obtain ⟨_, sz16, h0, h1, h2, h3, h4, _⟩ := id K
  have z16_0 := h0.lt; have z16_1 := h1.lt; have z16_2 := h2.lt; have z16_3 := h3.lt; have z16_4 := h4.lt
  clear h0 h1 h2 h3 h4
  have hne : Hid (∃ w', Hold w.heap.size w [(b2, #[.complex .f64 fP gP, .int .i64 RP]), (b1, #[.complex .f64 fS gS, .int .i64 RS]), (w.heap.size + 1 + 1, #[.int .i64 p0, .int .i64 p1, .int .i64 q0, .int .i64 q1]), (w.heap.size + 1, #[.int .i64 u, .int .i64 v, .int .i64 s]), (w.heap.size, #[.int .i64 x, .int .i64 y, .int .i64 r])] w') := ⟨_, K.drew⟩
  refine wp_region_float (Hold w.heap.size w [(b2, #[.complex .f64 fP gP, .int .i64 RP]), (b1, #[.complex .f64 fS gS, .int .i64 RS]), (w.heap.size + 1 + 1, #[.int .i64 p0, .int .i64 p1, .int .i64 q0, .int .i64 q1]), (w.heap.size + 1, #[.int .i64 u, .int .i64 v, .int .i64 s]), (w.heap.size, #[.int .i64 x, .int .i64 y, .int .i64 r])]) 5 8 16 (by kernel_rfl) (by kernel_rfl) (fun _ _ d _ _ h => by cases d <;> exact h) (Hold.lasting _ _ _) K.drew (c := #[.complex .f64 0 0, .int .i64 0]) rfl ⟨rfl, rfl, fun _ _ => ⟨_, by go_simp; exact rfl⟩⟩ ?_
  simp only [List.take_succ_cons, List.take_zero, List.drop_succ_cons, List.drop_zero]
  clear K
  repeat (first
    | (refine calm_skip (by rfl) ?_; simp only [Act.put, List.setIfInBounds_toArray, List.set_cons_zero, List.set_cons_succ])
    | (refine calm_step hne.out (by rfl) rfl (by simp) ?_; apply Exists.intro; refine ⟨?_, ?_⟩
       · (intro r _ K hK; go_big_quiet_op; first
          | exact hK
          | (apply Exists.intro; refine ⟨fun _ hw => ?_, ?_⟩; (first
             | with_reducible exact rfl
             | with_reducible exact cm_mem hw (BX.out _)
             | with_reducible exact cm_mem hw (BY.out _)
             | with_reducible exact cm_mem hw (QU.out _)
             | (obtain ⟨_, _, h0, h1, h2, h3, h4, _⟩ := hw.s; have q0 := h0.cell; have q1 := h1.cell; have q2 := h2.cell; have q3 := h3.cell; have q4 := h4.cell; clear h0 h1 h2 h3 h4; simp [q0, q1, q2, q3, q4, go_sem]; exact rfl)); exact hK))))
  refine wpCalm_nil ?_
  intro b3 w13 hge_b3 K ha
  clear hne
  have K' := K.cons ha
  clear ha K
  have K := K'
  clear K'
  simp only [Act.put, List.setIfInBounds_toArray, List.set_cons_zero, List.set_cons_succ]
  obtain ⟨_, sz17, h0, h1, h2, h3, h4, h5, _⟩ := id K
  have q0 := h0.cell; have f0 := h0.frozen; have z17_0 := h0.lt
  have q1 := h1.cell; have f1 := h1.frozen; have z17_1 := h1.lt
  have q2 := h2.cell; have f2 := h2.frozen; have z17_2 := h2.lt
  have q3 := h3.cell; have f3 := h3.frozen; have z17_3 := h3.lt
  have q4 := h4.cell; have f4 := h4.frozen; have z17_4 := h4.lt
  have q5 := h5.cell; have f5 := h5.frozen; have z17_5 := h5.lt
  clear h0 h1 h2 h3 h4 h5
  go_wp2_with fail
  go_ret
  exact ⟨rfl, ((K).set2 (v0 := .complex .f64 0 0) (v1 := .int .i64 0) (by omega) (by simp <;> omega)).below⟩

set_option maxRecDepth 100000 in
set_option maxHeartbeats 4000000 in
theorem bh_9 {x y r u v s p0 p1 q0 q1 PA0 PA1 PA RR QA0 QA1 QA SS cU cV cW cZ m1 m2 m3 m4 t1 t2 t3 t4 RS RP : Int} {fx fy fu fv fS gS fP gP : Nat}
    (N1 : Hid (∀ w, Calls Try.prog 47 #[.agg #[.int .i64 x, .int .i64 y, .int .i64 r]] w (Mem (.bool true) w)))
    (N2 : Hid (∀ w, Calls Try.prog 47 #[.agg #[.int .i64 u, .int .i64 v, .int .i64 s]] w (Mem (.bool true) w)))
    (A0 : Hid (∀ w, Calls Try.prog 31 #[.int .i64 p0, .int .i64 (-100), .int .i64 100] w (Mem (.bool true) w)))
    (B0 : Hid (∀ w, Calls Try.prog 31 #[.int .i64 q0, .int .i64 (-100), .int .i64 100] w (Mem (.bool true) w)))
    (A1 : Hid (∀ w, Calls Try.prog 31 #[.int .i64 p1, .int .i64 (-100), .int .i64 100] w (Mem (.bool true) w)))
    (B1 : Hid (∀ w, Calls Try.prog 31 #[.int .i64 q1, .int .i64 (-100), .int .i64 100] w (Mem (.bool true) w)))
    (v0 : IntKind.i64.wrap (p0 * p0) = PA0)
    (v1 : IntKind.i64.wrap (p1 * p1) = PA1)
    (v2 : IntKind.i64.wrap (PA0 + PA1) = PA)
    (v3 : IntKind.i64.wrap (r * r) = RR)
    (gA : decide (RR < PA) = false)
    (v4 : IntKind.i64.wrap (q0 * q0) = QA0)
    (v5 : IntKind.i64.wrap (q1 * q1) = QA1)
    (v6 : IntKind.i64.wrap (QA0 + QA1) = QA)
    (v7 : IntKind.i64.wrap (s * s) = SS)
    (gB : decide (SS < QA) = false)
    (v8 : IntKind.i64.wrap (x + p0) = cU)
    (v9 : IntKind.i64.wrap (y + p1) = cV)
    (v10 : IntKind.i64.wrap (u + q0) = cW)
    (v11 : IntKind.i64.wrap (v + q1) = cZ)
    (v12 : IntKind.i64.wrap (cU + cW) = m1)
    (v13 : IntKind.i64.wrap (cV + cZ) = m2)
    (v14 : IntKind.i64.wrap (cU * cW) = t1)
    (v15 : IntKind.i64.wrap (cV * cZ) = t2)
    (v16 : IntKind.i64.wrap (t1 - t2) = m3)
    (v17 : IntKind.i64.wrap (cU * cZ) = t3)
    (v18 : IntKind.i64.wrap (cV * cW) = t4)
    (v19 : IntKind.i64.wrap (t3 + t4) = m4)
    (BX : Hid (∀ w, Calls Try.prog 23 #[.agg #[.int .i64 x, .int .i64 y, .int .i64 r]] w (Mem (.agg #[.complex .f64 fx fy, .int .i64 r]) w)))
    (BY : Hid (∀ w, Calls Try.prog 23 #[.agg #[.int .i64 u, .int .i64 v, .int .i64 s]] w (Mem (.agg #[.complex .f64 fu fv, .int .i64 s]) w)))
    (PL : Hid (∀ w, Calls Try.prog 24 #[.agg #[.complex .f64 fx fy, .int .i64 r], .agg #[.complex .f64 fu fv, .int .i64 s]] w (Mem (.tuple #[.agg #[.complex .f64 fS gS, .int .i64 RS], .int .i64 0]) w)))
    (H1 : Hid (∀ w, Calls Try.prog 48 #[.agg #[.complex .f64 fS gS, .int .i64 RS], .int .i64 m1, .int .i64 m2, .int .i64 1] w (Mem (.bool true) w)))
    (TM : Hid (∀ w, Calls Try.prog 37 #[.agg #[.complex .f64 fx fy, .int .i64 r], .agg #[.complex .f64 fu fv, .int .i64 s]] w (Mem (.tuple #[.agg #[.complex .f64 fP gP, .int .i64 RP], .int .i64 0]) w)))
    (H2 : Hid (∀ w, Calls Try.prog 48 #[.agg #[.complex .f64 fP gP, .int .i64 RP], .int .i64 m3, .int .i64 m4, .int .i64 1048576] w (Mem (.bool true) w)))
    (QU : Hid (∀ w, Calls Try.prog 41 #[.agg #[.complex .f64 fx fy, .int .i64 r], .agg #[.complex .f64 fu fv, .int .i64 s]] w (Mem (.tuple #[.agg #[.complex .f64 0 0, .int .i64 0], .int .i64 9]) w))) (w : World) :
    Calls Try.prog 8 #[.agg #[.int .i64 x, .int .i64 y, .int .i64 r], .agg #[.int .i64 u, .int .i64 v, .int .i64 s], .agg #[.int .i64 p0, .int .i64 p1, .int .i64 q0, .int .i64 q1]] w (Mem (.bool true) w) := by
  have HA := Lib.hid (fun w => awake_any w)
  go_enter Try.func8, Try.ntmps8
  go_wp2_with fail
  have K := (((Hold.start w).new #[.int .i64 x, .int .i64 y, .int .i64 r] 39 (n := w.heap.size) (by simp)).new #[.int .i64 u, .int .i64 v, .int .i64 s] 39 (n := w.heap.size + 1) (by simp)).new #[.int .i64 p0, .int .i64 p1, .int .i64 q0, .int .i64 q1] 60 (n := w.heap.size + 1 + 1) (by simp)
  refine (HA.out _).mono ?_
  rintro e_1 w1 ⟨rfl, hb⟩
  have K' := Hold.mem (K) hb
  clear hb K
  have K := K'
  clear K'
  obtain ⟨_, sz1, _, _, h2, _⟩ := id K
  have q2 := h2.cell; have f2 := h2.frozen; have z2 := h2.lt
  clear h2
  go_wp2_with fail
  refine (N1.out _).mono ?_
  rintro e_2 w2 ⟨rfl, hb⟩
  have K' := Hold.mem (K) hb
  clear hb K
  have K := K'
  clear K'
  clear q2 f2 z2 sz1
  obtain ⟨_, sz2, _, h1, _, _⟩ := id K
  have q1 := h1.cell; have f1 := h1.frozen; have z1 := h1.lt
  clear h1
  go_wp2_with fail
  refine (N2.out _).mono ?_
  rintro e_3 w3 ⟨rfl, hb⟩
  have K' := Hold.mem (K) hb
  clear hb K
  have K := K'
  clear K'
  clear q1 f1 z1 sz2
  obtain ⟨_, sz3, h0, _, _, _⟩ := id K
  have q0 := h0.cell; have f0 := h0.frozen; have z0 := h0.lt
  clear h0
  go_wp2_with fail
  refine wp_loop_rounds 3 ?_
  rw [rounds_succ]
  go_wp2_with fail
  refine (A0.out _).mono ?_
  rintro e_4 w4 ⟨rfl, hb⟩
  have K' := Hold.mem (K) hb
  clear hb K
  have K := K'
  clear K'
  clear q0 f0 z0 sz3
  obtain ⟨_, sz4, h0, h1, h2, _⟩ := id K
  have q0 := h0.cell; have f0 := h0.frozen; have z0 := h0.lt
  have q1 := h1.cell; have f1 := h1.frozen; have z1 := h1.lt
  have q2 := h2.cell; have f2 := h2.frozen; have z2 := h2.lt
  clear h0 h1 h2
  go_wp2_with fail
  refine (B0.out _).mono ?_
  rintro e_5 w5 ⟨rfl, hb⟩
  have K' := Hold.mem (K) hb
  clear hb K
  have K := K'
  clear K'
  clear q0 f0 q1 f1 q2 f2 z0 z1 z2 sz4
  obtain ⟨_, sz5, h0, h1, h2, _⟩ := id K
  have q0 := h0.cell; have f0 := h0.frozen; have z0 := h0.lt
  have q1 := h1.cell; have f1 := h1.frozen; have z1 := h1.lt
  have q2 := h2.cell; have f2 := h2.frozen; have z2 := h2.lt
  clear h0 h1 h2
  go_wp2_with fail
  rw [rounds_succ]
  go_wp2_with fail
  refine (A1.out _).mono ?_
  rintro e_6 w6 ⟨rfl, hb⟩
  have K' := Hold.mem (K) hb
  clear hb K
  have K := K'
  clear K'
  clear q0 f0 q1 f1 q2 f2 z0 z1 z2 sz5
  obtain ⟨_, sz6, h0, h1, h2, _⟩ := id K
  have q0 := h0.cell; have f0 := h0.frozen; have z0 := h0.lt
  have q1 := h1.cell; have f1 := h1.frozen; have z1 := h1.lt
  have q2 := h2.cell; have f2 := h2.frozen; have z2 := h2.lt
  clear h0 h1 h2
  go_wp2_with fail
  refine (B1.out _).mono ?_
  rintro e_7 w7 ⟨rfl, hb⟩
  have K' := Hold.mem (K) hb
  clear hb K
  have K := K'
  clear K'
  clear q0 f0 q1 f1 q2 f2 z0 z1 z2 sz6
  obtain ⟨_, sz7, h0, h1, h2, _⟩ := id K
  have q0 := h0.cell; have f0 := h0.frozen; have z0 := h0.lt
  have q1 := h1.cell; have f1 := h1.frozen; have z1 := h1.lt
  have q2 := h2.cell; have f2 := h2.frozen; have z2 := h2.lt
  clear h0 h1 h2
  go_wp2_with fail
  rw [rounds_succ]
  go_wp2_with fail
  clear q0 f0 q1 f1 q2 f2 z0 z1 z2 sz7
  obtain ⟨_, sz8, h0, h1, h2, _⟩ := id K
  have z8_0 := h0.lt; have z8_1 := h1.lt; have z8_2 := h2.lt
  clear h0 h1 h2
  have hne : Hid (∃ w', Hold w.heap.size w [(w.heap.size + 1 + 1, #[.int .i64 p0, .int .i64 p1, .int .i64 q0, .int .i64 q1]), (w.heap.size + 1, #[.int .i64 u, .int .i64 v, .int .i64 s]), (w.heap.size, #[.int .i64 x, .int .i64 y, .int .i64 r])] w') := ⟨_, K.drew⟩
  refine wp_region_mix (Hold w.heap.size w [(w.heap.size + 1 + 1, #[.int .i64 p0, .int .i64 p1, .int .i64 q0, .int .i64 q1]), (w.heap.size + 1, #[.int .i64 u, .int .i64 v, .int .i64 s]), (w.heap.size, #[.int .i64 x, .int .i64 y, .int .i64 r])]) 28 [] rfl (by decide) (by kernel_rfl) (by kernel_rfl) (Hold.lasting _ _ _) K.drew (fun x hx => by cases hx) ?_
  simp only [List.take_succ_cons, List.take_zero, List.drop_succ_cons, List.drop_zero, List.length_cons, List.length_nil, List.take_nil, List.drop_nil]
  clear K
  repeat (first
    | (refine calm_skip (by rfl) ?_; simp only [Act.put, List.setIfInBounds_toArray, List.set_cons_zero, List.set_cons_succ])
    | (refine calm_step hne.out (by rfl) rfl (by simp) ?_; apply Exists.intro; refine ⟨?_, ?_⟩
       · (intro r _ K hK; go_big_quiet_op; first
          | exact hK
          | (apply Exists.intro; refine ⟨fun _ hw => ?_, ?_⟩; (first
             | with_reducible exact rfl
             | (obtain ⟨_, _, h0, h1, h2, _⟩ := hw.s; have q0 := h0.cell; have q1 := h1.cell; have q2 := h2.cell; clear h0 h1 h2; simp [q0, q1, q2, go_sem]; exact rfl)); exact hK))))
  refine wpCalm_nil ?_
  try simp only [Fin]
  intro  w8 K hx
  clear hne
  clear hx
  try simp only [Act.put, List.setIfInBounds_toArray, List.set_cons_zero, List.set_cons_succ]
  obtain ⟨_, sz9, _, h1, h2, _⟩ := id K
  have q1 := h1.cell; have f1 := h1.frozen; have z1 := h1.lt
  have q2 := h2.cell; have f2 := h2.frozen; have z2 := h2.lt
  clear h1 h2
  go_wp2_with fail
  clear q1 f1 q2 f2 z1 z2 sz9
  obtain ⟨_, sz10, h0, h1, h2, _⟩ := id K
  have z10_0 := h0.lt; have z10_1 := h1.lt; have z10_2 := h2.lt
  clear h0 h1 h2
  have hne : Hid (∃ w', Hold w.heap.size w [(w.heap.size + 1 + 1, #[.int .i64 p0, .int .i64 p1, .int .i64 q0, .int .i64 q1]), (w.heap.size + 1, #[.int .i64 u, .int .i64 v, .int .i64 s]), (w.heap.size, #[.int .i64 x, .int .i64 y, .int .i64 r])] w') := ⟨_, K.drew⟩
  refine wp_region_float (Hold w.heap.size w [(w.heap.size + 1 + 1, #[.int .i64 p0, .int .i64 p1, .int .i64 q0, .int .i64 q1]), (w.heap.size + 1, #[.int .i64 u, .int .i64 v, .int .i64 s]), (w.heap.size, #[.int .i64 x, .int .i64 y, .int .i64 r])]) 5 8 12 (by kernel_rfl) (by kernel_rfl) (fun _ _ d _ _ h => by cases d <;> exact h) (Hold.lasting _ _ _) K.drew (c := #[.complex .f64 0 0, .int .i64 0]) rfl ⟨rfl, rfl, fun _ _ => ⟨_, by go_simp; exact rfl⟩⟩ ?_
  simp only [List.take_succ_cons, List.take_zero, List.drop_succ_cons, List.drop_zero]
  clear K
  repeat (first
    | (refine calm_skip (by rfl) ?_; simp only [Act.put, List.setIfInBounds_toArray, List.set_cons_zero, List.set_cons_succ])
    | (refine calm_step hne.out (by rfl) rfl (by simp) ?_; apply Exists.intro; refine ⟨?_, ?_⟩
       · (intro r _ K hK; go_big_quiet_op; first
          | exact hK
          | (apply Exists.intro; refine ⟨fun _ hw => ?_, ?_⟩; (first
             | with_reducible exact rfl
             | with_reducible exact cm_mem hw (BX.out _)
             | with_reducible exact cm_mem hw (BY.out _)
             | with_reducible exact cm_mem hw (PL.out _)
             | (obtain ⟨_, _, h0, h1, h2, _⟩ := hw.s; have q0 := h0.cell; have q1 := h1.cell; have q2 := h2.cell; clear h0 h1 h2; simp [q0, q1, q2, go_sem]; exact rfl)); exact hK))))
  refine wpCalm_nil ?_
  intro b1 w9 hge_b1 K ha
  clear hne
  have K' := K.cons ha
  clear ha K
  have K := K'
  clear K'
  simp only [Act.put, List.setIfInBounds_toArray, List.set_cons_zero, List.set_cons_succ]
  obtain ⟨_, sz11, h0, h1, h2, h3, _⟩ := id K
  have q0 := h0.cell; have f0 := h0.frozen; have z11_0 := h0.lt
  have q1 := h1.cell; have f1 := h1.frozen; have z11_1 := h1.lt
  have q2 := h2.cell; have f2 := h2.frozen; have z11_2 := h2.lt
  have q3 := h3.cell; have f3 := h3.frozen; have z11_3 := h3.lt
  clear h0 h1 h2 h3
  go_wp2_with fail
  refine (H1.out _).mono ?_
  rintro e_10 w10 ⟨rfl, hb⟩
  have K' := Hold.mem ((K).set2 (v0 := .complex .f64 fS gS) (v1 := .int .i64 RS) (by omega) (by simp <;> omega)) hb
  clear hb K
  have K := K'
  clear K'
  clear q0 f0 q1 f1 q2 f2 q3 f3
  obtain ⟨_, sz12, _, _, h2, h3, _⟩ := id K
  have q2 := h2.cell; have f2 := h2.frozen; have z2 := h2.lt
  have q3 := h3.cell; have f3 := h3.frozen; have z3 := h3.lt
  clear h2 h3
  go_wp2_with fail
  clear q2 f2 q3 f3 z2 z3 sz12
  obtain ⟨_, sz13, h0, h1, h2, h3, _⟩ := id K
  have z13_0 := h0.lt; have z13_1 := h1.lt; have z13_2 := h2.lt; have z13_3 := h3.lt
  clear h0 h1 h2 h3
  have hne : Hid (∃ w', Hold w.heap.size w [(b1, #[.complex .f64 fS gS, .int .i64 RS]), (w.heap.size + 1 + 1, #[.int .i64 p0, .int .i64 p1, .int .i64 q0, .int .i64 q1]), (w.heap.size + 1, #[.int .i64 u, .int .i64 v, .int .i64 s]), (w.heap.size, #[.int .i64 x, .int .i64 y, .int .i64 r])] w') := ⟨_, K.drew⟩
  refine wp_region_float (Hold w.heap.size w [(b1, #[.complex .f64 fS gS, .int .i64 RS]), (w.heap.size + 1 + 1, #[.int .i64 p0, .int .i64 p1, .int .i64 q0, .int .i64 q1]), (w.heap.size + 1, #[.int .i64 u, .int .i64 v, .int .i64 s]), (w.heap.size, #[.int .i64 x, .int .i64 y, .int .i64 r])]) 5 8 14 (by kernel_rfl) (by kernel_rfl) (fun _ _ d _ _ h => by cases d <;> exact h) (Hold.lasting _ _ _) K.drew (c := #[.complex .f64 0 0, .int .i64 0]) rfl ⟨rfl, rfl, fun _ _ => ⟨_, by go_simp; exact rfl⟩⟩ ?_
  simp only [List.take_succ_cons, List.take_zero, List.drop_succ_cons, List.drop_zero]
  clear K
  repeat (first
    | (refine calm_skip (by rfl) ?_; simp only [Act.put, List.setIfInBounds_toArray, List.set_cons_zero, List.set_cons_succ])
    | (refine calm_step hne.out (by rfl) rfl (by simp) ?_; apply Exists.intro; refine ⟨?_, ?_⟩
       · (intro r _ K hK; go_big_quiet_op; first
          | exact hK
          | (apply Exists.intro; refine ⟨fun _ hw => ?_, ?_⟩; (first
             | with_reducible exact rfl
             | with_reducible exact cm_mem hw (BX.out _)
             | with_reducible exact cm_mem hw (BY.out _)
             | with_reducible exact cm_mem hw (TM.out _)
             | (obtain ⟨_, _, h0, h1, h2, h3, _⟩ := hw.s; have q0 := h0.cell; have q1 := h1.cell; have q2 := h2.cell; have q3 := h3.cell; clear h0 h1 h2 h3; simp [q0, q1, q2, q3, go_sem]; exact rfl)); exact hK))))
  refine wpCalm_nil ?_
  intro b2 w11 hge_b2 K ha
  clear hne
  have K' := K.cons ha
  clear ha K
  have K := K'
  clear K'
  simp only [Act.put, List.setIfInBounds_toArray, List.set_cons_zero, List.set_cons_succ]
  obtain ⟨_, sz14, h0, h1, h2, h3, h4, _⟩ := id K
  have q0 := h0.cell; have f0 := h0.frozen; have z14_0 := h0.lt
  have q1 := h1.cell; have f1 := h1.frozen; have z14_1 := h1.lt
  have q2 := h2.cell; have f2 := h2.frozen; have z14_2 := h2.lt
  have q3 := h3.cell; have f3 := h3.frozen; have z14_3 := h3.lt
  have q4 := h4.cell; have f4 := h4.frozen; have z14_4 := h4.lt
  clear h0 h1 h2 h3 h4
  go_wp2_with fail
  refine (H2.out _).mono ?_
  rintro e_12 w12 ⟨rfl, hb⟩
  have K' := Hold.mem ((K).set2 (v0 := .complex .f64 fP gP) (v1 := .int .i64 RP) (by omega) (by simp <;> omega)) hb
  clear hb K
  have K := K'
  clear K'
  clear q0 f0 q1 f1 q2 f2 q3 f3 q4 f4
  obtain ⟨_, sz15, _, _, _, h3, h4, _⟩ := id K
  have q3 := h3.cell; have f3 := h3.frozen; have z3 := h3.lt
  have q4 := h4.cell; have f4 := h4.frozen; have z4 := h4.lt
  clear h3 h4
  go_wp2_with fail
  clear q3 f3 q4 f4 z3 z4 sz15
  obtain ⟨_, sz16, h0, h1, h2, h3, h4, _⟩ := id K
  have z16_0 := h0.lt; have z16_1 := h1.lt; have z16_2 := h2.lt; have z16_3 := h3.lt; have z16_4 := h4.lt
  clear h0 h1 h2 h3 h4
  have hne : Hid (∃ w', Hold w.heap.size w [(b2, #[.complex .f64 fP gP, .int .i64 RP]), (b1, #[.complex .f64 fS gS, .int .i64 RS]), (w.heap.size + 1 + 1, #[.int .i64 p0, .int .i64 p1, .int .i64 q0, .int .i64 q1]), (w.heap.size + 1, #[.int .i64 u, .int .i64 v, .int .i64 s]), (w.heap.size, #[.int .i64 x, .int .i64 y, .int .i64 r])] w') := ⟨_, K.drew⟩
  refine wp_region_float (Hold w.heap.size w [(b2, #[.complex .f64 fP gP, .int .i64 RP]), (b1, #[.complex .f64 fS gS, .int .i64 RS]), (w.heap.size + 1 + 1, #[.int .i64 p0, .int .i64 p1, .int .i64 q0, .int .i64 q1]), (w.heap.size + 1, #[.int .i64 u, .int .i64 v, .int .i64 s]), (w.heap.size, #[.int .i64 x, .int .i64 y, .int .i64 r])]) 5 8 16 (by kernel_rfl) (by kernel_rfl) (fun _ _ d _ _ h => by cases d <;> exact h) (Hold.lasting _ _ _) K.drew (c := #[.complex .f64 0 0, .int .i64 0]) rfl ⟨rfl, rfl, fun _ _ => ⟨_, by go_simp; exact rfl⟩⟩ ?_
  simp only [List.take_succ_cons, List.take_zero, List.drop_succ_cons, List.drop_zero]
  clear K
  repeat (first
    | (refine calm_skip (by rfl) ?_; simp only [Act.put, List.setIfInBounds_toArray, List.set_cons_zero, List.set_cons_succ])
    | (refine calm_step hne.out (by rfl) rfl (by simp) ?_; apply Exists.intro; refine ⟨?_, ?_⟩
       · (intro r _ K hK; go_big_quiet_op; first
          | exact hK
          | (apply Exists.intro; refine ⟨fun _ hw => ?_, ?_⟩; (first
             | with_reducible exact rfl
             | with_reducible exact cm_mem hw (BX.out _)
             | with_reducible exact cm_mem hw (BY.out _)
             | with_reducible exact cm_mem hw (QU.out _)
             | (obtain ⟨_, _, h0, h1, h2, h3, h4, _⟩ := hw.s; have q0 := h0.cell; have q1 := h1.cell; have q2 := h2.cell; have q3 := h3.cell; have q4 := h4.cell; clear h0 h1 h2 h3 h4; simp [q0, q1, q2, q3, q4, go_sem]; exact rfl)); exact hK))))
  refine wpCalm_nil ?_
  intro b3 w13 hge_b3 K ha
  clear hne
  have K' := K.cons ha
  clear ha K
  have K := K'
  clear K'
  simp only [Act.put, List.setIfInBounds_toArray, List.set_cons_zero, List.set_cons_succ]
  obtain ⟨_, sz17, h0, h1, h2, h3, h4, h5, _⟩ := id K
  have q0 := h0.cell; have f0 := h0.frozen; have z17_0 := h0.lt
  have q1 := h1.cell; have f1 := h1.frozen; have z17_1 := h1.lt
  have q2 := h2.cell; have f2 := h2.frozen; have z17_2 := h2.lt
  have q3 := h3.cell; have f3 := h3.frozen; have z17_3 := h3.lt
  have q4 := h4.cell; have f4 := h4.frozen; have z17_4 := h4.lt
  have q5 := h5.cell; have f5 := h5.frozen; have z17_5 := h5.lt
  clear h0 h1 h2 h3 h4 h5
  go_wp2_with fail
  go_ret
  exact ⟨rfl, ((K).set2 (v0 := .complex .f64 0 0) (v1 := .int .i64 0) (by omega) (by simp <;> omega)).below⟩

end Go.Proofs.Ythkooiopiaakbaa
