/- The statement on what balls hold answers true: where the numbers are not asked for. -/
import Derived.Test.YthkooiopiaakbaaHlda
import Derived.Test.YthkooiopiaakbaaAwake
namespace Go.Proofs.Ythkooiopiaakbaa
open Go.RowKit Go.Lib
attribute [local go_sem] run_store_float run_store_complex
set_option linter.unusedVariables false

set_option maxRecDepth 100000 in
set_option maxHeartbeats 4000000 in
theorem bh_n1 {x y r u v s p0 p1 q0 q1 : Int}
    (N1 : Hid (∀ w, Calls Try.prog 47 #[.agg #[.int .i64 x, .int .i64 y, .int .i64 r]] w (Mem (.bool false) w))) (w : World) :
    Calls Try.prog 8 #[.agg #[.int .i64 x, .int .i64 y, .int .i64 r], .agg #[.int .i64 u, .int .i64 v, .int .i64 s], .agg #[.int .i64 p0, .int .i64 p1, .int .i64 q0, .int .i64 q1]] w (Mem (.bool true) w) := by
  have HA := Lib.hid (fun w => awake_any w)
  go_enter Try.func8, Try.ntmps8
  go_wp2_with fail
  have K := (((Hold.start w).new #[.int .i64 x, .int .i64 y, .int .i64 r] 39 (n := w.heap.size) (by simp)).new #[.int .i64 u, .int .i64 v, .int .i64 s] 39 (n := w.heap.size + 1) (by simp)).new #[.int .i64 p0, .int .i64 p1, .int .i64 q0, .int .i64 q1] 60 (n := w.heap.size + 1 + 1) (by simp)
  refine (HA.out _).mono ?_
  rintro e_1 w1 ⟨rfl, hb⟩
  have K' := Hold.mem (K) hb
  clear hb K
  have K := K'
  clear K'
  obtain ⟨_, sz1, _, _, h2, _⟩ := id K
  have q2 := h2.cell; have f2 := h2.frozen; have z2 := h2.lt
  clear h2
  go_wp2_with fail
  refine (N1.out _).mono ?_
  rintro e_2 w2 ⟨rfl, hb⟩
  have K' := Hold.mem (K) hb
  clear hb K
  have K := K'
  clear K'
  clear q2 f2 z2 sz1
  obtain ⟨_, sz2, _, h1, _, _⟩ := id K
  have q1 := h1.cell; have f1 := h1.frozen; have z1 := h1.lt
  clear h1
  go_wp2_with fail
  go_ret
  exact ⟨rfl, (K).below⟩

set_option maxRecDepth 100000 in
set_option maxHeartbeats 4000000 in
theorem bh_n2 {x y r u v s p0 p1 q0 q1 : Int}
    (N1 : Hid (∀ w, Calls Try.prog 47 #[.agg #[.int .i64 x, .int .i64 y, .int .i64 r]] w (Mem (.bool true) w)))
    (N2 : Hid (∀ w, Calls Try.prog 47 #[.agg #[.int .i64 u, .int .i64 v, .int .i64 s]] w (Mem (.bool false) w))) (w : World) :
    Calls Try.prog 8 #[.agg #[.int .i64 x, .int .i64 y, .int .i64 r], .agg #[.int .i64 u, .int .i64 v, .int .i64 s], .agg #[.int .i64 p0, .int .i64 p1, .int .i64 q0, .int .i64 q1]] w (Mem (.bool true) w) := by
  have HA := Lib.hid (fun w => awake_any w)
  go_enter Try.func8, Try.ntmps8
  go_wp2_with fail
  have K := (((Hold.start w).new #[.int .i64 x, .int .i64 y, .int .i64 r] 39 (n := w.heap.size) (by simp)).new #[.int .i64 u, .int .i64 v, .int .i64 s] 39 (n := w.heap.size + 1) (by simp)).new #[.int .i64 p0, .int .i64 p1, .int .i64 q0, .int .i64 q1] 60 (n := w.heap.size + 1 + 1) (by simp)
  refine (HA.out _).mono ?_
  rintro e_1 w1 ⟨rfl, hb⟩
  have K' := Hold.mem (K) hb
  clear hb K
  have K := K'
  clear K'
  obtain ⟨_, sz1, _, _, h2, _⟩ := id K
  have q2 := h2.cell; have f2 := h2.frozen; have z2 := h2.lt
  clear h2
  go_wp2_with fail
  refine (N1.out _).mono ?_
  rintro e_2 w2 ⟨rfl, hb⟩
  have K' := Hold.mem (K) hb
  clear hb K
  have K := K'
  clear K'
  clear q2 f2 z2 sz1
  obtain ⟨_, sz2, _, h1, _, _⟩ := id K
  have q1 := h1.cell; have f1 := h1.frozen; have z1 := h1.lt
  clear h1
  go_wp2_with fail
  refine (N2.out _).mono ?_
  rintro e_3 w3 ⟨rfl, hb⟩
  have K' := Hold.mem (K) hb
  clear hb K
  have K := K'
  clear K'
  clear q1 f1 z1 sz2
  obtain ⟨_, sz3, h0, _, _, _⟩ := id K
  have q0 := h0.cell; have f0 := h0.frozen; have z0 := h0.lt
  clear h0
  go_wp2_with fail
  go_ret
  exact ⟨rfl, (K).below⟩

set_option maxRecDepth 100000 in
set_option maxHeartbeats 4000000 in
theorem bh_A0 {x y r u v s p0 p1 q0 q1 : Int}
    (N1 : Hid (∀ w, Calls Try.prog 47 #[.agg #[.int .i64 x, .int .i64 y, .int .i64 r]] w (Mem (.bool true) w)))
    (N2 : Hid (∀ w, Calls Try.prog 47 #[.agg #[.int .i64 u, .int .i64 v, .int .i64 s]] w (Mem (.bool true) w)))
    (A0 : Hid (∀ w, Calls Try.prog 31 #[.int .i64 p0, .int .i64 (-100), .int .i64 100] w (Mem (.bool false) w))) (w : World) :
    Calls Try.prog 8 #[.agg #[.int .i64 x, .int .i64 y, .int .i64 r], .agg #[.int .i64 u, .int .i64 v, .int .i64 s], .agg #[.int .i64 p0, .int .i64 p1, .int .i64 q0, .int .i64 q1]] w (Mem (.bool true) w) := by
  have HA := Lib.hid (fun w => awake_any w)
  go_enter Try.func8, Try.ntmps8
  go_wp2_with fail
  have K := (((Hold.start w).new #[.int .i64 x, .int .i64 y, .int .i64 r] 39 (n := w.heap.size) (by simp)).new #[.int .i64 u, .int .i64 v, .int .i64 s] 39 (n := w.heap.size + 1) (by simp)).new #[.int .i64 p0, .int .i64 p1, .int .i64 q0, .int .i64 q1] 60 (n := w.heap.size + 1 + 1) (by simp)
  refine (HA.out _).mono ?_
  rintro e_1 w1 ⟨rfl, hb⟩
  have K' := Hold.mem (K) hb
  clear hb K
  have K := K'
  clear K'
  obtain ⟨_, sz1, _, _, h2, _⟩ := id K
  have q2 := h2.cell; have f2 := h2.frozen; have z2 := h2.lt
  clear h2
  go_wp2_with fail
  refine (N1.out _).mono ?_
  rintro e_2 w2 ⟨rfl, hb⟩
  have K' := Hold.mem (K) hb
  clear hb K
  have K := K'
  clear K'
  clear q2 f2 z2 sz1
  obtain ⟨_, sz2, _, h1, _, _⟩ := id K
  have q1 := h1.cell; have f1 := h1.frozen; have z1 := h1.lt
  clear h1
  go_wp2_with fail
  refine (N2.out _).mono ?_
  rintro e_3 w3 ⟨rfl, hb⟩
  have K' := Hold.mem (K) hb
  clear hb K
  have K := K'
  clear K'
  clear q1 f1 z1 sz2
  obtain ⟨_, sz3, h0, _, _, _⟩ := id K
  have q0 := h0.cell; have f0 := h0.frozen; have z0 := h0.lt
  clear h0
  go_wp2_with fail
  refine wp_loop_rounds 3 ?_
  rw [rounds_succ]
  go_wp2_with fail
  refine (A0.out _).mono ?_
  rintro e_4 w4 ⟨rfl, hb⟩
  have K' := Hold.mem (K) hb
  clear hb K
  have K := K'
  clear K'
  clear q0 f0 z0 sz3
  obtain ⟨_, sz4, h0, h1, h2, _⟩ := id K
  have q0 := h0.cell; have f0 := h0.frozen; have z0 := h0.lt
  have q1 := h1.cell; have f1 := h1.frozen; have z1 := h1.lt
  have q2 := h2.cell; have f2 := h2.frozen; have z2 := h2.lt
  clear h0 h1 h2
  go_wp2_with fail
  go_ret
  exact ⟨rfl, (K).below⟩

set_option maxRecDepth 100000 in
set_option maxHeartbeats 4000000 in
theorem bh_B0 {x y r u v s p0 p1 q0 q1 : Int}
    (N1 : Hid (∀ w, Calls Try.prog 47 #[.agg #[.int .i64 x, .int .i64 y, .int .i64 r]] w (Mem (.bool true) w)))
    (N2 : Hid (∀ w, Calls Try.prog 47 #[.agg #[.int .i64 u, .int .i64 v, .int .i64 s]] w (Mem (.bool true) w)))
    (A0 : Hid (∀ w, Calls Try.prog 31 #[.int .i64 p0, .int .i64 (-100), .int .i64 100] w (Mem (.bool true) w)))
    (B0 : Hid (∀ w, Calls Try.prog 31 #[.int .i64 q0, .int .i64 (-100), .int .i64 100] w (Mem (.bool false) w))) (w : World) :
    Calls Try.prog 8 #[.agg #[.int .i64 x, .int .i64 y, .int .i64 r], .agg #[.int .i64 u, .int .i64 v, .int .i64 s], .agg #[.int .i64 p0, .int .i64 p1, .int .i64 q0, .int .i64 q1]] w (Mem (.bool true) w) := by
  have HA := Lib.hid (fun w => awake_any w)
  go_enter Try.func8, Try.ntmps8
  go_wp2_with fail
  have K := (((Hold.start w).new #[.int .i64 x, .int .i64 y, .int .i64 r] 39 (n := w.heap.size) (by simp)).new #[.int .i64 u, .int .i64 v, .int .i64 s] 39 (n := w.heap.size + 1) (by simp)).new #[.int .i64 p0, .int .i64 p1, .int .i64 q0, .int .i64 q1] 60 (n := w.heap.size + 1 + 1) (by simp)
  refine (HA.out _).mono ?_
  rintro e_1 w1 ⟨rfl, hb⟩
  have K' := Hold.mem (K) hb
  clear hb K
  have K := K'
  clear K'
  obtain ⟨_, sz1, _, _, h2, _⟩ := id K
  have q2 := h2.cell; have f2 := h2.frozen; have z2 := h2.lt
  clear h2
  go_wp2_with fail
  refine (N1.out _).mono ?_
  rintro e_2 w2 ⟨rfl, hb⟩
  have K' := Hold.mem (K) hb
  clear hb K
  have K := K'
  clear K'
  clear q2 f2 z2 sz1
  obtain ⟨_, sz2, _, h1, _, _⟩ := id K
  have q1 := h1.cell; have f1 := h1.frozen; have z1 := h1.lt
  clear h1
  go_wp2_with fail
  refine (N2.out _).mono ?_
  rintro e_3 w3 ⟨rfl, hb⟩
  have K' := Hold.mem (K) hb
  clear hb K
  have K := K'
  clear K'
  clear q1 f1 z1 sz2
  obtain ⟨_, sz3, h0, _, _, _⟩ := id K
  have q0 := h0.cell; have f0 := h0.frozen; have z0 := h0.lt
  clear h0
  go_wp2_with fail
  refine wp_loop_rounds 3 ?_
  rw [rounds_succ]
  go_wp2_with fail
  refine (A0.out _).mono ?_
  rintro e_4 w4 ⟨rfl, hb⟩
  have K' := Hold.mem (K) hb
  clear hb K
  have K := K'
  clear K'
  clear q0 f0 z0 sz3
  obtain ⟨_, sz4, h0, h1, h2, _⟩ := id K
  have q0 := h0.cell; have f0 := h0.frozen; have z0 := h0.lt
  have q1 := h1.cell; have f1 := h1.frozen; have z1 := h1.lt
  have q2 := h2.cell; have f2 := h2.frozen; have z2 := h2.lt
  clear h0 h1 h2
  go_wp2_with fail
  refine (B0.out _).mono ?_
  rintro e_5 w5 ⟨rfl, hb⟩
  have K' := Hold.mem (K) hb
  clear hb K
  have K := K'
  clear K'
  clear q0 f0 q1 f1 q2 f2 z0 z1 z2 sz4
  obtain ⟨_, sz5, h0, h1, h2, _⟩ := id K
  have q0 := h0.cell; have f0 := h0.frozen; have z0 := h0.lt
  have q1 := h1.cell; have f1 := h1.frozen; have z1 := h1.lt
  have q2 := h2.cell; have f2 := h2.frozen; have z2 := h2.lt
  clear h0 h1 h2
  go_wp2_with fail
  go_ret
  exact ⟨rfl, (K).below⟩

set_option maxRecDepth 100000 in
set_option maxHeartbeats 4000000 in
theorem bh_A1 {x y r u v s p0 p1 q0 q1 : Int}
    (N1 : Hid (∀ w, Calls Try.prog 47 #[.agg #[.int .i64 x, .int .i64 y, .int .i64 r]] w (Mem (.bool true) w)))
    (N2 : Hid (∀ w, Calls Try.prog 47 #[.agg #[.int .i64 u, .int .i64 v, .int .i64 s]] w (Mem (.bool true) w)))
    (A0 : Hid (∀ w, Calls Try.prog 31 #[.int .i64 p0, .int .i64 (-100), .int .i64 100] w (Mem (.bool true) w)))
    (B0 : Hid (∀ w, Calls Try.prog 31 #[.int .i64 q0, .int .i64 (-100), .int .i64 100] w (Mem (.bool true) w)))
    (A1 : Hid (∀ w, Calls Try.prog 31 #[.int .i64 p1, .int .i64 (-100), .int .i64 100] w (Mem (.bool false) w))) (w : World) :
    Calls Try.prog 8 #[.agg #[.int .i64 x, .int .i64 y, .int .i64 r], .agg #[.int .i64 u, .int .i64 v, .int .i64 s], .agg #[.int .i64 p0, .int .i64 p1, .int .i64 q0, .int .i64 q1]] w (Mem (.bool true) w) := by
  have HA := Lib.hid (fun w => awake_any w)
  go_enter Try.func8, Try.ntmps8
  go_wp2_with fail
  have K := (((Hold.start w).new #[.int .i64 x, .int .i64 y, .int .i64 r] 39 (n := w.heap.size) (by simp)).new #[.int .i64 u, .int .i64 v, .int .i64 s] 39 (n := w.heap.size + 1) (by simp)).new #[.int .i64 p0, .int .i64 p1, .int .i64 q0, .int .i64 q1] 60 (n := w.heap.size + 1 + 1) (by simp)
  refine (HA.out _).mono ?_
  rintro e_1 w1 ⟨rfl, hb⟩
  have K' := Hold.mem (K) hb
  clear hb K
  have K := K'
  clear K'
  obtain ⟨_, sz1, _, _, h2, _⟩ := id K
  have q2 := h2.cell; have f2 := h2.frozen; have z2 := h2.lt
  clear h2
  go_wp2_with fail
  refine (N1.out _).mono ?_
  rintro e_2 w2 ⟨rfl, hb⟩
  have K' := Hold.mem (K) hb
  clear hb K
  have K := K'
  clear K'
  clear q2 f2 z2 sz1
  obtain ⟨_, sz2, _, h1, _, _⟩ := id K
  have q1 := h1.cell; have f1 := h1.frozen; have z1 := h1.lt
  clear h1
  go_wp2_with fail
  refine (N2.out _).mono ?_
  rintro e_3 w3 ⟨rfl, hb⟩
  have K' := Hold.mem (K) hb
  clear hb K
  have K := K'
  clear K'
  clear q1 f1 z1 sz2
  obtain ⟨_, sz3, h0, _, _, _⟩ := id K
  have q0 := h0.cell; have f0 := h0.frozen; have z0 := h0.lt
  clear h0
  go_wp2_with fail
  refine wp_loop_rounds 3 ?_
  rw [rounds_succ]
  go_wp2_with fail
  refine (A0.out _).mono ?_
  rintro e_4 w4 ⟨rfl, hb⟩
  have K' := Hold.mem (K) hb
  clear hb K
  have K := K'
  clear K'
  clear q0 f0 z0 sz3
  obtain ⟨_, sz4, h0, h1, h2, _⟩ := id K
  have q0 := h0.cell; have f0 := h0.frozen; have z0 := h0.lt
  have q1 := h1.cell; have f1 := h1.frozen; have z1 := h1.lt
  have q2 := h2.cell; have f2 := h2.frozen; have z2 := h2.lt
  clear h0 h1 h2
  go_wp2_with fail
  refine (B0.out _).mono ?_
  rintro e_5 w5 ⟨rfl, hb⟩
  have K' := Hold.mem (K) hb
  clear hb K
  have K := K'
  clear K'
  clear q0 f0 q1 f1 q2 f2 z0 z1 z2 sz4
  obtain ⟨_, sz5, h0, h1, h2, _⟩ := id K
  have q0 := h0.cell; have f0 := h0.frozen; have z0 := h0.lt
  have q1 := h1.cell; have f1 := h1.frozen; have z1 := h1.lt
  have q2 := h2.cell; have f2 := h2.frozen; have z2 := h2.lt
  clear h0 h1 h2
  go_wp2_with fail
  rw [rounds_succ]
  go_wp2_with fail
  refine (A1.out _).mono ?_
  rintro e_6 w6 ⟨rfl, hb⟩
  have K' := Hold.mem (K) hb
  clear hb K
  have K := K'
  clear K'
  clear q0 f0 q1 f1 q2 f2 z0 z1 z2 sz5
  obtain ⟨_, sz6, h0, h1, h2, _⟩ := id K
  have q0 := h0.cell; have f0 := h0.frozen; have z0 := h0.lt
  have q1 := h1.cell; have f1 := h1.frozen; have z1 := h1.lt
  have q2 := h2.cell; have f2 := h2.frozen; have z2 := h2.lt
  clear h0 h1 h2
  go_wp2_with fail
  go_ret
  exact ⟨rfl, (K).below⟩

set_option maxRecDepth 100000 in
set_option maxHeartbeats 4000000 in
theorem bh_B1 {x y r u v s p0 p1 q0 q1 : Int}
    (N1 : Hid (∀ w, Calls Try.prog 47 #[.agg #[.int .i64 x, .int .i64 y, .int .i64 r]] w (Mem (.bool true) w)))
    (N2 : Hid (∀ w, Calls Try.prog 47 #[.agg #[.int .i64 u, .int .i64 v, .int .i64 s]] w (Mem (.bool true) w)))
    (A0 : Hid (∀ w, Calls Try.prog 31 #[.int .i64 p0, .int .i64 (-100), .int .i64 100] w (Mem (.bool true) w)))
    (B0 : Hid (∀ w, Calls Try.prog 31 #[.int .i64 q0, .int .i64 (-100), .int .i64 100] w (Mem (.bool true) w)))
    (A1 : Hid (∀ w, Calls Try.prog 31 #[.int .i64 p1, .int .i64 (-100), .int .i64 100] w (Mem (.bool true) w)))
    (B1 : Hid (∀ w, Calls Try.prog 31 #[.int .i64 q1, .int .i64 (-100), .int .i64 100] w (Mem (.bool false) w))) (w : World) :
    Calls Try.prog 8 #[.agg #[.int .i64 x, .int .i64 y, .int .i64 r], .agg #[.int .i64 u, .int .i64 v, .int .i64 s], .agg #[.int .i64 p0, .int .i64 p1, .int .i64 q0, .int .i64 q1]] w (Mem (.bool true) w) := by
  have HA := Lib.hid (fun w => awake_any w)
  go_enter Try.func8, Try.ntmps8
  go_wp2_with fail
  have K := (((Hold.start w).new #[.int .i64 x, .int .i64 y, .int .i64 r] 39 (n := w.heap.size) (by simp)).new #[.int .i64 u, .int .i64 v, .int .i64 s] 39 (n := w.heap.size + 1) (by simp)).new #[.int .i64 p0, .int .i64 p1, .int .i64 q0, .int .i64 q1] 60 (n := w.heap.size + 1 + 1) (by simp)
  refine (HA.out _).mono ?_
  rintro e_1 w1 ⟨rfl, hb⟩
  have K' := Hold.mem (K) hb
  clear hb K
  have K := K'
  clear K'
  obtain ⟨_, sz1, _, _, h2, _⟩ := id K
  have q2 := h2.cell; have f2 := h2.frozen; have z2 := h2.lt
  clear h2
  go_wp2_with fail
  refine (N1.out _).mono ?_
  rintro e_2 w2 ⟨rfl, hb⟩
  have K' := Hold.mem (K) hb
  clear hb K
  have K := K'
  clear K'
  clear q2 f2 z2 sz1
  obtain ⟨_, sz2, _, h1, _, _⟩ := id K
  have q1 := h1.cell; have f1 := h1.frozen; have z1 := h1.lt
  clear h1
  go_wp2_with fail
  refine (N2.out _).mono ?_
  rintro e_3 w3 ⟨rfl, hb⟩
  have K' := Hold.mem (K) hb
  clear hb K
  have K := K'
  clear K'
  clear q1 f1 z1 sz2
  obtain ⟨_, sz3, h0, _, _, _⟩ := id K
  have q0 := h0.cell; have f0 := h0.frozen; have z0 := h0.lt
  clear h0
  go_wp2_with fail
  refine wp_loop_rounds 3 ?_
  rw [rounds_succ]
  go_wp2_with fail
  refine (A0.out _).mono ?_
  rintro e_4 w4 ⟨rfl, hb⟩
  have K' := Hold.mem (K) hb
  clear hb K
  have K := K'
  clear K'
  clear q0 f0 z0 sz3
  obtain ⟨_, sz4, h0, h1, h2, _⟩ := id K
  have q0 := h0.cell; have f0 := h0.frozen; have z0 := h0.lt
  have q1 := h1.cell; have f1 := h1.frozen; have z1 := h1.lt
  have q2 := h2.cell; have f2 := h2.frozen; have z2 := h2.lt
  clear h0 h1 h2
  go_wp2_with fail
  refine (B0.out _).mono ?_
  rintro e_5 w5 ⟨rfl, hb⟩
  have K' := Hold.mem (K) hb
  clear hb K
  have K := K'
  clear K'
  clear q0 f0 q1 f1 q2 f2 z0 z1 z2 sz4
  obtain ⟨_, sz5, h0, h1, h2, _⟩ := id K
  have q0 := h0.cell; have f0 := h0.frozen; have z0 := h0.lt
  have q1 := h1.cell; have f1 := h1.frozen; have z1 := h1.lt
  have q2 := h2.cell; have f2 := h2.frozen; have z2 := h2.lt
  clear h0 h1 h2
  go_wp2_with fail
  rw [rounds_succ]
  go_wp2_with fail
  refine (A1.out _).mono ?_
  rintro e_6 w6 ⟨rfl, hb⟩
  have K' := Hold.mem (K) hb
  clear hb K
  have K := K'
  clear K'
  clear q0 f0 q1 f1 q2 f2 z0 z1 z2 sz5
  obtain ⟨_, sz6, h0, h1, h2, _⟩ := id K
  have q0 := h0.cell; have f0 := h0.frozen; have z0 := h0.lt
  have q1 := h1.cell; have f1 := h1.frozen; have z1 := h1.lt
  have q2 := h2.cell; have f2 := h2.frozen; have z2 := h2.lt
  clear h0 h1 h2
  go_wp2_with fail
  refine (B1.out _).mono ?_
  rintro e_7 w7 ⟨rfl, hb⟩
  have K' := Hold.mem (K) hb
  clear hb K
  have K := K'
  clear K'
  clear q0 f0 q1 f1 q2 f2 z0 z1 z2 sz6
  obtain ⟨_, sz7, h0, h1, h2, _⟩ := id K
  have q0 := h0.cell; have f0 := h0.frozen; have z0 := h0.lt
  have q1 := h1.cell; have f1 := h1.frozen; have z1 := h1.lt
  have q2 := h2.cell; have f2 := h2.frozen; have z2 := h2.lt
  clear h0 h1 h2
  go_wp2_with fail
  go_ret
  exact ⟨rfl, (K).below⟩

set_option maxRecDepth 100000 in
set_option maxHeartbeats 4000000 in
theorem bh_sa {x y r u v s p0 p1 q0 q1 PA0 PA1 PA RR : Int}
    (N1 : Hid (∀ w, Calls Try.prog 47 #[.agg #[.int .i64 x, .int .i64 y, .int .i64 r]] w (Mem (.bool true) w)))
    (N2 : Hid (∀ w, Calls Try.prog 47 #[.agg #[.int .i64 u, .int .i64 v, .int .i64 s]] w (Mem (.bool true) w)))
    (A0 : Hid (∀ w, Calls Try.prog 31 #[.int .i64 p0, .int .i64 (-100), .int .i64 100] w (Mem (.bool true) w)))
    (B0 : Hid (∀ w, Calls Try.prog 31 #[.int .i64 q0, .int .i64 (-100), .int .i64 100] w (Mem (.bool true) w)))
    (A1 : Hid (∀ w, Calls Try.prog 31 #[.int .i64 p1, .int .i64 (-100), .int .i64 100] w (Mem (.bool true) w)))
    (B1 : Hid (∀ w, Calls Try.prog 31 #[.int .i64 q1, .int .i64 (-100), .int .i64 100] w (Mem (.bool true) w)))
    (v0 : IntKind.i64.wrap (p0 * p0) = PA0)
    (v1 : IntKind.i64.wrap (p1 * p1) = PA1)
    (v2 : IntKind.i64.wrap (PA0 + PA1) = PA)
    (v3 : IntKind.i64.wrap (r * r) = RR)
    (gA : decide (RR < PA) = true) (w : World) :
    Calls Try.prog 8 #[.agg #[.int .i64 x, .int .i64 y, .int .i64 r], .agg #[.int .i64 u, .int .i64 v, .int .i64 s], .agg #[.int .i64 p0, .int .i64 p1, .int .i64 q0, .int .i64 q1]] w (Mem (.bool true) w) := by
  have HA := Lib.hid (fun w => awake_any w)
  go_enter Try.func8, Try.ntmps8
  go_wp2_with fail
  have K := (((Hold.start w).new #[.int .i64 x, .int .i64 y, .int .i64 r] 39 (n := w.heap.size) (by simp)).new #[.int .i64 u, .int .i64 v, .int .i64 s] 39 (n := w.heap.size + 1) (by simp)).new #[.int .i64 p0, .int .i64 p1, .int .i64 q0, .int .i64 q1] 60 (n := w.heap.size + 1 + 1) (by simp)
  refine (HA.out _).mono ?_
  rintro e_1 w1 ⟨rfl, hb⟩
  have K' := Hold.mem (K) hb
  clear hb K
  have K := K'
  clear K'
  obtain ⟨_, sz1, _, _, h2, _⟩ := id K
  have q2 := h2.cell; have f2 := h2.frozen; have z2 := h2.lt
  clear h2
  go_wp2_with fail
  refine (N1.out _).mono ?_
  rintro e_2 w2 ⟨rfl, hb⟩
  have K' := Hold.mem (K) hb
  clear hb K
  have K := K'
  clear K'
  clear q2 f2 z2 sz1
  obtain ⟨_, sz2, _, h1, _, _⟩ := id K
  have q1 := h1.cell; have f1 := h1.frozen; have z1 := h1.lt
  clear h1
  go_wp2_with fail
  refine (N2.out _).mono ?_
  rintro e_3 w3 ⟨rfl, hb⟩
  have K' := Hold.mem (K) hb
  clear hb K
  have K := K'
  clear K'
  clear q1 f1 z1 sz2
  obtain ⟨_, sz3, h0, _, _, _⟩ := id K
  have q0 := h0.cell; have f0 := h0.frozen; have z0 := h0.lt
  clear h0
  go_wp2_with fail
  refine wp_loop_rounds 3 ?_
  rw [rounds_succ]
  go_wp2_with fail
  refine (A0.out _).mono ?_
  rintro e_4 w4 ⟨rfl, hb⟩
  have K' := Hold.mem (K) hb
  clear hb K
  have K := K'
  clear K'
  clear q0 f0 z0 sz3
  obtain ⟨_, sz4, h0, h1, h2, _⟩ := id K
  have q0 := h0.cell; have f0 := h0.frozen; have z0 := h0.lt
  have q1 := h1.cell; have f1 := h1.frozen; have z1 := h1.lt
  have q2 := h2.cell; have f2 := h2.frozen; have z2 := h2.lt
  clear h0 h1 h2
  go_wp2_with fail
  refine (B0.out _).mono ?_
  rintro e_5 w5 ⟨rfl, hb⟩
  have K' := Hold.mem (K) hb
  clear hb K
  have K := K'
  clear K'
  clear q0 f0 q1 f1 q2 f2 z0 z1 z2 sz4
  obtain ⟨_, sz5, h0, h1, h2, _⟩ := id K
  have q0 := h0.cell; have f0 := h0.frozen; have z0 := h0.lt
  have q1 := h1.cell; have f1 := h1.frozen; have z1 := h1.lt
  have q2 := h2.cell; have f2 := h2.frozen; have z2 := h2.lt
  clear h0 h1 h2
  go_wp2_with fail
  rw [rounds_succ]
  go_wp2_with fail
  refine (A1.out _).mono ?_
  rintro e_6 w6 ⟨rfl, hb⟩
  have K' := Hold.mem (K) hb
  clear hb K
  have K := K'
  clear K'
  clear q0 f0 q1 f1 q2 f2 z0 z1 z2 sz5
  obtain ⟨_, sz6, h0, h1, h2, _⟩ := id K
  have q0 := h0.cell; have f0 := h0.frozen; have z0 := h0.lt
  have q1 := h1.cell; have f1 := h1.frozen; have z1 := h1.lt
  have q2 := h2.cell; have f2 := h2.frozen; have z2 := h2.lt
  clear h0 h1 h2
  go_wp2_with fail
  refine (B1.out _).mono ?_
  rintro e_7 w7 ⟨rfl, hb⟩
  have K' := Hold.mem (K) hb
  clear hb K
  have K := K'
  clear K'
  clear q0 f0 q1 f1 q2 f2 z0 z1 z2 sz6
  obtain ⟨_, sz7, h0, h1, h2, _⟩ := id K
  have q0 := h0.cell; have f0 := h0.frozen; have z0 := h0.lt
  have q1 := h1.cell; have f1 := h1.frozen; have z1 := h1.lt
  have q2 := h2.cell; have f2 := h2.frozen; have z2 := h2.lt
  clear h0 h1 h2
  go_wp2_with fail
  rw [rounds_succ]
  go_wp2_with fail
  go_ret
  exact ⟨rfl, (K).below⟩

set_option maxRecDepth 100000 in
set_option maxHeartbeats 4000000 in
theorem bh_sb {x y r u v s p0 p1 q0 q1 PA0 PA1 PA RR QA0 QA1 QA SS : Int}
    (N1 : Hid (∀ w, Calls Try.prog 47 #[.agg #[.int .i64 x, .int .i64 y, .int .i64 r]] w (Mem (.bool true) w)))
    (N2 : Hid (∀ w, Calls Try.prog 47 #[.agg #[.int .i64 u, .int .i64 v, .int .i64 s]] w (Mem (.bool true) w)))
    (A0 : Hid (∀ w, Calls Try.prog 31 #[.int .i64 p0, .int .i64 (-100), .int .i64 100] w (Mem (.bool true) w)))
    (B0 : Hid (∀ w, Calls Try.prog 31 #[.int .i64 q0, .int .i64 (-100), .int .i64 100] w (Mem (.bool true) w)))
    (A1 : Hid (∀ w, Calls Try.prog 31 #[.int .i64 p1, .int .i64 (-100), .int .i64 100] w (Mem (.bool true) w)))
    (B1 : Hid (∀ w, Calls Try.prog 31 #[.int .i64 q1, .int .i64 (-100), .int .i64 100] w (Mem (.bool true) w)))
    (v0 : IntKind.i64.wrap (p0 * p0) = PA0)
    (v1 : IntKind.i64.wrap (p1 * p1) = PA1)
    (v2 : IntKind.i64.wrap (PA0 + PA1) = PA)
    (v3 : IntKind.i64.wrap (r * r) = RR)
    (gA : decide (RR < PA) = false)
    (v4 : IntKind.i64.wrap (q0 * q0) = QA0)
    (v5 : IntKind.i64.wrap (q1 * q1) = QA1)
    (v6 : IntKind.i64.wrap (QA0 + QA1) = QA)
    (v7 : IntKind.i64.wrap (s * s) = SS)
    (gB : decide (SS < QA) = true) (w : World) :
    Calls Try.prog 8 #[.agg #[.int .i64 x, .int .i64 y, .int .i64 r], .agg #[.int .i64 u, .int .i64 v, .int .i64 s], .agg #[.int .i64 p0, .int .i64 p1, .int .i64 q0, .int .i64 q1]] w (Mem (.bool true) w) := by
  have HA := Lib.hid (fun w => awake_any w)
  go_enter Try.func8, Try.ntmps8
  go_wp2_with fail
  have K := (((Hold.start w).new #[.int .i64 x, .int .i64 y, .int .i64 r] 39 (n := w.heap.size) (by simp)).new #[.int .i64 u, .int .i64 v, .int .i64 s] 39 (n := w.heap.size + 1) (by simp)).new #[.int .i64 p0, .int .i64 p1, .int .i64 q0, .int .i64 q1] 60 (n := w.heap.size + 1 + 1) (by simp)
  refine (HA.out _).mono ?_
  rintro e_1 w1 ⟨rfl, hb⟩
  have K' := Hold.mem (K) hb
  clear hb K
  have K := K'
  clear K'
  obtain ⟨_, sz1, _, _, h2, _⟩ := id K
  have q2 := h2.cell; have f2 := h2.frozen; have z2 := h2.lt
  clear h2
  go_wp2_with fail
  refine (N1.out _).mono ?_
  rintro e_2 w2 ⟨rfl, hb⟩
  have K' := Hold.mem (K) hb
  clear hb K
  have K := K'
  clear K'
  clear q2 f2 z2 sz1
  obtain ⟨_, sz2, _, h1, _, _⟩ := id K
  have q1 := h1.cell; have f1 := h1.frozen; have z1 := h1.lt
  clear h1
  go_wp2_with fail
  refine (N2.out _).mono ?_
  rintro e_3 w3 ⟨rfl, hb⟩
  have K' := Hold.mem (K) hb
  clear hb K
  have K := K'
  clear K'
  clear q1 f1 z1 sz2
  obtain ⟨_, sz3, h0, _, _, _⟩ := id K
  have q0 := h0.cell; have f0 := h0.frozen; have z0 := h0.lt
  clear h0
  go_wp2_with fail
  refine wp_loop_rounds 3 ?_
  rw [rounds_succ]
  go_wp2_with fail
  refine (A0.out _).mono ?_
  rintro e_4 w4 ⟨rfl, hb⟩
  have K' := Hold.mem (K) hb
  clear hb K
  have K := K'
  clear K'
  clear q0 f0 z0 sz3
  obtain ⟨_, sz4, h0, h1, h2, _⟩ := id K
  have q0 := h0.cell; have f0 := h0.frozen; have z0 := h0.lt
  have q1 := h1.cell; have f1 := h1.frozen; have z1 := h1.lt
  have q2 := h2.cell; have f2 := h2.frozen; have z2 := h2.lt
  clear h0 h1 h2
  go_wp2_with fail
  refine (B0.out _).mono ?_
  rintro e_5 w5 ⟨rfl, hb⟩
  have K' := Hold.mem (K) hb
  clear hb K
  have K := K'
  clear K'
  clear q0 f0 q1 f1 q2 f2 z0 z1 z2 sz4
  obtain ⟨_, sz5, h0, h1, h2, _⟩ := id K
  have q0 := h0.cell; have f0 := h0.frozen; have z0 := h0.lt
  have q1 := h1.cell; have f1 := h1.frozen; have z1 := h1.lt
  have q2 := h2.cell; have f2 := h2.frozen; have z2 := h2.lt
  clear h0 h1 h2
  go_wp2_with fail
  rw [rounds_succ]
  go_wp2_with fail
  refine (A1.out _).mono ?_
  rintro e_6 w6 ⟨rfl, hb⟩
  have K' := Hold.mem (K) hb
  clear hb K
  have K := K'
  clear K'
  clear q0 f0 q1 f1 q2 f2 z0 z1 z2 sz5
  obtain ⟨_, sz6, h0, h1, h2, _⟩ := id K
  have q0 := h0.cell; have f0 := h0.frozen; have z0 := h0.lt
  have q1 := h1.cell; have f1 := h1.frozen; have z1 := h1.lt
  have q2 := h2.cell; have f2 := h2.frozen; have z2 := h2.lt
  clear h0 h1 h2
  go_wp2_with fail
  refine (B1.out _).mono ?_
  rintro e_7 w7 ⟨rfl, hb⟩
  have K' := Hold.mem (K) hb
  clear hb K
  have K := K'
  clear K'
  clear q0 f0 q1 f1 q2 f2 z0 z1 z2 sz6
  obtain ⟨_, sz7, h0, h1, h2, _⟩ := id K
  have q0 := h0.cell; have f0 := h0.frozen; have z0 := h0.lt
  have q1 := h1.cell; have f1 := h1.frozen; have z1 := h1.lt
  have q2 := h2.cell; have f2 := h2.frozen; have z2 := h2.lt
  clear h0 h1 h2
  go_wp2_with fail
  rw [rounds_succ]
  go_wp2_with fail
  go_ret
  exact ⟨rfl, (K).below⟩

end Go.Proofs.Ythkooiopiaakbaa
