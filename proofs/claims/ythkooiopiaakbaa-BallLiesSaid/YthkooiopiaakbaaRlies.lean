/- The reference's distances, Contains, Meets and Inside. -/
import Derived.Test.YthkooiopiaakbaaNear
import Derived.Test.YthkooiopiaakbaaRefa
namespace Go.Proofs.Ythkooiopiaakbaa
open Go.RowKit Go.Lib
attribute [local go_sem] run_store_float run_store_complex
set_option linter.unusedVariables false

set_option maxRecDepth 100000 in
set_option maxHeartbeats 2000000 in
theorem dist_any {x y r u v s : Int} (hx : Sm 134217728 x) (hy : Sm 134217728 y) (hu : Sm 134217728 u) (hv : Sm 134217728 v) (w : World) :
    Calls Try.prog 121 #[.agg #[.int .i64 x, .int .i64 y, .int .i64 r], .agg #[.int .i64 u, .int .i64 v, .int .i64 s]] w (Mem (.int .i64 ((x - u) * (x - u) + (y - v) * (y - v))) w) := by
  obtain ⟨x1, x2⟩ := hx
  obtain ⟨y1, y2⟩ := hy
  obtain ⟨u1, u2⟩ := hu
  obtain ⟨v1, v2⟩ := hv
  have b1 := sq_bd (M := 268435456) (x := x - u) ⟨by omega, by omega⟩
  have b2 := sq_bd (M := 268435456) (x := y - v) ⟨by omega, by omega⟩
  have w1 : IntKind.i64.wrap (x - u) = x - u := IntWalk.i64_in _ (by omega)
  have w2 : IntKind.i64.wrap (y - v) = y - v := IntWalk.i64_in _ (by omega)
  have w3 : IntKind.i64.wrap ((x - u) * (x - u)) = (x - u) * (x - u) := IntWalk.i64_in _ (by omega)
  have w4 : IntKind.i64.wrap ((y - v) * (y - v)) = (y - v) * (y - v) := IntWalk.i64_in _ (by omega)
  have w5 : IntKind.i64.wrap (((x - u) * (x - u) + (y - v) * (y - v))) = ((x - u) * (x - u) + (y - v) * (y - v)) := IntWalk.i64_in _ (by omega)
  clear b1 b2
  go_enter Try.func121, Try.ntmps121
  go_wp2_with fail
  have K := ((Hold.start w).new #[.int .i64 x, .int .i64 y, .int .i64 r] 33 (n := w.heap.size) (by simp)).new #[.int .i64 u, .int .i64 v, .int .i64 s] 33 (n := w.heap.size + 1) (by simp)
  obtain ⟨_, sz1, h0, h1, _⟩ := id K
  have q0 := h0.cell; have f0 := h0.frozen; have z1_0 := h0.lt
  have q1 := h1.cell; have f1 := h1.frozen; have z1_1 := h1.lt
  clear h0 h1
  go_wp2_with fail
  clear q0 f0 q1 f1
  obtain ⟨_, sz2, h0, h1, _⟩ := id K
  have z2_0 := h0.lt; have z2_1 := h1.lt
  clear h0 h1
  have hne : Hid (∃ w', Hold w.heap.size w [(w.heap.size + 1, #[.int .i64 u, .int .i64 v, .int .i64 s]), (w.heap.size, #[.int .i64 x, .int .i64 y, .int .i64 r])] w') := ⟨_, K.drew⟩
  refine wp_region_tail (Hold w.heap.size w [(w.heap.size + 1, #[.int .i64 u, .int .i64 v, .int .i64 s]), (w.heap.size, #[.int .i64 x, .int .i64 y, .int .i64 r])]) 12 12 (by kernel_rfl) (by kernel_rfl) (fun _ _ d _ _ h => by cases d <;> exact h) (Hold.lasting _ _ _) K.drew ?_
  simp only [List.take_succ_cons, List.take_zero, List.drop_succ_cons, List.drop_zero]
  clear K
  repeat (first
    | (refine calm_skip (by rfl) ?_; simp only [Act.put, List.setIfInBounds_toArray, List.set_cons_zero, List.set_cons_succ])
    | (refine calm_step hne.out (by rfl) rfl (by simp) ?_; apply Exists.intro; refine ⟨?_, ?_⟩
       · (intro r _ K hK; go_big_quiet_op; first
          | exact hK
          | (apply Exists.intro; refine ⟨fun _ hw => ?_, ?_⟩; (first
             | with_reducible exact rfl
             | (obtain ⟨_, _, h0, h1, _⟩ := hw.s; have q0 := h0.cell; have q1 := h1.cell; clear h0 h1; simp [q0, q1, go_sem]; exact rfl)); exact hK))))
  refine wpCalm_nil ?_
  intro w1 K
  clear hne
  obtain ⟨_, sz3, h0, h1, _⟩ := id K
  have q0 := h0.cell; have f0 := h0.frozen; have z3_0 := h0.lt
  have q1 := h1.cell; have f1 := h1.frozen; have z3_1 := h1.lt
  clear h0 h1
  go_wp2_with fail
  go_ret
  exact ⟨rfl, K.below⟩

set_option maxRecDepth 100000 in
set_option maxHeartbeats 2000000 in
theorem rContains_walk {x y r u v s D : Int} (hr : Sm 134217728 r) (HD : Hid (∀ w, Calls Try.prog 121 #[.agg #[.int .i64 x, .int .i64 y, .int .i64 r], .agg #[.int .i64 u, .int .i64 v, .int .i64 0]] w (Mem (.int .i64 D) w))) (w : World) :
    Calls Try.prog 52 #[.agg #[.int .i64 x, .int .i64 y, .int .i64 r], .int .i64 u, .int .i64 v] w (Mem (.bool (decide (D ≤ r * r))) w) := by
  have b1 := sq_bd hr
  have w1 : IntKind.i64.wrap (r * r) = r * r := IntWalk.i64_in _ (by omega)
  go_enter Try.func52, Try.ntmps52
  go_wp2_with fail
  have K := (Hold.start w).new #[.int .i64 x, .int .i64 y, .int .i64 r] 33 (n := w.heap.size) (by simp)
  obtain ⟨_, sz1, h0, _⟩ := id K
  have q0 := h0.cell; have f0 := h0.frozen; have z1_0 := h0.lt
  clear h0
  go_wp2_with fail
  clear q0 f0
  obtain ⟨_, sz2, h0, _⟩ := id K
  have z2_0 := h0.lt
  clear h0
  have hne : Hid (∃ w', Hold w.heap.size w [(w.heap.size, #[.int .i64 x, .int .i64 y, .int .i64 r])] w') := ⟨_, K.drew⟩
  refine wp_region_tail (Hold w.heap.size w [(w.heap.size, #[.int .i64 x, .int .i64 y, .int .i64 r])]) 11 11 (by kernel_rfl) (by kernel_rfl) (fun _ _ d _ _ h => by cases d <;> exact h) (Hold.lasting _ _ _) K.drew ?_
  simp only [List.take_succ_cons, List.take_zero, List.drop_succ_cons, List.drop_zero]
  clear K
  repeat (first
    | (refine calm_skip (by rfl) ?_; simp only [Act.put, List.setIfInBounds_toArray, List.set_cons_zero, List.set_cons_succ])
    | (refine calm_step hne.out (by rfl) rfl (by simp) ?_; apply Exists.intro; refine ⟨?_, ?_⟩
       · (intro r _ K hK; go_big_quiet_op; first
          | exact hK
          | (apply Exists.intro; refine ⟨fun _ hw => ?_, ?_⟩; (first
             | with_reducible exact rfl
             | with_reducible exact cm_mem hw (HD.out _)
             | (obtain ⟨_, _, h0, _⟩ := hw.s; have q0 := h0.cell; clear h0; simp [q0, go_sem]; exact rfl)); exact hK))))
  refine wpCalm_nil ?_
  intro w1 K
  clear hne
  obtain ⟨_, sz3, h0, _⟩ := id K
  have q0 := h0.cell; have f0 := h0.frozen; have z3_0 := h0.lt
  clear h0
  go_wp2_with fail
  go_ret
  exact ⟨rfl, K.below⟩

set_option maxRecDepth 100000 in
set_option maxHeartbeats 2000000 in
theorem rMeets_walk {x y r u v s D : Int} (hr : Sm 134217728 (r + s)) (HD : Hid (∀ w, Calls Try.prog 121 #[.agg #[.int .i64 x, .int .i64 y, .int .i64 r], .agg #[.int .i64 u, .int .i64 v, .int .i64 s]] w (Mem (.int .i64 D) w))) (w : World) :
    Calls Try.prog 57 #[.agg #[.int .i64 x, .int .i64 y, .int .i64 r], .agg #[.int .i64 u, .int .i64 v, .int .i64 s]] w (Mem (.bool (decide (D ≤ (r + s) * (r + s)))) w) := by
  have b1 := sq_bd hr
  have w0 : IntKind.i64.wrap (r + s) = r + s := IntWalk.i64_in _ (by have := hr.1; have := hr.2; omega)
  have w1 : IntKind.i64.wrap ((r + s) * (r + s)) = (r + s) * (r + s) := IntWalk.i64_in _ (by omega)
  go_enter Try.func57, Try.ntmps57
  go_wp2_with fail
  have K := ((Hold.start w).new #[.int .i64 x, .int .i64 y, .int .i64 r] 33 (n := w.heap.size) (by simp)).new #[.int .i64 u, .int .i64 v, .int .i64 s] 33 (n := w.heap.size + 1) (by simp)
  obtain ⟨_, sz1, h0, h1, _⟩ := id K
  have q0 := h0.cell; have f0 := h0.frozen; have z1_0 := h0.lt
  have q1 := h1.cell; have f1 := h1.frozen; have z1_1 := h1.lt
  clear h0 h1
  go_wp2_with fail
  clear q0 f0 q1 f1
  obtain ⟨_, sz2, h0, h1, _⟩ := id K
  have z2_0 := h0.lt; have z2_1 := h1.lt
  clear h0 h1
  have hne : Hid (∃ w', Hold w.heap.size w [(w.heap.size + 1, #[.int .i64 u, .int .i64 v, .int .i64 s]), (w.heap.size, #[.int .i64 x, .int .i64 y, .int .i64 r])] w') := ⟨_, K.drew⟩
  refine wp_region_tail (Hold w.heap.size w [(w.heap.size + 1, #[.int .i64 u, .int .i64 v, .int .i64 s]), (w.heap.size, #[.int .i64 x, .int .i64 y, .int .i64 r])]) 15 15 (by kernel_rfl) (by kernel_rfl) (fun _ _ d _ _ h => by cases d <;> exact h) (Hold.lasting _ _ _) K.drew ?_
  simp only [List.take_succ_cons, List.take_zero, List.drop_succ_cons, List.drop_zero]
  clear K
  repeat (first
    | (refine calm_skip (by rfl) ?_; simp only [Act.put, List.setIfInBounds_toArray, List.set_cons_zero, List.set_cons_succ])
    | (refine calm_step hne.out (by rfl) rfl (by simp) ?_; apply Exists.intro; refine ⟨?_, ?_⟩
       · (intro r _ K hK; go_big_quiet_op; first
          | exact hK
          | (apply Exists.intro; refine ⟨fun _ hw => ?_, ?_⟩; (first
             | with_reducible exact rfl
             | with_reducible exact cm_mem hw (HD.out _)
             | (obtain ⟨_, _, h0, h1, _⟩ := hw.s; have q0 := h0.cell; have q1 := h1.cell; clear h0 h1; simp [q0, q1, go_sem]; exact rfl)); exact hK))))
  refine wpCalm_nil ?_
  intro w1 K
  clear hne
  obtain ⟨_, sz3, h0, h1, _⟩ := id K
  have q0 := h0.cell; have f0 := h0.frozen; have z3_0 := h0.lt
  have q1 := h1.cell; have f1 := h1.frozen; have z3_1 := h1.lt
  clear h0 h1
  go_wp2_with fail
  go_ret
  exact ⟨rfl, K.below⟩

set_option maxRecDepth 100000 in
set_option maxHeartbeats 2000000 in
theorem rInside_walk {x y r u v s D : Int} (h : r ≤ s) (hr : Sm 134217728 (s - r)) (HD : Hid (∀ w, Calls Try.prog 121 #[.agg #[.int .i64 x, .int .i64 y, .int .i64 r], .agg #[.int .i64 u, .int .i64 v, .int .i64 s]] w (Mem (.int .i64 D) w))) (w : World) :
    Calls Try.prog 58 #[.agg #[.int .i64 x, .int .i64 y, .int .i64 r], .agg #[.int .i64 u, .int .i64 v, .int .i64 s]] w (Mem (.bool (decide (D ≤ (s - r) * (s - r)))) w) := by
  have g1 : decide (r ≤ s) = true := by simpa using h
  have b1 := sq_bd hr
  have w0 : IntKind.i64.wrap (s - r) = s - r := IntWalk.i64_in _ (by have := hr.1; have := hr.2; omega)
  have w1 : IntKind.i64.wrap ((s - r) * (s - r)) = (s - r) * (s - r) := IntWalk.i64_in _ (by omega)
  go_enter Try.func58, Try.ntmps58
  go_wp2_with fail
  have K := ((Hold.start w).new #[.int .i64 x, .int .i64 y, .int .i64 r] 33 (n := w.heap.size) (by simp)).new #[.int .i64 u, .int .i64 v, .int .i64 s] 33 (n := w.heap.size + 1) (by simp)
  obtain ⟨_, sz1, h0, h1, _⟩ := id K
  have q0 := h0.cell; have f0 := h0.frozen; have z1_0 := h0.lt
  have q1 := h1.cell; have f1 := h1.frozen; have z1_1 := h1.lt
  clear h0 h1
  go_wp2_with fail
  clear q0 f0 q1 f1
  obtain ⟨_, sz2, h0, h1, _⟩ := id K
  have z2_0 := h0.lt; have z2_1 := h1.lt
  clear h0 h1
  have hne : Hid (∃ w', Hold w.heap.size w [(w.heap.size + 1, #[.int .i64 u, .int .i64 v, .int .i64 s]), (w.heap.size, #[.int .i64 x, .int .i64 y, .int .i64 r])] w') := ⟨_, K.drew⟩
  refine wp_region_tail (Hold w.heap.size w [(w.heap.size + 1, #[.int .i64 u, .int .i64 v, .int .i64 s]), (w.heap.size, #[.int .i64 x, .int .i64 y, .int .i64 r])]) 22 22 (by kernel_rfl) (by kernel_rfl) (fun _ _ d _ _ h => by cases d <;> exact h) (Hold.lasting _ _ _) K.drew ?_
  simp only [List.take_succ_cons, List.take_zero, List.drop_succ_cons, List.drop_zero]
  clear K
  repeat (first
    | (refine calm_skip (by rfl) ?_; simp only [Act.put, List.setIfInBounds_toArray, List.set_cons_zero, List.set_cons_succ])
    | (refine calm_step hne.out (by rfl) rfl (by simp) ?_; apply Exists.intro; refine ⟨?_, ?_⟩
       · (intro r _ K hK; go_big_quiet_op; first
          | exact hK
          | (apply Exists.intro; refine ⟨fun _ hw => ?_, ?_⟩; (first
             | with_reducible exact rfl
             | with_reducible exact cm_mem hw (HD.out _)
             | (obtain ⟨_, _, h0, h1, _⟩ := hw.s; have q0 := h0.cell; have q1 := h1.cell; clear h0 h1; simp [q0, q1, go_sem]; exact rfl)); exact hK))))
  refine wpCalm_nil ?_
  intro w1 K
  clear hne
  obtain ⟨_, sz3, h0, h1, _⟩ := id K
  have q0 := h0.cell; have f0 := h0.frozen; have z3_0 := h0.lt
  have q1 := h1.cell; have f1 := h1.frozen; have z3_1 := h1.lt
  clear h0 h1
  go_wp2_with fail
  go_ret
  exact ⟨rfl, K.below⟩

set_option maxRecDepth 100000 in
set_option maxHeartbeats 2000000 in
theorem rInside_no {x y r u v s D : Int} (h : ¬ r ≤ s)  (w : World) :
    Calls Try.prog 58 #[.agg #[.int .i64 x, .int .i64 y, .int .i64 r], .agg #[.int .i64 u, .int .i64 v, .int .i64 s]] w (Mem (.bool (false)) w) := by
  have g1 : decide (r ≤ s) = false := by simpa using h
  go_enter Try.func58, Try.ntmps58
  go_wp2_with fail
  have K := ((Hold.start w).new #[.int .i64 x, .int .i64 y, .int .i64 r] 33 (n := w.heap.size) (by simp)).new #[.int .i64 u, .int .i64 v, .int .i64 s] 33 (n := w.heap.size + 1) (by simp)
  obtain ⟨_, sz1, h0, h1, _⟩ := id K
  have q0 := h0.cell; have f0 := h0.frozen; have z1_0 := h0.lt
  have q1 := h1.cell; have f1 := h1.frozen; have z1_1 := h1.lt
  clear h0 h1
  go_wp2_with fail
  clear q0 f0 q1 f1
  obtain ⟨_, sz2, h0, h1, _⟩ := id K
  have z2_0 := h0.lt; have z2_1 := h1.lt
  clear h0 h1
  have hne : Hid (∃ w', Hold w.heap.size w [(w.heap.size + 1, #[.int .i64 u, .int .i64 v, .int .i64 s]), (w.heap.size, #[.int .i64 x, .int .i64 y, .int .i64 r])] w') := ⟨_, K.drew⟩
  refine wp_region_tail (Hold w.heap.size w [(w.heap.size + 1, #[.int .i64 u, .int .i64 v, .int .i64 s]), (w.heap.size, #[.int .i64 x, .int .i64 y, .int .i64 r])]) 22 22 (by kernel_rfl) (by kernel_rfl) (fun _ _ d _ _ h => by cases d <;> exact h) (Hold.lasting _ _ _) K.drew ?_
  simp only [List.take_succ_cons, List.take_zero, List.drop_succ_cons, List.drop_zero]
  clear K
  repeat (first
    | (refine calm_skip (by rfl) ?_; simp only [Act.put, List.setIfInBounds_toArray, List.set_cons_zero, List.set_cons_succ])
    | (refine calm_step hne.out (by rfl) rfl (by simp) ?_; apply Exists.intro; refine ⟨?_, ?_⟩
       · (intro r _ K hK; go_big_quiet_op; first
          | exact hK
          | (apply Exists.intro; refine ⟨fun _ hw => ?_, ?_⟩; (first
             | with_reducible exact rfl
             | (obtain ⟨_, _, h0, h1, _⟩ := hw.s; have q0 := h0.cell; have q1 := h1.cell; clear h0 h1; simp [q0, q1, go_sem]; exact rfl)); exact hK))))
  refine wpCalm_nil ?_
  intro w1 K
  clear hne
  obtain ⟨_, sz3, h0, h1, _⟩ := id K
  have q0 := h0.cell; have f0 := h0.frozen; have z3_0 := h0.lt
  have q1 := h1.cell; have f1 := h1.frozen; have z3_1 := h1.lt
  clear h0 h1
  go_wp2_with fail
  go_ret
  exact ⟨rfl, K.below⟩

end Go.Proofs.Ythkooiopiaakbaa
