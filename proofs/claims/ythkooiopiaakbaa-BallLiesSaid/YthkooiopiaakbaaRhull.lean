/- Hull of the reference. -/
import Derived.Test.YthkooiopiaakbaaRlies
import Derived.Test.YthkooiopiaakbaaHula
import Derived.Test.YthkooiopiaakbaaWhoa
namespace Go.Proofs.Ythkooiopiaakbaa
open Go.RowKit Go.Lib
attribute [local go_sem] run_store_float run_store_complex
set_option linter.unusedVariables false

set_option maxRecDepth 100000 in
set_option maxHeartbeats 2000000 in
theorem rHull_walk {x y r u v s mx my d1 d2 u1 u2 R x' y' r' e' : Int} {b1 b2 : Bool} (hx : Sm 67108864 x) (hu : Sm 67108864 u) (hy : Sm 67108864 y) (hv : Sm 67108864 v)
    (hr : 0 ≤ r ∧ r ≤ 67108864) (hs : 0 ≤ s ∧ s ≤ 67108864) (h1 : 0 ≤ u1 ∧ u1 ≤ 1000000000) (h2 : 0 ≤ u2 ∧ u2 ≤ 1000000000)
    (hR : (if u1 + r < u2 + s then u2 + s else u1 + r) = R)
    (H1 : Hid (∀ w, Calls Try.prog 101 #[.int .i64 (x + u), .int .i64 2] w (fun e w' => e = .returned (.tuple #[.int .i64 mx, .bool b1]) ∧ w = w')))
    (H2 : Hid (∀ w, Calls Try.prog 101 #[.int .i64 (y + v), .int .i64 2] w (fun e w' => e = .returned (.tuple #[.int .i64 my, .bool b2]) ∧ w = w')))
    (D1 : (Hid (∀ w, Calls Try.prog 121 #[.agg #[.int .i64 mx, .int .i64 my, .int .i64 0], .agg #[.int .i64 x, .int .i64 y, .int .i64 r]] w (Mem (.int .i64 d1) w)))) (D2 : (Hid (∀ w, Calls Try.prog 121 #[.agg #[.int .i64 mx, .int .i64 my, .int .i64 0], .agg #[.int .i64 u, .int .i64 v, .int .i64 s]] w (Mem (.int .i64 d2) w))))
    (U1 : Hid (∀ w, Calls Try.prog 116 #[.int .i64 d1] w (Quiet (.int .i64 u1) w)))
    (U2 : Hid (∀ w, Calls Try.prog 116 #[.int .i64 d2] w (Quiet (.int .i64 u2) w)))
    (HK : Hid (∀ w, Calls Try.prog 80 #[.agg #[.int .i64 mx, .int .i64 my, .int .i64 R]] w (Mem (refV x' y' r' e') w))) (w : World) :
    Calls Try.prog 56 #[.agg #[.int .i64 x, .int .i64 y, .int .i64 r], .agg #[.int .i64 u, .int .i64 v, .int .i64 s]] w (Mem (refV x' y' r' e') w) := by
  unfold refV at *
  have v0 : IntKind.i64.wrap (x + u) = x + u := IntWalk.i64_in _ (by have := hx.1; have := hx.2; have := hu.1; have := hu.2; omega)
  have v1 : IntKind.i64.wrap (y + v) = y + v := IntWalk.i64_in _ (by have := hy.1; have := hy.2; have := hv.1; have := hv.2; omega)
  have v2 : IntKind.i64.wrap (u1 + r) = u1 + r := IntWalk.i64_in _ (by omega)
  have v3 : IntKind.i64.wrap (u2 + s) = u2 + s := IntWalk.i64_in _ (by omega)
  go_enter Try.func56, Try.ntmps56
  go_wp2_with fail
  have K := (((Hold.start w).new #[.int .i64 x, .int .i64 y, .int .i64 r] 33 (n := w.heap.size) (by simp)).new #[.int .i64 u, .int .i64 v, .int .i64 s] 33 (n := w.heap.size + 1) (by simp)).new #[.int .i64 0, .int .i64 0, .int .i64 0] 33 (n := w.heap.size + 1 + 1) (by simp)
  obtain ⟨_, sz1, h0, h1, h2, _⟩ := id K
  have q0 := h0.cell; have f0 := h0.frozen; have z1_0 := h0.lt
  have q1 := h1.cell; have f1 := h1.frozen; have z1_1 := h1.lt
  have q2 := h2.cell; have f2 := h2.frozen; have z1_2 := h2.lt
  clear h0 h1 h2
  go_wp2_with fail
  refine (H1.out _).mono ?_
  rintro e_1 w_1 ⟨rfl, rfl⟩
  go_wp2_with fail
  refine (H2.out _).mono ?_
  rintro e_2 w_2 ⟨rfl, rfl⟩
  go_wp2_with fail
  clear q0 f0 q1 f1 q2 f2
  have K' := (K).new #[.int .i64 mx, .int .i64 my, .int .i64 0] 33 (n := w.heap.size + 1 + 1 + 1) (by first | rfl | (simp <;> omega))
  clear K
  have K := K'
  clear K'
  obtain ⟨_, sz2, h0, h1, h2, h3, _⟩ := id K
  have z2_0 := h0.lt; have z2_1 := h1.lt; have z2_2 := h2.lt; have z2_3 := h3.lt
  clear h0 h1 h2 h3
  have hne : Hid (∃ w', Hold w.heap.size w [(w.heap.size + 1 + 1 + 1, #[.int .i64 mx, .int .i64 my, .int .i64 0]), (w.heap.size + 1 + 1, #[.int .i64 0, .int .i64 0, .int .i64 0]), (w.heap.size + 1, #[.int .i64 u, .int .i64 v, .int .i64 s]), (w.heap.size, #[.int .i64 x, .int .i64 y, .int .i64 r])] w') := ⟨_, K.drew⟩
  refine wp_region_sink (Hold w.heap.size w [(w.heap.size + 1 + 1 + 1, #[.int .i64 mx, .int .i64 my, .int .i64 0]), (w.heap.size + 1 + 1, #[.int .i64 0, .int .i64 0, .int .i64 0]), (w.heap.size + 1, #[.int .i64 u, .int .i64 v, .int .i64 s]), (w.heap.size, #[.int .i64 x, .int .i64 y, .int .i64 r])]) 16 (by kernel_rfl) (by kernel_rfl) (Hold.lasting _ _ _) K.drew ?_
  simp only [List.take_succ_cons, List.take_zero, List.drop_succ_cons, List.drop_zero]
  clear K
  repeat (first
    | (refine calm_skip (by rfl) ?_; simp only [Act.put, List.setIfInBounds_toArray, List.set_cons_zero, List.set_cons_succ])
    | (refine calm_step hne.out (by rfl) rfl (by simp) ?_; apply Exists.intro; refine ⟨?_, ?_⟩
       · (intro r _ K hK; go_big_quiet_op; first
          | exact hK
          | (apply Exists.intro; refine ⟨fun _ hw => ?_, ?_⟩; (first
             | with_reducible exact rfl
             | with_reducible exact cm_mem hw (D1.out _)
             | with_reducible exact cm_mem hw (D2.out _)
             | with_reducible exact cm_quiet hw (U1.out _)
             | with_reducible exact cm_quiet hw (U2.out _)
             | (obtain ⟨_, _, h0, h1, h2, h3, _⟩ := hw.s; have q0 := h0.cell; have q1 := h1.cell; have q2 := h2.cell; have q3 := h3.cell; clear h0 h1 h2 h3; simp [q0, q1, q2, q3, go_sem]; exact rfl)); exact hK))))
  refine wpCalm_nil ?_
  intro w2 K
  clear hne
  obtain ⟨_, sz3, h0, h1, h2, h3, _⟩ := id K
  have q0 := h0.cell; have f0 := h0.frozen; have z3_0 := h0.lt
  have q1 := h1.cell; have f1 := h1.frozen; have z3_1 := h1.lt
  have q2 := h2.cell; have f2 := h2.frozen; have z3_2 := h2.lt
  have q3 := h3.cell; have f3 := h3.frozen; have z3_3 := h3.lt
  clear h0 h1 h2 h3
  go_wp2_with fail
  refine (HK.out _).mono ?_
  rintro e_3 w3 ⟨rfl, hb⟩
  have K' := Hold.mem ((show Hold w.heap.size w [(w.heap.size + 1 + 1 + 1, #[.int .i64 mx, .int .i64 my, .int .i64 R]), (w.heap.size + 1 + 1, #[.int .i64 0, .int .i64 0, .int .i64 0]), (w.heap.size + 1, #[.int .i64 u, .int .i64 v, .int .i64 s]), (w.heap.size, #[.int .i64 x, .int .i64 y, .int .i64 r])] _ from (K).set (by omega) (by simp <;> omega) 2 (.int .i64 R))) hb
  clear hb K
  have K := K'
  clear K'
  clear q0 f0 q1 f1 q2 f2 q3 f3
  obtain ⟨_, sz4, h0, h1, h2, h3, _⟩ := id K
  have q0 := h0.cell; have f0 := h0.frozen; have z4_0 := h0.lt
  have q1 := h1.cell; have f1 := h1.frozen; have z4_1 := h1.lt
  have q2 := h2.cell; have f2 := h2.frozen; have z4_2 := h2.lt
  have q3 := h3.cell; have f3 := h3.frozen; have z4_3 := h3.lt
  clear h0 h1 h2 h3
  go_wp2_with fail
  refine bodyPost_ret (v := .tuple #[.agg #[.int .i64 x', .int .i64 y', .int .i64 r'], .int .i64 e']) (by simp [results, Try.results56, go_sem, *]) rfl ⟨rfl, ?_⟩
  repeat (first | exact K.below | refine Below.setCell ?_ (by simp <;> omega) _ | refine Below.alloc ?_ (by first | exact K.size | (simp <;> omega)) _)

end Go.Proofs.Ythkooiopiaakbaa
