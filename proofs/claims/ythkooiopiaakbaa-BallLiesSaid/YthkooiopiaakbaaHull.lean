/- Hull of package ball. -/
import Derived.Test.YthkooiopiaakbaaCont
namespace Go.Proofs.Ythkooiopiaakbaa
open Go.RowKit Go.Lib
attribute [local go_sem] run_store_float run_store_complex
set_option linter.unusedVariables false

set_option maxRecDepth 100000 in
set_option maxHeartbeats 2000000 in
theorem Hull1_walk {a b c d p q m n e1 f1 e2 f2 : Nat} {r s u1 u2 R : Int} {t : Bool} {za zb : Nat} {zr ze : Int}
    (hr : 0 ≤ r ∧ r ≤ 67108864) (hs : 0 ≤ s ∧ s ≤ 67108864) (h1 : 0 ≤ u1 ∧ u1 ≤ 1000000000) (h2 : 0 ≤ u2 ∧ u2 ≤ 1000000000)
    (hR : (if u1 + r < u2 + s then u2 + s else u1 + r) = R)
    (HP : Hid (∀ w, Calls Try.prog 86 #[.complex .f64 a b, .complex .f64 c d] w fun e w' => e = .returned (.complex .f64 p q) ∧ w = w'))
    (HS : Hid (∀ w, Calls Try.prog 77 #[.complex .f64 p q, .int .i64 1, .int .i64 2] w (Mem (.tuple #[.complex .f64 m n, .bool t]) w)))
    (M1 : Hid (∀ w, Calls Try.prog 88 #[.complex .f64 a b, .complex .f64 m n] w fun e w' => e = .returned (.complex .f64 e1 f1) ∧ w = w'))
    (M2 : Hid (∀ w, Calls Try.prog 88 #[.complex .f64 c d, .complex .f64 m n] w fun e w' => e = .returned (.complex .f64 e2 f2) ∧ w = w'))
    (U1 : Hid (∀ w, Calls Try.prog 99 #[.complex .f64 e1 f1] w (Mem (.int .i64 u1) w)))
    (U2 : Hid (∀ w, Calls Try.prog 99 #[.complex .f64 e2 f2] w (Mem (.int .i64 u2) w)))
    (HB : Hid (∀ w, Calls Try.prog 75 #[.agg #[.complex .f64 m n, .int .i64 R]] w (Mem (balV za zb zr ze) w))) (w : World) :
    Calls Try.prog 125 #[.agg #[.complex .f64 a b, .int .i64 r], .agg #[.complex .f64 c d, .int .i64 s]] w (Mem (balV za zb zr ze) w) := by
  unfold balV at *
  have v1 : IntKind.i64.wrap (u1 + r) = u1 + r := IntWalk.i64_in _ (by omega)
  have v2 : IntKind.i64.wrap (u2 + s) = u2 + s := IntWalk.i64_in _ (by omega)
  have m1 : (if 0 < u1 + r then u1 + r else 0) = u1 + r := by split <;> omega
  have i0 : ∀ w, (Instr.index 127 (.agg #[.complex .f64 a b, .int .i64 r, .complex .f64 c d, .int .i64 s]) (.int .i64 0)).run Try.prog w = .ok (.agg #[.complex .f64 a b, .int .i64 r]) w := fun _ => by kernel_rfl
  have i1 : ∀ w, (Instr.index 127 (.agg #[.complex .f64 a b, .int .i64 r, .complex .f64 c d, .int .i64 s]) (.int .i64 1)).run Try.prog w = .ok (.agg #[.complex .f64 c d, .int .i64 s]) w := fun _ => by kernel_rfl
  go_enter Try.func125, Try.ntmps125
  go_wp2_with fail
  have K := (((Hold.start w).new #[.complex .f64 a b, .int .i64 r] 95 (n := w.heap.size) (by simp)).new #[.complex .f64 c d, .int .i64 s] 95 (n := w.heap.size + 1) (by simp)).new #[.complex .f64 0 0, .int .i64 0] 27 (n := w.heap.size + 1 + 1) (by simp)
  refine (HP.out _).mono ?_
  rintro e_1 w_1 ⟨rfl, rfl⟩
  obtain ⟨_, sz1, h0, h1, h2, _⟩ := id K
  have q0 := h0.cell; have f0 := h0.frozen; have z1_0 := h0.lt
  have q1 := h1.cell; have f1 := h1.frozen; have z1_1 := h1.lt
  have q2 := h2.cell; have f2 := h2.frozen; have z1_2 := h2.lt
  clear h0 h1 h2
  go_wp2_with fail
  refine (HS.out _).mono ?_
  rintro e_2 w1a ⟨rfl, hb⟩
  have K' := Hold.mem (K) hb
  clear hb K
  have K := K'
  clear K'
  clear q0 f0 q1 f1 q2 f2
  obtain ⟨_, sz2, h0, h1, h2, _⟩ := id K
  have q0 := h0.cell; have f0 := h0.frozen; have z2_0 := h0.lt
  have q1 := h1.cell; have f1 := h1.frozen; have z2_1 := h1.lt
  have q2 := h2.cell; have f2 := h2.frozen; have z2_2 := h2.lt
  clear h0 h1 h2
  go_wp2_with fail
  refine wp_loop_rounds 3 ?_
  rw [rounds_succ]
  go_wp2_with fail
  clear q0 f0 q1 f1 q2 f2
  have K' := (K).new #[.complex .f64 a b, .int .i64 r] 95 (n := w1a.heap.size) (by first | rfl | (simp <;> omega))
  clear K
  have K := K'
  clear K'
  obtain ⟨_, sz3, h0, h1, h2, h3, _⟩ := id K
  have z3_0 := h0.lt; have z3_1 := h1.lt; have z3_2 := h2.lt; have z3_3 := h3.lt
  clear h0 h1 h2 h3
  have hne : Hid (∃ w', Hold w.heap.size w [(w1a.heap.size, #[.complex .f64 a b, .int .i64 r]), (w.heap.size + 1 + 1, #[.complex .f64 0 0, .int .i64 0]), (w.heap.size + 1, #[.complex .f64 c d, .int .i64 s]), (w.heap.size, #[.complex .f64 a b, .int .i64 r])] w') := ⟨_, K.drew⟩
  refine wp_region_sink (Hold w.heap.size w [(w1a.heap.size, #[.complex .f64 a b, .int .i64 r]), (w.heap.size + 1 + 1, #[.complex .f64 0 0, .int .i64 0]), (w.heap.size + 1, #[.complex .f64 c d, .int .i64 s]), (w.heap.size, #[.complex .f64 a b, .int .i64 r])]) 10 (by kernel_rfl) (by kernel_rfl) (Hold.lasting _ _ _) K.drew ?_
  simp only [List.take_succ_cons, List.take_zero, List.drop_succ_cons, List.drop_zero]
  clear K
  repeat (first
    | (refine calm_skip (by rfl) ?_; simp only [Act.put, List.setIfInBounds_toArray, List.set_cons_zero, List.set_cons_succ])
    | (refine calm_step hne.out (by rfl) rfl (by simp) ?_; apply Exists.intro; refine ⟨?_, ?_⟩
       · (intro r _ K hK; go_big_quiet_op; first
          | exact hK
          | (apply Exists.intro; refine ⟨fun _ hw => ?_, ?_⟩; (first
             | with_reducible exact rfl
             | with_reducible exact cm_same hw (M1.out _)
             | with_reducible exact cm_mem hw (U1.out _)
             | (obtain ⟨_, _, h0, h1, h2, h3, _⟩ := hw.s; have q0 := h0.cell; have q1 := h1.cell; have q2 := h2.cell; have q3 := h3.cell; clear h0 h1 h2 h3; simp [q0, q1, q2, q3, go_sem]; exact rfl)); exact hK))))
  refine wpCalm_nil ?_
  intro w3 K
  clear hne
  obtain ⟨_, sz4, h0, h1, h2, h3, _⟩ := id K
  have q0 := h0.cell; have f0 := h0.frozen; have z4_0 := h0.lt
  have q1 := h1.cell; have f1 := h1.frozen; have z4_1 := h1.lt
  have q2 := h2.cell; have f2 := h2.frozen; have z4_2 := h2.lt
  have q3 := h3.cell; have f3 := h3.frozen; have z4_3 := h3.lt
  clear h0 h1 h2 h3
  go_wp2_with fail
  rw [rounds_succ]
  go_wp2_with fail
  clear q0 f0 q1 f1 q2 f2 q3 f3
  have K' := (K).new #[.complex .f64 c d, .int .i64 s] 95 (n := w3.heap.size) (by first | rfl | (simp <;> omega))
  clear K
  have K := K'
  clear K'
  obtain ⟨_, sz5, h0, h1, h2, h3, h4, _⟩ := id K
  have z5_0 := h0.lt; have z5_1 := h1.lt; have z5_2 := h2.lt; have z5_3 := h3.lt; have z5_4 := h4.lt
  clear h0 h1 h2 h3 h4
  have hne : Hid (∃ w', Hold w.heap.size w [(w3.heap.size, #[.complex .f64 c d, .int .i64 s]), (w1a.heap.size, #[.complex .f64 a b, .int .i64 r]), (w.heap.size + 1 + 1, #[.complex .f64 0 0, .int .i64 0]), (w.heap.size + 1, #[.complex .f64 c d, .int .i64 s]), (w.heap.size, #[.complex .f64 a b, .int .i64 r])] w') := ⟨_, K.drew⟩
  refine wp_region_sink (Hold w.heap.size w [(w3.heap.size, #[.complex .f64 c d, .int .i64 s]), (w1a.heap.size, #[.complex .f64 a b, .int .i64 r]), (w.heap.size + 1 + 1, #[.complex .f64 0 0, .int .i64 0]), (w.heap.size + 1, #[.complex .f64 c d, .int .i64 s]), (w.heap.size, #[.complex .f64 a b, .int .i64 r])]) 10 (by kernel_rfl) (by kernel_rfl) (Hold.lasting _ _ _) K.drew ?_
  simp only [List.take_succ_cons, List.take_zero, List.drop_succ_cons, List.drop_zero]
  clear K
  repeat (first
    | (refine calm_skip (by rfl) ?_; simp only [Act.put, List.setIfInBounds_toArray, List.set_cons_zero, List.set_cons_succ])
    | (refine calm_step hne.out (by rfl) rfl (by simp) ?_; apply Exists.intro; refine ⟨?_, ?_⟩
       · (intro r _ K hK; go_big_quiet_op; first
          | exact hK
          | (apply Exists.intro; refine ⟨fun _ hw => ?_, ?_⟩; (first
             | with_reducible exact rfl
             | with_reducible exact cm_same hw (M2.out _)
             | with_reducible exact cm_mem hw (U2.out _)
             | (obtain ⟨_, _, h0, h1, h2, h3, h4, _⟩ := hw.s; have q0 := h0.cell; have q1 := h1.cell; have q2 := h2.cell; have q3 := h3.cell; have q4 := h4.cell; clear h0 h1 h2 h3 h4; simp [q0, q1, q2, q3, q4, go_sem]; exact rfl)); exact hK))))
  refine wpCalm_nil ?_
  intro w4 K
  clear hne
  obtain ⟨_, sz6, h0, h1, h2, h3, h4, _⟩ := id K
  have q0 := h0.cell; have f0 := h0.frozen; have z6_0 := h0.lt
  have q1 := h1.cell; have f1 := h1.frozen; have z6_1 := h1.lt
  have q2 := h2.cell; have f2 := h2.frozen; have z6_2 := h2.lt
  have q3 := h3.cell; have f3 := h3.frozen; have z6_3 := h3.lt
  have q4 := h4.cell; have f4 := h4.frozen; have z6_4 := h4.lt
  clear h0 h1 h2 h3 h4
  go_wp2_with fail
  rw [rounds_succ]
  go_wp2_with fail
  refine (HB.out _).mono ?_
  rintro e_5 w5 ⟨rfl, hb⟩
  have K' := Hold.mem (K) hb
  clear hb K
  have K := K'
  clear K'
  clear q0 f0 q1 f1 q2 f2 q3 f3 q4 f4
  obtain ⟨_, sz7, h0, h1, h2, h3, h4, _⟩ := id K
  have q0 := h0.cell; have f0 := h0.frozen; have z7_0 := h0.lt
  have q1 := h1.cell; have f1 := h1.frozen; have z7_1 := h1.lt
  have q2 := h2.cell; have f2 := h2.frozen; have z7_2 := h2.lt
  have q3 := h3.cell; have f3 := h3.frozen; have z7_3 := h3.lt
  have q4 := h4.cell; have f4 := h4.frozen; have z7_4 := h4.lt
  clear h0 h1 h2 h3 h4
  go_wp2_with fail
  refine bodyPost_ret (v := .tuple #[.agg #[.complex .f64 za zb, .int .i64 zr], .int .i64 ze]) (by simp [results, Try.results125, go_sem, *]) rfl ⟨rfl, ?_⟩
  repeat (first | exact K.below | refine Below.setCell ?_ (by simp <;> omega) _ | refine Below.alloc ?_ (by first | exact K.size | (simp <;> omega)) _)

end Go.Proofs.Ythkooiopiaakbaa
