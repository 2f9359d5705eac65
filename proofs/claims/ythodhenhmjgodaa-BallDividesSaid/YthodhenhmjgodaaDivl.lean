/- The statement's function on quotients answers true. -/
import Derived.Test.YthodhenhmjgodaaRquo
namespace Go.Proofs.Ythodhenhmjgodaa
open Go.RowKit Go.Lib
attribute [local go_sem] run_store_float run_store_complex
set_option linter.unusedVariables false

set_option maxHeartbeats 2000000 in
theorem div_core (ok : Bool) {x y r u v s x' y' u' v' X Y R e d : Int} {fx fy fu fv fX fY : Nat} (hd : d = if ok = true then 0 else 2)
    (hz : ok = false → X = 0 ∧ Y = 0 ∧ R = 0 ∧ e = 2)
    (BX : Hid (∀ w, Calls Try.prog 23 #[.agg #[.int .i64 x, .int .i64 y, .int .i64 r]] w (Mem (.agg #[.complex .f64 fx fy, .int .i64 r]) w)))
    (BY : Hid (∀ w, Calls Try.prog 23 #[.agg #[.int .i64 u, .int .i64 v, .int .i64 s]] w (Mem (.agg #[.complex .f64 fu fv, .int .i64 s]) w)))
    (T1 : Hid (∀ w, Calls Try.prog 41 #[.agg #[.complex .f64 fx fy, .int .i64 r], .agg #[.complex .f64 fu fv, .int .i64 s]] w (Mem (.tuple #[.agg #[.complex .f64 fX fY, .int .i64 R], .int .i64 e]) w)))
    (TW : Hid (∀ w, Calls Try.prog 38 #[.agg #[.int .i64 x, .int .i64 y, .int .i64 r], .agg #[.int .i64 u, .int .i64 v, .int .i64 s]] w (Mem (.int .i64 d) w)))
    (OX : ok = true → Hid (∀ w, Calls Try.prog 30 #[.agg #[.complex .f64 fx fy, .int .i64 r]] w (Mem (.agg #[.int .i64 x', .int .i64 y', .int .i64 r]) w)))
    (OY : ok = true → Hid (∀ w, Calls Try.prog 30 #[.agg #[.complex .f64 fu fv, .int .i64 s]] w (Mem (.agg #[.int .i64 u', .int .i64 v', .int .i64 s]) w)))
    (RT : ok = true → Hid (∀ w, Calls Try.prog 42 #[.agg #[.int .i64 x', .int .i64 y', .int .i64 r], .agg #[.int .i64 u', .int .i64 v', .int .i64 s]] w (Mem (.tuple #[.agg #[.int .i64 X, .int .i64 Y, .int .i64 R], .int .i64 e]) w)))
    (IS : Hid (∀ w, Calls Try.prog 22 #[.agg #[.complex .f64 fX fY, .int .i64 R], .int .i64 e, .agg #[.int .i64 X, .int .i64 Y, .int .i64 R], .int .i64 e] w (Mem (.bool true) w))) (w : World) :
    Calls Try.prog 6 #[.agg #[.int .i64 x, .int .i64 y, .int .i64 r], .agg #[.int .i64 u, .int .i64 v, .int .i64 s]] w (Mem (.bool true) w) := by
  have A := Lib.hid (fun w => awake_any w)
  cases ok
  · skip
    obtain rfl : d = 2 := hd
    obtain ⟨rfl, rfl, rfl, rfl⟩ := hz rfl
    clear OX OY RT
    go_enter Try.func6, Try.ntmps6
    go_wp2_with fail
    have K := ((Hold.start w).new #[.int .i64 x, .int .i64 y, .int .i64 r] 39 (n := w.heap.size) (by simp)).new #[.int .i64 u, .int .i64 v, .int .i64 s] 39 (n := w.heap.size + 1) (by simp)
    refine (A.out _).mono ?_
    rintro e_1 w1 ⟨rfl, hb⟩
    have K' := Hold.mem (K) hb
    clear hb K
    have K := K'
    clear K'
    go_wp2_with fail
    obtain ⟨_, sz1, h0, h1, _⟩ := id K
    have z1_0 := h0.lt; have z1_1 := h1.lt
    clear h0 h1
    have hne : Hid (∃ w', Hold w.heap.size w [(w.heap.size + 1, #[.int .i64 u, .int .i64 v, .int .i64 s]), (w.heap.size, #[.int .i64 x, .int .i64 y, .int .i64 r])] w') := ⟨_, K.drew⟩
    refine wp_region_float (Hold w.heap.size w [(w.heap.size + 1, #[.int .i64 u, .int .i64 v, .int .i64 s]), (w.heap.size, #[.int .i64 x, .int .i64 y, .int .i64 r])]) 5 8 5 (by kernel_rfl) (by kernel_rfl) (fun _ _ d _ _ h => by cases d <;> exact h) (Hold.lasting _ _ _) K.drew (c := #[.complex .f64 0 0, .int .i64 0]) rfl ⟨rfl, rfl, fun _ _ => ⟨_, by go_simp; exact rfl⟩⟩ ?_
    simp only [List.take_succ_cons, List.take_zero, List.drop_succ_cons, List.drop_zero]
    clear K
    repeat (first
      | (refine calm_skip (by rfl) ?_; simp only [Act.put, List.setIfInBounds_toArray, List.set_cons_zero, List.set_cons_succ])
      | (refine calm_step hne.out (by rfl) rfl (by simp) ?_; apply Exists.intro; refine ⟨?_, ?_⟩
         · (intro r _ K hK; go_big_quiet_op; first
            | exact hK
            | (apply Exists.intro; refine ⟨fun _ hw => ?_, ?_⟩; (first
               | with_reducible exact rfl
               | with_reducible exact cm_mem hw (BX.out _)
               | with_reducible exact cm_mem hw (BY.out _)
               | with_reducible exact cm_mem hw (T1.out _)
               | (obtain ⟨_, _, h0, h1, _⟩ := hw.s; have q0 := h0.cell; have q1 := h1.cell; clear h0 h1; simp [q0, q1, go_sem]; exact rfl)); exact hK))))
    refine wpCalm_nil ?_
    intro b1 w2 hge_b1 K ha
    clear hne
    have K' := K.cons ha
    clear ha K
    have K := K'
    clear K'
    simp only [Act.put, List.setIfInBounds_toArray, List.set_cons_zero, List.set_cons_succ]
    obtain ⟨_, sz2, h0, h1, h2, _⟩ := id K
    have q0 := h0.cell; have f0 := h0.frozen; have z2_0 := h0.lt
    have q1 := h1.cell; have f1 := h1.frozen; have z2_1 := h1.lt
    have q2 := h2.cell; have f2 := h2.frozen; have z2_2 := h2.lt
    clear h0 h1 h2
    go_wp2_with fail
    refine (TW.out _).mono ?_
    rintro e_3 w3 ⟨rfl, hb⟩
    have K' := Hold.mem ((K).set2 (by omega) (by simp <;> omega)) hb
    clear hb K
    have K := K'
    clear K'
    clear q0 f0 q1 f1 q2 f2
    obtain ⟨_, sz3, h0, h1, h2, _⟩ := id K
    have q0 := h0.cell; have f0 := h0.frozen; have z3_0 := h0.lt
    have q1 := h1.cell; have f1 := h1.frozen; have z3_1 := h1.lt
    have q2 := h2.cell; have f2 := h2.frozen; have z3_2 := h2.lt
    clear h0 h1 h2
    go_wp2_with fail
    refine (IS.out _).mono ?_
    rintro e_4 w4 ⟨rfl, hb⟩
    have K' := Hold.mem ((K).new #[.int .i64 0, .int .i64 0, .int .i64 0] 33 (n := w3.heap.size) (by first | rfl | (simp <;> omega))) hb
    clear hb K
    have K := K'
    clear K'
    clear q0 f0 q1 f1 q2 f2
    go_wp2_with fail
    go_ret
    exact ⟨rfl, (K).below⟩
  · skip
    obtain rfl : d = 0 := hd
    replace OX := OX rfl; replace OY := OY rfl; replace RT := RT rfl
    clear hz
    go_enter Try.func6, Try.ntmps6
    go_wp2_with fail
    have K := ((Hold.start w).new #[.int .i64 x, .int .i64 y, .int .i64 r] 39 (n := w.heap.size) (by simp)).new #[.int .i64 u, .int .i64 v, .int .i64 s] 39 (n := w.heap.size + 1) (by simp)
    refine (A.out _).mono ?_
    rintro e_1 w1 ⟨rfl, hb⟩
    have K' := Hold.mem (K) hb
    clear hb K
    have K := K'
    clear K'
    go_wp2_with fail
    obtain ⟨_, sz1, h0, h1, _⟩ := id K
    have z1_0 := h0.lt; have z1_1 := h1.lt
    clear h0 h1
    have hne : Hid (∃ w', Hold w.heap.size w [(w.heap.size + 1, #[.int .i64 u, .int .i64 v, .int .i64 s]), (w.heap.size, #[.int .i64 x, .int .i64 y, .int .i64 r])] w') := ⟨_, K.drew⟩
    refine wp_region_float (Hold w.heap.size w [(w.heap.size + 1, #[.int .i64 u, .int .i64 v, .int .i64 s]), (w.heap.size, #[.int .i64 x, .int .i64 y, .int .i64 r])]) 5 8 5 (by kernel_rfl) (by kernel_rfl) (fun _ _ d _ _ h => by cases d <;> exact h) (Hold.lasting _ _ _) K.drew (c := #[.complex .f64 0 0, .int .i64 0]) rfl ⟨rfl, rfl, fun _ _ => ⟨_, by go_simp; exact rfl⟩⟩ ?_
    simp only [List.take_succ_cons, List.take_zero, List.drop_succ_cons, List.drop_zero]
    clear K
    repeat (first
      | (refine calm_skip (by rfl) ?_; simp only [Act.put, List.setIfInBounds_toArray, List.set_cons_zero, List.set_cons_succ])
      | (refine calm_step hne.out (by rfl) rfl (by simp) ?_; apply Exists.intro; refine ⟨?_, ?_⟩
         · (intro r _ K hK; go_big_quiet_op; first
            | exact hK
            | (apply Exists.intro; refine ⟨fun _ hw => ?_, ?_⟩; (first
               | with_reducible exact rfl
               | with_reducible exact cm_mem hw (BX.out _)
               | with_reducible exact cm_mem hw (BY.out _)
               | with_reducible exact cm_mem hw (T1.out _)
               | (obtain ⟨_, _, h0, h1, _⟩ := hw.s; have q0 := h0.cell; have q1 := h1.cell; clear h0 h1; simp [q0, q1, go_sem]; exact rfl)); exact hK))))
    refine wpCalm_nil ?_
    intro b1 w2 hge_b1 K ha
    clear hne
    have K' := K.cons ha
    clear ha K
    have K := K'
    clear K'
    simp only [Act.put, List.setIfInBounds_toArray, List.set_cons_zero, List.set_cons_succ]
    obtain ⟨_, sz2, h0, h1, h2, _⟩ := id K
    have q0 := h0.cell; have f0 := h0.frozen; have z2_0 := h0.lt
    have q1 := h1.cell; have f1 := h1.frozen; have z2_1 := h1.lt
    have q2 := h2.cell; have f2 := h2.frozen; have z2_2 := h2.lt
    clear h0 h1 h2
    go_wp2_with fail
    refine (TW.out _).mono ?_
    rintro e_3 w3 ⟨rfl, hb⟩
    have K' := Hold.mem ((K).set2 (by omega) (by simp <;> omega)) hb
    clear hb K
    have K := K'
    clear K'
    clear q0 f0 q1 f1 q2 f2
    obtain ⟨_, sz3, h0, h1, h2, _⟩ := id K
    have q0 := h0.cell; have f0 := h0.frozen; have z3_0 := h0.lt
    have q1 := h1.cell; have f1 := h1.frozen; have z3_1 := h1.lt
    have q2 := h2.cell; have f2 := h2.frozen; have z3_2 := h2.lt
    clear h0 h1 h2
    go_wp2_with fail
    clear q0 f0 q1 f1 q2 f2
    have K' := (K).new #[.int .i64 0, .int .i64 0, .int .i64 0] 33 (n := w3.heap.size) (by first | rfl | (simp <;> omega))
    clear K
    have K := K'
    clear K'
    obtain ⟨_, sz4, h0, h1, h2, h3, _⟩ := id K
    have z4_0 := h0.lt; have z4_1 := h1.lt; have z4_2 := h2.lt; have z4_3 := h3.lt
    clear h0 h1 h2 h3
    have hne : Hid (∃ w', Hold w.heap.size w [(w3.heap.size, #[.int .i64 0, .int .i64 0, .int .i64 0]), (b1, #[.complex .f64 fX fY, .int .i64 R]), (w.heap.size + 1, #[.int .i64 u, .int .i64 v, .int .i64 s]), (w.heap.size, #[.int .i64 x, .int .i64 y, .int .i64 r])] w') := ⟨_, K.drew⟩
    refine wp_region_tail (Hold w.heap.size w [(w3.heap.size, #[.int .i64 0, .int .i64 0, .int .i64 0]), (b1, #[.complex .f64 fX fY, .int .i64 R]), (w.heap.size + 1, #[.int .i64 u, .int .i64 v, .int .i64 s]), (w.heap.size, #[.int .i64 x, .int .i64 y, .int .i64 r])]) 7 10 (by kernel_rfl) (by kernel_rfl) (fun _ _ d _ _ h => by cases d <;> exact h) (Hold.lasting _ _ _) K.drew ?_
    simp only [List.take_succ_cons, List.take_zero, List.drop_succ_cons, List.drop_zero]
    clear K
    repeat (first
      | (refine calm_skip (by rfl) ?_; simp only [Act.put, List.setIfInBounds_toArray, List.set_cons_zero, List.set_cons_succ])
      | (refine calm_step hne.out (by rfl) rfl (by simp) ?_; apply Exists.intro; refine ⟨?_, ?_⟩
         · (intro r _ K hK; go_big_quiet_op; first
            | exact hK
            | (apply Exists.intro; refine ⟨fun _ hw => ?_, ?_⟩; (first
               | with_reducible exact rfl
               | with_reducible exact cm_mem hw (BX.out _)
               | with_reducible exact cm_mem hw (BY.out _)
               | with_reducible exact cm_mem hw (OX.out _)
               | with_reducible exact cm_mem hw (OY.out _)
               | with_reducible exact cm_mem hw (RT.out _)
               | (obtain ⟨_, _, h0, h1, h2, h3, _⟩ := hw.s; have q0 := h0.cell; have q1 := h1.cell; have q2 := h2.cell; have q3 := h3.cell; clear h0 h1 h2 h3; simp [q0, q1, q2, q3, go_sem]; exact rfl)); exact hK))))
    refine wpCalm_nil ?_
    intro w4 K
    clear hne
    obtain ⟨_, sz5, h0, h1, h2, h3, _⟩ := id K
    have q0 := h0.cell; have f0 := h0.frozen; have z5_0 := h0.lt
    have q1 := h1.cell; have f1 := h1.frozen; have z5_1 := h1.lt
    have q2 := h2.cell; have f2 := h2.frozen; have z5_2 := h2.lt
    have q3 := h3.cell; have f3 := h3.frozen; have z5_3 := h3.lt
    clear h0 h1 h2 h3
    go_wp2_with fail
    refine (IS.out _).mono ?_
    rintro e_5 w5 ⟨rfl, hb⟩
    have K' := Hold.mem ((K).set3 (by omega) (by simp <;> omega)) hb
    clear hb K
    have K := K'
    clear K'
    clear q0 f0 q1 f1 q2 f2 q3 f3
    go_wp2_with fail
    go_ret
    exact ⟨rfl, (K).below⟩

theorem divides_walk (x y r u v s : Int) (w : World) : Calls Try.prog 6 #[.agg #[.int .i64 x, .int .i64 y, .int .i64 r], .agg #[.int .i64 u, .int .i64 v, .int .i64 s]] w (Mem (.bool true) w) := by
  have hx := cutI_in x; have hy := cutI_in y; have hu := cutI_in u; have hv := cutI_in v
  have cx : Cp (fi (cutI x)) (fi (cutI y)) (cutI x) (cutI y) := ⟨Rp_fi _, Rp_fi _⟩
  have cy : Cp (fi (cutI u)) (fi (cutI v)) (cutI u) (cutI v) := ⟨Rp_fi _, Rp_fi _⟩
  have T1 := fun w => Quotient_all r s cx hx hy cy hu hv w
  have TW := fun w => two_any x y r u v s w
  unfold twoE at TW
  by_cases hk : ckB (cutI x) (cutI y) r = 0 ∧ ckB (cutI u) (cutI v) s = 0
  · obtain ⟨X, Y, R, e, h1, RT⟩ := pair_quo hk.1 hk.2
    rw [if_pos hk, h1] at T1
    rw [if_pos hk.1, hk.2] at TW
    exact div_core true rfl (by simp) (Lib.hid fun w => WholeBall_any x y r w) (Lib.hid fun w => WholeBall_any u v s w) (Lib.hid T1) (Lib.hid TW)
      (fun _ => Lib.hid fun w => Of_any r cx hx hy w) (fun _ => Lib.hid fun w => Of_any s cy hu hv w) (fun _ => Lib.hid RT) (Lib.hid fun w => is_any X Y R e w) w
  · have hd : (if ckB (cutI x) (cutI y) r = 0 then ckB (cutI u) (cutI v) s else ckB (cutI x) (cutI y) r) = 2 := by
      rcases ckB_cases (cutI x) (cutI y) r with h | h
      · rw [if_pos h]
        rcases ckB_cases (cutI u) (cutI v) s with h' | h'
        · exact absurd ⟨h, h'⟩ hk
        · exact h'
      · rw [if_neg (by rw [h]; decide), h]
    rw [if_neg hk] at T1
    rw [hd] at TW
    have IS := fun w => is_any 0 0 0 2 w
    rw [fi_nought] at IS
    exact div_core (x' := 0) (y' := 0) (u' := 0) (v' := 0) false rfl (fun _ => ⟨rfl, rfl, rfl, rfl⟩) (Lib.hid fun w => WholeBall_any x y r w) (Lib.hid fun w => WholeBall_any u v s w) (Lib.hid T1) (Lib.hid TW)
      (by simp) (by simp) (by simp) (Lib.hid IS) w

end Go.Proofs.Ythodhenhmjgodaa
