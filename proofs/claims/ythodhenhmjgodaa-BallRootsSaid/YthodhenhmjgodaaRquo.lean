/- The quotient of the reference. -/
import Derived.Test.YthodhenhmjgodaaRtim
import Derived.Test.YthodhenhmjgodaaRefd
import Derived.Test.YthodhenhmjgodaaQuoi
namespace Go.Proofs.Ythodhenhmjgodaa
open Go.RowKit Go.Lib
attribute [local go_sem] run_store_float run_store_complex
set_option linter.unusedVariables false

theorem refDown_any {x y : Int} (r : Int) (hx : Sm 134217728 x) (hy : Sm 134217728 y) (w : World) :
    Calls Try.prog 107 #[.agg #[.int .i64 x, .int .i64 y, .int .i64 r]] w (Mem (.int .i64 (dn x y)) w) := by
  have b := sq2_bd hx hy
  have bx := sq_bd hx
  have by' := sq_bd hy
  have HR := fun w => base_Root (sq2 x y) b.1 (by omega) w
  have hv : rti (sq2 x y) = dn x y := rfl
  rw [hv] at HR
  have hs : sq2 x y = x * x + y * y := rfl
  rw [hs] at HR b
  replace HR := Lib.hid HR
  generalize dn x y = u at *
  have w1 : IntKind.i64.wrap (x * x) = x * x := IntWalk.i64_in _ (by omega)
  have w2 : IntKind.i64.wrap (y * y) = y * y := IntWalk.i64_in _ (by omega)
  have w3 : IntKind.i64.wrap (x * x + y * y) = x * x + y * y := IntWalk.i64_in _ (by omega)
  clear hv hs hx hy
  go_enter Try.func107, Try.ntmps107
  go_wp2_with fail
  refine (HR.out _).mono ?_
  rintro e w' ⟨rfl, n, rfl⟩
  go_wp2_with fail
  go_ret
  refine ⟨rfl, ?_⟩
  repeat (first | exact Below.refl _ _ | refine Below.drew ?_ | refine below_drewN ?_ _ | refine Below.setCell ?_ (by simp <;> omega) _ | refine Below.alloc ?_ (by first | exact Nat.le_refl _ | (simp <;> omega)) _)

theorem scaledUp_of {n d q s : Int} (hq : -4611686018427387904 ≤ q ∧ q ≤ 4611686018427387904)
    (HS : Hid (∀ w, Calls Try.prog 139 #[.int .i64 n, .int .i64 d] w (fun e w' => e = .returned (.tuple #[.int .i64 q, .int .i64 s]) ∧ w = w'))) (w : World) :
    Calls Try.prog 108 #[.int .i64 n, .int .i64 d] w (fun e w' => e = .returned (.int .i64 (q + (if s = 0 then 0 else 1))) ∧ w = w') := by
  by_cases h0 : s = 0
  · subst h0
    go_enter Try.func108, Try.ntmps108
    go_wp2_with fail
    refine (HS.out _).mono ?_
    rintro e w' ⟨rfl, rfl⟩
    go_wp2_with fail
    go_ret
    exact ⟨by simp, rfl⟩
  · have hn0 : (s != 0) = true := by simpa using h0
    have hn1 : (s == 0) = false := by simpa using h0
    rw [if_neg h0]
    clear h0
    go_enter Try.func108, Try.ntmps108
    go_wp2_with fail
    refine (HS.out _).mono ?_
    rintro e w' ⟨rfl, rfl⟩
    go_wp2_with fail
    go_ret
    exact ⟨rfl, rfl⟩

set_option maxHeartbeats 2000000 in
theorem refQuo_zero {x y r u v s D : Int} (hz : D ≤ s)
    (HD : Hid (∀ w : World, Calls Try.prog 107 #[.agg #[.int .i64 u, .int .i64 v, .int .i64 s]] w (Mem (.int .i64 D) w))) (w : World) :
    Calls Try.prog 42 #[.agg #[.int .i64 x, .int .i64 y, .int .i64 r], .agg #[.int .i64 u, .int .i64 v, .int .i64 s]] w (Mem (refV 0 0 0 9) w) := by
  unfold refV
  go_enter Try.func42, Try.ntmps42
  go_wp2_with fail
  have K := ((Hold.start w).new #[.int .i64 x, .int .i64 y, .int .i64 r] 33 (n := w.heap.size) (by simp)).new #[.int .i64 u, .int .i64 v, .int .i64 s] 33 (n := w.heap.size + 1) (by simp)
  have K' := (K).new #[.int .i64 0, .int .i64 0, .int .i64 0] 33 (n := w.heap.size + 1 + 1) (by first | rfl | (simp <;> omega))
  clear K
  have K := K'
  clear K'
  obtain ⟨_, sz1, h0, h1, h2, _⟩ := id K
  have z1_0 := h0.lt; have z1_1 := h1.lt; have z1_2 := h2.lt
  clear h0 h1 h2
  have hne : Hid (∃ w', Hold w.heap.size w [(w.heap.size + 1 + 1, #[.int .i64 0, .int .i64 0, .int .i64 0]), (w.heap.size + 1, #[.int .i64 u, .int .i64 v, .int .i64 s]), (w.heap.size, #[.int .i64 x, .int .i64 y, .int .i64 r])] w') := ⟨_, K.drew⟩
  refine wp_region_tail (Hold w.heap.size w [(w.heap.size + 1 + 1, #[.int .i64 0, .int .i64 0, .int .i64 0]), (w.heap.size + 1, #[.int .i64 u, .int .i64 v, .int .i64 s]), (w.heap.size, #[.int .i64 x, .int .i64 y, .int .i64 r])]) 5 5 (by kernel_rfl) (by kernel_rfl) (fun _ _ d _ _ h => by cases d <;> exact h) (Hold.lasting _ _ _) K.drew ?_
  simp only [List.take_succ_cons, List.take_zero, List.drop_succ_cons, List.drop_zero]
  clear K
  repeat (first
    | (refine calm_skip (by rfl) ?_; simp only [Act.put, List.setIfInBounds_toArray, List.set_cons_zero, List.set_cons_succ])
    | (refine calm_step hne.out (by rfl) rfl (by simp) ?_; apply Exists.intro; refine ⟨?_, ?_⟩
       · (intro r _ K hK; go_big_quiet_op; first
          | exact hK
          | (apply Exists.intro; refine ⟨fun _ hw => ?_, ?_⟩; (first
             | with_reducible exact rfl
             | with_reducible exact cm_mem hw (HD.out _)
             | (obtain ⟨_, _, h0, h1, h2, _⟩ := hw.s; have q0 := h0.cell; have q1 := h1.cell; have q2 := h2.cell; clear h0 h1 h2; simp [q0, q1, q2, go_sem]; exact rfl)); exact hK))))
  refine wpCalm_nil ?_
  intro w1 K
  clear hne
  obtain ⟨_, sz2, h0, h1, h2, _⟩ := id K
  have q0 := h0.cell; have f0 := h0.frozen; have z2_0 := h0.lt
  have q1 := h1.cell; have f1 := h1.frozen; have z2_1 := h1.lt
  have q2 := h2.cell; have f2 := h2.frozen; have z2_2 := h2.lt
  clear h0 h1 h2
  go_wp2_with fail
  refine bodyPost_ret (v := .tuple #[.agg #[.int .i64 0, .int .i64 0, .int .i64 0], .int .i64 9]) (by simp [results, Try.results42, go_sem, *]) rfl ⟨rfl, ?_⟩
  repeat (first | exact K.below | refine Below.setCell ?_ (by simp <;> omega) _)

set_option maxHeartbeats 4000000 in
theorem refQuo_of {x y r u v s D A B X Y C m : Int} (b1 b2 bb : Bool) (hbb : bb = (b1 || b2)) (hz : ¬ D ≤ s)
    (n1 : Int) (n2 : Int) (sq : Int) (sp : Int) (den : Int) (h1 : n1 = x * u + y * v) (h2 : n2 = y * u - x * v) (h3 : sq = u * u + v * v) (h4 : sp = r * B + A * s) (h5 : den = (D - s) * D)
    (w1 : IntKind.i64.wrap (x * u) = x * u) (w2 : IntKind.i64.wrap (y * v) = y * v) (w3 : IntKind.i64.wrap (x * u + y * v) = n1) (w4 : IntKind.i64.wrap (y * u) = y * u) (w5 : IntKind.i64.wrap (x * v) = x * v) (w6 : IntKind.i64.wrap (y * u - x * v) = n2)
    (w7 : IntKind.i64.wrap (u * u) = u * u) (w8 : IntKind.i64.wrap (v * v) = v * v) (w9 : IntKind.i64.wrap (u * u + v * v) = sq)
    (w10 : IntKind.i64.wrap (r * B) = r * B) (w11 : IntKind.i64.wrap (A * s) = A * s) (w12 : IntKind.i64.wrap (r * B + A * s) = sp) (w13 : IntKind.i64.wrap (D - s) = D - s) (w14 : IntKind.i64.wrap ((D - s) * D) = den) (w15 : IntKind.i64.wrap (C + m) = C + m) (hm : m = if bb = true then 1 else 0)
    (HD : Hid (∀ w : World, Calls Try.prog 107 #[.agg #[.int .i64 u, .int .i64 v, .int .i64 s]] w (Mem (.int .i64 D) w)))
    (HA : Hid (∀ w : World, Calls Try.prog 103 #[.agg #[.int .i64 x, .int .i64 y, .int .i64 r]] w (Mem (.int .i64 A) w)))
    (HB : Hid (∀ w : World, Calls Try.prog 103 #[.agg #[.int .i64 u, .int .i64 v, .int .i64 s]] w (Mem (.int .i64 B) w)))
    (H1 : Hid (∀ w, Calls Try.prog 81 #[.int .i64 n1, .int .i64 sq] w (fun e w' => e = .returned (.tuple #[.int .i64 X, .bool b1]) ∧ w = w')))
    (H2 : Hid (∀ w, Calls Try.prog 81 #[.int .i64 n2, .int .i64 sq] w (fun e w' => e = .returned (.tuple #[.int .i64 Y, .bool b2]) ∧ w = w')))
    (HC : Hid (∀ w, Calls Try.prog 108 #[.int .i64 sp, .int .i64 den] w (fun e w' => e = .returned (.int .i64 C) ∧ w = w'))) (w : World) :
    Calls Try.prog 42 #[.agg #[.int .i64 x, .int .i64 y, .int .i64 r], .agg #[.int .i64 u, .int .i64 v, .int .i64 s]] w (Mem (chkV X Y (C + m)) w) := by
  clear h1 h2 h3 h4 h5
  have HM := fun w => more_any bb w
  rw [← hm] at HM
  replace HM := Lib.hid HM
  have HK := fun w => Checked_any X Y (C + m) w
  obtain ⟨XX, YY, RR, EE, hX⟩ := chkV_ex X Y (C + m)
  rw [hX] at HK ⊢
  replace HK := Lib.hid HK
  clear hX hm
  unfold refV at *
  cases b1
  · obtain rfl : bb = b2 := hbb
    go_enter Try.func42, Try.ntmps42
    go_wp2_with fail
    have K := ((Hold.start w).new #[.int .i64 x, .int .i64 y, .int .i64 r] 33 (n := w.heap.size) (by simp)).new #[.int .i64 u, .int .i64 v, .int .i64 s] 33 (n := w.heap.size + 1) (by simp)
    have K' := (K).new #[.int .i64 0, .int .i64 0, .int .i64 0] 33 (n := w.heap.size + 1 + 1) (by first | rfl | (simp <;> omega))
    clear K
    have K := K'
    clear K'
    obtain ⟨_, sz1, h0, h1, h2, _⟩ := id K
    have z1_0 := h0.lt; have z1_1 := h1.lt; have z1_2 := h2.lt
    clear h0 h1 h2
    have hne : Hid (∃ w', Hold w.heap.size w [(w.heap.size + 1 + 1, #[.int .i64 0, .int .i64 0, .int .i64 0]), (w.heap.size + 1, #[.int .i64 u, .int .i64 v, .int .i64 s]), (w.heap.size, #[.int .i64 x, .int .i64 y, .int .i64 r])] w') := ⟨_, K.drew⟩
    refine wp_region_tail (Hold w.heap.size w [(w.heap.size + 1 + 1, #[.int .i64 0, .int .i64 0, .int .i64 0]), (w.heap.size + 1, #[.int .i64 u, .int .i64 v, .int .i64 s]), (w.heap.size, #[.int .i64 x, .int .i64 y, .int .i64 r])]) 5 5 (by kernel_rfl) (by kernel_rfl) (fun _ _ d _ _ h => by cases d <;> exact h) (Hold.lasting _ _ _) K.drew ?_
    simp only [List.take_succ_cons, List.take_zero, List.drop_succ_cons, List.drop_zero]
    clear K
    repeat (first
      | (refine calm_skip (by rfl) ?_; simp only [Act.put, List.setIfInBounds_toArray, List.set_cons_zero, List.set_cons_succ])
      | (refine calm_step hne.out (by rfl) rfl (by simp) ?_; apply Exists.intro; refine ⟨?_, ?_⟩
         · (intro r _ K hK; go_big_quiet_op; first
            | exact hK
            | (apply Exists.intro; refine ⟨fun _ hw => ?_, ?_⟩; (first
               | with_reducible exact rfl
               | with_reducible exact cm_mem hw (HD.out _)
               | (obtain ⟨_, _, h0, h1, h2, _⟩ := hw.s; have q0 := h0.cell; have q1 := h1.cell; have q2 := h2.cell; clear h0 h1 h2; simp [q0, q1, q2, go_sem]; exact rfl)); exact hK))))
    refine wpCalm_nil ?_
    intro w1 K
    clear hne
    obtain ⟨_, sz2, h0, h1, h2, _⟩ := id K
    have q0 := h0.cell; have f0 := h0.frozen; have z2_0 := h0.lt
    have q1 := h1.cell; have f1 := h1.frozen; have z2_1 := h1.lt
    have q2 := h2.cell; have f2 := h2.frozen; have z2_2 := h2.lt
    clear h0 h1 h2
    go_wp2_with fail
    refine (H1.out _).mono ?_
    rintro e w' ⟨rfl, rfl⟩
    go_wp2_with fail
    refine (H2.out _).mono ?_
    rintro e w' ⟨rfl, rfl⟩
    go_wp2_with fail
    clear q0 f0 q1 f1 q2 f2
    obtain ⟨_, sz3, h0, h1, h2, _⟩ := id K
    have z3_0 := h0.lt; have z3_1 := h1.lt; have z3_2 := h2.lt
    clear h0 h1 h2
    have hne : Hid (∃ w', Hold w.heap.size w [(w.heap.size + 1 + 1, #[.int .i64 0, .int .i64 0, .int .i64 0]), (w.heap.size + 1, #[.int .i64 u, .int .i64 v, .int .i64 s]), (w.heap.size, #[.int .i64 x, .int .i64 y, .int .i64 r])] w') := ⟨_, K.drew⟩
    refine wp_region_tail (Hold w.heap.size w [(w.heap.size + 1 + 1, #[.int .i64 0, .int .i64 0, .int .i64 0]), (w.heap.size + 1, #[.int .i64 u, .int .i64 v, .int .i64 s]), (w.heap.size, #[.int .i64 x, .int .i64 y, .int .i64 r])]) 30 32 (by kernel_rfl) (by kernel_rfl) (fun _ _ d _ _ h => by cases d <;> exact h) (Hold.lasting _ _ _) K.drew ?_
    simp only [List.take_succ_cons, List.take_zero, List.drop_succ_cons, List.drop_zero]
    clear K
    repeat (first
      | (refine calm_skip (by rfl) ?_; simp only [Act.put, List.setIfInBounds_toArray, List.set_cons_zero, List.set_cons_succ])
      | (refine calm_step hne.out (by rfl) rfl (by simp) ?_; apply Exists.intro; refine ⟨?_, ?_⟩
         · (intro r _ K hK; go_big_quiet_op; first
            | exact hK
            | (apply Exists.intro; refine ⟨fun _ hw => ?_, ?_⟩; (first
               | with_reducible exact rfl
               | with_reducible exact cm_mem hw (HA.out _)
               | with_reducible exact cm_mem hw (HB.out _)
               | with_reducible exact cm_mem hw (HD.out _)
               | with_reducible exact cm_same hw (HC.out _)
               | with_reducible exact cm_same hw (HM.out _)
               | with_reducible exact cm_mem hw (HK.out _)
               | (obtain ⟨_, _, h0, h1, h2, _⟩ := hw.s; have q0 := h0.cell; have q1 := h1.cell; have q2 := h2.cell; clear h0 h1 h2; simp [q0, q1, q2, go_sem]; exact rfl)); exact hK))))
    refine wpCalm_nil ?_
    intro w2 K
    clear hne
    obtain ⟨_, sz4, h0, h1, h2, _⟩ := id K
    have q0 := h0.cell; have f0 := h0.frozen; have z4_0 := h0.lt
    have q1 := h1.cell; have f1 := h1.frozen; have z4_1 := h1.lt
    have q2 := h2.cell; have f2 := h2.frozen; have z4_2 := h2.lt
    clear h0 h1 h2
    go_wp2_with fail
    refine bodyPost_ret (v := .tuple #[.agg #[.int .i64 XX, .int .i64 YY, .int .i64 RR], .int .i64 EE]) (by simp [results, Try.results42, go_sem, *]) rfl ⟨rfl, ?_⟩
    repeat (first | exact K.below | refine Below.setCell ?_ (by simp <;> omega) _)
  · obtain rfl : bb = true := hbb
    go_enter Try.func42, Try.ntmps42
    go_wp2_with fail
    have K := ((Hold.start w).new #[.int .i64 x, .int .i64 y, .int .i64 r] 33 (n := w.heap.size) (by simp)).new #[.int .i64 u, .int .i64 v, .int .i64 s] 33 (n := w.heap.size + 1) (by simp)
    have K' := (K).new #[.int .i64 0, .int .i64 0, .int .i64 0] 33 (n := w.heap.size + 1 + 1) (by first | rfl | (simp <;> omega))
    clear K
    have K := K'
    clear K'
    obtain ⟨_, sz1, h0, h1, h2, _⟩ := id K
    have z1_0 := h0.lt; have z1_1 := h1.lt; have z1_2 := h2.lt
    clear h0 h1 h2
    have hne : Hid (∃ w', Hold w.heap.size w [(w.heap.size + 1 + 1, #[.int .i64 0, .int .i64 0, .int .i64 0]), (w.heap.size + 1, #[.int .i64 u, .int .i64 v, .int .i64 s]), (w.heap.size, #[.int .i64 x, .int .i64 y, .int .i64 r])] w') := ⟨_, K.drew⟩
    refine wp_region_tail (Hold w.heap.size w [(w.heap.size + 1 + 1, #[.int .i64 0, .int .i64 0, .int .i64 0]), (w.heap.size + 1, #[.int .i64 u, .int .i64 v, .int .i64 s]), (w.heap.size, #[.int .i64 x, .int .i64 y, .int .i64 r])]) 5 5 (by kernel_rfl) (by kernel_rfl) (fun _ _ d _ _ h => by cases d <;> exact h) (Hold.lasting _ _ _) K.drew ?_
    simp only [List.take_succ_cons, List.take_zero, List.drop_succ_cons, List.drop_zero]
    clear K
    repeat (first
      | (refine calm_skip (by rfl) ?_; simp only [Act.put, List.setIfInBounds_toArray, List.set_cons_zero, List.set_cons_succ])
      | (refine calm_step hne.out (by rfl) rfl (by simp) ?_; apply Exists.intro; refine ⟨?_, ?_⟩
         · (intro r _ K hK; go_big_quiet_op; first
            | exact hK
            | (apply Exists.intro; refine ⟨fun _ hw => ?_, ?_⟩; (first
               | with_reducible exact rfl
               | with_reducible exact cm_mem hw (HD.out _)
               | (obtain ⟨_, _, h0, h1, h2, _⟩ := hw.s; have q0 := h0.cell; have q1 := h1.cell; have q2 := h2.cell; clear h0 h1 h2; simp [q0, q1, q2, go_sem]; exact rfl)); exact hK))))
    refine wpCalm_nil ?_
    intro w1 K
    clear hne
    obtain ⟨_, sz2, h0, h1, h2, _⟩ := id K
    have q0 := h0.cell; have f0 := h0.frozen; have z2_0 := h0.lt
    have q1 := h1.cell; have f1 := h1.frozen; have z2_1 := h1.lt
    have q2 := h2.cell; have f2 := h2.frozen; have z2_2 := h2.lt
    clear h0 h1 h2
    go_wp2_with fail
    refine (H1.out _).mono ?_
    rintro e w' ⟨rfl, rfl⟩
    go_wp2_with fail
    refine (H2.out _).mono ?_
    rintro e w' ⟨rfl, rfl⟩
    go_wp2_with fail
    clear q0 f0 q1 f1 q2 f2
    obtain ⟨_, sz3, h0, h1, h2, _⟩ := id K
    have z3_0 := h0.lt; have z3_1 := h1.lt; have z3_2 := h2.lt
    clear h0 h1 h2
    have hne : Hid (∃ w', Hold w.heap.size w [(w.heap.size + 1 + 1, #[.int .i64 0, .int .i64 0, .int .i64 0]), (w.heap.size + 1, #[.int .i64 u, .int .i64 v, .int .i64 s]), (w.heap.size, #[.int .i64 x, .int .i64 y, .int .i64 r])] w') := ⟨_, K.drew⟩
    refine wp_region_tail (Hold w.heap.size w [(w.heap.size + 1 + 1, #[.int .i64 0, .int .i64 0, .int .i64 0]), (w.heap.size + 1, #[.int .i64 u, .int .i64 v, .int .i64 s]), (w.heap.size, #[.int .i64 x, .int .i64 y, .int .i64 r])]) 30 32 (by kernel_rfl) (by kernel_rfl) (fun _ _ d _ _ h => by cases d <;> exact h) (Hold.lasting _ _ _) K.drew ?_
    simp only [List.take_succ_cons, List.take_zero, List.drop_succ_cons, List.drop_zero]
    clear K
    repeat (first
      | (refine calm_skip (by rfl) ?_; simp only [Act.put, List.setIfInBounds_toArray, List.set_cons_zero, List.set_cons_succ])
      | (refine calm_step hne.out (by rfl) rfl (by simp) ?_; apply Exists.intro; refine ⟨?_, ?_⟩
         · (intro r _ K hK; go_big_quiet_op; first
            | exact hK
            | (apply Exists.intro; refine ⟨fun _ hw => ?_, ?_⟩; (first
               | with_reducible exact rfl
               | with_reducible exact cm_mem hw (HA.out _)
               | with_reducible exact cm_mem hw (HB.out _)
               | with_reducible exact cm_mem hw (HD.out _)
               | with_reducible exact cm_same hw (HC.out _)
               | with_reducible exact cm_same hw (HM.out _)
               | with_reducible exact cm_mem hw (HK.out _)
               | (obtain ⟨_, _, h0, h1, h2, _⟩ := hw.s; have q0 := h0.cell; have q1 := h1.cell; have q2 := h2.cell; clear h0 h1 h2; simp [q0, q1, q2, go_sem]; exact rfl)); exact hK))))
    refine wpCalm_nil ?_
    intro w2 K
    clear hne
    obtain ⟨_, sz4, h0, h1, h2, _⟩ := id K
    have q0 := h0.cell; have f0 := h0.frozen; have z4_0 := h0.lt
    have q1 := h1.cell; have f1 := h1.frozen; have z4_1 := h1.lt
    have q2 := h2.cell; have f2 := h2.frozen; have z4_2 := h2.lt
    clear h0 h1 h2
    go_wp2_with fail
    refine bodyPost_ret (v := .tuple #[.agg #[.int .i64 XX, .int .i64 YY, .int .i64 RR], .int .i64 EE]) (by simp [results, Try.results42, go_sem, *]) rfl ⟨rfl, ?_⟩
    repeat (first | exact K.below | refine Below.setCell ?_ (by simp <;> omega) _)


theorem quoR_of (x y u v r s : Int) (b1 b2 : Bool) (h1 : b1 = decide (quoN1 x y u v * 1048576 % sq2 u v ≠ 0)) (h2 : b2 = decide (quoN2 x y u v * 1048576 % sq2 u v ≠ 0)) :
    quoR x y u v r s = cdiv (quoSpread x y u v r s * 1048576) (quoDen u v s) + (if (b1 || b2) = true then 1 else 0) := by
  unfold quoR quoEx
  rw [wholeB_not, wholeB_not, ← h1, ← h2]
  cases b1 <;> cases b2 <;> rfl

theorem quot_in {n d : Int} (hd : 0 < d) (h : Sm (134217728 * d) n) : -268435456 ≤ n / d ∧ n / d ≤ 268435456 := by
  have h1 := Int.ediv_le_ediv hd (show n ≤ 134217728 * d from h.2)
  have h2 := Int.ediv_le_ediv hd (show (-134217728) * d ≤ n by have := h.1; omega)
  rw [Int.mul_ediv_cancel _ (by omega)] at h1 h2
  omega

theorem scaled20 {n d : Int} (hd : 0 < d) (h : -268435456 ≤ n / d ∧ n / d ≤ 268435456) : -562949953421312 ≤ n * 1048576 / d ∧ n * 1048576 / d ≤ 562949953421312 := by
  have e := Int.mul_ediv_add_emod n d
  have m0 := Int.emod_nonneg n (show d ≠ 0 by omega)
  have m1 := Int.emod_lt_of_pos n hd
  have l1 : d * (n / d) ≤ d * 268435456 := Int.mul_le_mul_of_nonneg_left h.2 (by omega)
  have l2 : d * (-268435456) ≤ d * (n / d) := Int.mul_le_mul_of_nonneg_left h.1 (by omega)
  have h1 := Int.ediv_le_ediv hd (show n * 1048576 ≤ 562949953421312 * d by omega)
  have h2 := Int.ediv_le_ediv hd (show (-562949953421312) * d ≤ n * 1048576 by omega)
  rw [Int.mul_ediv_cancel _ (by omega)] at h1 h2
  exact ⟨h2, h1⟩

theorem scaledRounded_in {n d : Int} (hn : Sm 4611686018427387904 n) (hd : 0 < d) (hd' : d ≤ 2305843009213693952) (h : -268435456 ≤ n / d ∧ n / d ≤ 268435456) (w : World) :
    Calls Try.prog 81 #[.int .i64 n, .int .i64 d] w (fun e w' => e = .returned (.tuple #[.int .i64 (rdiv (n * 1048576) d), .bool (decide (n * 1048576 % d ≠ 0))]) ∧ w = w') := by
  have b := scaled20 hd h
  have m0 := Int.emod_nonneg (n * 1048576) (show d ≠ 0 by omega)
  have m1 := Int.emod_lt_of_pos (n * 1048576) hd
  exact scaledRounded_of ⟨by omega, by omega⟩ m0 m1 hd' _ _ rfl (rdiv_eq _ hd) (Lib.hid fun w => scaled_in hn hd hd' h w) w

theorem scaledUp_in {n d : Int} (hn : Sm 4611686018427387904 n) (hd : 0 < d) (hd' : d ≤ 2305843009213693952) (h : -268435456 ≤ n / d ∧ n / d ≤ 268435456) (w : World) :
    Calls Try.prog 108 #[.int .i64 n, .int .i64 d] w (fun e w' => e = .returned (.int .i64 (cdiv (n * 1048576) d)) ∧ w = w') := by
  have b := scaled20 hd h
  rw [cdiv_eq _ hd]
  exact scaledUp_of ⟨by omega, by omega⟩ (Lib.hid fun w => scaled_in hn hd hd' h w) w

/-- The quotient of the reference. -/
theorem refQuo_any {x y u v r s : Int} (hx : Sm 67108864 x) (hy : Sm 67108864 y) (hu : Sm 67108864 u) (hv : Sm 67108864 v) (hr : 0 ≤ r ∧ r ≤ 67108864) (hs : 0 ≤ s ∧ s ≤ 67108864) (hz : ¬ dn u v - s ≤ 0) (w : World) :
    Calls Try.prog 42 #[.agg #[.int .i64 x, .int .i64 y, .int .i64 r], .agg #[.int .i64 u, .int .i64 v, .int .i64 s]] w (Mem (chkV (rdiv (quoN1 x y u v * 1048576) (sq2 u v)) (rdiv (quoN2 x y u v * 1048576) (sq2 u v)) (quoR x y u v r s)) w) := by
  obtain ⟨b1, b2, n1, n2, f1, f2, g1, g2, g3, g4, g5⟩ := quo_bd hx hy hu hv hr hs hz
  have hx' : Sm 134217728 x := ⟨by have := hx.1; omega, by have := hx.2; omega⟩
  have hy' : Sm 134217728 y := ⟨by have := hy.1; omega, by have := hy.2; omega⟩
  have hu' : Sm 134217728 u := ⟨by have := hu.1; omega, by have := hu.2; omega⟩
  have hv' : Sm 134217728 v := ⟨by have := hv.1; omega, by have := hv.2; omega⟩
  have e1 : quoN1 x y u v = x * u + y * v := by unfold quoN1; rw [Int.mul_neg]; omega
  have e2 : quoN2 x y u v = y * u - x * v := by unfold quoN2; rw [Int.mul_neg]; omega
  have c1 := mul_bd hx hu (by decide); have c2 := mul_bd hy hv (by decide)
  have c3 := mul_bd hx hv (by decide); have c4 := mul_bd hy hu (by decide)
  have c5 := mul_bd hu hu (by decide); have c6 := mul_bd hv hv (by decide)
  have bA := upw_bd hx hy; have bB := upw_bd hu hv; have bD := dn_bd hu hv
  have s3 := mul_bd0 hr.1 hr.2 bB.1 bB.2
  have s4 := mul_bd0 bA.1 bA.2 hs.1 hs.2
  have s5 := mul_bd0 (a := dn u v - s) (A := 134217728) (by omega) (by omega) bD.1 bD.2
  have es : sq2 u v = u * u + v * v := rfl
  have esp : quoSpread x y u v r s = r * upw u v + upw x y * s := rfl
  have ed : quoDen u v s = (dn u v - s) * dn u v := rfl
  have i3 : -268435456 ≤ quoSpread x y u v r s / quoDen u v s ∧ quoSpread x y u v r s / quoDen u v s ≤ 268435456 := by
    have h1 := Int.ediv_le_ediv g1 g4
    rw [Int.mul_ediv_cancel _ (by omega)] at h1
    have h2 := Int.ediv_nonneg g3 (Int.le_of_lt g1)
    omega
  have k3 := scaled20 g1 i3
  have k4 : -562949953421313 ≤ cdiv (quoSpread x y u v r s * 1048576) (quoDen u v s) ∧ cdiv (quoSpread x y u v r s * 1048576) (quoDen u v s) ≤ 562949953421313 := by
    rw [cdiv_eq _ g1]; split <;> omega
  have km : ∀ b : Bool, 0 ≤ (if b = true then (1 : Int) else 0) ∧ (if b = true then (1 : Int) else 0) ≤ 1 := fun b => by cases b <;> decide
  have km := km (decide (quoN1 x y u v * 1048576 % sq2 u v ≠ 0) || decide (quoN2 x y u v * 1048576 % sq2 u v ≠ 0))
  rw [quoR_of x y u v r s _ _ rfl rfl]
  refine refQuo_of (D := dn u v) (A := upw x y) (B := upw u v) _ _ _ rfl (by omega) (quoN1 x y u v) (quoN2 x y u v) (sq2 u v) (quoSpread x y u v r s) (quoDen u v s) e1 e2 es esp ed
    (IntWalk.i64_in _ (by omega)) (IntWalk.i64_in _ (by omega)) (by rw [e1]; exact IntWalk.i64_in _ (by omega)) (IntWalk.i64_in _ (by omega)) (IntWalk.i64_in _ (by omega)) (by rw [e2]; exact IntWalk.i64_in _ (by omega))
    (IntWalk.i64_in _ (by omega)) (IntWalk.i64_in _ (by omega)) (IntWalk.i64_in _ (by omega)) (IntWalk.i64_in _ (by omega)) (IntWalk.i64_in _ (by omega)) (IntWalk.i64_in _ (by omega)) (IntWalk.i64_in _ (by omega)) (IntWalk.i64_in _ (by omega)) (IntWalk.i64_in _ (by omega)) rfl
    (Lib.hid fun w => refDown_any s hu' hv' w) (Lib.hid fun w => refUp_any r hx' hy' w) (Lib.hid fun w => refUp_any s hu' hv' w)
    (Lib.hid fun w => scaledRounded_in ⟨by have := f1.1; omega, by have := f1.2; omega⟩ b1 (by omega) (quot_in b1 n1) w) (Lib.hid fun w => scaledRounded_in ⟨by have := f2.1; omega, by have := f2.2; omega⟩ b1 (by omega) (quot_in b1 n2) w)
    (Lib.hid fun w => scaledUp_in ⟨by omega, by omega⟩ g1 (by omega) i3 w) w

theorem quoR_nonneg {x y u v r s : Int} (hx : Sm 67108864 x) (hy : Sm 67108864 y) (hu : Sm 67108864 u) (hv : Sm 67108864 v) (hr : 0 ≤ r ∧ r ≤ 67108864) (hs : 0 ≤ s ∧ s ≤ 67108864) (hz : ¬ dn u v - s ≤ 0) : 0 ≤ quoR x y u v r s := by
  obtain ⟨b1, b2, n1, n2, f1, f2, g1, g2, g3, g4, g5⟩ := quo_bd hx hy hu hv hr hs hz
  have h2 := Int.ediv_nonneg (show 0 ≤ quoSpread x y u v r s * 1048576 by omega) (Int.le_of_lt g1)
  unfold quoR
  rw [cdiv_eq _ g1]
  split <;> split <;> omega

/-- What the program's and the reference's quotient give is alike. -/
theorem pair_quo {x y u v r s : Int} (h1 : ckB x y r = 0) (h2 : ckB u v s = 0) : ∃ X Y R e, quoV x y u v r s = balV (fi X) (fi Y) R e ∧
    ∀ w, Calls Try.prog 42 #[.agg #[.int .i64 x, .int .i64 y, .int .i64 r], .agg #[.int .i64 u, .int .i64 v, .int .i64 s]] w (Mem (refV X Y R e) w) := by
  obtain ⟨gx, gy, gr, gr'⟩ := ckB_ok h1
  obtain ⟨gu, gv, gs, gs'⟩ := ckB_ok h2
  unfold quoV
  by_cases hz : dn u v - s ≤ 0
  · rw [if_pos hz]
    refine ⟨0, 0, 0, 9, by rw [fi_nought], fun w => refQuo_zero (by omega) (Lib.hid fun w => refDown_any s ⟨by have := gu.1; omega, by have := gu.2; omega⟩ ⟨by have := gv.1; omega, by have := gv.2; omega⟩ w) w⟩
  · rw [if_neg hz]
    obtain ⟨X, Y, R, e, e1, e2⟩ := pair_res (x := rdiv (quoN1 x y u v * 1048576) (sq2 u v)) (y := rdiv (quoN2 x y u v * 1048576) (sq2 u v)) (quoR_nonneg gx gy gu gv ⟨gr, gr'⟩ ⟨gs, gs'⟩ hz)
    refine ⟨X, Y, R, e, e1, fun w => ?_⟩
    rw [← e2]
    exact refQuo_any gx gy gu gv ⟨gr, gr'⟩ ⟨gs, gs'⟩ hz w

end Go.Proofs.Ythodhenhmjgodaa
