/- The reference's roots. -/
import Derived.Test.YthodhenhmjgodaaRoob
import Derived.Test.YthodhenhmjgodaaRtur
import Derived.Test.YthodhenhmjgodaaRquo
namespace Go.Proofs.Ythodhenhmjgodaa
open Go.RowKit Go.Lib
attribute [local go_sem] run_store_float run_store_complex
set_option linter.unusedVariables false

theorem Size_any (n : Int) (h : Sm 9007199254740992 n) (w : World) : Calls Try.prog 114 #[.int .i64 n] w fun e w' => e = .returned (.int .i64 (rtA n)) ∧ w = w' := by
  have e : rtA n = max n (-n) := by unfold rtA; split <;> omega
  have h1 := h.1; have h2 := h.2
  rw [e]
  clear e h
  go_enter Try.func114, Try.ntmps114
  go_wp2
  go_ret
  exact ⟨rfl, rfl⟩

set_option maxHeartbeats 4000000 in
theorem refRoot_zero {x y r D : Int} (hz : D ≤ r)
    (HD : Hid (∀ w, Calls Try.prog 107 #[.agg #[.int .i64 x, .int .i64 y, .int .i64 r]] w (Mem (.int .i64 D) w))) (w : World) :
    Calls Try.prog 45 #[.agg #[.int .i64 x, .int .i64 y, .int .i64 r]] w (Mem (refV 0 0 0 9) w) := by
  unfold refV
  have g0 : decide (D ≤ r) = true := by simpa using hz
  go_enter Try.func45, Try.ntmps45
  go_wp2_with fail
  have K := ((Hold.start w).new #[.int .i64 x, .int .i64 y, .int .i64 r] 33 (n := w.heap.size) (by simp)).new #[.int .i64 0, .int .i64 0, .int .i64 0] 33 (n := w.heap.size + 1) (by simp)
  refine (HD.out _).mono ?_
  rintro e_1 w1 ⟨rfl, hb⟩
  have K' := Hold.mem (K) hb
  clear hb K
  have K := K'
  clear K'
  obtain ⟨_, sz1, h0, h1, _⟩ := id K
  have q0 := h0.cell; have f0 := h0.frozen; have z1_0 := h0.lt
  have q1 := h1.cell; have f1 := h1.frozen; have z1_1 := h1.lt
  clear h0 h1
  go_wp2_with fail
  refine bodyPost_ret (v := .tuple #[.agg #[.int .i64 0, .int .i64 0, .int .i64 0], .int .i64 9]) (by simp [results, Try.results45, go_sem, *]) rfl ⟨rfl, ?_⟩
  repeat (first | exact K.below | refine Below.setCell ?_ (by simp <;> omega) _)

set_option maxHeartbeats 4000000 in
theorem refRoot_clash {x y r D : Int} (hz : ¬ D ≤ r) (hx : x < 0) (hr : r ≠ 0) (A : Int) (hA : A ≤ r)
    (HS : Hid (∀ w, Calls Try.prog 114 #[.int .i64 y] w fun e w' => e = .returned (.int .i64 A) ∧ w = w'))
    (HD : Hid (∀ w, Calls Try.prog 107 #[.agg #[.int .i64 x, .int .i64 y, .int .i64 r]] w (Mem (.int .i64 D) w))) (w : World) :
    Calls Try.prog 45 #[.agg #[.int .i64 x, .int .i64 y, .int .i64 r]] w (Mem (refV 0 0 0 14) w) := by
  unfold refV
  have g0 : decide (D ≤ r) = false := by simpa using hz
  have g1 : decide (x < 0) = true := by simpa using hx
  have g2 : (r != 0) = true := by simpa using hr
  have g3 : (r == 0) = false := by simpa using hr
  have g4 : decide (A ≤ r) = true := by simpa using hA
  clear hr
  go_enter Try.func45, Try.ntmps45
  go_wp2_with fail
  have K := ((Hold.start w).new #[.int .i64 x, .int .i64 y, .int .i64 r] 33 (n := w.heap.size) (by simp)).new #[.int .i64 0, .int .i64 0, .int .i64 0] 33 (n := w.heap.size + 1) (by simp)
  refine (HD.out _).mono ?_
  rintro e_1 w1 ⟨rfl, hb⟩
  have K' := Hold.mem (K) hb
  clear hb K
  have K := K'
  clear K'
  obtain ⟨_, sz1, h0, h1, _⟩ := id K
  have q0 := h0.cell; have f0 := h0.frozen; have z1_0 := h0.lt
  have q1 := h1.cell; have f1 := h1.frozen; have z1_1 := h1.lt
  clear h0 h1
  go_wp2_with fail
  clear q0 f0 q1 f1
  obtain ⟨_, sz2, h0, h1, _⟩ := id K
  have z2_0 := h0.lt; have z2_1 := h1.lt
  clear h0 h1
  have hne : Hid (∃ w', Hold w.heap.size w [(w.heap.size + 1, #[.int .i64 0, .int .i64 0, .int .i64 0]), (w.heap.size, #[.int .i64 x, .int .i64 y, .int .i64 r])] w') := ⟨_, K.drew⟩
  refine wp_region_tail (Hold w.heap.size w [(w.heap.size + 1, #[.int .i64 0, .int .i64 0, .int .i64 0]), (w.heap.size, #[.int .i64 x, .int .i64 y, .int .i64 r])]) 16 16 (by kernel_rfl) (by kernel_rfl) (fun _ _ d _ _ h => by cases d <;> exact h) (Hold.lasting _ _ _) K.drew ?_
  simp only [List.take_succ_cons, List.take_zero, List.drop_succ_cons, List.drop_zero]
  clear K
  repeat (first
    | (refine calm_skip (by rfl) ?_; simp only [Act.put, List.setIfInBounds_toArray, List.set_cons_zero, List.set_cons_succ])
    | (refine calm_step hne.out (by rfl) rfl (by simp) ?_; apply Exists.intro; refine ⟨?_, ?_⟩
       · (intro r _ K hK; go_big_quiet_op; first
          | exact hK
          | (apply Exists.intro; refine ⟨fun _ hw => ?_, ?_⟩; (first
             | with_reducible exact rfl
             | with_reducible exact cm_same hw (HS.out _)
             | (obtain ⟨_, _, h0, h1, _⟩ := hw.s; have q0 := h0.cell; have q1 := h1.cell; clear h0 h1; simp [q0, q1, go_sem]; exact rfl)); exact hK))))
  refine wpCalm_nil ?_
  intro w2 K
  clear hne
  obtain ⟨_, sz3, h0, h1, _⟩ := id K
  have q0 := h0.cell; have f0 := h0.frozen; have z3_0 := h0.lt
  have q1 := h1.cell; have f1 := h1.frozen; have z3_1 := h1.lt
  clear h0 h1
  go_wp2_with fail
  refine bodyPost_ret (v := .tuple #[.agg #[.int .i64 0, .int .i64 0, .int .i64 0], .int .i64 14]) (by simp [results, Try.results45, go_sem, *]) rfl ⟨rfl, ?_⟩
  repeat (first | exact K.below | refine Below.setCell ?_ (by simp <;> omega) _)

set_option maxHeartbeats 4000000 in
theorem refRoot_0 {x y r D : Int} {A G L T C1 C2 : Int} (b1 b2 : Bool) (hz : ¬ D ≤ r) (bx : Sm 67108864 x) (by' : Sm 67108864 y) (br : 0 ≤ r ∧ r ≤ 67108864) (bD : 0 ≤ D ∧ D ≤ 134217728) (bG : 0 ≤ G ∧ G ≤ 1073741824) (bC1 : 0 ≤ C1 ∧ C1 ≤ 281474976710656) (bC2 : 0 ≤ C2 ∧ C2 ≤ 281474976710656) (hx : 0 ≤ x)
    (HG : Hid (∀ w, Calls Try.prog 115 #[.int .i64 ((D + x) * 524288)] w (Quiet (.int .i64 G) w)))
    (HL : Hid (∀ w, Calls Try.prog 81 #[.int .i64 y, .int .i64 (2 * G)] w (fun e w' => e = .returned (.tuple #[.int .i64 L, .bool b1]) ∧ w = w')))
    (HT : Hid (∀ w, Calls Try.prog 115 #[.int .i64 (D * 1048576)] w (Quiet (.int .i64 T) w)))
    (HC1 : Hid (∀ w, Calls Try.prog 102 #[.int .i64 (r * 1048576), .int .i64 T] w (fun e w' => e = .returned (.int .i64 C1) ∧ w = w')))
    (HC2 : Hid (∀ w, Calls Try.prog 102 #[.int .i64 1048576, .int .i64 G] w (fun e w' => e = .returned (.int .i64 C2) ∧ w = w')))
    (HD : Hid (∀ w, Calls Try.prog 107 #[.agg #[.int .i64 x, .int .i64 y, .int .i64 r]] w (Mem (.int .i64 D) w))) (w : World) :
    Calls Try.prog 45 #[.agg #[.int .i64 x, .int .i64 y, .int .i64 r]] w (Mem (chkV G L (C1 + 3 + C2)) w) := by
  have HK := fun w => Checked_any G L (C1 + 3 + C2) w
  obtain ⟨XX, YY, RR, EE, hX⟩ := chkV_ex G L (C1 + 3 + C2)
  rw [hX] at HK ⊢
  replace HK := Lib.hid HK
  clear hX
  unfold refV at *
  obtain ⟨x1, x2⟩ := bx
  obtain ⟨y1, y2⟩ := by'
  obtain ⟨r1, r2⟩ := br
  have g0 : decide (D ≤ r) = false := by simp; omega
  have v0 : IntKind.i64.wrap ((D + x) * 524288) = (D + x) * 524288 := IntWalk.i64_in _ (by omega)
  have v1 : IntKind.i64.wrap (2 * G) = 2 * G := IntWalk.i64_in _ (by omega)
  have v2 : IntKind.i64.wrap (r * 1048576) = r * 1048576 := IntWalk.i64_in _ (by omega)
  have v3 : IntKind.i64.wrap (D * 1048576) = D * 1048576 := IntWalk.i64_in _ (by omega)
  have v4 : IntKind.i64.wrap (C1 + 3) = C1 + 3 := IntWalk.i64_in _ (by omega)
  have v5 : IntKind.i64.wrap (C1 + 3 + C2) = C1 + 3 + C2 := IntWalk.i64_in _ (by omega)
  have g1 : decide (x < 0) = false := by simp; omega
  have g2 : decide (0 ≤ x) = true := by simpa using hx
  go_enter Try.func45, Try.ntmps45
  go_wp2_with fail
  have K := ((Hold.start w).new #[.int .i64 x, .int .i64 y, .int .i64 r] 33 (n := w.heap.size) (by simp)).new #[.int .i64 0, .int .i64 0, .int .i64 0] 33 (n := w.heap.size + 1) (by simp)
  refine (HD.out _).mono ?_
  rintro e_1 w1 ⟨rfl, hb⟩
  have K' := Hold.mem (K) hb
  clear hb K
  have K := K'
  clear K'
  obtain ⟨_, sz1, h0, h1, _⟩ := id K
  have q0 := h0.cell; have f0 := h0.frozen; have z1_0 := h0.lt
  have q1 := h1.cell; have f1 := h1.frozen; have z1_1 := h1.lt
  clear h0 h1
  go_wp2_with fail
  clear q0 f0 q1 f1
  obtain ⟨_, sz2, h0, h1, _⟩ := id K
  have z2_0 := h0.lt; have z2_1 := h1.lt
  clear h0 h1
  have hne : Hid (∃ w', Hold w.heap.size w [(w.heap.size + 1, #[.int .i64 0, .int .i64 0, .int .i64 0]), (w.heap.size, #[.int .i64 x, .int .i64 y, .int .i64 r])] w') := ⟨_, K.drew⟩
  refine wp_region_tail (Hold w.heap.size w [(w.heap.size + 1, #[.int .i64 0, .int .i64 0, .int .i64 0]), (w.heap.size, #[.int .i64 x, .int .i64 y, .int .i64 r])]) 16 16 (by kernel_rfl) (by kernel_rfl) (fun _ _ d _ _ h => by cases d <;> exact h) (Hold.lasting _ _ _) K.drew ?_
  simp only [List.take_succ_cons, List.take_zero, List.drop_succ_cons, List.drop_zero]
  clear K
  repeat (first
    | (refine calm_skip (by rfl) ?_; simp only [Act.put, List.setIfInBounds_toArray, List.set_cons_zero, List.set_cons_succ])
    | (refine calm_step hne.out (by rfl) rfl (by simp) ?_; apply Exists.intro; refine ⟨?_, ?_⟩
       · (intro r _ K hK; go_big_quiet_op; first
          | exact hK
          | (apply Exists.intro; refine ⟨fun _ hw => ?_, ?_⟩; (first
             | with_reducible exact rfl
             | (obtain ⟨_, _, h0, h1, _⟩ := hw.s; have q0 := h0.cell; have q1 := h1.cell; clear h0 h1; simp [q0, q1, go_sem]; exact rfl)); exact hK))))
  refine wpCalm_nil ?_
  intro w2 K
  clear hne
  obtain ⟨_, sz3, h0, h1, _⟩ := id K
  have q0 := h0.cell; have f0 := h0.frozen; have z3_0 := h0.lt
  have q1 := h1.cell; have f1 := h1.frozen; have z3_1 := h1.lt
  clear h0 h1
  go_wp2_with fail
  refine (quiet_mem (HG.out _)).mono ?_
  rintro e_3 w3 ⟨rfl, hb⟩
  have K' := Hold.mem ((K).new #[.int .i64 0, .int .i64 0, .int .i64 0] 33 (n := w2.heap.size) (by first | rfl | (simp <;> omega))) hb
  clear hb K
  have K := K'
  clear K'
  clear q0 f0 q1 f1
  obtain ⟨_, sz4, h0, h1, h2, _⟩ := id K
  have q0 := h0.cell; have f0 := h0.frozen; have z4_0 := h0.lt
  have q1 := h1.cell; have f1 := h1.frozen; have z4_1 := h1.lt
  have q2 := h2.cell; have f2 := h2.frozen; have z4_2 := h2.lt
  clear h0 h1 h2
  go_wp2_with fail
  refine (same_mem (HL.out _)).mono ?_
  rintro e_4 w4 ⟨rfl, hb⟩
  have K' := Hold.mem (K) hb
  clear hb K
  have K := K'
  clear K'
  clear q0 f0 q1 f1 q2 f2
  obtain ⟨_, sz5, h0, h1, h2, _⟩ := id K
  have q0 := h0.cell; have f0 := h0.frozen; have z5_0 := h0.lt
  have q1 := h1.cell; have f1 := h1.frozen; have z5_1 := h1.lt
  have q2 := h2.cell; have f2 := h2.frozen; have z5_2 := h2.lt
  clear h0 h1 h2
  go_wp2_with fail
  clear q0 f0 q1 f1 q2 f2
  have K' := (K).set3 (v0 := .int .i64 G) (v1 := .int .i64 L) (v2 := .int .i64 0) (by omega) (by simp <;> omega)
  clear K
  have K := K'
  clear K'
  obtain ⟨_, sz6, h0, h1, h2, _⟩ := id K
  have z6_0 := h0.lt; have z6_1 := h1.lt; have z6_2 := h2.lt
  clear h0 h1 h2
  have hne : Hid (∃ w', Hold w.heap.size w [(w2.heap.size, #[.int .i64 G, .int .i64 L, .int .i64 0]), (w.heap.size + 1, #[.int .i64 0, .int .i64 0, .int .i64 0]), (w.heap.size, #[.int .i64 x, .int .i64 y, .int .i64 r])] w') := ⟨_, K.drew⟩
  refine wp_region_sink (Hold w.heap.size w [(w2.heap.size, #[.int .i64 G, .int .i64 L, .int .i64 0]), (w.heap.size + 1, #[.int .i64 0, .int .i64 0, .int .i64 0]), (w.heap.size, #[.int .i64 x, .int .i64 y, .int .i64 r])]) 12 (by kernel_rfl) (by kernel_rfl) (Hold.lasting _ _ _) K.drew ?_
  simp only [List.take_succ_cons, List.take_zero, List.drop_succ_cons, List.drop_zero]
  clear K
  repeat (first
    | (refine calm_skip (by rfl) ?_; simp only [Act.put, List.setIfInBounds_toArray, List.set_cons_zero, List.set_cons_succ])
    | (refine calm_step hne.out (by rfl) rfl (by simp) ?_; apply Exists.intro; refine ⟨?_, ?_⟩
       · (intro r _ K hK; go_big_quiet_op; first
          | exact hK
          | (apply Exists.intro; refine ⟨fun _ hw => ?_, ?_⟩; (first
             | with_reducible exact rfl
             | with_reducible exact cm_quiet hw (HT.out _)
             | with_reducible exact cm_same hw (HC1.out _)
             | with_reducible exact cm_same hw (HC2.out _)
             | (obtain ⟨_, _, h0, h1, h2, _⟩ := hw.s; have q0 := h0.cell; have q1 := h1.cell; have q2 := h2.cell; clear h0 h1 h2; simp [q0, q1, q2, go_sem]; exact rfl)); exact hK))))
  refine wpCalm_nil ?_
  intro w5 K
  clear hne
  obtain ⟨_, sz7, h0, h1, h2, _⟩ := id K
  have q0 := h0.cell; have f0 := h0.frozen; have z7_0 := h0.lt
  have q1 := h1.cell; have f1 := h1.frozen; have z7_1 := h1.lt
  have q2 := h2.cell; have f2 := h2.frozen; have z7_2 := h2.lt
  clear h0 h1 h2
  go_wp2_with fail
  refine (HK.out _).mono ?_
  rintro e_6 w6 ⟨rfl, hb⟩
  have K' := Hold.mem ((show Hold w.heap.size w [(w2.heap.size, #[.int .i64 G, .int .i64 L, .int .i64 (C1 + 3 + C2)]), (w.heap.size + 1, #[.int .i64 0, .int .i64 0, .int .i64 0]), (w.heap.size, #[.int .i64 x, .int .i64 y, .int .i64 r])] _ from (K).set (by omega) (by simp <;> omega) 2 (.int .i64 (C1 + 3 + C2)))) hb
  clear hb K
  have K := K'
  clear K'
  clear q0 f0 q1 f1 q2 f2
  obtain ⟨_, sz8, h0, h1, h2, _⟩ := id K
  have q0 := h0.cell; have f0 := h0.frozen; have z8_0 := h0.lt
  have q1 := h1.cell; have f1 := h1.frozen; have z8_1 := h1.lt
  have q2 := h2.cell; have f2 := h2.frozen; have z8_2 := h2.lt
  clear h0 h1 h2
  go_wp2_with fail
  refine bodyPost_ret (v := .tuple #[.agg #[.int .i64 XX, .int .i64 YY, .int .i64 RR], .int .i64 EE]) (by simp [results, Try.results45, go_sem, *]) rfl ⟨rfl, ?_⟩
  repeat (first | exact K.below | refine Below.setCell ?_ (by simp <;> omega) _)

set_option maxHeartbeats 4000000 in
theorem refRoot_1a {x y r D : Int} {A G L T C1 C2 : Int} (b1 b2 : Bool) (hz : ¬ D ≤ r) (bx : Sm 67108864 x) (by' : Sm 67108864 y) (br : 0 ≤ r ∧ r ≤ 67108864) (bD : 0 ≤ D ∧ D ≤ 134217728) (bG : 0 ≤ G ∧ G ≤ 1073741824) (bC1 : 0 ≤ C1 ∧ C1 ≤ 281474976710656) (bC2 : 0 ≤ C2 ∧ C2 ≤ 281474976710656) (hx : x < 0) (hy : 0 ≤ y) (hA : ¬ A ≤ r)
    (HS : Hid (∀ w, Calls Try.prog 114 #[.int .i64 y] w fun e w' => e = .returned (.int .i64 A) ∧ w = w'))
    (HG : Hid (∀ w, Calls Try.prog 115 #[.int .i64 ((D - x) * 524288)] w (Quiet (.int .i64 G) w)))
    (HL : Hid (∀ w, Calls Try.prog 81 #[.int .i64 A, .int .i64 (2 * G)] w (fun e w' => e = .returned (.tuple #[.int .i64 L, .bool b1]) ∧ w = w')))
    (HT : Hid (∀ w, Calls Try.prog 115 #[.int .i64 (D * 1048576)] w (Quiet (.int .i64 T) w)))
    (HC1 : Hid (∀ w, Calls Try.prog 102 #[.int .i64 (r * 1048576), .int .i64 T] w (fun e w' => e = .returned (.int .i64 C1) ∧ w = w')))
    (HC2 : Hid (∀ w, Calls Try.prog 102 #[.int .i64 1048576, .int .i64 G] w (fun e w' => e = .returned (.int .i64 C2) ∧ w = w')))
    (HD : Hid (∀ w, Calls Try.prog 107 #[.agg #[.int .i64 x, .int .i64 y, .int .i64 r]] w (Mem (.int .i64 D) w))) (w : World) :
    Calls Try.prog 45 #[.agg #[.int .i64 x, .int .i64 y, .int .i64 r]] w (Mem (chkV L G (C1 + 3 + C2)) w) := by
  have HK := fun w => Checked_any L G (C1 + 3 + C2) w
  obtain ⟨XX, YY, RR, EE, hX⟩ := chkV_ex L G (C1 + 3 + C2)
  rw [hX] at HK ⊢
  replace HK := Lib.hid HK
  clear hX
  unfold refV at *
  obtain ⟨x1, x2⟩ := bx
  obtain ⟨y1, y2⟩ := by'
  obtain ⟨r1, r2⟩ := br
  have g0 : decide (D ≤ r) = false := by simp; omega
  have v0 : IntKind.i64.wrap ((D - x) * 524288) = (D - x) * 524288 := IntWalk.i64_in _ (by omega)
  have v1 : IntKind.i64.wrap (2 * G) = 2 * G := IntWalk.i64_in _ (by omega)
  have v2 : IntKind.i64.wrap (r * 1048576) = r * 1048576 := IntWalk.i64_in _ (by omega)
  have v3 : IntKind.i64.wrap (D * 1048576) = D * 1048576 := IntWalk.i64_in _ (by omega)
  have v4 : IntKind.i64.wrap (C1 + 3) = C1 + 3 := IntWalk.i64_in _ (by omega)
  have v5 : IntKind.i64.wrap (C1 + 3 + C2) = C1 + 3 + C2 := IntWalk.i64_in _ (by omega)
  have g1 : decide (x < 0) = true := by simpa using hx
  have g2 : decide (0 ≤ x) = false := by simp; omega
  have g3 : decide (y < 0) = false := by simp; omega
  have g4 : decide (A ≤ r) = false := by simpa using hA
  go_enter Try.func45, Try.ntmps45
  go_wp2_with fail
  have K := ((Hold.start w).new #[.int .i64 x, .int .i64 y, .int .i64 r] 33 (n := w.heap.size) (by simp)).new #[.int .i64 0, .int .i64 0, .int .i64 0] 33 (n := w.heap.size + 1) (by simp)
  refine (HD.out _).mono ?_
  rintro e_1 w1 ⟨rfl, hb⟩
  have K' := Hold.mem (K) hb
  clear hb K
  have K := K'
  clear K'
  obtain ⟨_, sz1, h0, h1, _⟩ := id K
  have q0 := h0.cell; have f0 := h0.frozen; have z1_0 := h0.lt
  have q1 := h1.cell; have f1 := h1.frozen; have z1_1 := h1.lt
  clear h0 h1
  go_wp2_with fail
  clear q0 f0 q1 f1
  obtain ⟨_, sz2, h0, h1, _⟩ := id K
  have z2_0 := h0.lt; have z2_1 := h1.lt
  clear h0 h1
  have hne : Hid (∃ w', Hold w.heap.size w [(w.heap.size + 1, #[.int .i64 0, .int .i64 0, .int .i64 0]), (w.heap.size, #[.int .i64 x, .int .i64 y, .int .i64 r])] w') := ⟨_, K.drew⟩
  refine wp_region_tail (Hold w.heap.size w [(w.heap.size + 1, #[.int .i64 0, .int .i64 0, .int .i64 0]), (w.heap.size, #[.int .i64 x, .int .i64 y, .int .i64 r])]) 16 16 (by kernel_rfl) (by kernel_rfl) (fun _ _ d _ _ h => by cases d <;> exact h) (Hold.lasting _ _ _) K.drew ?_
  simp only [List.take_succ_cons, List.take_zero, List.drop_succ_cons, List.drop_zero]
  clear K
  repeat (first
    | (refine calm_skip (by rfl) ?_; simp only [Act.put, List.setIfInBounds_toArray, List.set_cons_zero, List.set_cons_succ])
    | (refine calm_step hne.out (by rfl) rfl (by simp) ?_; apply Exists.intro; refine ⟨?_, ?_⟩
       · (intro r _ K hK; go_big_quiet_op; first
          | exact hK
          | (apply Exists.intro; refine ⟨fun _ hw => ?_, ?_⟩; (first
             | with_reducible exact rfl
             | with_reducible exact cm_same hw (HS.out _)
             | (obtain ⟨_, _, h0, h1, _⟩ := hw.s; have q0 := h0.cell; have q1 := h1.cell; clear h0 h1; simp [q0, q1, go_sem]; exact rfl)); exact hK))))
  refine wpCalm_nil ?_
  intro w2 K
  clear hne
  obtain ⟨_, sz3, h0, h1, _⟩ := id K
  have q0 := h0.cell; have f0 := h0.frozen; have z3_0 := h0.lt
  have q1 := h1.cell; have f1 := h1.frozen; have z3_1 := h1.lt
  clear h0 h1
  go_wp2_with fail
  refine (quiet_mem (HG.out _)).mono ?_
  rintro e_3 w3 ⟨rfl, hb⟩
  have K' := Hold.mem ((K).new #[.int .i64 0, .int .i64 0, .int .i64 0] 33 (n := w2.heap.size) (by first | rfl | (simp <;> omega))) hb
  clear hb K
  have K := K'
  clear K'
  clear q0 f0 q1 f1
  obtain ⟨_, sz4, h0, h1, h2, _⟩ := id K
  have q0 := h0.cell; have f0 := h0.frozen; have z4_0 := h0.lt
  have q1 := h1.cell; have f1 := h1.frozen; have z4_1 := h1.lt
  have q2 := h2.cell; have f2 := h2.frozen; have z4_2 := h2.lt
  clear h0 h1 h2
  go_wp2_with fail
  refine (same_mem (HS.out _)).mono ?_
  rintro e_4 w4 ⟨rfl, hb⟩
  have K' := Hold.mem (K) hb
  clear hb K
  have K := K'
  clear K'
  clear q0 f0 q1 f1 q2 f2
  obtain ⟨_, sz5, h0, h1, h2, _⟩ := id K
  have q0 := h0.cell; have f0 := h0.frozen; have z5_0 := h0.lt
  have q1 := h1.cell; have f1 := h1.frozen; have z5_1 := h1.lt
  have q2 := h2.cell; have f2 := h2.frozen; have z5_2 := h2.lt
  clear h0 h1 h2
  go_wp2_with fail
  refine (same_mem (HL.out _)).mono ?_
  rintro e_5 w5 ⟨rfl, hb⟩
  have K' := Hold.mem (K) hb
  clear hb K
  have K := K'
  clear K'
  clear q0 f0 q1 f1 q2 f2
  obtain ⟨_, sz6, h0, h1, h2, _⟩ := id K
  have q0 := h0.cell; have f0 := h0.frozen; have z6_0 := h0.lt
  have q1 := h1.cell; have f1 := h1.frozen; have z6_1 := h1.lt
  have q2 := h2.cell; have f2 := h2.frozen; have z6_2 := h2.lt
  clear h0 h1 h2
  go_wp2_with fail
  clear q0 f0 q1 f1 q2 f2
  have K' := (K).set3 (v0 := .int .i64 L) (v1 := .int .i64 G) (v2 := .int .i64 0) (by omega) (by simp <;> omega)
  clear K
  have K := K'
  clear K'
  obtain ⟨_, sz7, h0, h1, h2, _⟩ := id K
  have z7_0 := h0.lt; have z7_1 := h1.lt; have z7_2 := h2.lt
  clear h0 h1 h2
  have hne : Hid (∃ w', Hold w.heap.size w [(w2.heap.size, #[.int .i64 L, .int .i64 G, .int .i64 0]), (w.heap.size + 1, #[.int .i64 0, .int .i64 0, .int .i64 0]), (w.heap.size, #[.int .i64 x, .int .i64 y, .int .i64 r])] w') := ⟨_, K.drew⟩
  refine wp_region_sink (Hold w.heap.size w [(w2.heap.size, #[.int .i64 L, .int .i64 G, .int .i64 0]), (w.heap.size + 1, #[.int .i64 0, .int .i64 0, .int .i64 0]), (w.heap.size, #[.int .i64 x, .int .i64 y, .int .i64 r])]) 12 (by kernel_rfl) (by kernel_rfl) (Hold.lasting _ _ _) K.drew ?_
  simp only [List.take_succ_cons, List.take_zero, List.drop_succ_cons, List.drop_zero]
  clear K
  repeat (first
    | (refine calm_skip (by rfl) ?_; simp only [Act.put, List.setIfInBounds_toArray, List.set_cons_zero, List.set_cons_succ])
    | (refine calm_step hne.out (by rfl) rfl (by simp) ?_; apply Exists.intro; refine ⟨?_, ?_⟩
       · (intro r _ K hK; go_big_quiet_op; first
          | exact hK
          | (apply Exists.intro; refine ⟨fun _ hw => ?_, ?_⟩; (first
             | with_reducible exact rfl
             | with_reducible exact cm_quiet hw (HT.out _)
             | with_reducible exact cm_same hw (HC1.out _)
             | with_reducible exact cm_same hw (HC2.out _)
             | (obtain ⟨_, _, h0, h1, h2, _⟩ := hw.s; have q0 := h0.cell; have q1 := h1.cell; have q2 := h2.cell; clear h0 h1 h2; simp [q0, q1, q2, go_sem]; exact rfl)); exact hK))))
  refine wpCalm_nil ?_
  intro w6 K
  clear hne
  obtain ⟨_, sz8, h0, h1, h2, _⟩ := id K
  have q0 := h0.cell; have f0 := h0.frozen; have z8_0 := h0.lt
  have q1 := h1.cell; have f1 := h1.frozen; have z8_1 := h1.lt
  have q2 := h2.cell; have f2 := h2.frozen; have z8_2 := h2.lt
  clear h0 h1 h2
  go_wp2_with fail
  refine (HK.out _).mono ?_
  rintro e_7 w7 ⟨rfl, hb⟩
  have K' := Hold.mem ((show Hold w.heap.size w [(w2.heap.size, #[.int .i64 L, .int .i64 G, .int .i64 (C1 + 3 + C2)]), (w.heap.size + 1, #[.int .i64 0, .int .i64 0, .int .i64 0]), (w.heap.size, #[.int .i64 x, .int .i64 y, .int .i64 r])] _ from (K).set (by omega) (by simp <;> omega) 2 (.int .i64 (C1 + 3 + C2)))) hb
  clear hb K
  have K := K'
  clear K'
  clear q0 f0 q1 f1 q2 f2
  obtain ⟨_, sz9, h0, h1, h2, _⟩ := id K
  have q0 := h0.cell; have f0 := h0.frozen; have z9_0 := h0.lt
  have q1 := h1.cell; have f1 := h1.frozen; have z9_1 := h1.lt
  have q2 := h2.cell; have f2 := h2.frozen; have z9_2 := h2.lt
  clear h0 h1 h2
  go_wp2_with fail
  refine bodyPost_ret (v := .tuple #[.agg #[.int .i64 XX, .int .i64 YY, .int .i64 RR], .int .i64 EE]) (by simp [results, Try.results45, go_sem, *]) rfl ⟨rfl, ?_⟩
  repeat (first | exact K.below | refine Below.setCell ?_ (by simp <;> omega) _)

set_option maxHeartbeats 4000000 in
theorem refRoot_1b {x y r D : Int} {A G L T C1 C2 : Int} (b1 b2 : Bool) (hz : ¬ D ≤ r) (bx : Sm 67108864 x) (by' : Sm 67108864 y) (br : 0 ≤ r ∧ r ≤ 67108864) (bD : 0 ≤ D ∧ D ≤ 134217728) (bG : 0 ≤ G ∧ G ≤ 1073741824) (bC1 : 0 ≤ C1 ∧ C1 ≤ 281474976710656) (bC2 : 0 ≤ C2 ∧ C2 ≤ 281474976710656) (hx : x < 0) (hy : 0 ≤ y) (hA : A ≤ r) (hr : r = 0)
    (HS : Hid (∀ w, Calls Try.prog 114 #[.int .i64 y] w fun e w' => e = .returned (.int .i64 A) ∧ w = w'))
    (HG : Hid (∀ w, Calls Try.prog 115 #[.int .i64 ((D - x) * 524288)] w (Quiet (.int .i64 G) w)))
    (HL : Hid (∀ w, Calls Try.prog 81 #[.int .i64 A, .int .i64 (2 * G)] w (fun e w' => e = .returned (.tuple #[.int .i64 L, .bool b1]) ∧ w = w')))
    (HT : Hid (∀ w, Calls Try.prog 115 #[.int .i64 (D * 1048576)] w (Quiet (.int .i64 T) w)))
    (HC1 : Hid (∀ w, Calls Try.prog 102 #[.int .i64 0, .int .i64 T] w (fun e w' => e = .returned (.int .i64 C1) ∧ w = w')))
    (HC2 : Hid (∀ w, Calls Try.prog 102 #[.int .i64 1048576, .int .i64 G] w (fun e w' => e = .returned (.int .i64 C2) ∧ w = w')))
    (HD : Hid (∀ w, Calls Try.prog 107 #[.agg #[.int .i64 x, .int .i64 y, .int .i64 0]] w (Mem (.int .i64 D) w))) (w : World) :
    Calls Try.prog 45 #[.agg #[.int .i64 x, .int .i64 y, .int .i64 0]] w (Mem (chkV L G (C1 + 3 + C2)) w) := by
  have HK := fun w => Checked_any L G (C1 + 3 + C2) w
  obtain ⟨XX, YY, RR, EE, hX⟩ := chkV_ex L G (C1 + 3 + C2)
  rw [hX] at HK ⊢
  replace HK := Lib.hid HK
  clear hX
  unfold refV at *
  obtain ⟨x1, x2⟩ := bx
  obtain ⟨y1, y2⟩ := by'
  obtain ⟨r1, r2⟩ := br
  have g0 : decide (D ≤ 0) = false := by simp; omega
  have v0 : IntKind.i64.wrap ((D - x) * 524288) = (D - x) * 524288 := IntWalk.i64_in _ (by omega)
  have v1 : IntKind.i64.wrap (2 * G) = 2 * G := IntWalk.i64_in _ (by omega)
  have v2 : IntKind.i64.wrap (r * 1048576) = r * 1048576 := IntWalk.i64_in _ (by omega)
  have v3 : IntKind.i64.wrap (D * 1048576) = D * 1048576 := IntWalk.i64_in _ (by omega)
  have v4 : IntKind.i64.wrap (C1 + 3) = C1 + 3 := IntWalk.i64_in _ (by omega)
  have v5 : IntKind.i64.wrap (C1 + 3 + C2) = C1 + 3 + C2 := IntWalk.i64_in _ (by omega)
  have g1 : decide (x < 0) = true := by simpa using hx
  have g2 : decide (0 ≤ x) = false := by simp; omega
  have g3 : decide (y < 0) = false := by simp; omega
  have g4 : decide (A ≤ 0) = true := by simp; omega
  have g5 : ((0 : Int) != 0) = false := by decide
  clear v2 hz
  subst hr
  go_enter Try.func45, Try.ntmps45
  go_wp2_with fail
  have K := ((Hold.start w).new #[.int .i64 x, .int .i64 y, .int .i64 0] 33 (n := w.heap.size) (by simp)).new #[.int .i64 0, .int .i64 0, .int .i64 0] 33 (n := w.heap.size + 1) (by simp)
  refine (HD.out _).mono ?_
  rintro e_1 w1 ⟨rfl, hb⟩
  have K' := Hold.mem (K) hb
  clear hb K
  have K := K'
  clear K'
  obtain ⟨_, sz1, h0, h1, _⟩ := id K
  have q0 := h0.cell; have f0 := h0.frozen; have z1_0 := h0.lt
  have q1 := h1.cell; have f1 := h1.frozen; have z1_1 := h1.lt
  clear h0 h1
  go_wp2_with fail
  clear q0 f0 q1 f1
  obtain ⟨_, sz2, h0, h1, _⟩ := id K
  have z2_0 := h0.lt; have z2_1 := h1.lt
  clear h0 h1
  have hne : Hid (∃ w', Hold w.heap.size w [(w.heap.size + 1, #[.int .i64 0, .int .i64 0, .int .i64 0]), (w.heap.size, #[.int .i64 x, .int .i64 y, .int .i64 0])] w') := ⟨_, K.drew⟩
  refine wp_region_tail (Hold w.heap.size w [(w.heap.size + 1, #[.int .i64 0, .int .i64 0, .int .i64 0]), (w.heap.size, #[.int .i64 x, .int .i64 y, .int .i64 0])]) 16 16 (by kernel_rfl) (by kernel_rfl) (fun _ _ d _ _ h => by cases d <;> exact h) (Hold.lasting _ _ _) K.drew ?_
  simp only [List.take_succ_cons, List.take_zero, List.drop_succ_cons, List.drop_zero]
  clear K
  repeat (first
    | (refine calm_skip (by rfl) ?_; simp only [Act.put, List.setIfInBounds_toArray, List.set_cons_zero, List.set_cons_succ])
    | (refine calm_step hne.out (by rfl) rfl (by simp) ?_; apply Exists.intro; refine ⟨?_, ?_⟩
       · (intro r _ K hK; go_big_quiet_op; first
          | exact hK
          | (apply Exists.intro; refine ⟨fun _ hw => ?_, ?_⟩; (first
             | with_reducible exact rfl
             | with_reducible exact cm_same hw (HS.out _)
             | (obtain ⟨_, _, h0, h1, _⟩ := hw.s; have q0 := h0.cell; have q1 := h1.cell; clear h0 h1; simp [q0, q1, go_sem]; exact rfl)); exact hK))))
  refine wpCalm_nil ?_
  intro w2 K
  clear hne
  obtain ⟨_, sz3, h0, h1, _⟩ := id K
  have q0 := h0.cell; have f0 := h0.frozen; have z3_0 := h0.lt
  have q1 := h1.cell; have f1 := h1.frozen; have z3_1 := h1.lt
  clear h0 h1
  go_wp2_with fail
  refine (quiet_mem (HG.out _)).mono ?_
  rintro e_3 w3 ⟨rfl, hb⟩
  have K' := Hold.mem ((K).new #[.int .i64 0, .int .i64 0, .int .i64 0] 33 (n := w2.heap.size) (by first | rfl | (simp <;> omega))) hb
  clear hb K
  have K := K'
  clear K'
  clear q0 f0 q1 f1
  obtain ⟨_, sz4, h0, h1, h2, _⟩ := id K
  have q0 := h0.cell; have f0 := h0.frozen; have z4_0 := h0.lt
  have q1 := h1.cell; have f1 := h1.frozen; have z4_1 := h1.lt
  have q2 := h2.cell; have f2 := h2.frozen; have z4_2 := h2.lt
  clear h0 h1 h2
  go_wp2_with fail
  refine (same_mem (HS.out _)).mono ?_
  rintro e_4 w4 ⟨rfl, hb⟩
  have K' := Hold.mem (K) hb
  clear hb K
  have K := K'
  clear K'
  clear q0 f0 q1 f1 q2 f2
  obtain ⟨_, sz5, h0, h1, h2, _⟩ := id K
  have q0 := h0.cell; have f0 := h0.frozen; have z5_0 := h0.lt
  have q1 := h1.cell; have f1 := h1.frozen; have z5_1 := h1.lt
  have q2 := h2.cell; have f2 := h2.frozen; have z5_2 := h2.lt
  clear h0 h1 h2
  go_wp2_with fail
  refine (same_mem (HL.out _)).mono ?_
  rintro e_5 w5 ⟨rfl, hb⟩
  have K' := Hold.mem (K) hb
  clear hb K
  have K := K'
  clear K'
  clear q0 f0 q1 f1 q2 f2
  obtain ⟨_, sz6, h0, h1, h2, _⟩ := id K
  have q0 := h0.cell; have f0 := h0.frozen; have z6_0 := h0.lt
  have q1 := h1.cell; have f1 := h1.frozen; have z6_1 := h1.lt
  have q2 := h2.cell; have f2 := h2.frozen; have z6_2 := h2.lt
  clear h0 h1 h2
  go_wp2_with fail
  clear q0 f0 q1 f1 q2 f2
  have K' := (K).set3 (v0 := .int .i64 L) (v1 := .int .i64 G) (v2 := .int .i64 0) (by omega) (by simp <;> omega)
  clear K
  have K := K'
  clear K'
  obtain ⟨_, sz7, h0, h1, h2, _⟩ := id K
  have z7_0 := h0.lt; have z7_1 := h1.lt; have z7_2 := h2.lt
  clear h0 h1 h2
  have hne : Hid (∃ w', Hold w.heap.size w [(w2.heap.size, #[.int .i64 L, .int .i64 G, .int .i64 0]), (w.heap.size + 1, #[.int .i64 0, .int .i64 0, .int .i64 0]), (w.heap.size, #[.int .i64 x, .int .i64 y, .int .i64 0])] w') := ⟨_, K.drew⟩
  refine wp_region_sink (Hold w.heap.size w [(w2.heap.size, #[.int .i64 L, .int .i64 G, .int .i64 0]), (w.heap.size + 1, #[.int .i64 0, .int .i64 0, .int .i64 0]), (w.heap.size, #[.int .i64 x, .int .i64 y, .int .i64 0])]) 12 (by kernel_rfl) (by kernel_rfl) (Hold.lasting _ _ _) K.drew ?_
  simp only [List.take_succ_cons, List.take_zero, List.drop_succ_cons, List.drop_zero]
  clear K
  repeat (first
    | (refine calm_skip (by rfl) ?_; simp only [Act.put, List.setIfInBounds_toArray, List.set_cons_zero, List.set_cons_succ])
    | (refine calm_step hne.out (by rfl) rfl (by simp) ?_; apply Exists.intro; refine ⟨?_, ?_⟩
       · (intro r _ K hK; go_big_quiet_op; first
          | exact hK
          | (apply Exists.intro; refine ⟨fun _ hw => ?_, ?_⟩; (first
             | with_reducible exact rfl
             | with_reducible exact cm_quiet hw (HT.out _)
             | with_reducible exact cm_same hw (HC1.out _)
             | with_reducible exact cm_same hw (HC2.out _)
             | (obtain ⟨_, _, h0, h1, h2, _⟩ := hw.s; have q0 := h0.cell; have q1 := h1.cell; have q2 := h2.cell; clear h0 h1 h2; simp [q0, q1, q2, go_sem]; exact rfl)); exact hK))))
  refine wpCalm_nil ?_
  intro w6 K
  clear hne
  obtain ⟨_, sz8, h0, h1, h2, _⟩ := id K
  have q0 := h0.cell; have f0 := h0.frozen; have z8_0 := h0.lt
  have q1 := h1.cell; have f1 := h1.frozen; have z8_1 := h1.lt
  have q2 := h2.cell; have f2 := h2.frozen; have z8_2 := h2.lt
  clear h0 h1 h2
  go_wp2_with fail
  refine (HK.out _).mono ?_
  rintro e_7 w7 ⟨rfl, hb⟩
  have K' := Hold.mem ((show Hold w.heap.size w [(w2.heap.size, #[.int .i64 L, .int .i64 G, .int .i64 (C1 + 3 + C2)]), (w.heap.size + 1, #[.int .i64 0, .int .i64 0, .int .i64 0]), (w.heap.size, #[.int .i64 x, .int .i64 y, .int .i64 0])] _ from (K).set (by omega) (by simp <;> omega) 2 (.int .i64 (C1 + 3 + C2)))) hb
  clear hb K
  have K := K'
  clear K'
  clear q0 f0 q1 f1 q2 f2
  obtain ⟨_, sz9, h0, h1, h2, _⟩ := id K
  have q0 := h0.cell; have f0 := h0.frozen; have z9_0 := h0.lt
  have q1 := h1.cell; have f1 := h1.frozen; have z9_1 := h1.lt
  have q2 := h2.cell; have f2 := h2.frozen; have z9_2 := h2.lt
  clear h0 h1 h2
  go_wp2_with fail
  refine bodyPost_ret (v := .tuple #[.agg #[.int .i64 XX, .int .i64 YY, .int .i64 RR], .int .i64 EE]) (by simp [results, Try.results45, go_sem, *]) rfl ⟨rfl, ?_⟩
  repeat (first | exact K.below | refine Below.setCell ?_ (by simp <;> omega) _)

set_option maxHeartbeats 4000000 in
theorem refRoot_2a {x y r D : Int} {A G L T C1 C2 : Int} (b1 b2 : Bool) (hz : ¬ D ≤ r) (bx : Sm 67108864 x) (by' : Sm 67108864 y) (br : 0 ≤ r ∧ r ≤ 67108864) (bD : 0 ≤ D ∧ D ≤ 134217728) (bG : 0 ≤ G ∧ G ≤ 1073741824) (bC1 : 0 ≤ C1 ∧ C1 ≤ 281474976710656) (bC2 : 0 ≤ C2 ∧ C2 ≤ 281474976710656) (hx : x < 0) (hy : y < 0) (hA : ¬ A ≤ r)
    (HS : Hid (∀ w, Calls Try.prog 114 #[.int .i64 y] w fun e w' => e = .returned (.int .i64 A) ∧ w = w'))
    (HG : Hid (∀ w, Calls Try.prog 115 #[.int .i64 ((D - x) * 524288)] w (Quiet (.int .i64 G) w)))
    (HL : Hid (∀ w, Calls Try.prog 81 #[.int .i64 A, .int .i64 (2 * G)] w (fun e w' => e = .returned (.tuple #[.int .i64 L, .bool b1]) ∧ w = w')))
    (HT : Hid (∀ w, Calls Try.prog 115 #[.int .i64 (D * 1048576)] w (Quiet (.int .i64 T) w)))
    (HC1 : Hid (∀ w, Calls Try.prog 102 #[.int .i64 (r * 1048576), .int .i64 T] w (fun e w' => e = .returned (.int .i64 C1) ∧ w = w')))
    (HC2 : Hid (∀ w, Calls Try.prog 102 #[.int .i64 1048576, .int .i64 G] w (fun e w' => e = .returned (.int .i64 C2) ∧ w = w')))
    (HD : Hid (∀ w, Calls Try.prog 107 #[.agg #[.int .i64 x, .int .i64 y, .int .i64 r]] w (Mem (.int .i64 D) w))) (w : World) :
    Calls Try.prog 45 #[.agg #[.int .i64 x, .int .i64 y, .int .i64 r]] w (Mem (chkV L (-G) (C1 + 3 + C2)) w) := by
  have HK := fun w => Checked_any L (-G) (C1 + 3 + C2) w
  obtain ⟨XX, YY, RR, EE, hX⟩ := chkV_ex L (-G) (C1 + 3 + C2)
  rw [hX] at HK ⊢
  replace HK := Lib.hid HK
  clear hX
  unfold refV at *
  obtain ⟨x1, x2⟩ := bx
  obtain ⟨y1, y2⟩ := by'
  obtain ⟨r1, r2⟩ := br
  have g0 : decide (D ≤ r) = false := by simp; omega
  have v0 : IntKind.i64.wrap ((D - x) * 524288) = (D - x) * 524288 := IntWalk.i64_in _ (by omega)
  have v1 : IntKind.i64.wrap (2 * G) = 2 * G := IntWalk.i64_in _ (by omega)
  have v2 : IntKind.i64.wrap (r * 1048576) = r * 1048576 := IntWalk.i64_in _ (by omega)
  have v3 : IntKind.i64.wrap (D * 1048576) = D * 1048576 := IntWalk.i64_in _ (by omega)
  have v4 : IntKind.i64.wrap (C1 + 3) = C1 + 3 := IntWalk.i64_in _ (by omega)
  have v5 : IntKind.i64.wrap (C1 + 3 + C2) = C1 + 3 + C2 := IntWalk.i64_in _ (by omega)
  have g1 : decide (x < 0) = true := by simpa using hx
  have g2 : decide (0 ≤ x) = false := by simp; omega
  have g3 : decide (y < 0) = true := by simpa using hy
  have g4 : decide (A ≤ r) = false := by simpa using hA
  go_enter Try.func45, Try.ntmps45
  go_wp2_with fail
  have K := ((Hold.start w).new #[.int .i64 x, .int .i64 y, .int .i64 r] 33 (n := w.heap.size) (by simp)).new #[.int .i64 0, .int .i64 0, .int .i64 0] 33 (n := w.heap.size + 1) (by simp)
  refine (HD.out _).mono ?_
  rintro e_1 w1 ⟨rfl, hb⟩
  have K' := Hold.mem (K) hb
  clear hb K
  have K := K'
  clear K'
  obtain ⟨_, sz1, h0, h1, _⟩ := id K
  have q0 := h0.cell; have f0 := h0.frozen; have z1_0 := h0.lt
  have q1 := h1.cell; have f1 := h1.frozen; have z1_1 := h1.lt
  clear h0 h1
  go_wp2_with fail
  clear q0 f0 q1 f1
  obtain ⟨_, sz2, h0, h1, _⟩ := id K
  have z2_0 := h0.lt; have z2_1 := h1.lt
  clear h0 h1
  have hne : Hid (∃ w', Hold w.heap.size w [(w.heap.size + 1, #[.int .i64 0, .int .i64 0, .int .i64 0]), (w.heap.size, #[.int .i64 x, .int .i64 y, .int .i64 r])] w') := ⟨_, K.drew⟩
  refine wp_region_tail (Hold w.heap.size w [(w.heap.size + 1, #[.int .i64 0, .int .i64 0, .int .i64 0]), (w.heap.size, #[.int .i64 x, .int .i64 y, .int .i64 r])]) 16 16 (by kernel_rfl) (by kernel_rfl) (fun _ _ d _ _ h => by cases d <;> exact h) (Hold.lasting _ _ _) K.drew ?_
  simp only [List.take_succ_cons, List.take_zero, List.drop_succ_cons, List.drop_zero]
  clear K
  repeat (first
    | (refine calm_skip (by rfl) ?_; simp only [Act.put, List.setIfInBounds_toArray, List.set_cons_zero, List.set_cons_succ])
    | (refine calm_step hne.out (by rfl) rfl (by simp) ?_; apply Exists.intro; refine ⟨?_, ?_⟩
       · (intro r _ K hK; go_big_quiet_op; first
          | exact hK
          | (apply Exists.intro; refine ⟨fun _ hw => ?_, ?_⟩; (first
             | with_reducible exact rfl
             | with_reducible exact cm_same hw (HS.out _)
             | (obtain ⟨_, _, h0, h1, _⟩ := hw.s; have q0 := h0.cell; have q1 := h1.cell; clear h0 h1; simp [q0, q1, go_sem]; exact rfl)); exact hK))))
  refine wpCalm_nil ?_
  intro w2 K
  clear hne
  obtain ⟨_, sz3, h0, h1, _⟩ := id K
  have q0 := h0.cell; have f0 := h0.frozen; have z3_0 := h0.lt
  have q1 := h1.cell; have f1 := h1.frozen; have z3_1 := h1.lt
  clear h0 h1
  go_wp2_with fail
  refine (quiet_mem (HG.out _)).mono ?_
  rintro e_3 w3 ⟨rfl, hb⟩
  have K' := Hold.mem ((K).new #[.int .i64 0, .int .i64 0, .int .i64 0] 33 (n := w2.heap.size) (by first | rfl | (simp <;> omega))) hb
  clear hb K
  have K := K'
  clear K'
  clear q0 f0 q1 f1
  obtain ⟨_, sz4, h0, h1, h2, _⟩ := id K
  have q0 := h0.cell; have f0 := h0.frozen; have z4_0 := h0.lt
  have q1 := h1.cell; have f1 := h1.frozen; have z4_1 := h1.lt
  have q2 := h2.cell; have f2 := h2.frozen; have z4_2 := h2.lt
  clear h0 h1 h2
  go_wp2_with fail
  refine (same_mem (HS.out _)).mono ?_
  rintro e_4 w4 ⟨rfl, hb⟩
  have K' := Hold.mem (K) hb
  clear hb K
  have K := K'
  clear K'
  clear q0 f0 q1 f1 q2 f2
  obtain ⟨_, sz5, h0, h1, h2, _⟩ := id K
  have q0 := h0.cell; have f0 := h0.frozen; have z5_0 := h0.lt
  have q1 := h1.cell; have f1 := h1.frozen; have z5_1 := h1.lt
  have q2 := h2.cell; have f2 := h2.frozen; have z5_2 := h2.lt
  clear h0 h1 h2
  go_wp2_with fail
  refine (same_mem (HL.out _)).mono ?_
  rintro e_5 w5 ⟨rfl, hb⟩
  have K' := Hold.mem (K) hb
  clear hb K
  have K := K'
  clear K'
  clear q0 f0 q1 f1 q2 f2
  obtain ⟨_, sz6, h0, h1, h2, _⟩ := id K
  have q0 := h0.cell; have f0 := h0.frozen; have z6_0 := h0.lt
  have q1 := h1.cell; have f1 := h1.frozen; have z6_1 := h1.lt
  have q2 := h2.cell; have f2 := h2.frozen; have z6_2 := h2.lt
  clear h0 h1 h2
  go_wp2_with fail
  clear q0 f0 q1 f1 q2 f2
  have K' := (show Hold w.heap.size w [(w2.heap.size, #[.int .i64 L, .int .i64 (-G), .int .i64 0]), (w.heap.size + 1, #[.int .i64 0, .int .i64 0, .int .i64 0]), (w.heap.size, #[.int .i64 x, .int .i64 y, .int .i64 r])] _ from ((K).set3 (v0 := .int .i64 L) (v1 := .int .i64 G) (v2 := .int .i64 0) (by omega) (by simp <;> omega)).set (by omega) (by simp <;> omega) 1 (.int .i64 (-G)))
  clear K
  have K := K'
  clear K'
  obtain ⟨_, sz7, h0, h1, h2, _⟩ := id K
  have z7_0 := h0.lt; have z7_1 := h1.lt; have z7_2 := h2.lt
  clear h0 h1 h2
  have hne : Hid (∃ w', Hold w.heap.size w [(w2.heap.size, #[.int .i64 L, .int .i64 (-G), .int .i64 0]), (w.heap.size + 1, #[.int .i64 0, .int .i64 0, .int .i64 0]), (w.heap.size, #[.int .i64 x, .int .i64 y, .int .i64 r])] w') := ⟨_, K.drew⟩
  refine wp_region_sink (Hold w.heap.size w [(w2.heap.size, #[.int .i64 L, .int .i64 (-G), .int .i64 0]), (w.heap.size + 1, #[.int .i64 0, .int .i64 0, .int .i64 0]), (w.heap.size, #[.int .i64 x, .int .i64 y, .int .i64 r])]) 12 (by kernel_rfl) (by kernel_rfl) (Hold.lasting _ _ _) K.drew ?_
  simp only [List.take_succ_cons, List.take_zero, List.drop_succ_cons, List.drop_zero]
  clear K
  repeat (first
    | (refine calm_skip (by rfl) ?_; simp only [Act.put, List.setIfInBounds_toArray, List.set_cons_zero, List.set_cons_succ])
    | (refine calm_step hne.out (by rfl) rfl (by simp) ?_; apply Exists.intro; refine ⟨?_, ?_⟩
       · (intro r _ K hK; go_big_quiet_op; first
          | exact hK
          | (apply Exists.intro; refine ⟨fun _ hw => ?_, ?_⟩; (first
             | with_reducible exact rfl
             | with_reducible exact cm_quiet hw (HT.out _)
             | with_reducible exact cm_same hw (HC1.out _)
             | with_reducible exact cm_same hw (HC2.out _)
             | (obtain ⟨_, _, h0, h1, h2, _⟩ := hw.s; have q0 := h0.cell; have q1 := h1.cell; have q2 := h2.cell; clear h0 h1 h2; simp [q0, q1, q2, go_sem]; exact rfl)); exact hK))))
  refine wpCalm_nil ?_
  intro w6 K
  clear hne
  obtain ⟨_, sz8, h0, h1, h2, _⟩ := id K
  have q0 := h0.cell; have f0 := h0.frozen; have z8_0 := h0.lt
  have q1 := h1.cell; have f1 := h1.frozen; have z8_1 := h1.lt
  have q2 := h2.cell; have f2 := h2.frozen; have z8_2 := h2.lt
  clear h0 h1 h2
  go_wp2_with fail
  refine (HK.out _).mono ?_
  rintro e_7 w7 ⟨rfl, hb⟩
  have K' := Hold.mem ((show Hold w.heap.size w [(w2.heap.size, #[.int .i64 L, .int .i64 (-G), .int .i64 (C1 + 3 + C2)]), (w.heap.size + 1, #[.int .i64 0, .int .i64 0, .int .i64 0]), (w.heap.size, #[.int .i64 x, .int .i64 y, .int .i64 r])] _ from (K).set (by omega) (by simp <;> omega) 2 (.int .i64 (C1 + 3 + C2)))) hb
  clear hb K
  have K := K'
  clear K'
  clear q0 f0 q1 f1 q2 f2
  obtain ⟨_, sz9, h0, h1, h2, _⟩ := id K
  have q0 := h0.cell; have f0 := h0.frozen; have z9_0 := h0.lt
  have q1 := h1.cell; have f1 := h1.frozen; have z9_1 := h1.lt
  have q2 := h2.cell; have f2 := h2.frozen; have z9_2 := h2.lt
  clear h0 h1 h2
  go_wp2_with fail
  refine bodyPost_ret (v := .tuple #[.agg #[.int .i64 XX, .int .i64 YY, .int .i64 RR], .int .i64 EE]) (by simp [results, Try.results45, go_sem, *]) rfl ⟨rfl, ?_⟩
  repeat (first | exact K.below | refine Below.setCell ?_ (by simp <;> omega) _)

set_option maxHeartbeats 4000000 in
theorem refRoot_2b {x y r D : Int} {A G L T C1 C2 : Int} (b1 b2 : Bool) (hz : ¬ D ≤ r) (bx : Sm 67108864 x) (by' : Sm 67108864 y) (br : 0 ≤ r ∧ r ≤ 67108864) (bD : 0 ≤ D ∧ D ≤ 134217728) (bG : 0 ≤ G ∧ G ≤ 1073741824) (bC1 : 0 ≤ C1 ∧ C1 ≤ 281474976710656) (bC2 : 0 ≤ C2 ∧ C2 ≤ 281474976710656) (hx : x < 0) (hy : y < 0) (hA : A ≤ r) (hr : r = 0)
    (HS : Hid (∀ w, Calls Try.prog 114 #[.int .i64 y] w fun e w' => e = .returned (.int .i64 A) ∧ w = w'))
    (HG : Hid (∀ w, Calls Try.prog 115 #[.int .i64 ((D - x) * 524288)] w (Quiet (.int .i64 G) w)))
    (HL : Hid (∀ w, Calls Try.prog 81 #[.int .i64 A, .int .i64 (2 * G)] w (fun e w' => e = .returned (.tuple #[.int .i64 L, .bool b1]) ∧ w = w')))
    (HT : Hid (∀ w, Calls Try.prog 115 #[.int .i64 (D * 1048576)] w (Quiet (.int .i64 T) w)))
    (HC1 : Hid (∀ w, Calls Try.prog 102 #[.int .i64 0, .int .i64 T] w (fun e w' => e = .returned (.int .i64 C1) ∧ w = w')))
    (HC2 : Hid (∀ w, Calls Try.prog 102 #[.int .i64 1048576, .int .i64 G] w (fun e w' => e = .returned (.int .i64 C2) ∧ w = w')))
    (HD : Hid (∀ w, Calls Try.prog 107 #[.agg #[.int .i64 x, .int .i64 y, .int .i64 0]] w (Mem (.int .i64 D) w))) (w : World) :
    Calls Try.prog 45 #[.agg #[.int .i64 x, .int .i64 y, .int .i64 0]] w (Mem (chkV L (-G) (C1 + 3 + C2)) w) := by
  have HK := fun w => Checked_any L (-G) (C1 + 3 + C2) w
  obtain ⟨XX, YY, RR, EE, hX⟩ := chkV_ex L (-G) (C1 + 3 + C2)
  rw [hX] at HK ⊢
  replace HK := Lib.hid HK
  clear hX
  unfold refV at *
  obtain ⟨x1, x2⟩ := bx
  obtain ⟨y1, y2⟩ := by'
  obtain ⟨r1, r2⟩ := br
  have g0 : decide (D ≤ 0) = false := by simp; omega
  have v0 : IntKind.i64.wrap ((D - x) * 524288) = (D - x) * 524288 := IntWalk.i64_in _ (by omega)
  have v1 : IntKind.i64.wrap (2 * G) = 2 * G := IntWalk.i64_in _ (by omega)
  have v2 : IntKind.i64.wrap (r * 1048576) = r * 1048576 := IntWalk.i64_in _ (by omega)
  have v3 : IntKind.i64.wrap (D * 1048576) = D * 1048576 := IntWalk.i64_in _ (by omega)
  have v4 : IntKind.i64.wrap (C1 + 3) = C1 + 3 := IntWalk.i64_in _ (by omega)
  have v5 : IntKind.i64.wrap (C1 + 3 + C2) = C1 + 3 + C2 := IntWalk.i64_in _ (by omega)
  have g1 : decide (x < 0) = true := by simpa using hx
  have g2 : decide (0 ≤ x) = false := by simp; omega
  have g3 : decide (y < 0) = true := by simpa using hy
  have g4 : decide (A ≤ 0) = true := by simp; omega
  have g5 : ((0 : Int) != 0) = false := by decide
  clear v2 hz
  subst hr
  go_enter Try.func45, Try.ntmps45
  go_wp2_with fail
  have K := ((Hold.start w).new #[.int .i64 x, .int .i64 y, .int .i64 0] 33 (n := w.heap.size) (by simp)).new #[.int .i64 0, .int .i64 0, .int .i64 0] 33 (n := w.heap.size + 1) (by simp)
  refine (HD.out _).mono ?_
  rintro e_1 w1 ⟨rfl, hb⟩
  have K' := Hold.mem (K) hb
  clear hb K
  have K := K'
  clear K'
  obtain ⟨_, sz1, h0, h1, _⟩ := id K
  have q0 := h0.cell; have f0 := h0.frozen; have z1_0 := h0.lt
  have q1 := h1.cell; have f1 := h1.frozen; have z1_1 := h1.lt
  clear h0 h1
  go_wp2_with fail
  clear q0 f0 q1 f1
  obtain ⟨_, sz2, h0, h1, _⟩ := id K
  have z2_0 := h0.lt; have z2_1 := h1.lt
  clear h0 h1
  have hne : Hid (∃ w', Hold w.heap.size w [(w.heap.size + 1, #[.int .i64 0, .int .i64 0, .int .i64 0]), (w.heap.size, #[.int .i64 x, .int .i64 y, .int .i64 0])] w') := ⟨_, K.drew⟩
  refine wp_region_tail (Hold w.heap.size w [(w.heap.size + 1, #[.int .i64 0, .int .i64 0, .int .i64 0]), (w.heap.size, #[.int .i64 x, .int .i64 y, .int .i64 0])]) 16 16 (by kernel_rfl) (by kernel_rfl) (fun _ _ d _ _ h => by cases d <;> exact h) (Hold.lasting _ _ _) K.drew ?_
  simp only [List.take_succ_cons, List.take_zero, List.drop_succ_cons, List.drop_zero]
  clear K
  repeat (first
    | (refine calm_skip (by rfl) ?_; simp only [Act.put, List.setIfInBounds_toArray, List.set_cons_zero, List.set_cons_succ])
    | (refine calm_step hne.out (by rfl) rfl (by simp) ?_; apply Exists.intro; refine ⟨?_, ?_⟩
       · (intro r _ K hK; go_big_quiet_op; first
          | exact hK
          | (apply Exists.intro; refine ⟨fun _ hw => ?_, ?_⟩; (first
             | with_reducible exact rfl
             | with_reducible exact cm_same hw (HS.out _)
             | (obtain ⟨_, _, h0, h1, _⟩ := hw.s; have q0 := h0.cell; have q1 := h1.cell; clear h0 h1; simp [q0, q1, go_sem]; exact rfl)); exact hK))))
  refine wpCalm_nil ?_
  intro w2 K
  clear hne
  obtain ⟨_, sz3, h0, h1, _⟩ := id K
  have q0 := h0.cell; have f0 := h0.frozen; have z3_0 := h0.lt
  have q1 := h1.cell; have f1 := h1.frozen; have z3_1 := h1.lt
  clear h0 h1
  go_wp2_with fail
  refine (quiet_mem (HG.out _)).mono ?_
  rintro e_3 w3 ⟨rfl, hb⟩
  have K' := Hold.mem ((K).new #[.int .i64 0, .int .i64 0, .int .i64 0] 33 (n := w2.heap.size) (by first | rfl | (simp <;> omega))) hb
  clear hb K
  have K := K'
  clear K'
  clear q0 f0 q1 f1
  obtain ⟨_, sz4, h0, h1, h2, _⟩ := id K
  have q0 := h0.cell; have f0 := h0.frozen; have z4_0 := h0.lt
  have q1 := h1.cell; have f1 := h1.frozen; have z4_1 := h1.lt
  have q2 := h2.cell; have f2 := h2.frozen; have z4_2 := h2.lt
  clear h0 h1 h2
  go_wp2_with fail
  refine (same_mem (HS.out _)).mono ?_
  rintro e_4 w4 ⟨rfl, hb⟩
  have K' := Hold.mem (K) hb
  clear hb K
  have K := K'
  clear K'
  clear q0 f0 q1 f1 q2 f2
  obtain ⟨_, sz5, h0, h1, h2, _⟩ := id K
  have q0 := h0.cell; have f0 := h0.frozen; have z5_0 := h0.lt
  have q1 := h1.cell; have f1 := h1.frozen; have z5_1 := h1.lt
  have q2 := h2.cell; have f2 := h2.frozen; have z5_2 := h2.lt
  clear h0 h1 h2
  go_wp2_with fail
  refine (same_mem (HL.out _)).mono ?_
  rintro e_5 w5 ⟨rfl, hb⟩
  have K' := Hold.mem (K) hb
  clear hb K
  have K := K'
  clear K'
  clear q0 f0 q1 f1 q2 f2
  obtain ⟨_, sz6, h0, h1, h2, _⟩ := id K
  have q0 := h0.cell; have f0 := h0.frozen; have z6_0 := h0.lt
  have q1 := h1.cell; have f1 := h1.frozen; have z6_1 := h1.lt
  have q2 := h2.cell; have f2 := h2.frozen; have z6_2 := h2.lt
  clear h0 h1 h2
  go_wp2_with fail
  clear q0 f0 q1 f1 q2 f2
  have K' := (show Hold w.heap.size w [(w2.heap.size, #[.int .i64 L, .int .i64 (-G), .int .i64 0]), (w.heap.size + 1, #[.int .i64 0, .int .i64 0, .int .i64 0]), (w.heap.size, #[.int .i64 x, .int .i64 y, .int .i64 0])] _ from ((K).set3 (v0 := .int .i64 L) (v1 := .int .i64 G) (v2 := .int .i64 0) (by omega) (by simp <;> omega)).set (by omega) (by simp <;> omega) 1 (.int .i64 (-G)))
  clear K
  have K := K'
  clear K'
  obtain ⟨_, sz7, h0, h1, h2, _⟩ := id K
  have z7_0 := h0.lt; have z7_1 := h1.lt; have z7_2 := h2.lt
  clear h0 h1 h2
  have hne : Hid (∃ w', Hold w.heap.size w [(w2.heap.size, #[.int .i64 L, .int .i64 (-G), .int .i64 0]), (w.heap.size + 1, #[.int .i64 0, .int .i64 0, .int .i64 0]), (w.heap.size, #[.int .i64 x, .int .i64 y, .int .i64 0])] w') := ⟨_, K.drew⟩
  refine wp_region_sink (Hold w.heap.size w [(w2.heap.size, #[.int .i64 L, .int .i64 (-G), .int .i64 0]), (w.heap.size + 1, #[.int .i64 0, .int .i64 0, .int .i64 0]), (w.heap.size, #[.int .i64 x, .int .i64 y, .int .i64 0])]) 12 (by kernel_rfl) (by kernel_rfl) (Hold.lasting _ _ _) K.drew ?_
  simp only [List.take_succ_cons, List.take_zero, List.drop_succ_cons, List.drop_zero]
  clear K
  repeat (first
    | (refine calm_skip (by rfl) ?_; simp only [Act.put, List.setIfInBounds_toArray, List.set_cons_zero, List.set_cons_succ])
    | (refine calm_step hne.out (by rfl) rfl (by simp) ?_; apply Exists.intro; refine ⟨?_, ?_⟩
       · (intro r _ K hK; go_big_quiet_op; first
          | exact hK
          | (apply Exists.intro; refine ⟨fun _ hw => ?_, ?_⟩; (first
             | with_reducible exact rfl
             | with_reducible exact cm_quiet hw (HT.out _)
             | with_reducible exact cm_same hw (HC1.out _)
             | with_reducible exact cm_same hw (HC2.out _)
             | (obtain ⟨_, _, h0, h1, h2, _⟩ := hw.s; have q0 := h0.cell; have q1 := h1.cell; have q2 := h2.cell; clear h0 h1 h2; simp [q0, q1, q2, go_sem]; exact rfl)); exact hK))))
  refine wpCalm_nil ?_
  intro w6 K
  clear hne
  obtain ⟨_, sz8, h0, h1, h2, _⟩ := id K
  have q0 := h0.cell; have f0 := h0.frozen; have z8_0 := h0.lt
  have q1 := h1.cell; have f1 := h1.frozen; have z8_1 := h1.lt
  have q2 := h2.cell; have f2 := h2.frozen; have z8_2 := h2.lt
  clear h0 h1 h2
  go_wp2_with fail
  refine (HK.out _).mono ?_
  rintro e_7 w7 ⟨rfl, hb⟩
  have K' := Hold.mem ((show Hold w.heap.size w [(w2.heap.size, #[.int .i64 L, .int .i64 (-G), .int .i64 (C1 + 3 + C2)]), (w.heap.size + 1, #[.int .i64 0, .int .i64 0, .int .i64 0]), (w.heap.size, #[.int .i64 x, .int .i64 y, .int .i64 0])] _ from (K).set (by omega) (by simp <;> omega) 2 (.int .i64 (C1 + 3 + C2)))) hb
  clear hb K
  have K := K'
  clear K'
  clear q0 f0 q1 f1 q2 f2
  obtain ⟨_, sz9, h0, h1, h2, _⟩ := id K
  have q0 := h0.cell; have f0 := h0.frozen; have z9_0 := h0.lt
  have q1 := h1.cell; have f1 := h1.frozen; have z9_1 := h1.lt
  have q2 := h2.cell; have f2 := h2.frozen; have z9_2 := h2.lt
  clear h0 h1 h2
  go_wp2_with fail
  refine bodyPost_ret (v := .tuple #[.agg #[.int .i64 XX, .int .i64 YY, .int .i64 RR], .int .i64 EE]) (by simp [results, Try.results45, go_sem, *]) rfl ⟨rfl, ?_⟩
  repeat (first | exact K.below | refine Below.setCell ?_ (by simp <;> omega) _)

end Go.Proofs.Ythodhenhmjgodaa
