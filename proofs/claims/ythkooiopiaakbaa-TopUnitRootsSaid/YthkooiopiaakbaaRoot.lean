/- The contract of roots of package ball. -/
import Derived.Test.YthkooiopiaakbaaTurn
import Derived.Test.YthkooiopiaakbaaQuoi
namespace Go.Proofs.Ythkooiopiaakbaa
open Go.RowKit Go.Lib
attribute [local go_sem] run_store_float run_store_complex
set_option linter.unusedVariables false

theorem quiet_mem {P : Program} {f : FuncId} {args : Array Value} {w : World} {v : Value} (h : Calls P f args w (Quiet v w)) : Calls P f args w (Mem v w) :=
  h.mono fun _ _ ⟨he, n, hb⟩ => ⟨he, hb ▸ below_drewN (Below.refl _ _) n⟩
theorem same_mem {P : Program} {f : FuncId} {args : Array Value} {w : World} {v : Value} (h : Calls P f args w (fun e w' => e = .returned v ∧ w = w')) : Calls P f args w (Mem v w) :=
  h.mono fun _ _ ⟨he, hb⟩ => ⟨he, hb ▸ Below.refl _ _⟩

theorem root1_any (y g : Int) {bg : Nat} (hd : DvIn y 1048576 (2 * g)) (hg : 0 ≤ g ∧ g ≤ 1073741824) (w : World) (hat : At w bg #[.int .i64 g]) :
    Calls Try.prog 143 #[.int .i64 y, .pointer (some ⟨bg, 0, none⟩)] w (Quiet (.int .i64 (rdiv (y * 1048576) (2 * g))) w) := by
  have HN := Lib.hid (fun w => nearest_any y 1048576 (2 * g) (Lib.hid hd) w)
  have q9 := hat.cell
  clear hd
  have w1 : IntKind.i64.wrap (2 * g) = 2 * g := IntWalk.i64_in _ (by omega)
  go_enter Try.func143, Try.ntmps143
  go_wp2_with fail
  refine (HN.out _).mono ?_
  rintro e w' ⟨rfl, n1, rfl⟩
  go_wp2_with fail
  go_ret
  exact ⟨rfl, _, rfl⟩

set_option maxHeartbeats 4000000 in
theorem discRoot_0 {a b : Nat} {x y r D G L T C1 C2 : Int} (hx : 0 ≤ x) (hy : True) (bx : Sm 67108864 x) (by' : Sm 67108864 y) (bD : 0 ≤ D ∧ D ≤ 134217728) (bG : 0 ≤ G ∧ G ≤ 1073741824) (bC1 : 0 ≤ C1 ∧ C1 ≤ 281474976710656) (bC2 : 0 ≤ C2 ∧ C2 ≤ 281474976710656)
    (HD : Hid (∀ w, Calls Try.prog 105 #[.complex .f64 a b] w (Mem (.int .i64 D) w)))
    (HP : Hid (∀ w, Calls Try.prog 110 #[.complex .f64 a b] w (Mem (.agg #[.int .i64 x, .int .i64 y]) w)))
    (HG : Hid (∀ w, Calls Try.prog 112 #[.int .i64 ((D + x) * 524288)] w (Quiet (.int .i64 G) w)))
    (HT : Hid (∀ w, Calls Try.prog 112 #[.int .i64 (D * 1048576)] w (Quiet (.int .i64 T) w)))
    (HC1 : Hid (∀ w, Calls Try.prog 100 #[.int .i64 r, .int .i64 1048576, .int .i64 T] w (Quiet (.int .i64 C1) w)))
    (HC2 : Hid (∀ w, Calls Try.prog 100 #[.int .i64 1048576, .int .i64 1, .int .i64 G] w (Quiet (.int .i64 C2) w)))
    (HL : Hid (∀ bg w, At w bg #[.int .i64 G] → Calls Try.prog 143 #[.int .i64 y, .pointer (some ⟨bg, 0, none⟩)] w (Quiet (.int .i64 L) w))) (w : World) :
    Calls Try.prog 111 #[.agg #[.complex .f64 a b, .int .i64 r]] w (Mem (.agg #[.complex .f64 (fi (G)) (fi (L)), .int .i64 (C1 + 3 + C2)]) w) := by
  have HE : ∀ args w, (callFunc 143 args).run Try.prog w = .ok (.enter 143 args) w := ent_of Try.func143 (by kernel_rfl) rfl
  have HA := Lib.hid (fun w => centreAt_any (G) (L) w)
  obtain ⟨x1, x2⟩ := bx
  obtain ⟨y1, y2⟩ := by'
  have e1 : max x (-x) = x := by omega
  have g1 : decide (0 ≤ x) = true := by simpa using hx
  
  have v1 : IntKind.i64.wrap ((D + x) * 524288) = (D + x) * 524288 := IntWalk.i64_in _ (by omega)
  have v2 : IntKind.i64.wrap (D * 1048576) = D * 1048576 := IntWalk.i64_in _ (by omega)
  have v3 : IntKind.i64.wrap (C1 + 3) = C1 + 3 := IntWalk.i64_in _ (by omega)
  have v4 : IntKind.i64.wrap (C1 + 3 + C2) = C1 + 3 + C2 := IntWalk.i64_in _ (by omega)
  generalize fi (G) = fX at *
  generalize fi (L) = fY at *
  go_enter Try.func111, Try.ntmps111
  go_wp2_with fail
  have K := ((Hold.start w).new #[.complex .f64 a b, .int .i64 r] 95 (n := w.heap.size) (by simp)).new #[.complex .f64 0 0, .int .i64 0] 95 (n := w.heap.size + 1) (by simp)
  obtain ⟨_, sz1, h0, h1, _⟩ := id K
  have z1_0 := h0.lt; have z1_1 := h1.lt
  clear h0 h1
  have hne : Hid (∃ w', Hold w.heap.size w [(w.heap.size + 1, #[.complex .f64 0 0, .int .i64 0]), (w.heap.size, #[.complex .f64 a b, .int .i64 r])] w') := ⟨_, K.drew⟩
  refine wp_region_float (Hold w.heap.size w [(w.heap.size + 1, #[.complex .f64 0 0, .int .i64 0]), (w.heap.size, #[.complex .f64 a b, .int .i64 r])]) 6 6 4 (by kernel_rfl) (by kernel_rfl) (fun _ _ d _ _ h => by cases d <;> exact h) (Hold.lasting _ _ _) K.drew (c := #[.int .i64 0, .int .i64 0]) rfl ⟨rfl, rfl, fun _ _ => ⟨_, by go_simp; exact rfl⟩⟩ ?_
  simp only [List.take_succ_cons, List.take_zero, List.drop_succ_cons, List.drop_zero]
  clear K
  repeat (first
    | (refine calm_skip (by rfl) ?_; simp only [Act.put, List.setIfInBounds_toArray, List.set_cons_zero, List.set_cons_succ])
    | (refine calm_step hne.out (by rfl) rfl (by simp) ?_; apply Exists.intro; refine ⟨?_, ?_⟩
       · (intro r _ K hK; go_big_quiet_op; first
          | exact hK
          | (apply Exists.intro; refine ⟨fun _ hw => ?_, ?_⟩; (first
             | with_reducible exact rfl
             | with_reducible exact cm_mem hw (HD.out _)
             | with_reducible exact cm_mem hw (HP.out _)
             | (obtain ⟨_, _, h0, h1, _⟩ := hw.s; have q0 := h0.cell; have q1 := h1.cell; clear h0 h1; simp [q0, q1, go_sem]; exact rfl)); exact hK))))
  refine wpCalm_nil ?_
  intro b4 w1 hge_b4 K ha
  clear hne
  have K' := K.cons ha
  clear ha K
  have K := K'
  clear K'
  simp only [Act.put, List.setIfInBounds_toArray, List.set_cons_zero, List.set_cons_succ]
  obtain ⟨_, sz2, h0, h1, h2, _⟩ := id K
  have q0 := h0.cell; have f0 := h0.frozen; have z2_0 := h0.lt
  have q1 := h1.cell; have f1 := h1.frozen; have z2_1 := h1.lt
  have q2 := h2.cell; have f2 := h2.frozen; have z2_2 := h2.lt
  clear h0 h1 h2
  go_wp2_with fail
  clear q0 f0 q1 f1 q2 f2
  have K' := (K).set2 (v0 := .int .i64 x) (v1 := .int .i64 y) (by omega) (by simp <;> omega)
  clear K
  have K := K'
  clear K'
  obtain ⟨_, sz3, h0, h1, h2, _⟩ := id K
  have z3_0 := h0.lt; have z3_1 := h1.lt; have z3_2 := h2.lt
  clear h0 h1 h2
  have hne : Hid (∃ w', Hold w.heap.size w [(b4, #[.int .i64 x, .int .i64 y]), (w.heap.size + 1, #[.complex .f64 0 0, .int .i64 0]), (w.heap.size, #[.complex .f64 a b, .int .i64 r])] w') := ⟨_, K.drew⟩
  refine wp_region_tail (Hold w.heap.size w [(b4, #[.int .i64 x, .int .i64 y]), (w.heap.size + 1, #[.complex .f64 0 0, .int .i64 0]), (w.heap.size, #[.complex .f64 a b, .int .i64 r])]) 6 6 (by kernel_rfl) (by kernel_rfl) (fun _ _ d _ _ h => by cases d <;> exact h) (Hold.lasting _ _ _) K.drew ?_
  simp only [List.take_succ_cons, List.take_zero, List.drop_succ_cons, List.drop_zero]
  clear K
  repeat (first
    | (refine calm_skip (by rfl) ?_; simp only [Act.put, List.setIfInBounds_toArray, List.set_cons_zero, List.set_cons_succ])
    | (refine calm_step hne.out (by rfl) rfl (by simp) ?_; apply Exists.intro; refine ⟨?_, ?_⟩
       · (intro r _ K hK; go_big_quiet_op; first
          | exact hK
          | (apply Exists.intro; refine ⟨fun _ hw => ?_, ?_⟩; (first
             | with_reducible exact rfl
             | (obtain ⟨_, _, h0, h1, h2, _⟩ := hw.s; have q0 := h0.cell; have q1 := h1.cell; have q2 := h2.cell; clear h0 h1 h2; simp [q0, q1, q2, go_sem]; exact rfl)); exact hK))))
  refine wpCalm_nil ?_
  intro w2 K
  clear hne
  obtain ⟨_, sz4, h0, h1, h2, _⟩ := id K
  have q0 := h0.cell; have f0 := h0.frozen; have z4_0 := h0.lt
  have q1 := h1.cell; have f1 := h1.frozen; have z4_1 := h1.lt
  have q2 := h2.cell; have f2 := h2.frozen; have z4_2 := h2.lt
  clear h0 h1 h2
  go_wp2_with fail
  refine (quiet_mem (HG.out _)).mono ?_
  rintro e_3 w3 ⟨rfl, hb⟩
  have K' := Hold.mem (K) hb
  clear hb K
  have K := K'
  clear K'
  clear q0 f0 q1 f1 q2 f2
  obtain ⟨_, sz5, h0, h1, h2, _⟩ := id K
  have q0 := h0.cell; have f0 := h0.frozen; have z5_0 := h0.lt
  have q1 := h1.cell; have f1 := h1.frozen; have z5_1 := h1.lt
  have q2 := h2.cell; have f2 := h2.frozen; have z5_2 := h2.lt
  clear h0 h1 h2
  go_wp2_with fail
  clear q0 f0 q1 f1 q2 f2
  have K' := (K).new #[.int .i64 G] 3 (n := w3.heap.size) (by first | rfl | (simp <;> omega))
  clear K
  have K := K'
  clear K'
  obtain ⟨_, sz6, h0, h1, h2, h3, _⟩ := id K
  have z6_0 := h0.lt; have z6_1 := h1.lt; have z6_2 := h2.lt; have z6_3 := h3.lt
  clear h0 h1 h2 h3
  have hne : Hid (∃ w', Hold w.heap.size w [(w3.heap.size, #[.int .i64 G]), (b4, #[.int .i64 x, .int .i64 y]), (w.heap.size + 1, #[.complex .f64 0 0, .int .i64 0]), (w.heap.size, #[.complex .f64 a b, .int .i64 r])] w') := ⟨_, K.drew⟩
  refine wp_region_tail (Hold w.heap.size w [(w3.heap.size, #[.int .i64 G]), (b4, #[.int .i64 x, .int .i64 y]), (w.heap.size + 1, #[.complex .f64 0 0, .int .i64 0]), (w.heap.size, #[.complex .f64 a b, .int .i64 r])]) 10 10 (by kernel_rfl) (by kernel_rfl) (fun _ _ d _ _ h => by cases d <;> exact h) (Hold.lasting _ _ _) K.drew ?_
  simp only [List.take_succ_cons, List.take_zero, List.drop_succ_cons, List.drop_zero]
  clear K
  repeat (first
    | (refine calm_skip (by rfl) ?_; simp only [Act.put, List.setIfInBounds_toArray, List.set_cons_zero, List.set_cons_succ])
    | (refine calm_step hne.out (by rfl) rfl (by simp) ?_; apply Exists.intro; refine ⟨?_, ?_⟩
       · (intro r _ K hK; go_big_quiet_op; first
          | exact hK
          | (apply Exists.intro; refine ⟨fun _ hw => ?_, ?_⟩; (first
             | with_reducible exact rfl
             | with_reducible exact cm_quiet hw (HT.out _)
             | with_reducible exact cm_quiet hw (HC1.out _)
             | with_reducible exact cm_quiet hw (HC2.out _)
             | (obtain ⟨_, _, h0, h1, h2, h3, _⟩ := hw.s; have q0 := h0.cell; have q1 := h1.cell; have q2 := h2.cell; have q3 := h3.cell; clear h0 h1 h2 h3; simp [q0, q1, q2, q3, go_sem]; exact rfl)); exact hK))))
  refine wpCalm_nil ?_
  intro w4 K
  clear hne
  obtain ⟨_, sz7, h0, h1, h2, h3, _⟩ := id K
  have q0 := h0.cell; have f0 := h0.frozen; have z7_0 := h0.lt
  have q1 := h1.cell; have f1 := h1.frozen; have z7_1 := h1.lt
  have q2 := h2.cell; have f2 := h2.frozen; have z7_2 := h2.lt
  have q3 := h3.cell; have f3 := h3.frozen; have z7_3 := h3.lt
  clear h0 h1 h2 h3
  go_wp2_with fail
  clear q0 f0 q1 f1 q2 f2 q3 f3
  obtain ⟨_, sz8, h0, h1, h2, h3, _⟩ := id K
  have z8_0 := h0.lt; have z8_1 := h1.lt; have z8_2 := h2.lt; have z8_3 := h3.lt
  clear h0 h1 h2 h3
  have hne : Hid (∃ w', Hold w.heap.size w [(w3.heap.size, #[.int .i64 G]), (b4, #[.int .i64 x, .int .i64 y]), (w.heap.size + 1, #[.complex .f64 0 0, .int .i64 0]), (w.heap.size, #[.complex .f64 a b, .int .i64 r])] w') := ⟨_, K.drew⟩
  refine wp_region_tail (Hold w.heap.size w [(w3.heap.size, #[.int .i64 G]), (b4, #[.int .i64 x, .int .i64 y]), (w.heap.size + 1, #[.complex .f64 0 0, .int .i64 0]), (w.heap.size, #[.complex .f64 a b, .int .i64 r])]) 7 7 (by kernel_rfl) (by kernel_rfl) (fun _ _ d _ _ h => by cases d <;> exact h) (Hold.lasting _ _ _) K.drew ?_
  simp only [List.take_succ_cons, List.take_zero, List.drop_succ_cons, List.drop_zero]
  clear K
  repeat (first
    | (refine calm_skip (by rfl) ?_; simp only [Act.put, List.setIfInBounds_toArray, List.set_cons_zero, List.set_cons_succ])
    | (refine calm_step hne.out (by rfl) rfl (by simp) ?_; apply Exists.intro; refine ⟨?_, ?_⟩
       · (intro r _ K hK; go_big_quiet_op; first
          | exact hK
          | (apply Exists.intro; refine ⟨fun _ hw => ?_, ?_⟩; (first
             | with_reducible exact rfl
             | with_reducible exact cm_quiet hw (HL.out _ _ (hw.s.at _ _ (by simp)))
             | with_reducible exact cm_same hw (HA.out _)
             | (obtain ⟨_, _, h0, h1, h2, h3, _⟩ := hw.s; have q0 := h0.cell; have q1 := h1.cell; have q2 := h2.cell; have q3 := h3.cell; clear h0 h1 h2 h3; simp [q0, q1, q2, q3, go_sem]; exact rfl)); exact hK))))
  refine wpCalm_nil ?_
  intro w5 K
  clear hne
  obtain ⟨_, sz9, h0, h1, h2, h3, _⟩ := id K
  have q0 := h0.cell; have f0 := h0.frozen; have z9_0 := h0.lt
  have q1 := h1.cell; have f1 := h1.frozen; have z9_1 := h1.lt
  have q2 := h2.cell; have f2 := h2.frozen; have z9_2 := h2.lt
  have q3 := h3.cell; have f3 := h3.frozen; have z9_3 := h3.lt
  clear h0 h1 h2 h3
  go_wp2_with fail
  refine bodyPost_ret (v := .agg #[.complex .f64 fX fY, .int .i64 (C1 + 3 + C2)]) (by simp [results, Try.results111, go_sem, *]) rfl ⟨rfl, ?_⟩
  repeat (first | exact K.below | refine Below.setCell ?_ (by simp <;> omega) _)

set_option maxHeartbeats 4000000 in
theorem discRoot_1 {a b : Nat} {x y r D G L T C1 C2 : Int} (hx : x < 0) (hy : 0 ≤ y) (bx : Sm 67108864 x) (by' : Sm 67108864 y) (bD : 0 ≤ D ∧ D ≤ 134217728) (bG : 0 ≤ G ∧ G ≤ 1073741824) (bC1 : 0 ≤ C1 ∧ C1 ≤ 281474976710656) (bC2 : 0 ≤ C2 ∧ C2 ≤ 281474976710656)
    (HD : Hid (∀ w, Calls Try.prog 105 #[.complex .f64 a b] w (Mem (.int .i64 D) w)))
    (HP : Hid (∀ w, Calls Try.prog 110 #[.complex .f64 a b] w (Mem (.agg #[.int .i64 x, .int .i64 y]) w)))
    (HG : Hid (∀ w, Calls Try.prog 112 #[.int .i64 ((D + (-x)) * 524288)] w (Quiet (.int .i64 G) w)))
    (HT : Hid (∀ w, Calls Try.prog 112 #[.int .i64 (D * 1048576)] w (Quiet (.int .i64 T) w)))
    (HC1 : Hid (∀ w, Calls Try.prog 100 #[.int .i64 r, .int .i64 1048576, .int .i64 T] w (Quiet (.int .i64 C1) w)))
    (HC2 : Hid (∀ w, Calls Try.prog 100 #[.int .i64 1048576, .int .i64 1, .int .i64 G] w (Quiet (.int .i64 C2) w)))
    (HL : Hid (∀ bg w, At w bg #[.int .i64 G] → Calls Try.prog 143 #[.int .i64 y, .pointer (some ⟨bg, 0, none⟩)] w (Quiet (.int .i64 L) w))) (w : World) :
    Calls Try.prog 111 #[.agg #[.complex .f64 a b, .int .i64 r]] w (Mem (.agg #[.complex .f64 (fi (L)) (fi (G)), .int .i64 (C1 + 3 + C2)]) w) := by
  have HE : ∀ args w, (callFunc 143 args).run Try.prog w = .ok (.enter 143 args) w := ent_of Try.func143 (by kernel_rfl) rfl
  have HA := Lib.hid (fun w => centreAt_any (L) (G) w)
  obtain ⟨x1, x2⟩ := bx
  obtain ⟨y1, y2⟩ := by'
  have e1 : max x (-x) = -x := by omega
  have g1 : decide (0 ≤ x) = false := by simpa using hx
  have g2 : decide (0 ≤ y) = true := by simpa using hy
  have v1 : IntKind.i64.wrap ((D + -x) * 524288) = (D + -x) * 524288 := IntWalk.i64_in _ (by omega)
  have v2 : IntKind.i64.wrap (D * 1048576) = D * 1048576 := IntWalk.i64_in _ (by omega)
  have v3 : IntKind.i64.wrap (C1 + 3) = C1 + 3 := IntWalk.i64_in _ (by omega)
  have v4 : IntKind.i64.wrap (C1 + 3 + C2) = C1 + 3 + C2 := IntWalk.i64_in _ (by omega)
  generalize fi (L) = fX at *
  generalize fi (G) = fY at *
  go_enter Try.func111, Try.ntmps111
  go_wp2_with fail
  have K := ((Hold.start w).new #[.complex .f64 a b, .int .i64 r] 95 (n := w.heap.size) (by simp)).new #[.complex .f64 0 0, .int .i64 0] 95 (n := w.heap.size + 1) (by simp)
  obtain ⟨_, sz1, h0, h1, _⟩ := id K
  have z1_0 := h0.lt; have z1_1 := h1.lt
  clear h0 h1
  have hne : Hid (∃ w', Hold w.heap.size w [(w.heap.size + 1, #[.complex .f64 0 0, .int .i64 0]), (w.heap.size, #[.complex .f64 a b, .int .i64 r])] w') := ⟨_, K.drew⟩
  refine wp_region_float (Hold w.heap.size w [(w.heap.size + 1, #[.complex .f64 0 0, .int .i64 0]), (w.heap.size, #[.complex .f64 a b, .int .i64 r])]) 6 6 4 (by kernel_rfl) (by kernel_rfl) (fun _ _ d _ _ h => by cases d <;> exact h) (Hold.lasting _ _ _) K.drew (c := #[.int .i64 0, .int .i64 0]) rfl ⟨rfl, rfl, fun _ _ => ⟨_, by go_simp; exact rfl⟩⟩ ?_
  simp only [List.take_succ_cons, List.take_zero, List.drop_succ_cons, List.drop_zero]
  clear K
  repeat (first
    | (refine calm_skip (by rfl) ?_; simp only [Act.put, List.setIfInBounds_toArray, List.set_cons_zero, List.set_cons_succ])
    | (refine calm_step hne.out (by rfl) rfl (by simp) ?_; apply Exists.intro; refine ⟨?_, ?_⟩
       · (intro r _ K hK; go_big_quiet_op; first
          | exact hK
          | (apply Exists.intro; refine ⟨fun _ hw => ?_, ?_⟩; (first
             | with_reducible exact rfl
             | with_reducible exact cm_mem hw (HD.out _)
             | with_reducible exact cm_mem hw (HP.out _)
             | (obtain ⟨_, _, h0, h1, _⟩ := hw.s; have q0 := h0.cell; have q1 := h1.cell; clear h0 h1; simp [q0, q1, go_sem]; exact rfl)); exact hK))))
  refine wpCalm_nil ?_
  intro b4 w1 hge_b4 K ha
  clear hne
  have K' := K.cons ha
  clear ha K
  have K := K'
  clear K'
  simp only [Act.put, List.setIfInBounds_toArray, List.set_cons_zero, List.set_cons_succ]
  obtain ⟨_, sz2, h0, h1, h2, _⟩ := id K
  have q0 := h0.cell; have f0 := h0.frozen; have z2_0 := h0.lt
  have q1 := h1.cell; have f1 := h1.frozen; have z2_1 := h1.lt
  have q2 := h2.cell; have f2 := h2.frozen; have z2_2 := h2.lt
  clear h0 h1 h2
  go_wp2_with fail
  clear q0 f0 q1 f1 q2 f2
  have K' := (K).set2 (v0 := .int .i64 x) (v1 := .int .i64 y) (by omega) (by simp <;> omega)
  clear K
  have K := K'
  clear K'
  obtain ⟨_, sz3, h0, h1, h2, _⟩ := id K
  have z3_0 := h0.lt; have z3_1 := h1.lt; have z3_2 := h2.lt
  clear h0 h1 h2
  have hne : Hid (∃ w', Hold w.heap.size w [(b4, #[.int .i64 x, .int .i64 y]), (w.heap.size + 1, #[.complex .f64 0 0, .int .i64 0]), (w.heap.size, #[.complex .f64 a b, .int .i64 r])] w') := ⟨_, K.drew⟩
  refine wp_region_tail (Hold w.heap.size w [(b4, #[.int .i64 x, .int .i64 y]), (w.heap.size + 1, #[.complex .f64 0 0, .int .i64 0]), (w.heap.size, #[.complex .f64 a b, .int .i64 r])]) 6 6 (by kernel_rfl) (by kernel_rfl) (fun _ _ d _ _ h => by cases d <;> exact h) (Hold.lasting _ _ _) K.drew ?_
  simp only [List.take_succ_cons, List.take_zero, List.drop_succ_cons, List.drop_zero]
  clear K
  repeat (first
    | (refine calm_skip (by rfl) ?_; simp only [Act.put, List.setIfInBounds_toArray, List.set_cons_zero, List.set_cons_succ])
    | (refine calm_step hne.out (by rfl) rfl (by simp) ?_; apply Exists.intro; refine ⟨?_, ?_⟩
       · (intro r _ K hK; go_big_quiet_op; first
          | exact hK
          | (apply Exists.intro; refine ⟨fun _ hw => ?_, ?_⟩; (first
             | with_reducible exact rfl
             | (obtain ⟨_, _, h0, h1, h2, _⟩ := hw.s; have q0 := h0.cell; have q1 := h1.cell; have q2 := h2.cell; clear h0 h1 h2; simp [q0, q1, q2, go_sem]; exact rfl)); exact hK))))
  refine wpCalm_nil ?_
  intro w2 K
  clear hne
  obtain ⟨_, sz4, h0, h1, h2, _⟩ := id K
  have q0 := h0.cell; have f0 := h0.frozen; have z4_0 := h0.lt
  have q1 := h1.cell; have f1 := h1.frozen; have z4_1 := h1.lt
  have q2 := h2.cell; have f2 := h2.frozen; have z4_2 := h2.lt
  clear h0 h1 h2
  go_wp2_with fail
  refine (quiet_mem (HG.out _)).mono ?_
  rintro e_3 w3 ⟨rfl, hb⟩
  have K' := Hold.mem (K) hb
  clear hb K
  have K := K'
  clear K'
  clear q0 f0 q1 f1 q2 f2
  obtain ⟨_, sz5, h0, h1, h2, _⟩ := id K
  have q0 := h0.cell; have f0 := h0.frozen; have z5_0 := h0.lt
  have q1 := h1.cell; have f1 := h1.frozen; have z5_1 := h1.lt
  have q2 := h2.cell; have f2 := h2.frozen; have z5_2 := h2.lt
  clear h0 h1 h2
  go_wp2_with fail
  clear q0 f0 q1 f1 q2 f2
  have K' := (K).new #[.int .i64 G] 3 (n := w3.heap.size) (by first | rfl | (simp <;> omega))
  clear K
  have K := K'
  clear K'
  obtain ⟨_, sz6, h0, h1, h2, h3, _⟩ := id K
  have z6_0 := h0.lt; have z6_1 := h1.lt; have z6_2 := h2.lt; have z6_3 := h3.lt
  clear h0 h1 h2 h3
  have hne : Hid (∃ w', Hold w.heap.size w [(w3.heap.size, #[.int .i64 G]), (b4, #[.int .i64 x, .int .i64 y]), (w.heap.size + 1, #[.complex .f64 0 0, .int .i64 0]), (w.heap.size, #[.complex .f64 a b, .int .i64 r])] w') := ⟨_, K.drew⟩
  refine wp_region_tail (Hold w.heap.size w [(w3.heap.size, #[.int .i64 G]), (b4, #[.int .i64 x, .int .i64 y]), (w.heap.size + 1, #[.complex .f64 0 0, .int .i64 0]), (w.heap.size, #[.complex .f64 a b, .int .i64 r])]) 10 10 (by kernel_rfl) (by kernel_rfl) (fun _ _ d _ _ h => by cases d <;> exact h) (Hold.lasting _ _ _) K.drew ?_
  simp only [List.take_succ_cons, List.take_zero, List.drop_succ_cons, List.drop_zero]
  clear K
  repeat (first
    | (refine calm_skip (by rfl) ?_; simp only [Act.put, List.setIfInBounds_toArray, List.set_cons_zero, List.set_cons_succ])
    | (refine calm_step hne.out (by rfl) rfl (by simp) ?_; apply Exists.intro; refine ⟨?_, ?_⟩
       · (intro r _ K hK; go_big_quiet_op; first
          | exact hK
          | (apply Exists.intro; refine ⟨fun _ hw => ?_, ?_⟩; (first
             | with_reducible exact rfl
             | with_reducible exact cm_quiet hw (HT.out _)
             | with_reducible exact cm_quiet hw (HC1.out _)
             | with_reducible exact cm_quiet hw (HC2.out _)
             | (obtain ⟨_, _, h0, h1, h2, h3, _⟩ := hw.s; have q0 := h0.cell; have q1 := h1.cell; have q2 := h2.cell; have q3 := h3.cell; clear h0 h1 h2 h3; simp [q0, q1, q2, q3, go_sem]; exact rfl)); exact hK))))
  refine wpCalm_nil ?_
  intro w4 K
  clear hne
  obtain ⟨_, sz7, h0, h1, h2, h3, _⟩ := id K
  have q0 := h0.cell; have f0 := h0.frozen; have z7_0 := h0.lt
  have q1 := h1.cell; have f1 := h1.frozen; have z7_1 := h1.lt
  have q2 := h2.cell; have f2 := h2.frozen; have z7_2 := h2.lt
  have q3 := h3.cell; have f3 := h3.frozen; have z7_3 := h3.lt
  clear h0 h1 h2 h3
  go_wp2_with fail
  clear q0 f0 q1 f1 q2 f2 q3 f3
  obtain ⟨_, sz8, h0, h1, h2, h3, _⟩ := id K
  have z8_0 := h0.lt; have z8_1 := h1.lt; have z8_2 := h2.lt; have z8_3 := h3.lt
  clear h0 h1 h2 h3
  have hne : Hid (∃ w', Hold w.heap.size w [(w3.heap.size, #[.int .i64 G]), (b4, #[.int .i64 x, .int .i64 y]), (w.heap.size + 1, #[.complex .f64 0 0, .int .i64 0]), (w.heap.size, #[.complex .f64 a b, .int .i64 r])] w') := ⟨_, K.drew⟩
  refine wp_region_tail (Hold w.heap.size w [(w3.heap.size, #[.int .i64 G]), (b4, #[.int .i64 x, .int .i64 y]), (w.heap.size + 1, #[.complex .f64 0 0, .int .i64 0]), (w.heap.size, #[.complex .f64 a b, .int .i64 r])]) 7 7 (by kernel_rfl) (by kernel_rfl) (fun _ _ d _ _ h => by cases d <;> exact h) (Hold.lasting _ _ _) K.drew ?_
  simp only [List.take_succ_cons, List.take_zero, List.drop_succ_cons, List.drop_zero]
  clear K
  repeat (first
    | (refine calm_skip (by rfl) ?_; simp only [Act.put, List.setIfInBounds_toArray, List.set_cons_zero, List.set_cons_succ])
    | (refine calm_step hne.out (by rfl) rfl (by simp) ?_; apply Exists.intro; refine ⟨?_, ?_⟩
       · (intro r _ K hK; go_big_quiet_op; first
          | exact hK
          | (apply Exists.intro; refine ⟨fun _ hw => ?_, ?_⟩; (first
             | with_reducible exact rfl
             | with_reducible exact cm_quiet hw (HL.out _ _ (hw.s.at _ _ (by simp)))
             | with_reducible exact cm_same hw (HA.out _)
             | (obtain ⟨_, _, h0, h1, h2, h3, _⟩ := hw.s; have q0 := h0.cell; have q1 := h1.cell; have q2 := h2.cell; have q3 := h3.cell; clear h0 h1 h2 h3; simp [q0, q1, q2, q3, go_sem]; exact rfl)); exact hK))))
  refine wpCalm_nil ?_
  intro w5 K
  clear hne
  obtain ⟨_, sz9, h0, h1, h2, h3, _⟩ := id K
  have q0 := h0.cell; have f0 := h0.frozen; have z9_0 := h0.lt
  have q1 := h1.cell; have f1 := h1.frozen; have z9_1 := h1.lt
  have q2 := h2.cell; have f2 := h2.frozen; have z9_2 := h2.lt
  have q3 := h3.cell; have f3 := h3.frozen; have z9_3 := h3.lt
  clear h0 h1 h2 h3
  go_wp2_with fail
  refine bodyPost_ret (v := .agg #[.complex .f64 fX fY, .int .i64 (C1 + 3 + C2)]) (by simp [results, Try.results111, go_sem, *]) rfl ⟨rfl, ?_⟩
  repeat (first | exact K.below | refine Below.setCell ?_ (by simp <;> omega) _)

set_option maxHeartbeats 4000000 in
theorem discRoot_2 {a b : Nat} {x y r D G L T C1 C2 : Int} (hx : x < 0) (hy : y < 0) (bx : Sm 67108864 x) (by' : Sm 67108864 y) (bD : 0 ≤ D ∧ D ≤ 134217728) (bG : 0 ≤ G ∧ G ≤ 1073741824) (bC1 : 0 ≤ C1 ∧ C1 ≤ 281474976710656) (bC2 : 0 ≤ C2 ∧ C2 ≤ 281474976710656)
    (HD : Hid (∀ w, Calls Try.prog 105 #[.complex .f64 a b] w (Mem (.int .i64 D) w)))
    (HP : Hid (∀ w, Calls Try.prog 110 #[.complex .f64 a b] w (Mem (.agg #[.int .i64 x, .int .i64 y]) w)))
    (HG : Hid (∀ w, Calls Try.prog 112 #[.int .i64 ((D + (-x)) * 524288)] w (Quiet (.int .i64 G) w)))
    (HT : Hid (∀ w, Calls Try.prog 112 #[.int .i64 (D * 1048576)] w (Quiet (.int .i64 T) w)))
    (HC1 : Hid (∀ w, Calls Try.prog 100 #[.int .i64 r, .int .i64 1048576, .int .i64 T] w (Quiet (.int .i64 C1) w)))
    (HC2 : Hid (∀ w, Calls Try.prog 100 #[.int .i64 1048576, .int .i64 1, .int .i64 G] w (Quiet (.int .i64 C2) w)))
    (HL : Hid (∀ bg w, At w bg #[.int .i64 G] → Calls Try.prog 143 #[.int .i64 (-y), .pointer (some ⟨bg, 0, none⟩)] w (Quiet (.int .i64 L) w))) (w : World) :
    Calls Try.prog 111 #[.agg #[.complex .f64 a b, .int .i64 r]] w (Mem (.agg #[.complex .f64 (fi (L)) (fi (-G)), .int .i64 (C1 + 3 + C2)]) w) := by
  have HE : ∀ args w, (callFunc 143 args).run Try.prog w = .ok (.enter 143 args) w := ent_of Try.func143 (by kernel_rfl) rfl
  have HA := Lib.hid (fun w => centreAt_any (L) (-G) w)
  obtain ⟨x1, x2⟩ := bx
  obtain ⟨y1, y2⟩ := by'
  have e1 : max x (-x) = -x := by omega
  have g1 : decide (0 ≤ x) = false := by simpa using hx
  have g2 : decide (0 ≤ y) = false := by simpa using hy
  have v1 : IntKind.i64.wrap ((D + -x) * 524288) = (D + -x) * 524288 := IntWalk.i64_in _ (by omega)
  have v2 : IntKind.i64.wrap (D * 1048576) = D * 1048576 := IntWalk.i64_in _ (by omega)
  have v3 : IntKind.i64.wrap (C1 + 3) = C1 + 3 := IntWalk.i64_in _ (by omega)
  have v4 : IntKind.i64.wrap (C1 + 3 + C2) = C1 + 3 + C2 := IntWalk.i64_in _ (by omega)
  generalize fi (L) = fX at *
  generalize fi (-G) = fY at *
  go_enter Try.func111, Try.ntmps111
  go_wp2_with fail
  have K := ((Hold.start w).new #[.complex .f64 a b, .int .i64 r] 95 (n := w.heap.size) (by simp)).new #[.complex .f64 0 0, .int .i64 0] 95 (n := w.heap.size + 1) (by simp)
  obtain ⟨_, sz1, h0, h1, _⟩ := id K
  have z1_0 := h0.lt; have z1_1 := h1.lt
  clear h0 h1
  have hne : Hid (∃ w', Hold w.heap.size w [(w.heap.size + 1, #[.complex .f64 0 0, .int .i64 0]), (w.heap.size, #[.complex .f64 a b, .int .i64 r])] w') := ⟨_, K.drew⟩
  refine wp_region_float (Hold w.heap.size w [(w.heap.size + 1, #[.complex .f64 0 0, .int .i64 0]), (w.heap.size, #[.complex .f64 a b, .int .i64 r])]) 6 6 4 (by kernel_rfl) (by kernel_rfl) (fun _ _ d _ _ h => by cases d <;> exact h) (Hold.lasting _ _ _) K.drew (c := #[.int .i64 0, .int .i64 0]) rfl ⟨rfl, rfl, fun _ _ => ⟨_, by go_simp; exact rfl⟩⟩ ?_
  simp only [List.take_succ_cons, List.take_zero, List.drop_succ_cons, List.drop_zero]
  clear K
  repeat (first
    | (refine calm_skip (by rfl) ?_; simp only [Act.put, List.setIfInBounds_toArray, List.set_cons_zero, List.set_cons_succ])
    | (refine calm_step hne.out (by rfl) rfl (by simp) ?_; apply Exists.intro; refine ⟨?_, ?_⟩
       · (intro r _ K hK; go_big_quiet_op; first
          | exact hK
          | (apply Exists.intro; refine ⟨fun _ hw => ?_, ?_⟩; (first
             | with_reducible exact rfl
             | with_reducible exact cm_mem hw (HD.out _)
             | with_reducible exact cm_mem hw (HP.out _)
             | (obtain ⟨_, _, h0, h1, _⟩ := hw.s; have q0 := h0.cell; have q1 := h1.cell; clear h0 h1; simp [q0, q1, go_sem]; exact rfl)); exact hK))))
  refine wpCalm_nil ?_
  intro b4 w1 hge_b4 K ha
  clear hne
  have K' := K.cons ha
  clear ha K
  have K := K'
  clear K'
  simp only [Act.put, List.setIfInBounds_toArray, List.set_cons_zero, List.set_cons_succ]
  obtain ⟨_, sz2, h0, h1, h2, _⟩ := id K
  have q0 := h0.cell; have f0 := h0.frozen; have z2_0 := h0.lt
  have q1 := h1.cell; have f1 := h1.frozen; have z2_1 := h1.lt
  have q2 := h2.cell; have f2 := h2.frozen; have z2_2 := h2.lt
  clear h0 h1 h2
  go_wp2_with fail
  clear q0 f0 q1 f1 q2 f2
  have K' := (K).set2 (v0 := .int .i64 x) (v1 := .int .i64 y) (by omega) (by simp <;> omega)
  clear K
  have K := K'
  clear K'
  obtain ⟨_, sz3, h0, h1, h2, _⟩ := id K
  have z3_0 := h0.lt; have z3_1 := h1.lt; have z3_2 := h2.lt
  clear h0 h1 h2
  have hne : Hid (∃ w', Hold w.heap.size w [(b4, #[.int .i64 x, .int .i64 y]), (w.heap.size + 1, #[.complex .f64 0 0, .int .i64 0]), (w.heap.size, #[.complex .f64 a b, .int .i64 r])] w') := ⟨_, K.drew⟩
  refine wp_region_tail (Hold w.heap.size w [(b4, #[.int .i64 x, .int .i64 y]), (w.heap.size + 1, #[.complex .f64 0 0, .int .i64 0]), (w.heap.size, #[.complex .f64 a b, .int .i64 r])]) 6 6 (by kernel_rfl) (by kernel_rfl) (fun _ _ d _ _ h => by cases d <;> exact h) (Hold.lasting _ _ _) K.drew ?_
  simp only [List.take_succ_cons, List.take_zero, List.drop_succ_cons, List.drop_zero]
  clear K
  repeat (first
    | (refine calm_skip (by rfl) ?_; simp only [Act.put, List.setIfInBounds_toArray, List.set_cons_zero, List.set_cons_succ])
    | (refine calm_step hne.out (by rfl) rfl (by simp) ?_; apply Exists.intro; refine ⟨?_, ?_⟩
       · (intro r _ K hK; go_big_quiet_op; first
          | exact hK
          | (apply Exists.intro; refine ⟨fun _ hw => ?_, ?_⟩; (first
             | with_reducible exact rfl
             | (obtain ⟨_, _, h0, h1, h2, _⟩ := hw.s; have q0 := h0.cell; have q1 := h1.cell; have q2 := h2.cell; clear h0 h1 h2; simp [q0, q1, q2, go_sem]; exact rfl)); exact hK))))
  refine wpCalm_nil ?_
  intro w2 K
  clear hne
  obtain ⟨_, sz4, h0, h1, h2, _⟩ := id K
  have q0 := h0.cell; have f0 := h0.frozen; have z4_0 := h0.lt
  have q1 := h1.cell; have f1 := h1.frozen; have z4_1 := h1.lt
  have q2 := h2.cell; have f2 := h2.frozen; have z4_2 := h2.lt
  clear h0 h1 h2
  go_wp2_with fail
  refine (quiet_mem (HG.out _)).mono ?_
  rintro e_3 w3 ⟨rfl, hb⟩
  have K' := Hold.mem (K) hb
  clear hb K
  have K := K'
  clear K'
  clear q0 f0 q1 f1 q2 f2
  obtain ⟨_, sz5, h0, h1, h2, _⟩ := id K
  have q0 := h0.cell; have f0 := h0.frozen; have z5_0 := h0.lt
  have q1 := h1.cell; have f1 := h1.frozen; have z5_1 := h1.lt
  have q2 := h2.cell; have f2 := h2.frozen; have z5_2 := h2.lt
  clear h0 h1 h2
  go_wp2_with fail
  clear q0 f0 q1 f1 q2 f2
  have K' := (K).new #[.int .i64 G] 3 (n := w3.heap.size) (by first | rfl | (simp <;> omega))
  clear K
  have K := K'
  clear K'
  obtain ⟨_, sz6, h0, h1, h2, h3, _⟩ := id K
  have z6_0 := h0.lt; have z6_1 := h1.lt; have z6_2 := h2.lt; have z6_3 := h3.lt
  clear h0 h1 h2 h3
  have hne : Hid (∃ w', Hold w.heap.size w [(w3.heap.size, #[.int .i64 G]), (b4, #[.int .i64 x, .int .i64 y]), (w.heap.size + 1, #[.complex .f64 0 0, .int .i64 0]), (w.heap.size, #[.complex .f64 a b, .int .i64 r])] w') := ⟨_, K.drew⟩
  refine wp_region_tail (Hold w.heap.size w [(w3.heap.size, #[.int .i64 G]), (b4, #[.int .i64 x, .int .i64 y]), (w.heap.size + 1, #[.complex .f64 0 0, .int .i64 0]), (w.heap.size, #[.complex .f64 a b, .int .i64 r])]) 10 10 (by kernel_rfl) (by kernel_rfl) (fun _ _ d _ _ h => by cases d <;> exact h) (Hold.lasting _ _ _) K.drew ?_
  simp only [List.take_succ_cons, List.take_zero, List.drop_succ_cons, List.drop_zero]
  clear K
  repeat (first
    | (refine calm_skip (by rfl) ?_; simp only [Act.put, List.setIfInBounds_toArray, List.set_cons_zero, List.set_cons_succ])
    | (refine calm_step hne.out (by rfl) rfl (by simp) ?_; apply Exists.intro; refine ⟨?_, ?_⟩
       · (intro r _ K hK; go_big_quiet_op; first
          | exact hK
          | (apply Exists.intro; refine ⟨fun _ hw => ?_, ?_⟩; (first
             | with_reducible exact rfl
             | with_reducible exact cm_quiet hw (HT.out _)
             | with_reducible exact cm_quiet hw (HC1.out _)
             | with_reducible exact cm_quiet hw (HC2.out _)
             | (obtain ⟨_, _, h0, h1, h2, h3, _⟩ := hw.s; have q0 := h0.cell; have q1 := h1.cell; have q2 := h2.cell; have q3 := h3.cell; clear h0 h1 h2 h3; simp [q0, q1, q2, q3, go_sem]; exact rfl)); exact hK))))
  refine wpCalm_nil ?_
  intro w4 K
  clear hne
  obtain ⟨_, sz7, h0, h1, h2, h3, _⟩ := id K
  have q0 := h0.cell; have f0 := h0.frozen; have z7_0 := h0.lt
  have q1 := h1.cell; have f1 := h1.frozen; have z7_1 := h1.lt
  have q2 := h2.cell; have f2 := h2.frozen; have z7_2 := h2.lt
  have q3 := h3.cell; have f3 := h3.frozen; have z7_3 := h3.lt
  clear h0 h1 h2 h3
  go_wp2_with fail
  clear q0 f0 q1 f1 q2 f2 q3 f3
  obtain ⟨_, sz8, h0, h1, h2, h3, _⟩ := id K
  have z8_0 := h0.lt; have z8_1 := h1.lt; have z8_2 := h2.lt; have z8_3 := h3.lt
  clear h0 h1 h2 h3
  have hne : Hid (∃ w', Hold w.heap.size w [(w3.heap.size, #[.int .i64 G]), (b4, #[.int .i64 x, .int .i64 y]), (w.heap.size + 1, #[.complex .f64 0 0, .int .i64 0]), (w.heap.size, #[.complex .f64 a b, .int .i64 r])] w') := ⟨_, K.drew⟩
  refine wp_region_tail (Hold w.heap.size w [(w3.heap.size, #[.int .i64 G]), (b4, #[.int .i64 x, .int .i64 y]), (w.heap.size + 1, #[.complex .f64 0 0, .int .i64 0]), (w.heap.size, #[.complex .f64 a b, .int .i64 r])]) 9 9 (by kernel_rfl) (by kernel_rfl) (fun _ _ d _ _ h => by cases d <;> exact h) (Hold.lasting _ _ _) K.drew ?_
  simp only [List.take_succ_cons, List.take_zero, List.drop_succ_cons, List.drop_zero]
  clear K
  repeat (first
    | (refine calm_skip (by rfl) ?_; simp only [Act.put, List.setIfInBounds_toArray, List.set_cons_zero, List.set_cons_succ])
    | (refine calm_step hne.out (by rfl) rfl (by simp) ?_; apply Exists.intro; refine ⟨?_, ?_⟩
       · (intro r _ K hK; go_big_quiet_op; first
          | exact hK
          | (apply Exists.intro; refine ⟨fun _ hw => ?_, ?_⟩; (first
             | with_reducible exact rfl
             | with_reducible exact cm_quiet hw (HL.out _ _ (hw.s.at _ _ (by simp)))
             | with_reducible exact cm_same hw (HA.out _)
             | (obtain ⟨_, _, h0, h1, h2, h3, _⟩ := hw.s; have q0 := h0.cell; have q1 := h1.cell; have q2 := h2.cell; have q3 := h3.cell; clear h0 h1 h2 h3; simp [q0, q1, q2, q3, go_sem]; exact rfl)); exact hK))))
  refine wpCalm_nil ?_
  intro w5 K
  clear hne
  obtain ⟨_, sz9, h0, h1, h2, h3, _⟩ := id K
  have q0 := h0.cell; have f0 := h0.frozen; have z9_0 := h0.lt
  have q1 := h1.cell; have f1 := h1.frozen; have z9_1 := h1.lt
  have q2 := h2.cell; have f2 := h2.frozen; have z9_2 := h2.lt
  have q3 := h3.cell; have f3 := h3.frozen; have z9_3 := h3.lt
  clear h0 h1 h2 h3
  go_wp2_with fail
  refine bodyPost_ret (v := .agg #[.complex .f64 fX fY, .int .i64 (C1 + 3 + C2)]) (by simp [results, Try.results111, go_sem, *]) rfl ⟨rfl, ?_⟩
  repeat (first | exact K.below | refine Below.setCell ?_ (by simp <;> omega) _)

end Go.Proofs.Ythkooiopiaakbaa
