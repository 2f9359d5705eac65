/- The examples that the statements over the chapters begin with. -/
import Derived.Test.YthkooiopiaakbaaAwake
import Derived.Test.YthkooiopiaakbaaHold
import Derived.Test.YthkooiopiaakbaaRefa
namespace Go.Proofs.Ythkooiopiaakbaa
open Go.RowKit Go.Lib
attribute [local go_sem] run_store_float run_store_complex
set_option linter.unusedVariables false

theorem within_memB (n lo hi : Int) (w : World) : Calls Try.prog 31 #[.int .i64 n, .int .i64 lo, .int .i64 hi] w (Mem (.bool (wiB n lo hi)) w) :=
  (Within_any n lo hi w).mono fun _ _ ⟨he, hw⟩ => ⟨he, hw ▸ Below.refl _ _⟩

theorem Ball_mem (x y r : Int) (w : World) : Calls Try.prog 49 #[.int .i64 x, .int .i64 y, .int .i64 r] w (Mem (.agg #[.complex .f64 (fi x) (fi y), .int .i64 r]) w) :=
  (Ball_mk x y r w).mono fun _ _ ⟨he, hw⟩ => ⟨he, hw ▸ (Below.refl _ _).alloc (by simp) _⟩
theorem SameBall_mem (a b c d : Nat) (r s : Int) (w : World) : Calls Try.prog 40 #[.agg #[.complex .f64 a b, .int .i64 r], .agg #[.complex .f64 c d, .int .i64 s]] w (Mem (.bool (sameB a b c d r s)) w) :=
  (SameBall_mk a b c d r s w).mono fun _ _ ⟨he, hw⟩ => ⟨he, hw ▸ ((Below.refl _ _).alloc (by simp) _).alloc (by simp) _⟩

set_option maxHeartbeats 2000000 in
theorem balled_any (w : World) : Calls Try.prog 67 #[] w (Mem (.bool true) w) := by
  have B1 := Lib.hid (fun w => Ball_mem 3 0 2 w)
  have B2 := Lib.hid (fun w => Ball_mem 524288 0 0 w)
  have B3 := Lib.hid (fun w => Ball_mem 2 0 2 w)
  have B4 := Lib.hid (fun w => Ball_mem 741455 741455 2 w)
  have T := Lib.hid (fun w => aw_times w)
  have A := Lib.hid (fun w => aw_arc w)
  have s1 : sameB (fi 2) (fi 0) (fi 2) (fi 0) 2 2 = true := by kernel_rfl
  have s3 : sameB (fi 741455) (fi 741455) (fi 741455) (fi 741455) 2 2 = true := by kernel_rfl
  have S1 := fun w => SameBall_mem (fi 2) (fi 0) (fi 2) (fi 0) 2 2 w
  have S3 := fun w => SameBall_mem (fi 741455) (fi 741455) (fi 741455) (fi 741455) 2 2 w
  rw [s1] at S1
  rw [s3] at S3
  replace S1 := Lib.hid S1
  replace S3 := Lib.hid S3
  clear s1 s3
  unfold balV at *
  generalize fi 0 = f0 at *
  generalize fi 2 = f2 at *
  generalize fi 3 = kf3 at *
  generalize fi 524288 = kf5 at *
  generalize fi 741455 = kf7 at *
  go_enter Try.func67, Try.ntmps67
  go_wp2_with fail
  have K := Hold.start w
  refine (B1.out _).mono ?_
  rintro e_1 w1 ⟨rfl, hb⟩
  have K' := Hold.mem (K) hb
  clear hb K
  have K := K'
  clear K'
  go_wp2_with fail
  refine (B2.out _).mono ?_
  rintro e_2 w2 ⟨rfl, hb⟩
  have K' := Hold.mem (K) hb
  clear hb K
  have K := K'
  clear K'
  go_wp2_with fail
  refine (T.out _).mono ?_
  rintro e_3 w3 ⟨rfl, hb⟩
  have K' := Hold.mem (K) hb
  clear hb K
  have K := K'
  clear K'
  go_wp2_with fail
  refine (A.out _).mono ?_
  rintro e_4 w4 ⟨rfl, hb⟩
  have K' := Hold.mem ((K).new #[.complex .f64 f2 f0, .int .i64 2] 27 (n := w3.heap.size) (by first | rfl | (simp <;> omega))) hb
  clear hb K
  have K := K'
  clear K'
  obtain ⟨_, sz1, h0, _⟩ := id K
  have q0 := h0.cell; have f0 := h0.frozen; have z1_0 := h0.lt
  clear h0
  go_wp2_with fail
  clear q0 f0
  have K' := (K).new #[.complex .f64 kf7 kf7, .int .i64 2] 27 (n := w4.heap.size) (by first | rfl | (simp <;> omega))
  clear K
  have K := K'
  clear K'
  obtain ⟨_, sz2, h0, h1, _⟩ := id K
  have z2_0 := h0.lt; have z2_1 := h1.lt
  clear h0 h1
  have hne : Hid (∃ w', Hold w.heap.size w [(w4.heap.size, #[.complex .f64 kf7 kf7, .int .i64 2]), (w3.heap.size, #[.complex .f64 f2 f0, .int .i64 2])] w') := ⟨_, K.drew⟩
  refine wp_region_tail (Hold w.heap.size w [(w4.heap.size, #[.complex .f64 kf7 kf7, .int .i64 2]), (w3.heap.size, #[.complex .f64 f2 f0, .int .i64 2])]) 16 16 (by kernel_rfl) (by kernel_rfl) (fun _ _ d _ _ h => by cases d <;> exact h) (Hold.lasting _ _ _) K.drew ?_
  simp only [List.take_succ_cons, List.take_zero, List.drop_succ_cons, List.drop_zero]
  clear K
  repeat (first
    | (refine calm_skip (by rfl) ?_; simp only [Act.put, List.setIfInBounds_toArray, List.set_cons_zero, List.set_cons_succ])
    | (refine calm_step hne.out (by rfl) rfl (by simp) ?_; apply Exists.intro; refine ⟨?_, ?_⟩
       · (intro r _ K hK; go_big_quiet_op; first
          | exact hK
          | (apply Exists.intro; refine ⟨fun _ hw => ?_, ?_⟩; (first
             | with_reducible exact rfl
             | with_reducible exact cm_mem hw (B3.out _)
             | with_reducible exact cm_mem hw (S1.out _)
             | with_reducible exact cm_mem hw (B4.out _)
             | with_reducible exact cm_mem hw (S3.out _)
             | (obtain ⟨_, _, h0, h1, _⟩ := hw.s; have q0 := h0.cell; have q1 := h1.cell; clear h0 h1; simp [q0, q1, go_sem]; exact rfl)); exact hK))))
  refine wpCalm_nil ?_
  intro w5 K
  clear hne
  obtain ⟨_, sz3, h0, h1, _⟩ := id K
  have q0 := h0.cell; have f0 := h0.frozen; have z3_0 := h0.lt
  have q1 := h1.cell; have f1 := h1.frozen; have z3_1 := h1.lt
  clear h0 h1
  go_wp2_with fail
  go_ret
  exact ⟨rfl, (K).below⟩

end Go.Proofs.Ythkooiopiaakbaa
