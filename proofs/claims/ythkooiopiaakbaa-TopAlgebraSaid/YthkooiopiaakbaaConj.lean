/- The contract of conjugates. -/
import Derived.Test.YthkooiopiaakbaaTurn
namespace Go.Proofs.Ythkooiopiaakbaa
open Go.RowKit Go.Lib
attribute [local go_sem] run_store_float run_store_complex
set_option linter.unusedVariables false

set_option maxHeartbeats 1000000 in
theorem Conj1_any {a b : Nat} {x y r : Int} (h : Cp a b x y) (hc : ckB x y r = 0) (w : World) :
    Calls Try.prog 90 #[.agg #[.complex .f64 a b, .int .i64 r]] w (Mem (resB x (-y) r) w) := by
  obtain ⟨⟨x1, x2⟩, ⟨y1, y2⟩, r1, r2⟩ := ckB_ok hc
  obtain ⟨mb, hmb, hmi⟩ := mirrored_any h ⟨by omega, by omega⟩
  have HM := Lib.hid hmi
  have HB := fun w => discBall_any r hmb ⟨by omega, by omega⟩ ⟨by omega, by omega⟩ w
  obtain ⟨za, zb, zr, ze, hz⟩ := resB_eq x (-y) r
  rw [hz] at HB ⊢
  replace HB := Lib.hid HB
  clear hz hmi hmb hc h
  unfold balV at *
  go_enter Try.func90, Try.ntmps90
  go_wp2_with fail
  have K := ((Hold.start w).new #[.complex .f64 a b, .int .i64 r] 95 (n := w.heap.size) (by simp)).new #[.complex .f64 0 0, .int .i64 0] 27 (n := w.heap.size + 1) (by simp)
  obtain ⟨_, sz1, h0, h1, _⟩ := id K
  have z1_0 := h0.lt; have z1_1 := h1.lt
  clear h0 h1
  have hne : Hid (∃ w', Hold w.heap.size w [(w.heap.size + 1, #[.complex .f64 0 0, .int .i64 0]), (w.heap.size, #[.complex .f64 a b, .int .i64 r])] w') := ⟨_, K.drew⟩
  refine wp_region_tail (Hold w.heap.size w [(w.heap.size + 1, #[.complex .f64 0 0, .int .i64 0]), (w.heap.size, #[.complex .f64 a b, .int .i64 r])]) 7 9 (by kernel_rfl) (by kernel_rfl) (fun _ _ d _ _ h => by cases d <;> exact h) (Hold.lasting _ _ _) K.drew ?_
  simp only [List.take_succ_cons, List.take_zero, List.drop_succ_cons, List.drop_zero]
  clear K
  repeat (first
    | (refine calm_skip (by rfl) ?_; simp only [Act.put, List.setIfInBounds_toArray, List.set_cons_zero, List.set_cons_succ])
    | (refine calm_step hne.out (by rfl) rfl (by simp) ?_; apply Exists.intro; refine ⟨?_, ?_⟩
       · (intro r _ K hK; go_big_quiet_op; first
          | exact hK
          | (apply Exists.intro; refine ⟨fun _ hw => ?_, ?_⟩; (first
             | with_reducible exact rfl
             | with_reducible exact cm_same hw (HM.out _)
             | with_reducible exact cm_mem hw (HB.out _)
             | (obtain ⟨_, _, h0, h1, _⟩ := hw.s; have q0 := h0.cell; have q1 := h1.cell; clear h0 h1; simp [q0, q1, go_sem]; exact rfl)); exact hK))))
  refine wpCalm_nil ?_
  intro w1 K
  clear hne
  obtain ⟨_, sz2, h0, h1, _⟩ := id K
  have q0 := h0.cell; have f0 := h0.frozen; have z2_0 := h0.lt
  have q1 := h1.cell; have f1 := h1.frozen; have z2_1 := h1.lt
  clear h0 h1
  go_wp2_with fail
  refine bodyPost_ret (v := .tuple #[.agg #[.complex .f64 za zb, .int .i64 zr], .int .i64 ze]) (by simp [results, Try.results90, go_sem, *]) rfl ⟨rfl, ?_⟩
  repeat (first | exact K.below | refine Below.setCell ?_ (by simp <;> omega) _)

set_option maxHeartbeats 1000000 in
theorem Conj_of {a b : Nat} {r : Int} {za zb : Nat} {zr ze : Int} (w : World)
    (HK : Hid (∀ W, Calls Try.prog 89 #[.agg #[.complex .f64 a b, .int .i64 r], .func (.func 90) #[] #[]] W (Mem (balV za zb zr ze) W))) :
    Calls Try.prog 26 #[.agg #[.complex .f64 a b, .int .i64 r]] w (Mem (balV za zb zr ze) w) := by
  go_enter Try.func26, Try.ntmps26
  go_wp2_with fail
  have K := ((Hold.start w).new #[.complex .f64 a b, .int .i64 r] 27 (n := w.heap.size) (by simp)).new #[.complex .f64 0 0, .int .i64 0] 27 (n := w.heap.size + 1) (by simp)
  refine (HK.out _).mono ?_
  rintro e_1 w1 ⟨rfl, hb⟩
  have K' := Hold.mem (K) hb
  clear hb K
  have K := K'
  clear K'
  obtain ⟨_, sz1, h0, h1, _⟩ := id K
  have q0 := h0.cell; have f0 := h0.frozen; have z1_0 := h0.lt
  have q1 := h1.cell; have f1 := h1.frozen; have z1_1 := h1.lt
  clear h0 h1
  unfold balV
  go_wp2_with fail
  refine bodyPost_ret (v := .tuple #[.agg #[.complex .f64 za zb, .int .i64 zr], .int .i64 ze]) (by simp [results, Try.results26, go_sem, *]) rfl ⟨rfl, ?_⟩
  repeat (first | exact K.below | refine Below.setCell ?_ (by simp <;> omega) _)

theorem Conj_any {a b : Nat} {x y : Int} (r : Int) (h : Cp a b x y) (hx : InF x) (hy : InF y) (w : World) :
    Calls Try.prog 26 #[.agg #[.complex .f64 a b, .int .i64 r]] w (Mem (if ckB x y r = 0 then resB x (-y) r else balV 0 0 0 2) w) := by
  rcases ckB_cases x y r with h1 | h1
  · rw [if_pos h1]
    have HE := Lib.hid (ent_of Try.func90 (by kernel_rfl) rfl)
    obtain ⟨za, zb, zr, ze, hz⟩ := resB_eq x (-y) r
    rw [hz]
    refine Conj_of w (Lib.hid fun W => ofOneBall_ok r h hx hy h1 HE (Lib.hid fun W' hb => ?_))
    have := Conj1_any h h1 W'
    rwa [hz] at this
  · rw [if_neg (by rw [h1]; simp)]
    exact Conj_of w (Lib.hid fun W => ofOneBall_bad r h hx hy h1 _ W)

end Go.Proofs.Ythkooiopiaakbaa
