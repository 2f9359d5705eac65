/- The product of the reference. -/
import Derived.Test.YthodhenhmjgodaaHold
import Derived.Test.YthodhenhmjgodaaWhoc
namespace Go.Proofs.Ythodhenhmjgodaa
open Go.RowKit Go.Lib
attribute [local go_sem] run_store_float run_store_complex

theorem cdiv_bd {n : Int} (h0 : 0 ≤ n) (h1 : n ≤ 36028797018963968) : 0 ≤ cdiv n 1048576 ∧ cdiv n 1048576 ≤ 68719476736 := by
  rw [cdiv_eq n (by decide)]; split <;> omega

set_option maxHeartbeats 2000000 in
theorem refTimes_of {x y u v r s A B X Y C m : Int} (hx : Sm 67108864 x) (hy : Sm 67108864 y) (hu : Sm 67108864 u) (hv : Sm 67108864 v) (hr : 0 ≤ r ∧ r ≤ 67108864) (hs : 0 ≤ s ∧ s ≤ 67108864) (b1 b2 bb : Bool) (hbb : bb = (b1 || b2))
    (hA : 0 ≤ A ∧ A ≤ 134217728) (hB : 0 ≤ B ∧ B ≤ 134217728) (hC : 0 ≤ C ∧ C ≤ 68719476736) (hm : m = if bb = true then 1 else 0)
    (H1 : Hid (∀ w, Calls Try.prog 101 #[.int .i64 (x * u - y * v), .int .i64 1048576] w (fun e w' => e = .returned (.tuple #[.int .i64 X, .bool b1]) ∧ w = w')))
    (H2 : Hid (∀ w, Calls Try.prog 101 #[.int .i64 (x * v + y * u), .int .i64 1048576] w (fun e w' => e = .returned (.tuple #[.int .i64 Y, .bool b2]) ∧ w = w')))
    (HA : Hid (∀ w : World, Calls Try.prog 103 #[.agg #[.int .i64 x, .int .i64 y, .int .i64 r]] w (Mem (.int .i64 A) w)))
    (HB : Hid (∀ w : World, Calls Try.prog 103 #[.agg #[.int .i64 u, .int .i64 v, .int .i64 s]] w (Mem (.int .i64 B) w)))
    (HC : Hid (∀ w, Calls Try.prog 102 #[.int .i64 (A * s + B * r + r * s), .int .i64 1048576] w (fun e w' => e = .returned (.int .i64 C) ∧ w = w'))) (w : World) :
    Calls Try.prog 39 #[.agg #[.int .i64 x, .int .i64 y, .int .i64 r], .agg #[.int .i64 u, .int .i64 v, .int .i64 s]] w (Mem (chkV X Y (C + m)) w) := by
  have m1 := mul_bd hx hu (by decide)
  have m2 := mul_bd hy hv (by decide)
  have m3 := mul_bd hx hv (by decide)
  have m4 := mul_bd hy hu (by decide)
  have m5 := mul_bd0 hA.1 hA.2 hs.1 hs.2
  have m6 := mul_bd0 hB.1 hB.2 hr.1 hr.2
  have m7 := mul_bd0 hr.1 hr.2 hs.1 hs.2
  have w1 : IntKind.i64.wrap (x * u) = x * u := IntWalk.i64_in _ (by omega)
  have w2 : IntKind.i64.wrap (y * v) = y * v := IntWalk.i64_in _ (by omega)
  have w3 : IntKind.i64.wrap (x * u - y * v) = x * u - y * v := IntWalk.i64_in _ (by omega)
  have w4 : IntKind.i64.wrap (x * v) = x * v := IntWalk.i64_in _ (by omega)
  have w5 : IntKind.i64.wrap (y * u) = y * u := IntWalk.i64_in _ (by omega)
  have w6 : IntKind.i64.wrap (x * v + y * u) = x * v + y * u := IntWalk.i64_in _ (by omega)
  have w7 : IntKind.i64.wrap (A * s) = A * s := IntWalk.i64_in _ (by omega)
  have w8 : IntKind.i64.wrap (B * r) = B * r := IntWalk.i64_in _ (by omega)
  have w9 : IntKind.i64.wrap (A * s + B * r) = A * s + B * r := IntWalk.i64_in _ (by omega)
  have w10 : IntKind.i64.wrap (r * s) = r * s := IntWalk.i64_in _ (by omega)
  have w11 : IntKind.i64.wrap (A * s + B * r + r * s) = A * s + B * r + r * s := IntWalk.i64_in _ (by omega)
  have bm : 0 ≤ m ∧ m ≤ 1 := by rw [hm]; split <;> decide
  have w12 : IntKind.i64.wrap (C + m) = C + m := IntWalk.i64_in _ (by omega)
  have HM := fun w => more_any bb w
  rw [← hm] at HM
  replace HM := Lib.hid HM
  have HK := fun w => Checked_any X Y (C + m) w
  obtain ⟨XX, YY, RR, EE, hX⟩ := chkV_ex X Y (C + m)
  rw [hX] at HK ⊢
  replace HK := Lib.hid HK
  clear hX hm m1 m2 m3 m4 m5 m6 m7 hA hB hC hx hy hu hv hr hs bm
  unfold refV at *
  cases b1
  · obtain rfl : bb = b2 := hbb
    go_enter Try.func39, Try.ntmps39
    go_wp2_with fail
    refine (H1.out _).mono ?_
    rintro e w' ⟨rfl, rfl⟩
    go_wp2_with fail
    refine (H2.out _).mono ?_
    rintro e w' ⟨rfl, rfl⟩
    go_wp2_with fail
    have K := (((Hold.start w).new #[.int .i64 x, .int .i64 y, .int .i64 r] 33 rfl).new #[.int .i64 u, .int .i64 v, .int .i64 s] 33 (n := w.heap.size + 1) (by simp)).new #[.int .i64 0, .int .i64 0, .int .i64 0] 33 (n := w.heap.size + 1 + 1) (by simp)
    obtain ⟨_, sz1, h0, h1, h2, _⟩ := id K
    have z1_0 := h0.lt; have z1_1 := h1.lt; have z1_2 := h2.lt
    clear h0 h1 h2
    have hne : Hid (∃ w', Hold w.heap.size w [(w.heap.size + 1 + 1, #[.int .i64 0, .int .i64 0, .int .i64 0]), (w.heap.size + 1, #[.int .i64 u, .int .i64 v, .int .i64 s]), (w.heap.size, #[.int .i64 x, .int .i64 y, .int .i64 r])] w') := ⟨_, K.drew⟩
    refine wp_region_tail (Hold w.heap.size w [(w.heap.size + 1 + 1, #[.int .i64 0, .int .i64 0, .int .i64 0]), (w.heap.size + 1, #[.int .i64 u, .int .i64 v, .int .i64 s]), (w.heap.size, #[.int .i64 x, .int .i64 y, .int .i64 r])]) 28 30 (by kernel_rfl) (by kernel_rfl) (fun _ _ d _ _ h => by cases d <;> exact h) (Hold.lasting _ _ _) K.drew ?_
    simp only [List.take_succ_cons, List.take_zero, List.drop_succ_cons, List.drop_zero]
    clear K
    repeat (first
      | (refine calm_skip (by rfl) ?_; simp only [Act.put, List.setIfInBounds_toArray, List.set_cons_zero, List.set_cons_succ])
      | (refine calm_step hne.out (by rfl) rfl (by simp) ?_; apply Exists.intro; refine ⟨?_, ?_⟩
         · (intro r _ K hK; go_big_quiet_op; first
            | exact hK
            | (apply Exists.intro; refine ⟨fun _ hw => ?_, ?_⟩; (first
               | with_reducible exact rfl
               | with_reducible exact cm_mem hw (HA.out _)
               | with_reducible exact cm_mem hw (HB.out _)
               | with_reducible exact cm_same hw (HC.out _)
               | with_reducible exact cm_same hw (HM.out _)
               | with_reducible exact cm_mem hw (HK.out _)
               | (obtain ⟨_, _, h0, h1, h2, _⟩ := hw.s; have q0 := h0.cell; have q1 := h1.cell; have q2 := h2.cell; clear h0 h1 h2; simp [q0, q1, q2, go_sem]; exact rfl)); exact hK))))
    refine wpCalm_nil ?_
    intro w1 K
    clear hne
    obtain ⟨_, sz6, h0, h1, h2, _⟩ := id K
    have q0 := h0.cell; have f0 := h0.frozen; have z6_0 := h0.lt
    have z6_1 := h1.lt
    have z6_2 := h2.lt
    clear h0 h1 h2
    go_wp2_with fail
    refine bodyPost_ret (v := .tuple #[.agg #[.int .i64 XX, .int .i64 YY, .int .i64 RR], .int .i64 EE]) (by simp [results, Try.results39, go_sem, q0, z6_0]) rfl ⟨rfl, ?_⟩
    repeat (first | exact K.below | refine Below.setCell ?_ (by simp <;> omega) _)
  · obtain rfl : bb = true := hbb
    go_enter Try.func39, Try.ntmps39
    go_wp2_with fail
    refine (H1.out _).mono ?_
    rintro e w' ⟨rfl, rfl⟩
    go_wp2_with fail
    refine (H2.out _).mono ?_
    rintro e w' ⟨rfl, rfl⟩
    go_wp2_with fail
    have K := (((Hold.start w).new #[.int .i64 x, .int .i64 y, .int .i64 r] 33 rfl).new #[.int .i64 u, .int .i64 v, .int .i64 s] 33 (n := w.heap.size + 1) (by simp)).new #[.int .i64 0, .int .i64 0, .int .i64 0] 33 (n := w.heap.size + 1 + 1) (by simp)
    obtain ⟨_, sz1, h0, h1, h2, _⟩ := id K
    have z1_0 := h0.lt; have z1_1 := h1.lt; have z1_2 := h2.lt
    clear h0 h1 h2
    have hne : Hid (∃ w', Hold w.heap.size w [(w.heap.size + 1 + 1, #[.int .i64 0, .int .i64 0, .int .i64 0]), (w.heap.size + 1, #[.int .i64 u, .int .i64 v, .int .i64 s]), (w.heap.size, #[.int .i64 x, .int .i64 y, .int .i64 r])] w') := ⟨_, K.drew⟩
    refine wp_region_tail (Hold w.heap.size w [(w.heap.size + 1 + 1, #[.int .i64 0, .int .i64 0, .int .i64 0]), (w.heap.size + 1, #[.int .i64 u, .int .i64 v, .int .i64 s]), (w.heap.size, #[.int .i64 x, .int .i64 y, .int .i64 r])]) 28 30 (by kernel_rfl) (by kernel_rfl) (fun _ _ d _ _ h => by cases d <;> exact h) (Hold.lasting _ _ _) K.drew ?_
    simp only [List.take_succ_cons, List.take_zero, List.drop_succ_cons, List.drop_zero]
    clear K
    repeat (first
      | (refine calm_skip (by rfl) ?_; simp only [Act.put, List.setIfInBounds_toArray, List.set_cons_zero, List.set_cons_succ])
      | (refine calm_step hne.out (by rfl) rfl (by simp) ?_; apply Exists.intro; refine ⟨?_, ?_⟩
         · (intro r _ K hK; go_big_quiet_op; first
            | exact hK
            | (apply Exists.intro; refine ⟨fun _ hw => ?_, ?_⟩; (first
               | with_reducible exact rfl
               | with_reducible exact cm_mem hw (HA.out _)
               | with_reducible exact cm_mem hw (HB.out _)
               | with_reducible exact cm_same hw (HC.out _)
               | with_reducible exact cm_same hw (HM.out _)
               | with_reducible exact cm_mem hw (HK.out _)
               | (obtain ⟨_, _, h0, h1, h2, _⟩ := hw.s; have q0 := h0.cell; have q1 := h1.cell; have q2 := h2.cell; clear h0 h1 h2; simp [q0, q1, q2, go_sem]; exact rfl)); exact hK))))
    refine wpCalm_nil ?_
    intro w1 K
    clear hne
    obtain ⟨_, sz6, h0, h1, h2, _⟩ := id K
    have q0 := h0.cell; have f0 := h0.frozen; have z6_0 := h0.lt
    have z6_1 := h1.lt
    have z6_2 := h2.lt
    clear h0 h1 h2
    go_wp2_with fail
    refine bodyPost_ret (v := .tuple #[.agg #[.int .i64 XX, .int .i64 YY, .int .i64 RR], .int .i64 EE]) (by simp [results, Try.results39, go_sem, q0, z6_0]) rfl ⟨rfl, ?_⟩
    repeat (first | exact K.below | refine Below.setCell ?_ (by simp <;> omega) _)

theorem prodR_of (x y u v r s : Int) (b1 b2 : Bool) (h1 : b1 = decide ((x * u - y * v) % 1048576 ≠ 0)) (h2 : b2 = decide ((x * v + y * u) % 1048576 ≠ 0)) :
    prodR x y u v r s = cdiv (upw x y * s + upw u v * r + r * s) 1048576 + (if (b1 || b2) = true then 1 else 0) := by
  unfold prodR prodSpread wholeB
  subst h1 h2
  by_cases k1 : (x * u - y * v) % 1048576 = 0 <;> by_cases k2 : (x * v + y * u) % 1048576 = 0 <;> simp [k1, k2]

theorem wholeB_not (n d : Int) : wholeB n d = !(decide (n % d ≠ 0)) := by
  unfold wholeB; by_cases h : n % d = 0 <;> simp [h]

/-- The product of the reference. -/
theorem refTimes_any {x y u v r s : Int} (hx : Sm 67108864 x) (hy : Sm 67108864 y) (hu : Sm 67108864 u) (hv : Sm 67108864 v) (hr : 0 ≤ r ∧ r ≤ 67108864) (hs : 0 ≤ s ∧ s ≤ 67108864) (w : World) :
    Calls Try.prog 39 #[.agg #[.int .i64 x, .int .i64 y, .int .i64 r], .agg #[.int .i64 u, .int .i64 v, .int .i64 s]] w (Mem (chkV (prodX x y u v) (prodY x y u v) (prodR x y u v r s)) w) := by
  have m1 := mul_bd hx hu (by decide)
  have m2 := mul_bd hy hv (by decide)
  have m3 := mul_bd hx hv (by decide)
  have m4 := mul_bd hy hu (by decide)
  have b1 := upw_bd hx hy
  have b2 := upw_bd hu hv
  have m5 := mul_bd0 b1.1 b1.2 hs.1 hs.2
  have m6 := mul_bd0 b2.1 b2.2 hr.1 hr.2
  have m7 := mul_bd0 hr.1 hr.2 hs.1 hs.2
  have c := cdiv_bd (n := upw x y * s + upw u v * r + r * s) (by omega) (by omega)
  rw [prodR_of x y u v r s _ _ rfl rfl]
  refine refTimes_of hx hy hu hv hr hs _ _ _ rfl b1 b2 c rfl (Lib.hid fun w => refRounded_any ?_ (by decide) (by decide) _ _ rfl rfl w) (Lib.hid fun w => refRounded_any ?_ (by decide) (by decide) _ _ rfl rfl w)
    (Lib.hid fun w => refUp_any r ⟨?_, ?_⟩ ⟨?_, ?_⟩ w) (Lib.hid fun w => refUp_any s ⟨?_, ?_⟩ ⟨?_, ?_⟩ w) (Lib.hid fun w => Ceil_any _ _ ?_ ?_ (by decide) (by decide) w) w
  · omega
  · omega
  · have := hx.1; omega
  · have := hx.2; omega
  · have := hy.1; omega
  · have := hy.2; omega
  · have := hu.1; omega
  · have := hu.2; omega
  · have := hv.1; omega
  · have := hv.2; omega
  · omega
  · omega

end Go.Proofs.Ythodhenhmjgodaa
