/- The contract of Root. -/
import Derived.Test.YthkooiopiaakbaaRoot
namespace Go.Proofs.Ythkooiopiaakbaa
open Go.RowKit Go.Lib
attribute [local go_sem] run_store_float run_store_complex
set_option linter.unusedVariables false

def rtA (x : Int) : Int := if 0 ≤ x then x else -x
def rtG (x y : Int) : Int := rti ((dn x y + rtA x) * 524288)
def rtL (x y : Int) : Int := rdiv ((if 0 ≤ x then y else rtA y) * 1048576) (2 * rtG x y)
def rtX (x y : Int) : Int := if 0 ≤ x then rtG x y else rtL x y
def rtY (x y : Int) : Int := if 0 ≤ x then rtL x y else if 0 ≤ y then rtG x y else -rtG x y
def rtR (x y r : Int) : Int := cdiv (r * 1048576) (rti (dn x y * 1048576)) + 3 + cdiv 1048576 (rtG x y)
def rootV (x y r : Int) : Value := if dn x y ≤ r then balV 0 0 0 9 else if x < 0 ∧ szB y r = true ∧ r ≠ 0 then balV 0 0 0 14 else resB (rtX x y) (rtY x y) (rtR x y r)

theorem rti_ge {n m : Int} (h : 0 ≤ n) (h' : n < 72057594037927936) (hm : 0 ≤ m) (hn : m * m ≤ n) : m ≤ rti n := by
  obtain ⟨h0, h1, h2, h3⟩ := rti_spec n h h'
  have e : (rti n + 1) * (rti n + 1) = rti n * rti n + 2 * rti n + 1 := by rw [Int.add_mul, Int.mul_add]; omega
  apply Int.le_of_lt_add_one
  apply Int.lt_of_not_ge
  intro hc
  have : (rti n + 1) * (rti n + 1) ≤ m * m := Int.mul_le_mul hc hc (by omega) hm
  omega

theorem rt_bd {x y r : Int} (hc : ckB x y r = 0) (hz : ¬ dn x y ≤ r) : 1 ≤ dn x y ∧ dn x y ≤ 134217728 ∧ 0 ≤ rtA x ∧ rtA x ≤ 67108864 ∧ 0 ≤ rtA y ∧ rtA y ≤ 67108864 ∧ 724 ≤ rtG x y ∧ rtG x y ≤ 16777216 ∧ 1024 ≤ rti (dn x y * 1048576) ∧ rti (dn x y * 1048576) ≤ 16777216 ∧
    InF (rtL x y) ∧ 0 ≤ cdiv (r * 1048576) (rti (dn x y * 1048576)) ∧ cdiv (r * 1048576) (rti (dn x y * 1048576)) ≤ 281474976710656 ∧ 0 ≤ cdiv 1048576 (rtG x y) ∧ cdiv 1048576 (rtG x y) ≤ 281474976710656 := by
  obtain ⟨hx, hy, hr0, hr⟩ := ckB_ok hc
  have b := dn_bd hx hy
  obtain ⟨x1, x2⟩ := hx
  obtain ⟨y1, y2⟩ := hy
  have ax : 0 ≤ rtA x ∧ rtA x ≤ 67108864 := by unfold rtA; split <;> omega
  have ay : 0 ≤ rtA y ∧ rtA y ≤ 67108864 := by unfold rtA; split <;> omega
  have g1 : 724 ≤ rtG x y := rti_ge (by omega) (by omega) (by decide) (by omega)
  have g2 : rtG x y ≤ 16777216 := rti_le (by omega) (by omega) (by decide) (by omega)
  have t1 : 1024 ≤ rti (dn x y * 1048576) := rti_ge (by omega) (by omega) (by decide) (by omega)
  have t2 : rti (dn x y * 1048576) ≤ 16777216 := rti_le (by omega) (by omega) (by decide) (by omega)
  have q1 : 0 ≤ r * 1048576 / rti (dn x y * 1048576) := Int.ediv_nonneg (by omega) (by omega)
  have q2 : r * 1048576 / rti (dn x y * 1048576) ≤ r * 1048576 := Int.ediv_le_self _ (by omega)
  have q3 : 0 ≤ 1048576 / rtG x y := Int.ediv_nonneg (by omega) (by omega)
  have q4 : 1048576 / rtG x y ≤ 1048576 := Int.ediv_le_self _ (by omega)
  have hl : InF (rtL x y) := by
    have hm : Sm 67108864 (if 0 ≤ x then y else rtA y) := by split <;> constructor <;> omega
    unfold rtL
    refine rdiv_sm (by omega) ⟨?_, ?_⟩
    · have := hm.1; omega
    · have := hm.2; omega
  refine ⟨by omega, b.2, ax.1, ax.2, ay.1, ay.2, g1, g2, t1, t2, hl, ?_, ?_, ?_, ?_⟩
  · rw [cdiv_eq _ (by omega)]; split <;> omega
  · rw [cdiv_eq _ (by omega)]; split <;> omega
  · rw [cdiv_eq _ (by omega)]; split <;> omega
  · rw [cdiv_eq _ (by omega)]; split <;> omega

/-- The root of a disc. -/
theorem discRoot_any {a b : Nat} {x y r : Int} (h : Cp a b x y) (hc : ckB x y r = 0) (hz : ¬ dn x y ≤ r) (w : World) :
    Calls Try.prog 111 #[.agg #[.complex .f64 a b, .int .i64 r]] w (Mem (.agg #[.complex .f64 (fi (rtX x y)) (fi (rtY x y)), .int .i64 (rtR x y r)]) w) := by
  obtain ⟨b1, b2, b3, b4, b5, b6, b7, b8, b9, b10, b11, b12, b13, b14, b15⟩ := rt_bd hc hz
  obtain ⟨hx, hy, hr0, hr⟩ := ckB_ok hc
  have hx' : Sm 134217728 x := ⟨by have := hx.1; omega, by have := hx.2; omega⟩
  have hy' : Sm 134217728 y := ⟨by have := hy.1; omega, by have := hy.2; omega⟩
  have HD := Lib.hid (fun w => down_any h hx' hy' w)
  have HP := Lib.hid (fun w => parts_any h (hx.inF (by decide)) (hy.inF (by decide)) w)
  have HT := Lib.hid (fun w => rootDown_any (dn x y * 1048576) (by omega) (by omega) w)
  have HG := fun w => rootDown_any ((dn x y + rtA x) * 524288) (by omega) (by omega) w
  have HC1 := Lib.hid (fun w => upper_any r 1048576 (rti (dn x y * 1048576)) (Lib.hid (DvIn_by (X := 67108864) (Y := 1048576) (by omega) (by omega) (by decide) (by decide) (by omega) (by omega) (by decide) (by decide) (by decide))) w)
  have HC2 := fun w => upper_any 1048576 1 (rtG x y) (Lib.hid (DvIn_by (X := 1048576) (Y := 1) (by decide) (by decide) (by decide) (by decide) (by omega) (by omega) (by decide) (by decide) (by decide))) w
  simp only [Int.mul_one] at HC2
  replace HC2 := Lib.hid HC2
  have dl : ∀ z : Int, Sm 67108864 z → DvIn z 1048576 (2 * rtG x y) := fun z hz => DvIn_by (X := 67108864) (Y := 1048576) hz.1 hz.2 (by decide) (by decide) (by omega) (by omega) (by decide) (by decide) (by decide)
  have hG : rti ((dn x y + rtA x) * 524288) = rtG x y := rfl
  rw [hG] at HG
  unfold rtX rtY rtR
  unfold rtL
  by_cases h0 : 0 ≤ x
  · have eA : rtA x = x := by unfold rtA; rw [if_pos h0]
    rw [eA] at HG
    have HL := Lib.hid (fun bg w (hat : At w bg #[.int .i64 (rtG x y)]) => root1_any y (rtG x y) (dl y hy) ⟨by omega, by omega⟩ w hat)
    simp only [if_pos h0]
    exact discRoot_0 h0 trivial hx hy ⟨by omega, b2⟩ ⟨by omega, by omega⟩ ⟨b12, b13⟩ ⟨b14, b15⟩ HD HP (Lib.hid HG) HT HC1 HC2 HL w
  · have eA : rtA x = -x := by unfold rtA; rw [if_neg h0]
    rw [eA] at HG
    simp only [if_neg h0]
    by_cases h1 : 0 ≤ y
    · have eB : rtA y = y := by unfold rtA; rw [if_pos h1]
      have HL := Lib.hid (fun bg w (hat : At w bg #[.int .i64 (rtG x y)]) => root1_any y (rtG x y) (dl y hy) ⟨by omega, by omega⟩ w hat)
      simp only [if_pos h1, eB]
      exact discRoot_1 (by omega) h1 hx hy ⟨by omega, b2⟩ ⟨by omega, by omega⟩ ⟨b12, b13⟩ ⟨b14, b15⟩ HD HP (Lib.hid HG) HT HC1 HC2 HL w
    · have eB : rtA y = -y := by unfold rtA; rw [if_neg h1]
      have HL := Lib.hid (fun bg w (hat : At w bg #[.int .i64 (rtG x y)]) => root1_any (-y) (rtG x y) (dl (-y) ⟨by have := hy.2; omega, by have := hy.1; omega⟩) ⟨by omega, by omega⟩ w hat)
      simp only [if_neg h1, eB]
      exact discRoot_2 (by omega) (by omega) hx hy ⟨by omega, b2⟩ ⟨by omega, by omega⟩ ⟨b12, b13⟩ ⟨b14, b15⟩ HD HP (Lib.hid HG) HT HC1 HC2 HL w

set_option maxHeartbeats 2000000 in
theorem Root1_zero {a b : Nat} {x y r D : Int} (hz : D ≤ r)
    (HD : Hid (∀ w, Calls Try.prog 105 #[.complex .f64 a b] w (Mem (.int .i64 D) w)))
    (HP : Hid (∀ w, Calls Try.prog 110 #[.complex .f64 a b] w (Mem (.agg #[.int .i64 x, .int .i64 y]) w))) (w : World) :
    Calls Try.prog 109 #[.agg #[.complex .f64 a b, .int .i64 r]] w (Mem (balV 0 0 0 9) w) := by
  unfold balV
  have g0 : decide (D ≤ r) = true := by simpa using hz
  go_enter Try.func109, Try.ntmps109
  go_wp2_with fail
  have K := ((Hold.start w).new #[.complex .f64 a b, .int .i64 r] 95 (n := w.heap.size) (by simp)).new #[.complex .f64 0 0, .int .i64 0] 27 (n := w.heap.size + 1) (by simp)
  obtain ⟨_, sz1, h0, h1, _⟩ := id K
  have z1_0 := h0.lt; have z1_1 := h1.lt
  clear h0 h1
  have hne : Hid (∃ w', Hold w.heap.size w [(w.heap.size + 1, #[.complex .f64 0 0, .int .i64 0]), (w.heap.size, #[.complex .f64 a b, .int .i64 r])] w') := ⟨_, K.drew⟩
  refine wp_region_tail (Hold w.heap.size w [(w.heap.size + 1, #[.complex .f64 0 0, .int .i64 0]), (w.heap.size, #[.complex .f64 a b, .int .i64 r])]) 6 6 (by kernel_rfl) (by kernel_rfl) (fun _ _ d _ _ h => by cases d <;> exact h) (Hold.lasting _ _ _) K.drew ?_
  simp only [List.take_succ_cons, List.take_zero, List.drop_succ_cons, List.drop_zero]
  clear K
  repeat (first
    | (refine calm_skip (by rfl) ?_; simp only [Act.put, List.setIfInBounds_toArray, List.set_cons_zero, List.set_cons_succ])
    | (refine calm_step hne.out (by rfl) rfl (by simp) ?_; apply Exists.intro; refine ⟨?_, ?_⟩
       · (intro r _ K hK; go_big_quiet_op; first
          | exact hK
          | (apply Exists.intro; refine ⟨fun _ hw => ?_, ?_⟩; (first
             | with_reducible exact rfl
             | with_reducible exact cm_mem hw (HD.out _)
             | (obtain ⟨_, _, h0, h1, _⟩ := hw.s; have q0 := h0.cell; have q1 := h1.cell; clear h0 h1; simp [q0, q1, go_sem]; exact rfl)); exact hK))))
  refine wpCalm_nil ?_
  intro w1 K
  clear hne
  obtain ⟨_, sz2, h0, h1, _⟩ := id K
  have q0 := h0.cell; have f0 := h0.frozen; have z2_0 := h0.lt
  have q1 := h1.cell; have f1 := h1.frozen; have z2_1 := h1.lt
  clear h0 h1
  go_wp2_with fail
  refine bodyPost_ret (v := .tuple #[.agg #[.complex .f64 0 0, .int .i64 0], .int .i64 9]) (by simp [results, Try.results109, go_sem, *]) rfl ⟨rfl, ?_⟩
  repeat (first | exact K.below | refine Below.setCell ?_ (by simp <;> omega) _)

set_option maxHeartbeats 2000000 in
theorem Root1_clash {a b : Nat} {x y r D : Int} (hz : ¬ D ≤ r) (hx : x < 0) (hr : r ≠ 0) (hr0 : 0 ≤ r) (hr1 : r ≤ 67108864) (hs : szB y r = true)
    (HD : Hid (∀ w, Calls Try.prog 105 #[.complex .f64 a b] w (Mem (.int .i64 D) w)))
    (HP : Hid (∀ w, Calls Try.prog 110 #[.complex .f64 a b] w (Mem (.agg #[.int .i64 x, .int .i64 y]) w))) (w : World) :
    Calls Try.prog 109 #[.agg #[.complex .f64 a b, .int .i64 r]] w (Mem (balV 0 0 0 14) w) := by
  unfold balV
  have g0 : decide (D ≤ r) = false := by simpa using hz
  have g1 : decide (x < 0) = true := by simpa using hx
  have g2 : (r != 0) = true := by simpa using hr
  have g3 : (r == 0) = false := by simpa using hr
  have HS := fun w => sized_any y r hr0 (by omega) w
  rw [hs] at HS
  replace HS := Lib.hid HS
  clear hs hr
  go_enter Try.func109, Try.ntmps109
  go_wp2_with fail
  have K := ((Hold.start w).new #[.complex .f64 a b, .int .i64 r] 95 (n := w.heap.size) (by simp)).new #[.complex .f64 0 0, .int .i64 0] 27 (n := w.heap.size + 1) (by simp)
  obtain ⟨_, sz1, h0, h1, _⟩ := id K
  have z1_0 := h0.lt; have z1_1 := h1.lt
  clear h0 h1
  have hne : Hid (∃ w', Hold w.heap.size w [(w.heap.size + 1, #[.complex .f64 0 0, .int .i64 0]), (w.heap.size, #[.complex .f64 a b, .int .i64 r])] w') := ⟨_, K.drew⟩
  refine wp_region_tail (Hold w.heap.size w [(w.heap.size + 1, #[.complex .f64 0 0, .int .i64 0]), (w.heap.size, #[.complex .f64 a b, .int .i64 r])]) 6 6 (by kernel_rfl) (by kernel_rfl) (fun _ _ d _ _ h => by cases d <;> exact h) (Hold.lasting _ _ _) K.drew ?_
  simp only [List.take_succ_cons, List.take_zero, List.drop_succ_cons, List.drop_zero]
  clear K
  repeat (first
    | (refine calm_skip (by rfl) ?_; simp only [Act.put, List.setIfInBounds_toArray, List.set_cons_zero, List.set_cons_succ])
    | (refine calm_step hne.out (by rfl) rfl (by simp) ?_; apply Exists.intro; refine ⟨?_, ?_⟩
       · (intro r _ K hK; go_big_quiet_op; first
          | exact hK
          | (apply Exists.intro; refine ⟨fun _ hw => ?_, ?_⟩; (first
             | with_reducible exact rfl
             | with_reducible exact cm_mem hw (HD.out _)
             | (obtain ⟨_, _, h0, h1, _⟩ := hw.s; have q0 := h0.cell; have q1 := h1.cell; clear h0 h1; simp [q0, q1, go_sem]; exact rfl)); exact hK))))
  refine wpCalm_nil ?_
  intro w1 K
  clear hne
  obtain ⟨_, sz2, h0, h1, _⟩ := id K
  have q0 := h0.cell; have f0 := h0.frozen; have z2_0 := h0.lt
  have q1 := h1.cell; have f1 := h1.frozen; have z2_1 := h1.lt
  clear h0 h1
  go_wp2_with fail
  refine (HP.out _).mono ?_
  rintro e_2 w2 ⟨rfl, hb⟩
  have K' := Hold.mem (K) hb
  clear hb K
  have K := K'
  clear K'
  clear q0 f0 q1 f1
  obtain ⟨_, sz3, h0, h1, _⟩ := id K
  have q0 := h0.cell; have f0 := h0.frozen; have z3_0 := h0.lt
  have q1 := h1.cell; have f1 := h1.frozen; have z3_1 := h1.lt
  clear h0 h1
  go_wp2_with fail
  refine (same_mem (HS.out _)).mono ?_
  rintro e_3 w3 ⟨rfl, hb⟩
  have K' := Hold.mem ((K).new #[.int .i64 x, .int .i64 y] 58 (n := w2.heap.size) (by first | rfl | (simp <;> omega))) hb
  clear hb K
  have K := K'
  clear K'
  clear q0 f0 q1 f1
  obtain ⟨_, sz4, h0, h1, h2, _⟩ := id K
  have q0 := h0.cell; have f0 := h0.frozen; have z4_0 := h0.lt
  have q1 := h1.cell; have f1 := h1.frozen; have z4_1 := h1.lt
  have q2 := h2.cell; have f2 := h2.frozen; have z4_2 := h2.lt
  clear h0 h1 h2
  go_wp2_with fail
  refine bodyPost_ret (v := .tuple #[.agg #[.complex .f64 0 0, .int .i64 0], .int .i64 14]) (by simp [results, Try.results109, go_sem, *]) rfl ⟨rfl, ?_⟩
  repeat (first | exact K.below | refine Below.setCell ?_ (by simp <;> omega) _)

set_option maxHeartbeats 2000000 in
theorem Root1_ok0 {a b : Nat} {x y r D : Int} {X Y R : Int} (hz : ¬ D ≤ r) (hr0 : 0 ≤ r) (hr1 : r ≤ 67108864) (hX : InF X) (hY : InF Y) (hx : 0 ≤ x)
    (HR : Hid (∀ w, Calls Try.prog 111 #[.agg #[.complex .f64 a b, .int .i64 r]] w (Mem (.agg #[.complex .f64 (fi X) (fi Y), .int .i64 R]) w)))
    (HD : Hid (∀ w, Calls Try.prog 105 #[.complex .f64 a b] w (Mem (.int .i64 D) w)))
    (HP : Hid (∀ w, Calls Try.prog 110 #[.complex .f64 a b] w (Mem (.agg #[.int .i64 x, .int .i64 y]) w))) (w : World) :
    Calls Try.prog 109 #[.agg #[.complex .f64 a b, .int .i64 r]] w (Mem (resB X Y R) w) := by
  have HB := fun w => discBall_any R ⟨Rp_fi X, Rp_fi Y⟩ hX hY w
  obtain ⟨za, zb, zr, ze, hzz⟩ := resB_eq X Y R
  rw [hzz] at HB ⊢
  replace HB := Lib.hid HB
  clear hzz hX hY
  unfold balV at *
  generalize fi X = fX at *
  generalize fi Y = fY at *
  have g0 : decide (D ≤ r) = false := by simpa using hz
  have g1 : decide (x < 0) = false := by simp; omega
  go_enter Try.func109, Try.ntmps109
  go_wp2_with fail
  have K := ((Hold.start w).new #[.complex .f64 a b, .int .i64 r] 95 (n := w.heap.size) (by simp)).new #[.complex .f64 0 0, .int .i64 0] 27 (n := w.heap.size + 1) (by simp)
  obtain ⟨_, sz1, h0, h1, _⟩ := id K
  have z1_0 := h0.lt; have z1_1 := h1.lt
  clear h0 h1
  have hne : Hid (∃ w', Hold w.heap.size w [(w.heap.size + 1, #[.complex .f64 0 0, .int .i64 0]), (w.heap.size, #[.complex .f64 a b, .int .i64 r])] w') := ⟨_, K.drew⟩
  refine wp_region_tail (Hold w.heap.size w [(w.heap.size + 1, #[.complex .f64 0 0, .int .i64 0]), (w.heap.size, #[.complex .f64 a b, .int .i64 r])]) 6 6 (by kernel_rfl) (by kernel_rfl) (fun _ _ d _ _ h => by cases d <;> exact h) (Hold.lasting _ _ _) K.drew ?_
  simp only [List.take_succ_cons, List.take_zero, List.drop_succ_cons, List.drop_zero]
  clear K
  repeat (first
    | (refine calm_skip (by rfl) ?_; simp only [Act.put, List.setIfInBounds_toArray, List.set_cons_zero, List.set_cons_succ])
    | (refine calm_step hne.out (by rfl) rfl (by simp) ?_; apply Exists.intro; refine ⟨?_, ?_⟩
       · (intro r _ K hK; go_big_quiet_op; first
          | exact hK
          | (apply Exists.intro; refine ⟨fun _ hw => ?_, ?_⟩; (first
             | with_reducible exact rfl
             | with_reducible exact cm_mem hw (HD.out _)
             | (obtain ⟨_, _, h0, h1, _⟩ := hw.s; have q0 := h0.cell; have q1 := h1.cell; clear h0 h1; simp [q0, q1, go_sem]; exact rfl)); exact hK))))
  refine wpCalm_nil ?_
  intro w1 K
  clear hne
  obtain ⟨_, sz2, h0, h1, _⟩ := id K
  have q0 := h0.cell; have f0 := h0.frozen; have z2_0 := h0.lt
  have q1 := h1.cell; have f1 := h1.frozen; have z2_1 := h1.lt
  clear h0 h1
  go_wp2_with fail
  refine (HP.out _).mono ?_
  rintro e_2 w2 ⟨rfl, hb⟩
  have K' := Hold.mem (K) hb
  clear hb K
  have K := K'
  clear K'
  clear q0 f0 q1 f1
  obtain ⟨_, sz3, h0, h1, _⟩ := id K
  have q0 := h0.cell; have f0 := h0.frozen; have z3_0 := h0.lt
  have q1 := h1.cell; have f1 := h1.frozen; have z3_1 := h1.lt
  clear h0 h1
  go_wp2_with fail
  refine (HR.out _).mono ?_
  rintro e_3 w3 ⟨rfl, hb⟩
  have K' := Hold.mem ((K).new #[.int .i64 x, .int .i64 y] 58 (n := w2.heap.size) (by first | rfl | (simp <;> omega))) hb
  clear hb K
  have K := K'
  clear K'
  clear q0 f0 q1 f1
  obtain ⟨_, sz4, h0, h1, h2, _⟩ := id K
  have q0 := h0.cell; have f0 := h0.frozen; have z4_0 := h0.lt
  have q1 := h1.cell; have f1 := h1.frozen; have z4_1 := h1.lt
  have q2 := h2.cell; have f2 := h2.frozen; have z4_2 := h2.lt
  clear h0 h1 h2
  go_wp2_with fail
  refine (HB.out _).mono ?_
  rintro e_4 w4 ⟨rfl, hb⟩
  have K' := Hold.mem (K) hb
  clear hb K
  have K := K'
  clear K'
  clear q0 f0 q1 f1 q2 f2
  obtain ⟨_, sz5, h0, h1, h2, _⟩ := id K
  have q0 := h0.cell; have f0 := h0.frozen; have z5_0 := h0.lt
  have q1 := h1.cell; have f1 := h1.frozen; have z5_1 := h1.lt
  have q2 := h2.cell; have f2 := h2.frozen; have z5_2 := h2.lt
  clear h0 h1 h2
  go_wp2_with fail
  refine bodyPost_ret (v := .tuple #[.agg #[.complex .f64 za zb, .int .i64 zr], .int .i64 ze]) (by simp [results, Try.results109, go_sem, *]) rfl ⟨rfl, ?_⟩
  repeat (first | exact K.below | refine Below.setCell ?_ (by simp <;> omega) _)

set_option maxHeartbeats 2000000 in
theorem Root1_ok1 {a b : Nat} {x y r D : Int} {X Y R : Int} (hz : ¬ D ≤ r) (hr0 : 0 ≤ r) (hr1 : r ≤ 67108864) (hX : InF X) (hY : InF Y) (hx : x < 0) (hs : szB y r = false)
    (HR : Hid (∀ w, Calls Try.prog 111 #[.agg #[.complex .f64 a b, .int .i64 r]] w (Mem (.agg #[.complex .f64 (fi X) (fi Y), .int .i64 R]) w)))
    (HD : Hid (∀ w, Calls Try.prog 105 #[.complex .f64 a b] w (Mem (.int .i64 D) w)))
    (HP : Hid (∀ w, Calls Try.prog 110 #[.complex .f64 a b] w (Mem (.agg #[.int .i64 x, .int .i64 y]) w))) (w : World) :
    Calls Try.prog 109 #[.agg #[.complex .f64 a b, .int .i64 r]] w (Mem (resB X Y R) w) := by
  have HB := fun w => discBall_any R ⟨Rp_fi X, Rp_fi Y⟩ hX hY w
  obtain ⟨za, zb, zr, ze, hzz⟩ := resB_eq X Y R
  rw [hzz] at HB ⊢
  replace HB := Lib.hid HB
  clear hzz hX hY
  unfold balV at *
  generalize fi X = fX at *
  generalize fi Y = fY at *
  have g0 : decide (D ≤ r) = false := by simpa using hz
  have HS := fun w => sized_any y r hr0 (by omega) w
  rw [hs] at HS
  replace HS := Lib.hid HS
  clear hs
  have g1 : decide (x < 0) = true := by simpa using hx
  go_enter Try.func109, Try.ntmps109
  go_wp2_with fail
  have K := ((Hold.start w).new #[.complex .f64 a b, .int .i64 r] 95 (n := w.heap.size) (by simp)).new #[.complex .f64 0 0, .int .i64 0] 27 (n := w.heap.size + 1) (by simp)
  obtain ⟨_, sz1, h0, h1, _⟩ := id K
  have z1_0 := h0.lt; have z1_1 := h1.lt
  clear h0 h1
  have hne : Hid (∃ w', Hold w.heap.size w [(w.heap.size + 1, #[.complex .f64 0 0, .int .i64 0]), (w.heap.size, #[.complex .f64 a b, .int .i64 r])] w') := ⟨_, K.drew⟩
  refine wp_region_tail (Hold w.heap.size w [(w.heap.size + 1, #[.complex .f64 0 0, .int .i64 0]), (w.heap.size, #[.complex .f64 a b, .int .i64 r])]) 6 6 (by kernel_rfl) (by kernel_rfl) (fun _ _ d _ _ h => by cases d <;> exact h) (Hold.lasting _ _ _) K.drew ?_
  simp only [List.take_succ_cons, List.take_zero, List.drop_succ_cons, List.drop_zero]
  clear K
  repeat (first
    | (refine calm_skip (by rfl) ?_; simp only [Act.put, List.setIfInBounds_toArray, List.set_cons_zero, List.set_cons_succ])
    | (refine calm_step hne.out (by rfl) rfl (by simp) ?_; apply Exists.intro; refine ⟨?_, ?_⟩
       · (intro r _ K hK; go_big_quiet_op; first
          | exact hK
          | (apply Exists.intro; refine ⟨fun _ hw => ?_, ?_⟩; (first
             | with_reducible exact rfl
             | with_reducible exact cm_mem hw (HD.out _)
             | (obtain ⟨_, _, h0, h1, _⟩ := hw.s; have q0 := h0.cell; have q1 := h1.cell; clear h0 h1; simp [q0, q1, go_sem]; exact rfl)); exact hK))))
  refine wpCalm_nil ?_
  intro w1 K
  clear hne
  obtain ⟨_, sz2, h0, h1, _⟩ := id K
  have q0 := h0.cell; have f0 := h0.frozen; have z2_0 := h0.lt
  have q1 := h1.cell; have f1 := h1.frozen; have z2_1 := h1.lt
  clear h0 h1
  go_wp2_with fail
  refine (HP.out _).mono ?_
  rintro e_2 w2 ⟨rfl, hb⟩
  have K' := Hold.mem (K) hb
  clear hb K
  have K := K'
  clear K'
  clear q0 f0 q1 f1
  obtain ⟨_, sz3, h0, h1, _⟩ := id K
  have q0 := h0.cell; have f0 := h0.frozen; have z3_0 := h0.lt
  have q1 := h1.cell; have f1 := h1.frozen; have z3_1 := h1.lt
  clear h0 h1
  go_wp2_with fail
  refine (same_mem (HS.out _)).mono ?_
  rintro e_3 w3 ⟨rfl, hb⟩
  have K' := Hold.mem ((K).new #[.int .i64 x, .int .i64 y] 58 (n := w2.heap.size) (by first | rfl | (simp <;> omega))) hb
  clear hb K
  have K := K'
  clear K'
  clear q0 f0 q1 f1
  obtain ⟨_, sz4, h0, h1, h2, _⟩ := id K
  have q0 := h0.cell; have f0 := h0.frozen; have z4_0 := h0.lt
  have q1 := h1.cell; have f1 := h1.frozen; have z4_1 := h1.lt
  have q2 := h2.cell; have f2 := h2.frozen; have z4_2 := h2.lt
  clear h0 h1 h2
  go_wp2_with fail
  refine (HR.out _).mono ?_
  rintro e_4 w4 ⟨rfl, hb⟩
  have K' := Hold.mem (K) hb
  clear hb K
  have K := K'
  clear K'
  clear q0 f0 q1 f1 q2 f2
  obtain ⟨_, sz5, h0, h1, h2, _⟩ := id K
  have q0 := h0.cell; have f0 := h0.frozen; have z5_0 := h0.lt
  have q1 := h1.cell; have f1 := h1.frozen; have z5_1 := h1.lt
  have q2 := h2.cell; have f2 := h2.frozen; have z5_2 := h2.lt
  clear h0 h1 h2
  go_wp2_with fail
  refine (HB.out _).mono ?_
  rintro e_5 w5 ⟨rfl, hb⟩
  have K' := Hold.mem (K) hb
  clear hb K
  have K := K'
  clear K'
  clear q0 f0 q1 f1 q2 f2
  obtain ⟨_, sz6, h0, h1, h2, _⟩ := id K
  have q0 := h0.cell; have f0 := h0.frozen; have z6_0 := h0.lt
  have q1 := h1.cell; have f1 := h1.frozen; have z6_1 := h1.lt
  have q2 := h2.cell; have f2 := h2.frozen; have z6_2 := h2.lt
  clear h0 h1 h2
  go_wp2_with fail
  refine bodyPost_ret (v := .tuple #[.agg #[.complex .f64 za zb, .int .i64 zr], .int .i64 ze]) (by simp [results, Try.results109, go_sem, *]) rfl ⟨rfl, ?_⟩
  repeat (first | exact K.below | refine Below.setCell ?_ (by simp <;> omega) _)

set_option maxHeartbeats 2000000 in
theorem Root1_ok2 {a b : Nat} {x y r D : Int} {X Y R : Int} (hz : ¬ D ≤ r) (hr0 : 0 ≤ r) (hr1 : r ≤ 67108864) (hX : InF X) (hY : InF Y) (hx : x < 0) (hs : szB y r = true) (hr : r = 0)
    (HR : Hid (∀ w, Calls Try.prog 111 #[.agg #[.complex .f64 a b, .int .i64 r]] w (Mem (.agg #[.complex .f64 (fi X) (fi Y), .int .i64 R]) w)))
    (HD : Hid (∀ w, Calls Try.prog 105 #[.complex .f64 a b] w (Mem (.int .i64 D) w)))
    (HP : Hid (∀ w, Calls Try.prog 110 #[.complex .f64 a b] w (Mem (.agg #[.int .i64 x, .int .i64 y]) w))) (w : World) :
    Calls Try.prog 109 #[.agg #[.complex .f64 a b, .int .i64 r]] w (Mem (resB X Y R) w) := by
  have HB := fun w => discBall_any R ⟨Rp_fi X, Rp_fi Y⟩ hX hY w
  obtain ⟨za, zb, zr, ze, hzz⟩ := resB_eq X Y R
  rw [hzz] at HB ⊢
  replace HB := Lib.hid HB
  clear hzz hX hY
  unfold balV at *
  generalize fi X = fX at *
  generalize fi Y = fY at *
  have g0 : decide (D ≤ r) = false := by simpa using hz
  have HS := fun w => sized_any y r hr0 (by omega) w
  rw [hs] at HS
  replace HS := Lib.hid HS
  clear hs
  have g1 : decide (x < 0) = true := by simpa using hx
  subst hr
  have g2 : ((0 : Int) != 0) = false := by decide
  go_enter Try.func109, Try.ntmps109
  go_wp2_with fail
  have K := ((Hold.start w).new #[.complex .f64 a b, .int .i64 0] 95 (n := w.heap.size) (by simp)).new #[.complex .f64 0 0, .int .i64 0] 27 (n := w.heap.size + 1) (by simp)
  obtain ⟨_, sz1, h0, h1, _⟩ := id K
  have z1_0 := h0.lt; have z1_1 := h1.lt
  clear h0 h1
  have hne : Hid (∃ w', Hold w.heap.size w [(w.heap.size + 1, #[.complex .f64 0 0, .int .i64 0]), (w.heap.size, #[.complex .f64 a b, .int .i64 0])] w') := ⟨_, K.drew⟩
  refine wp_region_tail (Hold w.heap.size w [(w.heap.size + 1, #[.complex .f64 0 0, .int .i64 0]), (w.heap.size, #[.complex .f64 a b, .int .i64 0])]) 6 6 (by kernel_rfl) (by kernel_rfl) (fun _ _ d _ _ h => by cases d <;> exact h) (Hold.lasting _ _ _) K.drew ?_
  simp only [List.take_succ_cons, List.take_zero, List.drop_succ_cons, List.drop_zero]
  clear K
  repeat (first
    | (refine calm_skip (by rfl) ?_; simp only [Act.put, List.setIfInBounds_toArray, List.set_cons_zero, List.set_cons_succ])
    | (refine calm_step hne.out (by rfl) rfl (by simp) ?_; apply Exists.intro; refine ⟨?_, ?_⟩
       · (intro r _ K hK; go_big_quiet_op; first
          | exact hK
          | (apply Exists.intro; refine ⟨fun _ hw => ?_, ?_⟩; (first
             | with_reducible exact rfl
             | with_reducible exact cm_mem hw (HD.out _)
             | (obtain ⟨_, _, h0, h1, _⟩ := hw.s; have q0 := h0.cell; have q1 := h1.cell; clear h0 h1; simp [q0, q1, go_sem]; exact rfl)); exact hK))))
  refine wpCalm_nil ?_
  intro w1 K
  clear hne
  obtain ⟨_, sz2, h0, h1, _⟩ := id K
  have q0 := h0.cell; have f0 := h0.frozen; have z2_0 := h0.lt
  have q1 := h1.cell; have f1 := h1.frozen; have z2_1 := h1.lt
  clear h0 h1
  go_wp2_with fail
  refine (HP.out _).mono ?_
  rintro e_2 w2 ⟨rfl, hb⟩
  have K' := Hold.mem (K) hb
  clear hb K
  have K := K'
  clear K'
  clear q0 f0 q1 f1
  obtain ⟨_, sz3, h0, h1, _⟩ := id K
  have q0 := h0.cell; have f0 := h0.frozen; have z3_0 := h0.lt
  have q1 := h1.cell; have f1 := h1.frozen; have z3_1 := h1.lt
  clear h0 h1
  go_wp2_with fail
  refine (same_mem (HS.out _)).mono ?_
  rintro e_3 w3 ⟨rfl, hb⟩
  have K' := Hold.mem ((K).new #[.int .i64 x, .int .i64 y] 58 (n := w2.heap.size) (by first | rfl | (simp <;> omega))) hb
  clear hb K
  have K := K'
  clear K'
  clear q0 f0 q1 f1
  obtain ⟨_, sz4, h0, h1, h2, _⟩ := id K
  have q0 := h0.cell; have f0 := h0.frozen; have z4_0 := h0.lt
  have q1 := h1.cell; have f1 := h1.frozen; have z4_1 := h1.lt
  have q2 := h2.cell; have f2 := h2.frozen; have z4_2 := h2.lt
  clear h0 h1 h2
  go_wp2_with fail
  refine (HR.out _).mono ?_
  rintro e_4 w4 ⟨rfl, hb⟩
  have K' := Hold.mem (K) hb
  clear hb K
  have K := K'
  clear K'
  clear q0 f0 q1 f1 q2 f2
  obtain ⟨_, sz5, h0, h1, h2, _⟩ := id K
  have q0 := h0.cell; have f0 := h0.frozen; have z5_0 := h0.lt
  have q1 := h1.cell; have f1 := h1.frozen; have z5_1 := h1.lt
  have q2 := h2.cell; have f2 := h2.frozen; have z5_2 := h2.lt
  clear h0 h1 h2
  go_wp2_with fail
  refine (HB.out _).mono ?_
  rintro e_5 w5 ⟨rfl, hb⟩
  have K' := Hold.mem (K) hb
  clear hb K
  have K := K'
  clear K'
  clear q0 f0 q1 f1 q2 f2
  obtain ⟨_, sz6, h0, h1, h2, _⟩ := id K
  have q0 := h0.cell; have f0 := h0.frozen; have z6_0 := h0.lt
  have q1 := h1.cell; have f1 := h1.frozen; have z6_1 := h1.lt
  have q2 := h2.cell; have f2 := h2.frozen; have z6_2 := h2.lt
  clear h0 h1 h2
  go_wp2_with fail
  refine bodyPost_ret (v := .tuple #[.agg #[.complex .f64 za zb, .int .i64 zr], .int .i64 ze]) (by simp [results, Try.results109, go_sem, *]) rfl ⟨rfl, ?_⟩
  repeat (first | exact K.below | refine Below.setCell ?_ (by simp <;> omega) _)

end Go.Proofs.Ythkooiopiaakbaa
