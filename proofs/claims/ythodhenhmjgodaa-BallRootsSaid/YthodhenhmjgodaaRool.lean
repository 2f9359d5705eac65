/- The statement's function on roots answers true. -/
import Derived.Test.YthodhenhmjgodaaRrop
namespace Go.Proofs.Ythodhenhmjgodaa
open Go.RowKit Go.Lib
attribute [local go_sem] run_store_float run_store_complex
set_option linter.unusedVariables false

set_option maxHeartbeats 4000000 in
theorem roots_core (ok : Bool) {x y r lo hi x' y' X Y R e X2 Y2 R2 e2 d : Int} {fx fy fX fY fX2 fY2 : Nat} (hd : d = if ok = true then 0 else 2)
    (hz : ok = false → X = 0 ∧ Y = 0 ∧ R = 0 ∧ e = 2)
    (BX : Hid (∀ w, Calls Try.prog 23 #[.agg #[.int .i64 x, .int .i64 y, .int .i64 r]] w (Mem (.agg #[.complex .f64 fx fy, .int .i64 r]) w)))
    (T1 : Hid (∀ w, Calls Try.prog 43 #[.agg #[.complex .f64 fx fy, .int .i64 r]] w (Mem (.tuple #[.agg #[.complex .f64 fX fY, .int .i64 R], .int .i64 e]) w)))
    (T2 : Hid (∀ w, Calls Try.prog 44 #[.agg #[.int .i64 lo, .int .i64 hi]] w (Mem (.tuple #[.agg #[.complex .f64 fX2 fY2, .int .i64 R2], .int .i64 e2]) w)))
    (TW : Hid (∀ w, Calls Try.prog 28 #[.agg #[.int .i64 x, .int .i64 y, .int .i64 r]] w (Mem (.int .i64 d) w)))
    (OX : ok = true → Hid (∀ w, Calls Try.prog 30 #[.agg #[.complex .f64 fx fy, .int .i64 r]] w (Mem (.agg #[.int .i64 x', .int .i64 y', .int .i64 r]) w)))
    (RT : ok = true → Hid (∀ w, Calls Try.prog 45 #[.agg #[.int .i64 x', .int .i64 y', .int .i64 r]] w (Mem (.tuple #[.agg #[.int .i64 X, .int .i64 Y, .int .i64 R], .int .i64 e]) w)))
    (RR : Hid (∀ w, Calls Try.prog 46 #[.agg #[.int .i64 lo, .int .i64 hi]] w (Mem (.tuple #[.agg #[.int .i64 X2, .int .i64 Y2, .int .i64 R2], .int .i64 e2]) w)))
    (IS : Hid (∀ w, Calls Try.prog 22 #[.agg #[.complex .f64 fX fY, .int .i64 R], .int .i64 e, .agg #[.int .i64 X, .int .i64 Y, .int .i64 R], .int .i64 e] w (Mem (.bool true) w)))
    (IS2 : Hid (∀ w, Calls Try.prog 22 #[.agg #[.complex .f64 fX2 fY2, .int .i64 R2], .int .i64 e2, .agg #[.int .i64 X2, .int .i64 Y2, .int .i64 R2], .int .i64 e2] w (Mem (.bool true) w))) (w : World) :
    Calls Try.prog 7 #[.agg #[.int .i64 x, .int .i64 y, .int .i64 r], .agg #[.int .i64 lo, .int .i64 hi]] w (Mem (.bool true) w) := by
  have A := Lib.hid (fun w => awake_any w)
  cases ok
  · skip
    obtain rfl : d = 2 := hd
    obtain ⟨rfl, rfl, rfl, rfl⟩ := hz rfl
    clear OX RT
    go_enter Try.func7, Try.ntmps7
    go_wp2_with fail
    have K := ((Hold.start w).new #[.int .i64 x, .int .i64 y, .int .i64 r] 39 (n := w.heap.size) (by simp)).new #[.int .i64 lo, .int .i64 hi] 23 (n := w.heap.size + 1) (by simp)
    refine (A.out _).mono ?_
    rintro e_1 w1 ⟨rfl, hb⟩
    have K' := Hold.mem (K) hb
    clear hb K
    have K := K'
    clear K'
    obtain ⟨_, sz1, h0, h1, _⟩ := id K
    have q0 := h0.cell; have f0 := h0.frozen; have z1_0 := h0.lt
    have q1 := h1.cell; have f1 := h1.frozen; have z1_1 := h1.lt
    clear h0 h1
    go_wp2_with fail
    refine (BX.out _).mono ?_
    rintro e_2 w2 ⟨rfl, hb⟩
    have K' := Hold.mem (K) hb
    clear hb K
    have K := K'
    clear K'
    clear q0 f0 q1 f1
    obtain ⟨_, sz2, h0, h1, _⟩ := id K
    have q0 := h0.cell; have f0 := h0.frozen; have z2_0 := h0.lt
    have q1 := h1.cell; have f1 := h1.frozen; have z2_1 := h1.lt
    clear h0 h1
    go_wp2_with fail
    refine (T1.out _).mono ?_
    rintro e_3 w3 ⟨rfl, hb⟩
    have K' := Hold.mem (K) hb
    clear hb K
    have K := K'
    clear K'
    clear q0 f0 q1 f1
    obtain ⟨_, sz3, h0, h1, _⟩ := id K
    have q0 := h0.cell; have f0 := h0.frozen; have z3_0 := h0.lt
    have q1 := h1.cell; have f1 := h1.frozen; have z3_1 := h1.lt
    clear h0 h1
    go_wp2_with fail
    refine (T2.out _).mono ?_
    rintro e_4 w4 ⟨rfl, hb⟩
    have K' := Hold.mem ((K).new #[.complex .f64 fX fY, .int .i64 0] 27 (n := w3.heap.size) (by first | rfl | (simp <;> omega))) hb
    clear hb K
    have K := K'
    clear K'
    clear q0 f0 q1 f1
    obtain ⟨_, sz4, h0, h1, h2, _⟩ := id K
    have q0 := h0.cell; have f0 := h0.frozen; have z4_0 := h0.lt
    have q1 := h1.cell; have f1 := h1.frozen; have z4_1 := h1.lt
    have q2 := h2.cell; have f2 := h2.frozen; have z4_2 := h2.lt
    clear h0 h1 h2
    go_wp2_with fail
    refine (TW.out _).mono ?_
    rintro e_5 w5 ⟨rfl, hb⟩
    have K' := Hold.mem ((K).new #[.complex .f64 fX2 fY2, .int .i64 R2] 27 (n := w4.heap.size) (by first | rfl | (simp <;> omega))) hb
    clear hb K
    have K := K'
    clear K'
    clear q0 f0 q1 f1 q2 f2
    obtain ⟨_, sz5, h0, h1, h2, h3, _⟩ := id K
    have q0 := h0.cell; have f0 := h0.frozen; have z5_0 := h0.lt
    have q1 := h1.cell; have f1 := h1.frozen; have z5_1 := h1.lt
    have q2 := h2.cell; have f2 := h2.frozen; have z5_2 := h2.lt
    have q3 := h3.cell; have f3 := h3.frozen; have z5_3 := h3.lt
    clear h0 h1 h2 h3
    go_wp2_with fail
    refine (RR.out _).mono ?_
    rintro e_6 w6 ⟨rfl, hb⟩
    have K' := Hold.mem ((K).new #[.int .i64 0, .int .i64 0, .int .i64 0] 33 (n := w5.heap.size) (by first | rfl | (simp <;> omega))) hb
    clear hb K
    have K := K'
    clear K'
    clear q0 f0 q1 f1 q2 f2 q3 f3
    obtain ⟨_, sz6, h0, h1, h2, h3, h4, _⟩ := id K
    have q0 := h0.cell; have f0 := h0.frozen; have z6_0 := h0.lt
    have q1 := h1.cell; have f1 := h1.frozen; have z6_1 := h1.lt
    have q2 := h2.cell; have f2 := h2.frozen; have z6_2 := h2.lt
    have q3 := h3.cell; have f3 := h3.frozen; have z6_3 := h3.lt
    have q4 := h4.cell; have f4 := h4.frozen; have z6_4 := h4.lt
    clear h0 h1 h2 h3 h4
    go_wp2_with fail
    refine (IS.out _).mono ?_
    rintro e_7 w7 ⟨rfl, hb⟩
    have K' := Hold.mem ((K).new #[.int .i64 X2, .int .i64 Y2, .int .i64 R2] 33 (n := w6.heap.size) (by first | rfl | (simp <;> omega))) hb
    clear hb K
    have K := K'
    clear K'
    clear q0 f0 q1 f1 q2 f2 q3 f3 q4 f4
    obtain ⟨_, sz7, h0, h1, h2, h3, h4, h5, _⟩ := id K
    have q0 := h0.cell; have f0 := h0.frozen; have z7_0 := h0.lt
    have q1 := h1.cell; have f1 := h1.frozen; have z7_1 := h1.lt
    have q2 := h2.cell; have f2 := h2.frozen; have z7_2 := h2.lt
    have q3 := h3.cell; have f3 := h3.frozen; have z7_3 := h3.lt
    have q4 := h4.cell; have f4 := h4.frozen; have z7_4 := h4.lt
    have q5 := h5.cell; have f5 := h5.frozen; have z7_5 := h5.lt
    clear h0 h1 h2 h3 h4 h5
    go_wp2_with fail
    refine (IS2.out _).mono ?_
    rintro e_8 w8 ⟨rfl, hb⟩
    have K' := Hold.mem (K) hb
    clear hb K
    have K := K'
    clear K'
    clear q0 f0 q1 f1 q2 f2 q3 f3 q4 f4 q5 f5
    obtain ⟨_, sz8, h0, h1, h2, h3, h4, h5, _⟩ := id K
    have q0 := h0.cell; have f0 := h0.frozen; have z8_0 := h0.lt
    have q1 := h1.cell; have f1 := h1.frozen; have z8_1 := h1.lt
    have q2 := h2.cell; have f2 := h2.frozen; have z8_2 := h2.lt
    have q3 := h3.cell; have f3 := h3.frozen; have z8_3 := h3.lt
    have q4 := h4.cell; have f4 := h4.frozen; have z8_4 := h4.lt
    have q5 := h5.cell; have f5 := h5.frozen; have z8_5 := h5.lt
    clear h0 h1 h2 h3 h4 h5
    go_wp2_with fail
    go_ret
    exact ⟨rfl, (K).below⟩
  · skip
    obtain rfl : d = 0 := hd
    replace OX := OX rfl; replace RT := RT rfl
    clear hz
    go_enter Try.func7, Try.ntmps7
    go_wp2_with fail
    have K := ((Hold.start w).new #[.int .i64 x, .int .i64 y, .int .i64 r] 39 (n := w.heap.size) (by simp)).new #[.int .i64 lo, .int .i64 hi] 23 (n := w.heap.size + 1) (by simp)
    refine (A.out _).mono ?_
    rintro e_1 w1 ⟨rfl, hb⟩
    have K' := Hold.mem (K) hb
    clear hb K
    have K := K'
    clear K'
    obtain ⟨_, sz1, h0, h1, _⟩ := id K
    have q0 := h0.cell; have f0 := h0.frozen; have z1_0 := h0.lt
    have q1 := h1.cell; have f1 := h1.frozen; have z1_1 := h1.lt
    clear h0 h1
    go_wp2_with fail
    refine (BX.out _).mono ?_
    rintro e_2 w2 ⟨rfl, hb⟩
    have K' := Hold.mem (K) hb
    clear hb K
    have K := K'
    clear K'
    clear q0 f0 q1 f1
    obtain ⟨_, sz2, h0, h1, _⟩ := id K
    have q0 := h0.cell; have f0 := h0.frozen; have z2_0 := h0.lt
    have q1 := h1.cell; have f1 := h1.frozen; have z2_1 := h1.lt
    clear h0 h1
    go_wp2_with fail
    refine (T1.out _).mono ?_
    rintro e_3 w3 ⟨rfl, hb⟩
    have K' := Hold.mem (K) hb
    clear hb K
    have K := K'
    clear K'
    clear q0 f0 q1 f1
    obtain ⟨_, sz3, h0, h1, _⟩ := id K
    have q0 := h0.cell; have f0 := h0.frozen; have z3_0 := h0.lt
    have q1 := h1.cell; have f1 := h1.frozen; have z3_1 := h1.lt
    clear h0 h1
    go_wp2_with fail
    refine (T2.out _).mono ?_
    rintro e_4 w4 ⟨rfl, hb⟩
    have K' := Hold.mem ((K).new #[.complex .f64 fX fY, .int .i64 R] 27 (n := w3.heap.size) (by first | rfl | (simp <;> omega))) hb
    clear hb K
    have K := K'
    clear K'
    clear q0 f0 q1 f1
    obtain ⟨_, sz4, h0, h1, h2, _⟩ := id K
    have q0 := h0.cell; have f0 := h0.frozen; have z4_0 := h0.lt
    have q1 := h1.cell; have f1 := h1.frozen; have z4_1 := h1.lt
    have q2 := h2.cell; have f2 := h2.frozen; have z4_2 := h2.lt
    clear h0 h1 h2
    go_wp2_with fail
    refine (TW.out _).mono ?_
    rintro e_5 w5 ⟨rfl, hb⟩
    have K' := Hold.mem ((K).new #[.complex .f64 fX2 fY2, .int .i64 R2] 27 (n := w4.heap.size) (by first | rfl | (simp <;> omega))) hb
    clear hb K
    have K := K'
    clear K'
    clear q0 f0 q1 f1 q2 f2
    obtain ⟨_, sz5, h0, h1, h2, h3, _⟩ := id K
    have q0 := h0.cell; have f0 := h0.frozen; have z5_0 := h0.lt
    have q1 := h1.cell; have f1 := h1.frozen; have z5_1 := h1.lt
    have q2 := h2.cell; have f2 := h2.frozen; have z5_2 := h2.lt
    have q3 := h3.cell; have f3 := h3.frozen; have z5_3 := h3.lt
    clear h0 h1 h2 h3
    go_wp2_with fail
    refine (BX.out _).mono ?_
    rintro e_6 w6 ⟨rfl, hb⟩
    have K' := Hold.mem ((K).new #[.int .i64 0, .int .i64 0, .int .i64 0] 33 (n := w5.heap.size) (by first | rfl | (simp <;> omega))) hb
    clear hb K
    have K := K'
    clear K'
    clear q0 f0 q1 f1 q2 f2 q3 f3
    obtain ⟨_, sz6, h0, h1, h2, h3, h4, _⟩ := id K
    have q0 := h0.cell; have f0 := h0.frozen; have z6_0 := h0.lt
    have q1 := h1.cell; have f1 := h1.frozen; have z6_1 := h1.lt
    have q2 := h2.cell; have f2 := h2.frozen; have z6_2 := h2.lt
    have q3 := h3.cell; have f3 := h3.frozen; have z6_3 := h3.lt
    have q4 := h4.cell; have f4 := h4.frozen; have z6_4 := h4.lt
    clear h0 h1 h2 h3 h4
    go_wp2_with fail
    refine (OX.out _).mono ?_
    rintro e_7 w7 ⟨rfl, hb⟩
    have K' := Hold.mem (K) hb
    clear hb K
    have K := K'
    clear K'
    clear q0 f0 q1 f1 q2 f2 q3 f3 q4 f4
    obtain ⟨_, sz7, h0, h1, h2, h3, h4, _⟩ := id K
    have q0 := h0.cell; have f0 := h0.frozen; have z7_0 := h0.lt
    have q1 := h1.cell; have f1 := h1.frozen; have z7_1 := h1.lt
    have q2 := h2.cell; have f2 := h2.frozen; have z7_2 := h2.lt
    have q3 := h3.cell; have f3 := h3.frozen; have z7_3 := h3.lt
    have q4 := h4.cell; have f4 := h4.frozen; have z7_4 := h4.lt
    clear h0 h1 h2 h3 h4
    go_wp2_with fail
    refine (RT.out _).mono ?_
    rintro e_8 w8 ⟨rfl, hb⟩
    have K' := Hold.mem (K) hb
    clear hb K
    have K := K'
    clear K'
    clear q0 f0 q1 f1 q2 f2 q3 f3 q4 f4
    obtain ⟨_, sz8, h0, h1, h2, h3, h4, _⟩ := id K
    have q0 := h0.cell; have f0 := h0.frozen; have z8_0 := h0.lt
    have q1 := h1.cell; have f1 := h1.frozen; have z8_1 := h1.lt
    have q2 := h2.cell; have f2 := h2.frozen; have z8_2 := h2.lt
    have q3 := h3.cell; have f3 := h3.frozen; have z8_3 := h3.lt
    have q4 := h4.cell; have f4 := h4.frozen; have z8_4 := h4.lt
    clear h0 h1 h2 h3 h4
    go_wp2_with fail
    refine (RR.out _).mono ?_
    rintro e_9 w9 ⟨rfl, hb⟩
    have K' := Hold.mem ((K).set3 (v0 := .int .i64 X) (v1 := .int .i64 Y) (v2 := .int .i64 R) (by omega) (by simp <;> omega)) hb
    clear hb K
    have K := K'
    clear K'
    clear q0 f0 q1 f1 q2 f2 q3 f3 q4 f4
    obtain ⟨_, sz9, h0, h1, h2, h3, h4, _⟩ := id K
    have q0 := h0.cell; have f0 := h0.frozen; have z9_0 := h0.lt
    have q1 := h1.cell; have f1 := h1.frozen; have z9_1 := h1.lt
    have q2 := h2.cell; have f2 := h2.frozen; have z9_2 := h2.lt
    have q3 := h3.cell; have f3 := h3.frozen; have z9_3 := h3.lt
    have q4 := h4.cell; have f4 := h4.frozen; have z9_4 := h4.lt
    clear h0 h1 h2 h3 h4
    go_wp2_with fail
    refine (IS.out _).mono ?_
    rintro e_10 w10 ⟨rfl, hb⟩
    have K' := Hold.mem ((K).new #[.int .i64 X2, .int .i64 Y2, .int .i64 R2] 33 (n := w9.heap.size) (by first | rfl | (simp <;> omega))) hb
    clear hb K
    have K := K'
    clear K'
    clear q0 f0 q1 f1 q2 f2 q3 f3 q4 f4
    obtain ⟨_, sz10, h0, h1, h2, h3, h4, h5, _⟩ := id K
    have q0 := h0.cell; have f0 := h0.frozen; have z10_0 := h0.lt
    have q1 := h1.cell; have f1 := h1.frozen; have z10_1 := h1.lt
    have q2 := h2.cell; have f2 := h2.frozen; have z10_2 := h2.lt
    have q3 := h3.cell; have f3 := h3.frozen; have z10_3 := h3.lt
    have q4 := h4.cell; have f4 := h4.frozen; have z10_4 := h4.lt
    have q5 := h5.cell; have f5 := h5.frozen; have z10_5 := h5.lt
    clear h0 h1 h2 h3 h4 h5
    go_wp2_with fail
    refine (IS2.out _).mono ?_
    rintro e_11 w11 ⟨rfl, hb⟩
    have K' := Hold.mem (K) hb
    clear hb K
    have K := K'
    clear K'
    clear q0 f0 q1 f1 q2 f2 q3 f3 q4 f4 q5 f5
    obtain ⟨_, sz11, h0, h1, h2, h3, h4, h5, _⟩ := id K
    have q0 := h0.cell; have f0 := h0.frozen; have z11_0 := h0.lt
    have q1 := h1.cell; have f1 := h1.frozen; have z11_1 := h1.lt
    have q2 := h2.cell; have f2 := h2.frozen; have z11_2 := h2.lt
    have q3 := h3.cell; have f3 := h3.frozen; have z11_3 := h3.lt
    have q4 := h4.cell; have f4 := h4.frozen; have z11_4 := h4.lt
    have q5 := h5.cell; have f5 := h5.frozen; have z11_5 := h5.lt
    clear h0 h1 h2 h3 h4 h5
    go_wp2_with fail
    go_ret
    exact ⟨rfl, (K).below⟩

theorem roots_walk (x y r lo hi : Int) (w : World) : Calls Try.prog 7 #[.agg #[.int .i64 x, .int .i64 y, .int .i64 r], .agg #[.int .i64 lo, .int .i64 hi]] w (Mem (.bool true) w) := by
  have hx := cutI_in x; have hy := cutI_in y
  have cx : Cp (fi (cutI x)) (fi (cutI y)) (cutI x) (cutI y) := ⟨Rp_fi _, Rp_fi _⟩
  have T1 := fun w => Root_any r cx hx hy w
  have T2 := fun w => RealRoot_all lo hi w
  have RR := fun w => refRR_any lo hi w
  have TW := fun w => err_any x y r w
  obtain ⟨X2, Y2, R2, e2, p1, p2⟩ := pair_rr lo hi
  rw [p1] at T2
  rw [p2] at RR
  rcases ckB_cases (cutI x) (cutI y) r with hk | hk
  · obtain ⟨X, Y, R, e, h1, h2⟩ := pair_root hk
    have RT := fun w => refRoot_any hk w
    rw [if_pos hk, h1] at T1
    rw [h2] at RT
    rw [hk] at TW
    exact roots_core true rfl (by simp) (Lib.hid fun w => WholeBall_any x y r w) (Lib.hid T1) (Lib.hid T2) (Lib.hid TW) (fun _ => Lib.hid fun w => Of_any r cx hx hy w) (fun _ => Lib.hid RT) (Lib.hid RR)
      (Lib.hid fun w => is_any X Y R e w) (Lib.hid fun w => is_any X2 Y2 R2 e2 w) w
  · rw [if_neg (by rw [hk]; decide)] at T1
    rw [hk] at TW
    have IS := fun w => is_any 0 0 0 2 w
    rw [fi_nought] at IS
    exact roots_core (x' := 0) (y' := 0) false rfl (fun _ => ⟨rfl, rfl, rfl, rfl⟩) (Lib.hid fun w => WholeBall_any x y r w) (Lib.hid T1) (Lib.hid T2) (Lib.hid TW) (by simp) (by simp) (Lib.hid RR)
      (Lib.hid IS) (Lib.hid fun w => is_any X2 Y2 R2 e2 w) w

end Go.Proofs.Ythodhenhmjgodaa
