/- The reference's arcs. -/
import Derived.Test.YthodhenhmjgodaaRdia
namespace Go.Proofs.Ythodhenhmjgodaa
open Go.RowKit Go.Lib
attribute [local go_sem] run_store_float run_store_complex
set_option linter.unusedVariables false

set_option maxRecDepth 100000 in
set_option maxHeartbeats 2000000 in
theorem refArc_bad1 {lo hi : Int} (HL : Hid (∀ w, Calls Try.prog 31 #[.int .i64 lo, .int .i64 (-1099511627776), .int .i64 1099511627776] w fun e w' => e = .returned (.bool false) ∧ w = w')) (w : World) :
    Calls Try.prog 61 #[.agg #[.int .i64 lo, .int .i64 hi]] w (Mem (refV 0 0 0 2) w) := by
  unfold refV
  go_enter Try.func61, Try.ntmps61
  go_wp2_with fail
  have K := ((Hold.start w).new #[.int .i64 lo, .int .i64 hi] 23 (n := w.heap.size) (by simp)).new #[.int .i64 0, .int .i64 0, .int .i64 0] 33 (n := w.heap.size + 1) (by simp)
  refine (HL.out _).mono ?_
  rintro e_1 w_1 ⟨rfl, rfl⟩
  obtain ⟨_, sz1, h0, h1, _⟩ := id K
  have q0 := h0.cell; have f0 := h0.frozen; have z1_0 := h0.lt
  have q1 := h1.cell; have f1 := h1.frozen; have z1_1 := h1.lt
  clear h0 h1
  go_wp2_with fail
  refine bodyPost_ret (v := .tuple #[.agg #[.int .i64 0, .int .i64 0, .int .i64 0], .int .i64 2]) (by simp [results, Try.results61, go_sem, *]) rfl ⟨rfl, ?_⟩
  repeat (first | exact K.below | refine Below.setCell ?_ (by simp <;> omega) _ | refine Below.alloc ?_ (by first | exact K.size | (simp <;> omega)) _)

set_option maxRecDepth 100000 in
set_option maxHeartbeats 2000000 in
theorem refArc_bad2 {lo hi : Int} (HL : Hid (∀ w, Calls Try.prog 31 #[.int .i64 lo, .int .i64 (-1099511627776), .int .i64 1099511627776] w fun e w' => e = .returned (.bool true) ∧ w = w')) (HH : Hid (∀ w, Calls Try.prog 31 #[.int .i64 hi, .int .i64 (-1099511627776), .int .i64 1099511627776] w fun e w' => e = .returned (.bool false) ∧ w = w')) (w : World) :
    Calls Try.prog 61 #[.agg #[.int .i64 lo, .int .i64 hi]] w (Mem (refV 0 0 0 2) w) := by
  unfold refV
  go_enter Try.func61, Try.ntmps61
  go_wp2_with fail
  have K := ((Hold.start w).new #[.int .i64 lo, .int .i64 hi] 23 (n := w.heap.size) (by simp)).new #[.int .i64 0, .int .i64 0, .int .i64 0] 33 (n := w.heap.size + 1) (by simp)
  refine (HL.out _).mono ?_
  rintro e_1 w_1 ⟨rfl, rfl⟩
  obtain ⟨_, sz1, h0, h1, _⟩ := id K
  have q0 := h0.cell; have f0 := h0.frozen; have z1_0 := h0.lt
  have q1 := h1.cell; have f1 := h1.frozen; have z1_1 := h1.lt
  clear h0 h1
  go_wp2_with fail
  refine (HH.out _).mono ?_
  rintro e_2 w_2 ⟨rfl, rfl⟩
  clear q0 f0 q1 f1
  obtain ⟨_, sz2, h0, h1, _⟩ := id K
  have q0 := h0.cell; have f0 := h0.frozen; have z2_0 := h0.lt
  have q1 := h1.cell; have f1 := h1.frozen; have z2_1 := h1.lt
  clear h0 h1
  go_wp2_with fail
  refine bodyPost_ret (v := .tuple #[.agg #[.int .i64 0, .int .i64 0, .int .i64 0], .int .i64 2]) (by simp [results, Try.results61, go_sem, *]) rfl ⟨rfl, ?_⟩
  repeat (first | exact K.below | refine Below.setCell ?_ (by simp <;> omega) _ | refine Below.alloc ?_ (by first | exact K.size | (simp <;> omega)) _)

set_option maxRecDepth 100000 in
set_option maxHeartbeats 2000000 in
theorem refArc_order {lo hi : Int} (HL : Hid (∀ w, Calls Try.prog 31 #[.int .i64 lo, .int .i64 (-1099511627776), .int .i64 1099511627776] w fun e w' => e = .returned (.bool true) ∧ w = w')) (HH : Hid (∀ w, Calls Try.prog 31 #[.int .i64 hi, .int .i64 (-1099511627776), .int .i64 1099511627776] w fun e w' => e = .returned (.bool true) ∧ w = w')) (h : hi < lo) (w : World) :
    Calls Try.prog 61 #[.agg #[.int .i64 lo, .int .i64 hi]] w (Mem (refV 0 0 0 10) w) := by
  unfold refV
  have h' : decide (hi < lo) = true := by simpa using h
  go_enter Try.func61, Try.ntmps61
  go_wp2_with fail
  have K := ((Hold.start w).new #[.int .i64 lo, .int .i64 hi] 23 (n := w.heap.size) (by simp)).new #[.int .i64 0, .int .i64 0, .int .i64 0] 33 (n := w.heap.size + 1) (by simp)
  refine (HL.out _).mono ?_
  rintro e_1 w_1 ⟨rfl, rfl⟩
  obtain ⟨_, sz1, h0, h1, _⟩ := id K
  have q0 := h0.cell; have f0 := h0.frozen; have z1_0 := h0.lt
  have q1 := h1.cell; have f1 := h1.frozen; have z1_1 := h1.lt
  clear h0 h1
  go_wp2_with fail
  refine (HH.out _).mono ?_
  rintro e_2 w_2 ⟨rfl, rfl⟩
  clear q0 f0 q1 f1
  obtain ⟨_, sz2, h0, h1, _⟩ := id K
  have q0 := h0.cell; have f0 := h0.frozen; have z2_0 := h0.lt
  have q1 := h1.cell; have f1 := h1.frozen; have z2_1 := h1.lt
  clear h0 h1
  go_wp2_with fail
  refine bodyPost_ret (v := .tuple #[.agg #[.int .i64 0, .int .i64 0, .int .i64 0], .int .i64 10]) (by simp [results, Try.results61, go_sem, *]) rfl ⟨rfl, ?_⟩
  repeat (first | exact K.below | refine Below.setCell ?_ (by simp <;> omega) _ | refine Below.alloc ?_ (by first | exact K.size | (simp <;> omega)) _)

set_option maxRecDepth 100000 in
set_option maxHeartbeats 2000000 in
theorem refArc_ne {lo hi m dx dy X Y C M R x' y' r' e' : Int} {b1 b2 : Bool} (hne : ¬ lo = hi) (hR : R = 2 + C) (HL : Hid (∀ w, Calls Try.prog 31 #[.int .i64 lo, .int .i64 (-1099511627776), .int .i64 1099511627776] w fun e w' => e = .returned (.bool true) ∧ w = w')) (HH : Hid (∀ w, Calls Try.prog 31 #[.int .i64 hi, .int .i64 (-1099511627776), .int .i64 1099511627776] w fun e w' => e = .returned (.bool true) ∧ w = w')) (h : lo ≤ hi) (l1 : -1099511627776 ≤ lo) (l2 : hi ≤ 1099511627776) (hm : (lo + hi) / 2 = m)
    (m1 : lo ≤ m) (m2 : m ≤ hi) (px : Sm 67108864 dx) (py : Sm 67108864 dy) (hk : 0 ≤ C ∧ C ≤ 9000000000000)
    (HF : Hid (∀ w, Calls Try.prog 64 #[.int .i64 (lo + hi), .int .i64 2] w fun e w' => e = .returned (.int .i64 m) ∧ w = w'))
    (HD : Hid (∀ w, Calls Try.prog 127 #[.int .i64 m] w (Mem (.agg #[.int .i64 dx, .int .i64 dy]) w)))
    (H1 : Hid (∀ w, Calls Try.prog 101 #[.int .i64 dx, .int .i64 64] w (fun e w' => e = .returned (.tuple #[.int .i64 X, .bool b1]) ∧ w = w')))
    (H2 : Hid (∀ w, Calls Try.prog 101 #[.int .i64 dy, .int .i64 64] w (fun e w' => e = .returned (.tuple #[.int .i64 Y, .bool b2]) ∧ w = w')))
    (HC : Hid (∀ w, Calls Try.prog 102 #[.int .i64 (11 * (hi - m)), .int .i64 7] w fun e w' => e = .returned (.int .i64 C) ∧ w = w'))
    (HM : Hid (∀ w, Calls Try.prog 96 #[.int .i64 m, .int .i64 1048576] w fun e w' => e = .returned (.int .i64 M) ∧ w = w'))
    (HK : Hid (∀ w, Calls Try.prog 80 #[.agg #[.int .i64 X, .int .i64 Y, .int .i64 R]] w (Mem (.tuple #[.agg #[.int .i64 x', .int .i64 y', .int .i64 r'], .int .i64 e']) w))) (w : World) :
    Calls Try.prog 61 #[.agg #[.int .i64 lo, .int .i64 hi]] w (Mem (refV x' y' r' e') w) := by
  unfold refV
  have h' : decide (hi < lo) = false := by simp; omega
  have v1 : IntKind.i64.wrap (lo + hi) = lo + hi := IntWalk.i64_in _ (by omega)
  have v2 : IntKind.i64.wrap (hi - m) = hi - m := IntWalk.i64_in _ (by omega)
  have v3 : IntKind.i64.wrap (11 * (hi - m)) = 11 * (hi - m) := IntWalk.i64_in _ (by omega)
  have v4 : IntKind.i64.wrap (2 + C) = 2 + C := IntWalk.i64_in _ (by omega)
  subst hR
  have n1 : (lo == hi) = false := by simpa using hne
  go_enter Try.func61, Try.ntmps61
  go_wp2_with fail
  have K := ((Hold.start w).new #[.int .i64 lo, .int .i64 hi] 23 (n := w.heap.size) (by simp)).new #[.int .i64 0, .int .i64 0, .int .i64 0] 33 (n := w.heap.size + 1) (by simp)
  refine (HL.out _).mono ?_
  rintro e_1 w_1 ⟨rfl, rfl⟩
  obtain ⟨_, sz1, h0, h1, _⟩ := id K
  have q0 := h0.cell; have f0 := h0.frozen; have z1_0 := h0.lt
  have q1 := h1.cell; have f1 := h1.frozen; have z1_1 := h1.lt
  clear h0 h1
  go_wp2_with fail
  refine (HH.out _).mono ?_
  rintro e_2 w_2 ⟨rfl, rfl⟩
  clear q0 f0 q1 f1
  obtain ⟨_, sz2, h0, h1, _⟩ := id K
  have q0 := h0.cell; have f0 := h0.frozen; have z2_0 := h0.lt
  have q1 := h1.cell; have f1 := h1.frozen; have z2_1 := h1.lt
  clear h0 h1
  go_wp2_with fail
  refine (HF.out _).mono ?_
  rintro e_3 w_3 ⟨rfl, rfl⟩
  clear q0 f0 q1 f1
  obtain ⟨_, sz3, h0, h1, _⟩ := id K
  have q0 := h0.cell; have f0 := h0.frozen; have z3_0 := h0.lt
  have q1 := h1.cell; have f1 := h1.frozen; have z3_1 := h1.lt
  clear h0 h1
  go_wp2_with fail
  refine (HD.out _).mono ?_
  rintro e_4 w4 ⟨rfl, hb⟩
  have K' := Hold.mem (K) hb
  clear hb K
  have K := K'
  clear K'
  clear q0 f0 q1 f1
  obtain ⟨_, sz4, h0, h1, _⟩ := id K
  have q0 := h0.cell; have f0 := h0.frozen; have z4_0 := h0.lt
  have q1 := h1.cell; have f1 := h1.frozen; have z4_1 := h1.lt
  clear h0 h1
  go_wp2_with fail
  have K' := (K).new #[.int .i64 dx, .int .i64 dy] 58 (n := w4.heap.size) (by first | rfl | (simp <;> omega))
  clear K
  have K := K'
  clear K'
  refine (H1.out _).mono ?_
  rintro e_5 w_5 ⟨rfl, rfl⟩
  clear q0 f0 q1 f1
  obtain ⟨_, sz5, h0, h1, h2, _⟩ := id K
  have q0 := h0.cell; have f0 := h0.frozen; have z5_0 := h0.lt
  have q1 := h1.cell; have f1 := h1.frozen; have z5_1 := h1.lt
  have q2 := h2.cell; have f2 := h2.frozen; have z5_2 := h2.lt
  clear h0 h1 h2
  go_wp2_with fail
  refine (H2.out _).mono ?_
  rintro e_6 w_6 ⟨rfl, rfl⟩
  clear q0 f0 q1 f1 q2 f2
  obtain ⟨_, sz6, h0, h1, h2, _⟩ := id K
  have q0 := h0.cell; have f0 := h0.frozen; have z6_0 := h0.lt
  have q1 := h1.cell; have f1 := h1.frozen; have z6_1 := h1.lt
  have q2 := h2.cell; have f2 := h2.frozen; have z6_2 := h2.lt
  clear h0 h1 h2
  go_wp2_with fail
  refine (HC.out _).mono ?_
  rintro e_7 w_7 ⟨rfl, rfl⟩
  clear q0 f0 q1 f1 q2 f2
  obtain ⟨_, sz7, h0, h1, h2, _⟩ := id K
  have q0 := h0.cell; have f0 := h0.frozen; have z7_0 := h0.lt
  have q1 := h1.cell; have f1 := h1.frozen; have z7_1 := h1.lt
  have q2 := h2.cell; have f2 := h2.frozen; have z7_2 := h2.lt
  clear h0 h1 h2
  go_wp2_with fail
  have KK := K
  refine (HK.out _).mono ?_
  rintro e_8 w8 ⟨rfl, hb⟩
  have K' := Hold.mem ((K).new #[.int .i64 X, .int .i64 Y, .int .i64 (2 + C)] 33 (n := w4.heap.size + 1) (by first | rfl | (simp <;> omega))) hb
  clear hb K
  have K := K'
  clear K'
  clear q0 f0 q1 f1 q2 f2
  obtain ⟨_, sz8, h0, h1, h2, h3, _⟩ := id K
  have q0 := h0.cell; have f0 := h0.frozen; have z8_0 := h0.lt
  have q1 := h1.cell; have f1 := h1.frozen; have z8_1 := h1.lt
  have q2 := h2.cell; have f2 := h2.frozen; have z8_2 := h2.lt
  have q3 := h3.cell; have f3 := h3.frozen; have z8_3 := h3.lt
  clear h0 h1 h2 h3
  go_wp2_with fail
  refine bodyPost_ret (v := .tuple #[.agg #[.int .i64 x', .int .i64 y', .int .i64 r'], .int .i64 e']) (by simp [results, Try.results61, go_sem, *]) rfl ⟨rfl, ?_⟩
  repeat (first | exact K.below | refine Below.setCell ?_ (by simp <;> omega) _ | refine Below.alloc ?_ (by first | exact K.size | (simp <;> omega)) _)

set_option maxRecDepth 100000 in
set_option maxHeartbeats 2000000 in
theorem refArc_eq {lo hi m dx dy X Y C M R x' y' r' e' : Int} {b1 b2 : Bool} (hne : lo = hi) (hM : ¬ M = 0) (hR : R = 2 + C) (HL : Hid (∀ w, Calls Try.prog 31 #[.int .i64 lo, .int .i64 (-1099511627776), .int .i64 1099511627776] w fun e w' => e = .returned (.bool true) ∧ w = w')) (HH : Hid (∀ w, Calls Try.prog 31 #[.int .i64 hi, .int .i64 (-1099511627776), .int .i64 1099511627776] w fun e w' => e = .returned (.bool true) ∧ w = w')) (h : lo ≤ hi) (l1 : -1099511627776 ≤ lo) (l2 : hi ≤ 1099511627776) (hm : (lo + hi) / 2 = m)
    (m1 : lo ≤ m) (m2 : m ≤ hi) (px : Sm 67108864 dx) (py : Sm 67108864 dy) (hk : 0 ≤ C ∧ C ≤ 9000000000000)
    (HF : Hid (∀ w, Calls Try.prog 64 #[.int .i64 (lo + hi), .int .i64 2] w fun e w' => e = .returned (.int .i64 m) ∧ w = w'))
    (HD : Hid (∀ w, Calls Try.prog 127 #[.int .i64 m] w (Mem (.agg #[.int .i64 dx, .int .i64 dy]) w)))
    (H1 : Hid (∀ w, Calls Try.prog 101 #[.int .i64 dx, .int .i64 64] w (fun e w' => e = .returned (.tuple #[.int .i64 X, .bool b1]) ∧ w = w')))
    (H2 : Hid (∀ w, Calls Try.prog 101 #[.int .i64 dy, .int .i64 64] w (fun e w' => e = .returned (.tuple #[.int .i64 Y, .bool b2]) ∧ w = w')))
    (HC : Hid (∀ w, Calls Try.prog 102 #[.int .i64 (11 * (hi - m)), .int .i64 7] w fun e w' => e = .returned (.int .i64 C) ∧ w = w'))
    (HM : Hid (∀ w, Calls Try.prog 96 #[.int .i64 m, .int .i64 1048576] w fun e w' => e = .returned (.int .i64 M) ∧ w = w'))
    (HK : Hid (∀ w, Calls Try.prog 80 #[.agg #[.int .i64 X, .int .i64 Y, .int .i64 R]] w (Mem (.tuple #[.agg #[.int .i64 x', .int .i64 y', .int .i64 r'], .int .i64 e']) w))) (w : World) :
    Calls Try.prog 61 #[.agg #[.int .i64 lo, .int .i64 hi]] w (Mem (refV x' y' r' e') w) := by
  unfold refV
  have h' : decide (hi < lo) = false := by simp; omega
  have v1 : IntKind.i64.wrap (lo + hi) = lo + hi := IntWalk.i64_in _ (by omega)
  have v2 : IntKind.i64.wrap (hi - m) = hi - m := IntWalk.i64_in _ (by omega)
  have v3 : IntKind.i64.wrap (11 * (hi - m)) = 11 * (hi - m) := IntWalk.i64_in _ (by omega)
  have v4 : IntKind.i64.wrap (2 + C) = 2 + C := IntWalk.i64_in _ (by omega)
  subst hR
  have n1 : (lo == hi) = true := by simpa using hne
  have n2 : (M == 0) = false := by simpa using hM
  clear hne
  go_enter Try.func61, Try.ntmps61
  go_wp2_with fail
  have K := ((Hold.start w).new #[.int .i64 lo, .int .i64 hi] 23 (n := w.heap.size) (by simp)).new #[.int .i64 0, .int .i64 0, .int .i64 0] 33 (n := w.heap.size + 1) (by simp)
  refine (HL.out _).mono ?_
  rintro e_1 w_1 ⟨rfl, rfl⟩
  obtain ⟨_, sz1, h0, h1, _⟩ := id K
  have q0 := h0.cell; have f0 := h0.frozen; have z1_0 := h0.lt
  have q1 := h1.cell; have f1 := h1.frozen; have z1_1 := h1.lt
  clear h0 h1
  go_wp2_with fail
  refine (HH.out _).mono ?_
  rintro e_2 w_2 ⟨rfl, rfl⟩
  clear q0 f0 q1 f1
  obtain ⟨_, sz2, h0, h1, _⟩ := id K
  have q0 := h0.cell; have f0 := h0.frozen; have z2_0 := h0.lt
  have q1 := h1.cell; have f1 := h1.frozen; have z2_1 := h1.lt
  clear h0 h1
  go_wp2_with fail
  refine (HF.out _).mono ?_
  rintro e_3 w_3 ⟨rfl, rfl⟩
  clear q0 f0 q1 f1
  obtain ⟨_, sz3, h0, h1, _⟩ := id K
  have q0 := h0.cell; have f0 := h0.frozen; have z3_0 := h0.lt
  have q1 := h1.cell; have f1 := h1.frozen; have z3_1 := h1.lt
  clear h0 h1
  go_wp2_with fail
  refine (HD.out _).mono ?_
  rintro e_4 w4 ⟨rfl, hb⟩
  have K' := Hold.mem (K) hb
  clear hb K
  have K := K'
  clear K'
  clear q0 f0 q1 f1
  obtain ⟨_, sz4, h0, h1, _⟩ := id K
  have q0 := h0.cell; have f0 := h0.frozen; have z4_0 := h0.lt
  have q1 := h1.cell; have f1 := h1.frozen; have z4_1 := h1.lt
  clear h0 h1
  go_wp2_with fail
  have K' := (K).new #[.int .i64 dx, .int .i64 dy] 58 (n := w4.heap.size) (by first | rfl | (simp <;> omega))
  clear K
  have K := K'
  clear K'
  refine (H1.out _).mono ?_
  rintro e_5 w_5 ⟨rfl, rfl⟩
  clear q0 f0 q1 f1
  obtain ⟨_, sz5, h0, h1, h2, _⟩ := id K
  have q0 := h0.cell; have f0 := h0.frozen; have z5_0 := h0.lt
  have q1 := h1.cell; have f1 := h1.frozen; have z5_1 := h1.lt
  have q2 := h2.cell; have f2 := h2.frozen; have z5_2 := h2.lt
  clear h0 h1 h2
  go_wp2_with fail
  refine (H2.out _).mono ?_
  rintro e_6 w_6 ⟨rfl, rfl⟩
  clear q0 f0 q1 f1 q2 f2
  obtain ⟨_, sz6, h0, h1, h2, _⟩ := id K
  have q0 := h0.cell; have f0 := h0.frozen; have z6_0 := h0.lt
  have q1 := h1.cell; have f1 := h1.frozen; have z6_1 := h1.lt
  have q2 := h2.cell; have f2 := h2.frozen; have z6_2 := h2.lt
  clear h0 h1 h2
  go_wp2_with fail
  refine (HC.out _).mono ?_
  rintro e_7 w_7 ⟨rfl, rfl⟩
  clear q0 f0 q1 f1 q2 f2
  obtain ⟨_, sz7, h0, h1, h2, _⟩ := id K
  have q0 := h0.cell; have f0 := h0.frozen; have z7_0 := h0.lt
  have q1 := h1.cell; have f1 := h1.frozen; have z7_1 := h1.lt
  have q2 := h2.cell; have f2 := h2.frozen; have z7_2 := h2.lt
  clear h0 h1 h2
  go_wp2_with fail
  have KK := K
  have K' := (K).new #[.int .i64 X, .int .i64 Y, .int .i64 (2 + C)] 33 (n := w4.heap.size + 1) (by first | rfl | (simp <;> omega))
  clear K
  have K := K'
  clear K'
  refine (HM.out _).mono ?_
  rintro e_8 w_8 ⟨rfl, rfl⟩
  clear q0 f0 q1 f1 q2 f2
  obtain ⟨_, sz8, h0, h1, h2, h3, _⟩ := id K
  have q0 := h0.cell; have f0 := h0.frozen; have z8_0 := h0.lt
  have q1 := h1.cell; have f1 := h1.frozen; have z8_1 := h1.lt
  have q2 := h2.cell; have f2 := h2.frozen; have z8_2 := h2.lt
  have q3 := h3.cell; have f3 := h3.frozen; have z8_3 := h3.lt
  clear h0 h1 h2 h3
  go_wp2_with fail
  refine (HK.out _).mono ?_
  rintro e_9 w9 ⟨rfl, hb⟩
  have K' := Hold.mem (K) hb
  clear hb K
  have K := K'
  clear K'
  clear q0 f0 q1 f1 q2 f2 q3 f3
  obtain ⟨_, sz9, h0, h1, h2, h3, _⟩ := id K
  have q0 := h0.cell; have f0 := h0.frozen; have z9_0 := h0.lt
  have q1 := h1.cell; have f1 := h1.frozen; have z9_1 := h1.lt
  have q2 := h2.cell; have f2 := h2.frozen; have z9_2 := h2.lt
  have q3 := h3.cell; have f3 := h3.frozen; have z9_3 := h3.lt
  clear h0 h1 h2 h3
  go_wp2_with fail
  refine bodyPost_ret (v := .tuple #[.agg #[.int .i64 x', .int .i64 y', .int .i64 r'], .int .i64 e']) (by simp [results, Try.results61, go_sem, *]) rfl ⟨rfl, ?_⟩
  repeat (first | exact K.below | refine Below.setCell ?_ (by simp <;> omega) _ | refine Below.alloc ?_ (by first | exact K.size | (simp <;> omega)) _)

set_option maxRecDepth 100000 in
set_option maxHeartbeats 2000000 in
theorem refArc_eq0 {lo hi m dx dy X Y C M R x' y' r' e' : Int} {b1 b2 : Bool} (hne : lo = hi) (hM : M = 0) (hR : R = 0) (HL : Hid (∀ w, Calls Try.prog 31 #[.int .i64 lo, .int .i64 (-1099511627776), .int .i64 1099511627776] w fun e w' => e = .returned (.bool true) ∧ w = w')) (HH : Hid (∀ w, Calls Try.prog 31 #[.int .i64 hi, .int .i64 (-1099511627776), .int .i64 1099511627776] w fun e w' => e = .returned (.bool true) ∧ w = w')) (h : lo ≤ hi) (l1 : -1099511627776 ≤ lo) (l2 : hi ≤ 1099511627776) (hm : (lo + hi) / 2 = m)
    (m1 : lo ≤ m) (m2 : m ≤ hi) (px : Sm 67108864 dx) (py : Sm 67108864 dy) (hk : 0 ≤ C ∧ C ≤ 9000000000000)
    (HF : Hid (∀ w, Calls Try.prog 64 #[.int .i64 (lo + hi), .int .i64 2] w fun e w' => e = .returned (.int .i64 m) ∧ w = w'))
    (HD : Hid (∀ w, Calls Try.prog 127 #[.int .i64 m] w (Mem (.agg #[.int .i64 dx, .int .i64 dy]) w)))
    (H1 : Hid (∀ w, Calls Try.prog 101 #[.int .i64 dx, .int .i64 64] w (fun e w' => e = .returned (.tuple #[.int .i64 X, .bool b1]) ∧ w = w')))
    (H2 : Hid (∀ w, Calls Try.prog 101 #[.int .i64 dy, .int .i64 64] w (fun e w' => e = .returned (.tuple #[.int .i64 Y, .bool b2]) ∧ w = w')))
    (HC : Hid (∀ w, Calls Try.prog 102 #[.int .i64 (11 * (hi - m)), .int .i64 7] w fun e w' => e = .returned (.int .i64 C) ∧ w = w'))
    (HM : Hid (∀ w, Calls Try.prog 96 #[.int .i64 m, .int .i64 1048576] w fun e w' => e = .returned (.int .i64 M) ∧ w = w'))
    (HK : Hid (∀ w, Calls Try.prog 80 #[.agg #[.int .i64 X, .int .i64 Y, .int .i64 R]] w (Mem (.tuple #[.agg #[.int .i64 x', .int .i64 y', .int .i64 r'], .int .i64 e']) w))) (w : World) :
    Calls Try.prog 61 #[.agg #[.int .i64 lo, .int .i64 hi]] w (Mem (refV x' y' r' e') w) := by
  unfold refV
  have h' : decide (hi < lo) = false := by simp; omega
  have v1 : IntKind.i64.wrap (lo + hi) = lo + hi := IntWalk.i64_in _ (by omega)
  have v2 : IntKind.i64.wrap (hi - m) = hi - m := IntWalk.i64_in _ (by omega)
  have v3 : IntKind.i64.wrap (11 * (hi - m)) = 11 * (hi - m) := IntWalk.i64_in _ (by omega)
  have v4 : IntKind.i64.wrap (2 + C) = 2 + C := IntWalk.i64_in _ (by omega)
  subst hR
  have n1 : (lo == hi) = true := by simpa using hne
  have n2 : (M == 0) = true := by simpa using hM
  clear hne
  go_enter Try.func61, Try.ntmps61
  go_wp2_with fail
  have K := ((Hold.start w).new #[.int .i64 lo, .int .i64 hi] 23 (n := w.heap.size) (by simp)).new #[.int .i64 0, .int .i64 0, .int .i64 0] 33 (n := w.heap.size + 1) (by simp)
  refine (HL.out _).mono ?_
  rintro e_1 w_1 ⟨rfl, rfl⟩
  obtain ⟨_, sz1, h0, h1, _⟩ := id K
  have q0 := h0.cell; have f0 := h0.frozen; have z1_0 := h0.lt
  have q1 := h1.cell; have f1 := h1.frozen; have z1_1 := h1.lt
  clear h0 h1
  go_wp2_with fail
  refine (HH.out _).mono ?_
  rintro e_2 w_2 ⟨rfl, rfl⟩
  clear q0 f0 q1 f1
  obtain ⟨_, sz2, h0, h1, _⟩ := id K
  have q0 := h0.cell; have f0 := h0.frozen; have z2_0 := h0.lt
  have q1 := h1.cell; have f1 := h1.frozen; have z2_1 := h1.lt
  clear h0 h1
  go_wp2_with fail
  refine (HF.out _).mono ?_
  rintro e_3 w_3 ⟨rfl, rfl⟩
  clear q0 f0 q1 f1
  obtain ⟨_, sz3, h0, h1, _⟩ := id K
  have q0 := h0.cell; have f0 := h0.frozen; have z3_0 := h0.lt
  have q1 := h1.cell; have f1 := h1.frozen; have z3_1 := h1.lt
  clear h0 h1
  go_wp2_with fail
  refine (HD.out _).mono ?_
  rintro e_4 w4 ⟨rfl, hb⟩
  have K' := Hold.mem (K) hb
  clear hb K
  have K := K'
  clear K'
  clear q0 f0 q1 f1
  obtain ⟨_, sz4, h0, h1, _⟩ := id K
  have q0 := h0.cell; have f0 := h0.frozen; have z4_0 := h0.lt
  have q1 := h1.cell; have f1 := h1.frozen; have z4_1 := h1.lt
  clear h0 h1
  go_wp2_with fail
  have K' := (K).new #[.int .i64 dx, .int .i64 dy] 58 (n := w4.heap.size) (by first | rfl | (simp <;> omega))
  clear K
  have K := K'
  clear K'
  refine (H1.out _).mono ?_
  rintro e_5 w_5 ⟨rfl, rfl⟩
  clear q0 f0 q1 f1
  obtain ⟨_, sz5, h0, h1, h2, _⟩ := id K
  have q0 := h0.cell; have f0 := h0.frozen; have z5_0 := h0.lt
  have q1 := h1.cell; have f1 := h1.frozen; have z5_1 := h1.lt
  have q2 := h2.cell; have f2 := h2.frozen; have z5_2 := h2.lt
  clear h0 h1 h2
  go_wp2_with fail
  refine (H2.out _).mono ?_
  rintro e_6 w_6 ⟨rfl, rfl⟩
  clear q0 f0 q1 f1 q2 f2
  obtain ⟨_, sz6, h0, h1, h2, _⟩ := id K
  have q0 := h0.cell; have f0 := h0.frozen; have z6_0 := h0.lt
  have q1 := h1.cell; have f1 := h1.frozen; have z6_1 := h1.lt
  have q2 := h2.cell; have f2 := h2.frozen; have z6_2 := h2.lt
  clear h0 h1 h2
  go_wp2_with fail
  refine (HC.out _).mono ?_
  rintro e_7 w_7 ⟨rfl, rfl⟩
  clear q0 f0 q1 f1 q2 f2
  obtain ⟨_, sz7, h0, h1, h2, _⟩ := id K
  have q0 := h0.cell; have f0 := h0.frozen; have z7_0 := h0.lt
  have q1 := h1.cell; have f1 := h1.frozen; have z7_1 := h1.lt
  have q2 := h2.cell; have f2 := h2.frozen; have z7_2 := h2.lt
  clear h0 h1 h2
  go_wp2_with fail
  have KK := K
  have K' := (K).new #[.int .i64 X, .int .i64 Y, .int .i64 (2 + C)] 33 (n := w4.heap.size + 1) (by first | rfl | (simp <;> omega))
  clear K
  have K := K'
  clear K'
  refine (HM.out _).mono ?_
  rintro e_8 w_8 ⟨rfl, rfl⟩
  clear q0 f0 q1 f1 q2 f2
  obtain ⟨_, sz8, h0, h1, h2, h3, _⟩ := id K
  have q0 := h0.cell; have f0 := h0.frozen; have z8_0 := h0.lt
  have q1 := h1.cell; have f1 := h1.frozen; have z8_1 := h1.lt
  have q2 := h2.cell; have f2 := h2.frozen; have z8_2 := h2.lt
  have q3 := h3.cell; have f3 := h3.frozen; have z8_3 := h3.lt
  clear h0 h1 h2 h3
  go_wp2_with fail
  clear K
  have K := KK
  refine (HK.out _).mono ?_
  rintro e_9 w9 ⟨rfl, hb⟩
  have K' := Hold.mem ((K).new #[.int .i64 X, .int .i64 Y, .int .i64 0] 33 (n := w4.heap.size + 1) (by first | rfl | (simp <;> omega))) hb
  clear hb K
  have K := K'
  clear K'
  clear q0 f0 q1 f1 q2 f2 q3 f3
  obtain ⟨_, sz9, h0, h1, h2, h3, _⟩ := id K
  have q0 := h0.cell; have f0 := h0.frozen; have z9_0 := h0.lt
  have q1 := h1.cell; have f1 := h1.frozen; have z9_1 := h1.lt
  have q2 := h2.cell; have f2 := h2.frozen; have z9_2 := h2.lt
  have q3 := h3.cell; have f3 := h3.frozen; have z9_3 := h3.lt
  clear h0 h1 h2 h3
  go_wp2_with fail
  refine bodyPost_ret (v := .tuple #[.agg #[.int .i64 x', .int .i64 y', .int .i64 r'], .int .i64 e']) (by simp [results, Try.results61, go_sem, *]) rfl ⟨rfl, ?_⟩
  repeat (first | exact K.below | refine Below.setCell ?_ (by simp <;> omega) _ | refine Below.alloc ?_ (by first | exact K.size | (simp <;> omega)) _)

end Go.Proofs.Ythodhenhmjgodaa
