/- The reference's unit numbers. -/
import Derived.Test.YthodhenhmjgodaaRarb
import Derived.Test.YthodhenhmjgodaaUnit
namespace Go.Proofs.Ythodhenhmjgodaa
open Go.RowKit Go.Lib
attribute [local go_sem] run_store_float run_store_complex
set_option linter.unusedVariables false

set_option maxRecDepth 100000 in
set_option maxHeartbeats 2000000 in
theorem arcOf_walk {n d lo hi q x y r e : Int} (n1 : -1000000000 ≤ n) (n2 : n ≤ 1000000000) (l1 : -9000000000000000 ≤ lo) (l2 : lo ≤ 9000000000000000) (g1 : -9000000000000000 ≤ hi) (g2 : hi ≤ 9000000000000000)
    (q1 : q * 4194304 ≤ lo) (q2 : lo ≤ q * 4194304 + 4194304)
    (HF : Hid (∀ w, Calls Try.prog 64 #[.int .i64 (n * 4194304), .int .i64 d] w fun e w' => e = .returned (.int .i64 lo) ∧ w = w'))
    (HC : Hid (∀ w, Calls Try.prog 102 #[.int .i64 (n * 4194304), .int .i64 d] w fun e w' => e = .returned (.int .i64 hi) ∧ w = w'))
    (HW : Hid (∀ w, Calls Try.prog 64 #[.int .i64 lo, .int .i64 4194304] w fun e w' => e = .returned (.int .i64 q) ∧ w = w'))
    (HA : Hid (∀ w, Calls Try.prog 61 #[.agg #[.int .i64 (lo - q * 4194304), .int .i64 (hi - q * 4194304)]] w (Mem (refV x y r e) w))) (w : World) :
    Calls Try.prog 128 #[.int .i64 n, .int .i64 d] w (Mem (refV x y r e) w) := by
  unfold refV at *
  have v1 : IntKind.i64.wrap (n * 4194304) = n * 4194304 := IntWalk.i64_in _ (by omega)
  have v2 : IntKind.i64.wrap (q * 4194304) = q * 4194304 := IntWalk.i64_in _ (by omega)
  have v3 : IntKind.i64.wrap (lo - q * 4194304) = lo - q * 4194304 := IntWalk.i64_in _ (by omega)
  have v4 : IntKind.i64.wrap (hi - q * 4194304) = hi - q * 4194304 := IntWalk.i64_in _ (by omega)
  go_enter Try.func128, Try.ntmps128
  go_wp2_with fail
  have K := (Hold.start w).new #[.int .i64 0, .int .i64 0, .int .i64 0] 33 (n := w.heap.size) (by simp)
  refine (HF.out _).mono ?_
  rintro e_1 w_1 ⟨rfl, rfl⟩
  obtain ⟨_, sz1, h0, _⟩ := id K
  have q0 := h0.cell; have f0 := h0.frozen; have z1_0 := h0.lt
  clear h0
  go_wp2_with fail
  refine (HC.out _).mono ?_
  rintro e_2 w_2 ⟨rfl, rfl⟩
  clear q0 f0
  obtain ⟨_, sz2, h0, _⟩ := id K
  have q0 := h0.cell; have f0 := h0.frozen; have z2_0 := h0.lt
  clear h0
  go_wp2_with fail
  have K' := (K).new #[.int .i64 lo, .int .i64 hi] 23 (n := w.heap.size + 1) (by first | rfl | (simp <;> omega))
  clear K
  have K := K'
  clear K'
  refine (HW.out _).mono ?_
  rintro e_3 w_3 ⟨rfl, rfl⟩
  clear q0 f0
  obtain ⟨_, sz3, h0, h1, _⟩ := id K
  have q0 := h0.cell; have f0 := h0.frozen; have z3_0 := h0.lt
  have q1 := h1.cell; have f1 := h1.frozen; have z3_1 := h1.lt
  clear h0 h1
  go_wp2_with fail
  refine (HA.out _).mono ?_
  rintro e_4 w4 ⟨rfl, hb⟩
  have K' := Hold.mem (K) hb
  clear hb K
  have K := K'
  clear K'
  clear q0 f0 q1 f1
  obtain ⟨_, sz4, h0, h1, _⟩ := id K
  have q0 := h0.cell; have f0 := h0.frozen; have z4_0 := h0.lt
  have q1 := h1.cell; have f1 := h1.frozen; have z4_1 := h1.lt
  clear h0 h1
  go_wp2_with fail
  refine bodyPost_ret (v := .tuple #[.agg #[.int .i64 x, .int .i64 y, .int .i64 r], .int .i64 e]) (by simp [results, Try.results128, go_sem, *]) rfl ⟨rfl, ?_⟩
  repeat (first | exact K.below | refine Below.setCell ?_ (by simp <;> omega) _ | refine Below.alloc ?_ (by first | exact K.size | (simp <;> omega)) _)

set_option maxRecDepth 100000 in
set_option maxHeartbeats 2000000 in
theorem rUnit_bad1 {n d : Int} (H0 : Hid (∀ w, Calls Try.prog 31 #[.int .i64 n, .int .i64 (-1000000000), .int .i64 1000000000] w fun e w' => e = .returned (.bool false) ∧ w = w'))
    (w : World) :
    Calls Try.prog 62 #[.int .i64 n, .int .i64 d] w (Mem (refV 0 0 0 2) w) := by
  unfold refV at *
  go_enter Try.func62, Try.ntmps62
  go_wp2_with fail
  have K := (Hold.start w).new #[.int .i64 0, .int .i64 0, .int .i64 0] 33 (n := w.heap.size) (by simp)
  refine (H0.out _).mono ?_
  rintro e_1 w_1 ⟨rfl, rfl⟩
  obtain ⟨_, sz1, h0, _⟩ := id K
  have q0 := h0.cell; have f0 := h0.frozen; have z1_0 := h0.lt
  clear h0
  go_wp2_with fail
  refine bodyPost_ret (v := .tuple #[.agg #[.int .i64 0, .int .i64 0, .int .i64 0], .int .i64 2]) (by simp [results, Try.results62, go_sem, *]) rfl ⟨rfl, ?_⟩
  repeat (first | exact K.below | refine Below.setCell ?_ (by simp <;> omega) _ | refine Below.alloc ?_ (by first | exact K.size | (simp <;> omega)) _)

set_option maxRecDepth 100000 in
set_option maxHeartbeats 2000000 in
theorem rUnit_bad2 {n d : Int} (H0 : Hid (∀ w, Calls Try.prog 31 #[.int .i64 n, .int .i64 (-1000000000), .int .i64 1000000000] w fun e w' => e = .returned (.bool true) ∧ w = w')) (H1 : Hid (∀ w, Calls Try.prog 31 #[.int .i64 d, .int .i64 (1), .int .i64 1000000000] w fun e w' => e = .returned (.bool false) ∧ w = w'))
    (w : World) :
    Calls Try.prog 62 #[.int .i64 n, .int .i64 d] w (Mem (refV 0 0 0 2) w) := by
  unfold refV at *
  go_enter Try.func62, Try.ntmps62
  go_wp2_with fail
  have K := (Hold.start w).new #[.int .i64 0, .int .i64 0, .int .i64 0] 33 (n := w.heap.size) (by simp)
  refine (H0.out _).mono ?_
  rintro e_1 w_1 ⟨rfl, rfl⟩
  obtain ⟨_, sz1, h0, _⟩ := id K
  have q0 := h0.cell; have f0 := h0.frozen; have z1_0 := h0.lt
  clear h0
  go_wp2_with fail
  refine (H1.out _).mono ?_
  rintro e_2 w_2 ⟨rfl, rfl⟩
  clear q0 f0
  obtain ⟨_, sz2, h0, _⟩ := id K
  have q0 := h0.cell; have f0 := h0.frozen; have z2_0 := h0.lt
  clear h0
  go_wp2_with fail
  refine bodyPost_ret (v := .tuple #[.agg #[.int .i64 0, .int .i64 0, .int .i64 0], .int .i64 2]) (by simp [results, Try.results62, go_sem, *]) rfl ⟨rfl, ?_⟩
  repeat (first | exact K.below | refine Below.setCell ?_ (by simp <;> omega) _ | refine Below.alloc ?_ (by first | exact K.size | (simp <;> omega)) _)

set_option maxRecDepth 100000 in
set_option maxHeartbeats 2000000 in
theorem rUnit_ok {n d x y r e : Int} (H0 : Hid (∀ w, Calls Try.prog 31 #[.int .i64 n, .int .i64 (-1000000000), .int .i64 1000000000] w fun e w' => e = .returned (.bool true) ∧ w = w')) (H1 : Hid (∀ w, Calls Try.prog 31 #[.int .i64 d, .int .i64 (1), .int .i64 1000000000] w fun e w' => e = .returned (.bool true) ∧ w = w'))
    (HA : Hid (∀ w, Calls Try.prog 128 #[.int .i64 n, .int .i64 d] w (Mem (refV x y r e) w))) (w : World) :
    Calls Try.prog 62 #[.int .i64 n, .int .i64 d] w (Mem (refV x y r e) w) := by
  unfold refV at *
  go_enter Try.func62, Try.ntmps62
  go_wp2_with fail
  have K := (Hold.start w).new #[.int .i64 0, .int .i64 0, .int .i64 0] 33 (n := w.heap.size) (by simp)
  refine (H0.out _).mono ?_
  rintro e_1 w_1 ⟨rfl, rfl⟩
  obtain ⟨_, sz1, h0, _⟩ := id K
  have q0 := h0.cell; have f0 := h0.frozen; have z1_0 := h0.lt
  clear h0
  go_wp2_with fail
  refine (H1.out _).mono ?_
  rintro e_2 w_2 ⟨rfl, rfl⟩
  clear q0 f0
  obtain ⟨_, sz2, h0, _⟩ := id K
  have q0 := h0.cell; have f0 := h0.frozen; have z2_0 := h0.lt
  clear h0
  go_wp2_with fail
  refine (HA.out _).mono ?_
  rintro e_3 w3 ⟨rfl, hb⟩
  have K' := Hold.mem (K) hb
  clear hb K
  have K := K'
  clear K'
  clear q0 f0
  obtain ⟨_, sz3, h0, _⟩ := id K
  have q0 := h0.cell; have f0 := h0.frozen; have z3_0 := h0.lt
  clear h0
  go_wp2_with fail
  refine bodyPost_ret (v := .tuple #[.agg #[.int .i64 x, .int .i64 y, .int .i64 r], .int .i64 e]) (by simp [results, Try.results62, go_sem, *]) rfl ⟨rfl, ?_⟩
  repeat (first | exact K.below | refine Below.setCell ?_ (by simp <;> omega) _ | refine Below.alloc ?_ (by first | exact K.size | (simp <;> omega)) _)

end Go.Proofs.Ythodhenhmjgodaa
