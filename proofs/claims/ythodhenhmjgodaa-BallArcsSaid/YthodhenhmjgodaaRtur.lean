/- The reference's turned balls. -/
import Derived.Test.YthodhenhmjgodaaTurn
import Derived.Test.YthodhenhmjgodaaWhoc
namespace Go.Proofs.Ythodhenhmjgodaa
open Go.RowKit Go.Lib
attribute [local go_sem] run_store_float run_store_complex
set_option linter.unusedVariables false

theorem Mod_any (n d : Int) (hn : -9223372036854775808 < n) (hn' : n < 9223372036854775808) (hd : 0 < d) (hd' : d < 9223372036854775808) (w : World) :
    Calls Try.prog 96 #[.int .i64 n, .int .i64 d] w fun e w' => e = .returned (.int .i64 (n % d)) ∧ w = w' := by
  have hz : ¬ d = 0 := by omega
  by_cases h0 : 0 ≤ n
  · have r0 : 0 ≤ n % d := Int.emod_nonneg _ (by omega)
    have r1 : n % d < d := Int.emod_lt_of_pos _ hd
    have hr : ¬ n % d < 0 := by omega
    go_enter Try.func96, Try.ntmps96
    go_wp2
    go_ret
    exact ⟨rfl, rfl⟩
  · obtain ⟨m, rfl⟩ : ∃ m, n = -m := ⟨-n, by omega⟩
    have r0 : 0 ≤ m % d := Int.emod_nonneg _ (by omega)
    have r1 : m % d < d := Int.emod_lt_of_pos _ hd
    have e2 : (-m).tmod d = -(m % d) := by rw [Int.neg_tmod, Int.tmod_eq_emod_of_nonneg (by omega)]
    have e2' : m.tmod d = m % d := Int.tmod_eq_emod_of_nonneg (by omega)
    by_cases hr : m % d = 0
    · have HE := Lib.hid (neg_div0 hd hr).2
      have hl : ¬ -(m % d) < 0 := by omega
      have hl2 : ¬ 0 < m % d := by omega
      have HR := Lib.hid hr
      clear hr
      go_enter Try.func96, Try.ntmps96
      go_wp2
      go_ret
      rw [HE.out]
      exact ⟨congrArg (fun z => Ending.returned (.int .i64 z)) (show -(m % d) = 0 by rw [HR.out]; rfl), rfl⟩
    · have HE := Lib.hid (neg_div1 hd hr).2
      have hl : -(m % d) < 0 := by omega
      have hl2 : 0 < m % d := by omega
      have w2 : IntKind.i64.wrap (-(m % d) + d) = -(m % d) + d := IntWalk.i64_in _ (by omega)
      clear hr
      go_enter Try.func96, Try.ntmps96
      go_wp2
      go_ret
      rw [HE.out]
      exact ⟨congrArg (fun z => Ending.returned (.int .i64 z)) (show -(m % d) + d = d - m % d by omega), rfl⟩

set_option maxHeartbeats 2000000 in
theorem refTurned_0 {x y r q : Int} (hx : Sm 67108864 x) (hy : Sm 67108864 y) (hk : q % 4 = 0) (hq : Sm 1000000000 q) (w : World) :
    Calls Try.prog 32 #[.agg #[.int .i64 x, .int .i64 y, .int .i64 r], .int .i64 q] w (Mem (.agg #[.int .i64 (x), .int .i64 (y), .int .i64 r]) w) := by
  have HM := fun w => Mod_any q 4 (by have := hq.1; omega) (by have := hq.2; omega) (by decide) (by decide) w
  rw [hk] at HM
  replace HM := Lib.hid HM
  obtain ⟨x1, x2⟩ := hx
  obtain ⟨y1, y2⟩ := hy
  clear hk hq
  go_enter Try.func32, Try.ntmps32
  go_wp2_with fail
  have K := ((Hold.start w).new #[.int .i64 x, .int .i64 y, .int .i64 r] 33 (n := w.heap.size) (by simp)).new #[.int .i64 0, .int .i64 0, .int .i64 0] 33 (n := w.heap.size + 1) (by simp)
  refine wp_loop_rounds 1 ?_
  rw [rounds_succ]
  go_wp2_with fail
  refine (HM.out _).mono ?_
  rintro e_0 w' ⟨rfl, rfl⟩
  go_wp2_with fail
  refine bodyPost_ret (v := .agg #[.int .i64 (x), .int .i64 (y), .int .i64 r]) (by simp [results, Try.results32, go_sem]) rfl ⟨rfl, ?_⟩
  repeat (first | exact Below.refl _ _ | refine Below.setCell ?_ (by simp) _ | refine Below.drew ?_ | refine Below.alloc ?_ (by first | exact Nat.le_refl _ | (simp <;> omega)) _)

set_option maxHeartbeats 2000000 in
theorem refTurned_1 {x y r q : Int} (hx : Sm 67108864 x) (hy : Sm 67108864 y) (hk : q % 4 = 1) (hq : Sm 1000000000 q) (w : World) :
    Calls Try.prog 32 #[.agg #[.int .i64 x, .int .i64 y, .int .i64 r], .int .i64 q] w (Mem (.agg #[.int .i64 (-y), .int .i64 (x), .int .i64 r]) w) := by
  have HM := fun w => Mod_any q 4 (by have := hq.1; omega) (by have := hq.2; omega) (by decide) (by decide) w
  rw [hk] at HM
  replace HM := Lib.hid HM
  obtain ⟨x1, x2⟩ := hx
  obtain ⟨y1, y2⟩ := hy
  clear hk hq
  go_enter Try.func32, Try.ntmps32
  go_wp2_with fail
  have K := ((Hold.start w).new #[.int .i64 x, .int .i64 y, .int .i64 r] 33 (n := w.heap.size) (by simp)).new #[.int .i64 0, .int .i64 0, .int .i64 0] 33 (n := w.heap.size + 1) (by simp)
  refine wp_loop_rounds 2 ?_
  rw [rounds_succ]
  go_wp2_with fail
  refine (HM.out _).mono ?_
  rintro e_0 w' ⟨rfl, rfl⟩
  go_wp2_with fail
  rw [rounds_succ]
  go_wp2_with fail
  refine (HM.out _).mono ?_
  rintro e_0 w' ⟨rfl, rfl⟩
  go_wp2_with fail
  refine bodyPost_ret (v := .agg #[.int .i64 (-y), .int .i64 (x), .int .i64 r]) (by simp [results, Try.results32, go_sem]) rfl ⟨rfl, ?_⟩
  repeat (first | exact Below.refl _ _ | refine Below.setCell ?_ (by simp) _ | refine Below.drew ?_ | refine Below.alloc ?_ (by first | exact Nat.le_refl _ | (simp <;> omega)) _)

set_option maxHeartbeats 2000000 in
theorem refTurned_2 {x y r q : Int} (hx : Sm 67108864 x) (hy : Sm 67108864 y) (hk : q % 4 = 2) (hq : Sm 1000000000 q) (w : World) :
    Calls Try.prog 32 #[.agg #[.int .i64 x, .int .i64 y, .int .i64 r], .int .i64 q] w (Mem (.agg #[.int .i64 (-x), .int .i64 (-y), .int .i64 r]) w) := by
  have HM := fun w => Mod_any q 4 (by have := hq.1; omega) (by have := hq.2; omega) (by decide) (by decide) w
  rw [hk] at HM
  replace HM := Lib.hid HM
  obtain ⟨x1, x2⟩ := hx
  obtain ⟨y1, y2⟩ := hy
  clear hk hq
  go_enter Try.func32, Try.ntmps32
  go_wp2_with fail
  have K := ((Hold.start w).new #[.int .i64 x, .int .i64 y, .int .i64 r] 33 (n := w.heap.size) (by simp)).new #[.int .i64 0, .int .i64 0, .int .i64 0] 33 (n := w.heap.size + 1) (by simp)
  refine wp_loop_rounds 3 ?_
  rw [rounds_succ]
  go_wp2_with fail
  refine (HM.out _).mono ?_
  rintro e_0 w' ⟨rfl, rfl⟩
  go_wp2_with fail
  rw [rounds_succ]
  go_wp2_with fail
  refine (HM.out _).mono ?_
  rintro e_0 w' ⟨rfl, rfl⟩
  go_wp2_with fail
  rw [rounds_succ]
  go_wp2_with fail
  refine (HM.out _).mono ?_
  rintro e_0 w' ⟨rfl, rfl⟩
  go_wp2_with fail
  refine bodyPost_ret (v := .agg #[.int .i64 (-x), .int .i64 (-y), .int .i64 r]) (by simp [results, Try.results32, go_sem]) rfl ⟨rfl, ?_⟩
  repeat (first | exact Below.refl _ _ | refine Below.setCell ?_ (by simp) _ | refine Below.drew ?_ | refine Below.alloc ?_ (by first | exact Nat.le_refl _ | (simp <;> omega)) _)

set_option maxHeartbeats 2000000 in
theorem refTurned_3 {x y r q : Int} (hx : Sm 67108864 x) (hy : Sm 67108864 y) (hk : q % 4 = 3) (hq : Sm 1000000000 q) (w : World) :
    Calls Try.prog 32 #[.agg #[.int .i64 x, .int .i64 y, .int .i64 r], .int .i64 q] w (Mem (.agg #[.int .i64 (y), .int .i64 (-x), .int .i64 r]) w) := by
  have HM := fun w => Mod_any q 4 (by have := hq.1; omega) (by have := hq.2; omega) (by decide) (by decide) w
  rw [hk] at HM
  replace HM := Lib.hid HM
  obtain ⟨x1, x2⟩ := hx
  obtain ⟨y1, y2⟩ := hy
  clear hk hq
  go_enter Try.func32, Try.ntmps32
  go_wp2_with fail
  have K := ((Hold.start w).new #[.int .i64 x, .int .i64 y, .int .i64 r] 33 (n := w.heap.size) (by simp)).new #[.int .i64 0, .int .i64 0, .int .i64 0] 33 (n := w.heap.size + 1) (by simp)
  refine wp_loop_rounds 4 ?_
  rw [rounds_succ]
  go_wp2_with fail
  refine (HM.out _).mono ?_
  rintro e_0 w' ⟨rfl, rfl⟩
  go_wp2_with fail
  rw [rounds_succ]
  go_wp2_with fail
  refine (HM.out _).mono ?_
  rintro e_0 w' ⟨rfl, rfl⟩
  go_wp2_with fail
  rw [rounds_succ]
  go_wp2_with fail
  refine (HM.out _).mono ?_
  rintro e_0 w' ⟨rfl, rfl⟩
  go_wp2_with fail
  rw [rounds_succ]
  go_wp2_with fail
  refine (HM.out _).mono ?_
  rintro e_0 w' ⟨rfl, rfl⟩
  go_wp2_with fail
  refine bodyPost_ret (v := .agg #[.int .i64 (y), .int .i64 (-x), .int .i64 r]) (by simp [results, Try.results32, go_sem]) rfl ⟨rfl, ?_⟩
  repeat (first | exact Below.refl _ _ | refine Below.setCell ?_ (by simp) _ | refine Below.drew ?_ | refine Below.alloc ?_ (by first | exact Nat.le_refl _ | (simp <;> omega)) _)

theorem refTurned_any {x y q : Int} (r : Int) (hx : Sm 67108864 x) (hy : Sm 67108864 y) (hq : Sm 1000000000 q) (w : World) :
    Calls Try.prog 32 #[.agg #[.int .i64 x, .int .i64 y, .int .i64 r], .int .i64 q] w (Mem (.agg #[.int .i64 (turnX (q % 4) x y), .int .i64 (turnY (q % 4) x y), .int .i64 r]) w) := by
  have h4 : q % 4 = 0 ∨ q % 4 = 1 ∨ q % 4 = 2 ∨ q % 4 = 3 := by omega
  rcases h4 with e | e | e | e
  · have := refTurned_0 (r := r) hx hy e hq w; rw [e]; exact this
  · have := refTurned_1 (r := r) hx hy e hq w; rw [e]; exact this
  · have := refTurned_2 (r := r) hx hy e hq w; rw [e]; exact this
  · have := refTurned_3 (r := r) hx hy e hq w; rw [e]; exact this

end Go.Proofs.Ythodhenhmjgodaa
