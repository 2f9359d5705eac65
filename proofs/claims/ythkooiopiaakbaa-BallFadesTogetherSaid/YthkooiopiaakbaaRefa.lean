/- The contracts of the small functions of the reference: Within, isPart, Checked, more, Ball, is. -/
import Derived.Test.YthkooiopiaakbaaBase
import Derived.Test.YthkooiopiaakbaaAwake
namespace Go.Proofs.Ythkooiopiaakbaa
open Go.RowKit Go.Lib
attribute [local go_sem] run_store_float run_store_complex
set_option linter.unusedVariables false

def wiB (n lo hi : Int) : Bool := decide (lo ≤ n) && decide (n ≤ hi)

set_option maxHeartbeats 400000 in
theorem Within_any (n lo hi : Int) (w : World) : Calls Try.prog 31 #[.int .i64 n, .int .i64 lo, .int .i64 hi] w (fun e w' => e = .returned (.bool (wiB n lo hi)) ∧ w = w') := by
  by_cases h1 : lo ≤ n
  · have : wiB n lo hi = decide (n ≤ hi) := by simp [wiB, h1]
    rw [this]
    by_cases h2 : n ≤ hi
    · have : decide (n ≤ hi) = true := by simpa using h2
      rw [this]
      clear this
      go_enter Try.func31, Try.ntmps31
      go_wp2_with fail
      go_ret
      exact ⟨rfl, rfl⟩
    · have : decide (n ≤ hi) = false := by simpa using h2
      rw [this]
      clear this
      go_enter Try.func31, Try.ntmps31
      go_wp2_with fail
      go_ret
      exact ⟨rfl, rfl⟩
  · have : wiB n lo hi = false := by simp [wiB, h1]
    rw [this]
    go_enter Try.func31, Try.ntmps31
    go_wp2_with fail
    go_ret
    exact ⟨rfl, rfl⟩

set_option maxHeartbeats 400000 in
theorem isPart_any (n : Int) (w : World) : Calls Try.prog 79 #[.int .i64 n] w (fun e w' => e = .returned (.bool (szB n 67108864)) ∧ w = w') := by
  have H := Lib.hid (fun w => Within_any n (-67108864) 67108864 w)
  have hz : wiB n (-67108864) 67108864 = szB n 67108864 := rfl
  rw [hz] at H
  clear hz
  generalize szB n 67108864 = z at *
  go_enter Try.func79, Try.ntmps79
  go_wp2_with fail
  refine (H.out _).mono ?_
  rintro e w' ⟨rfl, rfl⟩
  go_wp2_with fail
  go_ret
  exact ⟨rfl, rfl⟩

set_option maxHeartbeats 400000 in
theorem more_any (b : Bool) (w : World) : Calls Try.prog 82 #[.bool b] w (fun e w' => e = .returned (.int .i64 (if b then 1 else 0)) ∧ w = w') := by
  cases b
  · go_enter Try.func82, Try.ntmps82
    go_wp2_with fail
    go_ret
    exact ⟨rfl, rfl⟩
  · go_enter Try.func82, Try.ntmps82
    go_wp2_with fail
    go_ret
    exact ⟨rfl, rfl⟩

/-- A result of the reference. -/
def refV (x y r e : Int) : Value := .tuple #[.agg #[.int .i64 x, .int .i64 y, .int .i64 r], .int .i64 e]
def chkB (x y r : Int) : Bool := szB x 67108864 && (szB y 67108864 && wiB r 0 67108864)
def chkV (x y r : Int) : Value := if chkB x y r then refV x y r 0 else refV 0 0 0 8

set_option maxHeartbeats 1000000 in
theorem Checked_any (x y r : Int) (w : World) : Calls Try.prog 80 #[.agg #[.int .i64 x, .int .i64 y, .int .i64 r]] w (Mem (chkV x y r) w) := by
  have H1 := Lib.hid (fun w => isPart_any x w)
  have H2 := Lib.hid (fun w => isPart_any y w)
  have H3 := Lib.hid (fun w => Within_any r 0 67108864 w)
  have hv : Hid (chkV x y r = if (szB x 67108864 && (szB y 67108864 && wiB r 0 67108864)) = true then refV x y r 0 else refV 0 0 0 8) := rfl
  generalize chkV x y r = V at *
  generalize szB x 67108864 = b1 at *
  generalize szB y 67108864 = b2 at *
  generalize wiB r 0 67108864 = b3 at *
  cases b1
  · obtain rfl : V = refV 0 0 0 8 := hv.out
    clear hv
    unfold refV
    go_enter Try.func80, Try.ntmps80
    go_wp2_with fail
    refine (H1.out _).mono ?_
    rintro e w' ⟨rfl, rfl⟩
    go_wp2_with fail
    refine bodyPost_ret (v := .tuple #[.agg #[.int .i64 0, .int .i64 0, .int .i64 0], .int .i64 8]) (by simp [results, Try.results80, go_sem]) rfl ⟨rfl, ?_⟩
    repeat (first | exact Below.refl _ _ | refine Below.drew ?_ | refine below_drewN ?_ _ | refine Below.setCell ?_ (by simp <;> omega) _ | refine Below.alloc ?_ (by first | exact Nat.le_refl _ | (simp <;> omega)) _)
  · cases b2
    · obtain rfl : V = refV 0 0 0 8 := hv.out
      clear hv
      unfold refV
      go_enter Try.func80, Try.ntmps80
      go_wp2_with fail
      refine (H1.out _).mono ?_
      rintro e w' ⟨rfl, rfl⟩
      go_wp2_with fail
      refine (H2.out _).mono ?_
      rintro e w' ⟨rfl, rfl⟩
      go_wp2_with fail
      refine bodyPost_ret (v := .tuple #[.agg #[.int .i64 0, .int .i64 0, .int .i64 0], .int .i64 8]) (by simp [results, Try.results80, go_sem]) rfl ⟨rfl, ?_⟩
      repeat (first | exact Below.refl _ _ | refine Below.drew ?_ | refine below_drewN ?_ _ | refine Below.setCell ?_ (by simp <;> omega) _ | refine Below.alloc ?_ (by first | exact Nat.le_refl _ | (simp <;> omega)) _)
    · cases b3
      · obtain rfl : V = refV 0 0 0 8 := hv.out
        clear hv
        unfold refV
        go_enter Try.func80, Try.ntmps80
        go_wp2_with fail
        refine (H1.out _).mono ?_
        rintro e w' ⟨rfl, rfl⟩
        go_wp2_with fail
        refine (H2.out _).mono ?_
        rintro e w' ⟨rfl, rfl⟩
        go_wp2_with fail
        refine (H3.out _).mono ?_
        rintro e w' ⟨rfl, rfl⟩
        go_wp2_with fail
        refine bodyPost_ret (v := .tuple #[.agg #[.int .i64 0, .int .i64 0, .int .i64 0], .int .i64 8]) (by simp [results, Try.results80, go_sem]) rfl ⟨rfl, ?_⟩
        repeat (first | exact Below.refl _ _ | refine Below.drew ?_ | refine below_drewN ?_ _ | refine Below.setCell ?_ (by simp <;> omega) _ | refine Below.alloc ?_ (by first | exact Nat.le_refl _ | (simp <;> omega)) _)
      · obtain rfl : V = refV x y r 0 := hv.out
        clear hv
        unfold refV
        go_enter Try.func80, Try.ntmps80
        go_wp2_with fail
        refine (H1.out _).mono ?_
        rintro e w' ⟨rfl, rfl⟩
        go_wp2_with fail
        refine (H2.out _).mono ?_
        rintro e w' ⟨rfl, rfl⟩
        go_wp2_with fail
        refine (H3.out _).mono ?_
        rintro e w' ⟨rfl, rfl⟩
        go_wp2_with fail
        refine bodyPost_ret (v := .tuple #[.agg #[.int .i64 x, .int .i64 y, .int .i64 r], .int .i64 0]) (by simp [results, Try.results80, go_sem]) rfl ⟨rfl, ?_⟩
        repeat (first | exact Below.refl _ _ | refine Below.drew ?_ | refine below_drewN ?_ _ | refine Below.setCell ?_ (by simp <;> omega) _ | refine Below.alloc ?_ (by first | exact Nat.le_refl _ | (simp <;> omega)) _)

set_option maxHeartbeats 1000000 in
theorem RefBall_mk (x y r : Int) (w : World) : Calls Try.prog 83 #[.agg #[.int .i64 x, .int .i64 y, .int .i64 r]] w (fun e w' => e = .returned (.agg #[.complex .f64 (fi x) (fi y), .int .i64 r]) ∧
    w' = ((w.alloc (.cells #[.int .i64 x, .int .i64 y, .int .i64 r] 33)).alloc (.cells #[.complex .f64 (fi x) (fi y), .int .i64 r] 27)).alloc (.cells #[.complex .f64 (fi x) (fi y), .int .i64 r] 27)) := by
  have H1 := Lib.hid (fun w => Ball_mk x y r w)
  generalize fi x = fx at *
  generalize fi y = fy at *
  go_enter Try.func83, Try.ntmps83
  go_wp2_with fail
  refine (H1.out _).mono ?_
  rintro e w' ⟨rfl, rfl⟩
  go_wp2_with fail
  refine bodyPost_ret (v := .agg #[.complex .f64 fx fy, .int .i64 r]) (by simp [results, Try.results83, go_sem]) rfl ⟨rfl, ?_⟩
  rfl

end Go.Proofs.Ythkooiopiaakbaa
