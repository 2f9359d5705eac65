/- The statement's function on what fades answers true, at every range. -/
import Derived.Test.YthkooiopiaakbaaFadq
import Derived.Test.YthkooiopiaakbaaEqs
namespace Go.Proofs.Ythkooiopiaakbaa
open Go.RowKit Go.Lib
attribute [local go_sem] run_store_float run_store_complex

theorem fade_lower {d : Int} (h : 0 ≤ d ∧ d ≤ 1073741824) (w : World) : Calls Try.prog 73 #[.int .i64 d, .int .i64 1048576, .int .i64 1073741824] w (Quiet (.int .i64 (d / 1024)) w) := by
  have := lower_any d 1048576 1073741824 (Lib.hid (DvIn_by (X := 1073741824) (Y := 1048576) (by omega) (by omega) (by decide) (by decide) (by decide) (by decide) (by decide) (by decide) (by decide))) w
  rw [quo1024] at this
  exact this
theorem fade_upper {d : Int} (h : 0 ≤ d ∧ d ≤ 1073741824) (w : World) : Calls Try.prog 100 #[.int .i64 d, .int .i64 1048576, .int .i64 1073741824] w (Quiet (.int .i64 (cdiv d 1024)) w) := by
  have := upper_any d 1048576 1073741824 (Lib.hid (DvIn_by (X := 1073741824) (Y := 1048576) (by omega) (by omega) (by decide) (by decide) (by decide) (by decide) (by decide) (by decide) (by decide))) w
  rw [cquo1024] at this
  exact this

theorem Fading_case {lo hi a b c : Int} (h : FadCase lo hi a b c) (w : World) : Calls Try.prog 65 #[.agg #[.int .i64 lo, .int .i64 hi]] w (Mem (rngV a b c) w) := by
  cases h with
  | low h => exact Fading_low h w
  | far h0 h =>
    by_cases hh : hi < lo
    · exact Fading_far1 h0 h hh w
    · exact Fading_far2 h0 h hh w
  | wide h0 h hh => exact Fading_wide h0 h hh w
  | order h0 h h1 hh => exact Fading_order h0 h hh w
  | none h0 h1 h2 h3 => exact Fading_none h0 h1 h2 h3 w
  | one u h0 h1 h2 h3 h4 HU =>
    have bc := cdiv_bd (n := u) (d := 1024) (M := 1048576) (by decide) HU.1.1 (by have := HU.1.2; omega)
    by_cases hc : cdiv u 1024 = 1048576
    · rw [hc]
      exact Fading_one0 (d := 0) (q := 0) h0 h3 h4 h2 hc (Lib.hid HU.2.1) (Lib.hid fun w => fade_upper HU.1 w) w
    · exact Fading_one1 (d := 0) (q := 0) h0 h3 h4 h2 (by omega) (Lib.hid HU.2.1) (Lib.hid fun w => fade_upper HU.1 w) w
  | two d u h0 h1 h2 HD HU =>
    have bc := cdiv_bd (n := u) (d := 1024) (M := 1048576) (by decide) HU.1.1 (by have := HU.1.2; omega)
    have bq : 0 ≤ d / 1024 := Int.ediv_nonneg HD.1.1 (by decide)
    by_cases hc : cdiv u 1024 = 1048576
    · rw [hc]
      by_cases hq : d / 1024 = 0
      · rw [hq]
        exact Fading_two00 h0 h1 h2 hq hc (Lib.hid HD.2.1) (Lib.hid fun w => fade_lower HD.1 w) (Lib.hid HU.2.1) (Lib.hid fun w => fade_upper HU.1 w) w
      · exact Fading_two10 h0 h1 h2 (by omega) hc (Lib.hid HD.2.1) (Lib.hid fun w => fade_lower HD.1 w) (Lib.hid HU.2.1) (Lib.hid fun w => fade_upper HU.1 w) w
    · by_cases hq : d / 1024 = 0
      · rw [hq]
        exact Fading_two01 h0 h1 h2 hq (by omega) (Lib.hid HD.2.1) (Lib.hid fun w => fade_lower HD.1 w) (Lib.hid HU.2.1) (Lib.hid fun w => fade_upper HU.1 w) w
      · exact Fading_two11 h0 h1 h2 (by omega) (by omega) (Lib.hid HD.2.1) (Lib.hid fun w => fade_lower HD.1 w) (Lib.hid HU.2.1) (Lib.hid fun w => fade_upper HU.1 w) w

theorem fl1024 {d : Int} (h : 0 ≤ d ∧ d ≤ 1073741824) (w : World) : Calls Try.prog 64 #[.int .i64 d, .int .i64 1024] w (fun e w' => e = .returned (.int .i64 (d / 1024)) ∧ w = w') := Floor_any d 1024 (by omega) (by omega) (by decide) (by decide) w
theorem ce1024 {d : Int} (h : 0 ≤ d ∧ d ≤ 1073741824) (w : World) : Calls Try.prog 102 #[.int .i64 d, .int .i64 1024] w (fun e w' => e = .returned (.int .i64 (cdiv d 1024)) ∧ w = w') := Ceil_any d 1024 (by omega) (by omega) (by decide) (by decide) w

theorem FadingRef_case {lo hi a b c : Int} (h : FadCase lo hi a b c) (w : World) : Calls Try.prog 66 #[.agg #[.int .i64 lo, .int .i64 hi]] w (Mem (rngV a b c) w) := by
  cases h with
  | low h => exact FadingRef_low h w
  | far h0 h => exact FadingRef_far h0 h w
  | wide h0 h hh => exact FadingRef_wide h0 h hh w
  | order h0 h h1 hh => exact FadingRef_order h0 h hh w
  | none h0 h1 h2 h3 => exact FadingRef_none h0 h1 h2 h3 w
  | one u h0 h1 h2 h3 h4 HU =>
    have bc := cdiv_bd (n := u) (d := 1024) (M := 1048576) (by decide) HU.1.1 (by have := HU.1.2; omega)
    by_cases hc : cdiv u 1024 = 1048576
    · rw [hc]
      exact FadingRef_one0 (d := 0) (q := 0) h0 h3 h4 h2 hc (Lib.hid HU.2.2) (Lib.hid fun w => ce1024 HU.1 w) w
    · exact FadingRef_one1 (d := 0) (q := 0) h0 h3 h4 h2 (by omega) (Lib.hid HU.2.2) (Lib.hid fun w => ce1024 HU.1 w) w
  | two d u h0 h1 h2 HD HU =>
    have bc := cdiv_bd (n := u) (d := 1024) (M := 1048576) (by decide) HU.1.1 (by have := HU.1.2; omega)
    have bq : 0 ≤ d / 1024 := Int.ediv_nonneg HD.1.1 (by decide)
    by_cases hc : cdiv u 1024 = 1048576
    · rw [hc]
      by_cases hq : d / 1024 = 0
      · rw [hq]
        exact FadingRef_two00 h0 h1 h2 hq hc (Lib.hid HD.2.2) (Lib.hid fun w => fl1024 HD.1 w) (Lib.hid HU.2.2) (Lib.hid fun w => ce1024 HU.1 w) w
      · exact FadingRef_two10 h0 h1 h2 (by omega) hc (Lib.hid HD.2.2) (Lib.hid fun w => fl1024 HD.1 w) (Lib.hid HU.2.2) (Lib.hid fun w => ce1024 HU.1 w) w
    · by_cases hq : d / 1024 = 0
      · rw [hq]
        exact FadingRef_two01 h0 h1 h2 hq (by omega) (Lib.hid HD.2.2) (Lib.hid fun w => fl1024 HD.1 w) (Lib.hid HU.2.2) (Lib.hid fun w => ce1024 HU.1 w) w
      · exact FadingRef_two11 h0 h1 h2 (by omega) (by omega) (Lib.hid HD.2.2) (Lib.hid fun w => fl1024 HD.1 w) (Lib.hid HU.2.2) (Lib.hid fun w => ce1024 HU.1 w) w

set_option maxHeartbeats 1000000 in
theorem fades_walk (lo hi : Int) (w : World) : Calls Try.prog 12 #[.agg #[.int .i64 lo, .int .i64 hi]] w (Mem (.bool true) w) := by
  obtain ⟨a, b, c, hc⟩ := fadCase_ex lo hi
  have H1 := Lib.hid (fun w => Fading_case hc w)
  have H2 := Lib.hid (fun w => FadingRef_case hc w)
  have A := Lib.hid (fun w => awake_any w)
  have hE := eqRange a b a b
  simp only [beq_self_eq_true, Bool.and_self] at hE
  clear hc
  unfold rngV at *
  go_enter Try.func12, Try.ntmps12
  go_wp2_with fail
  refine (A.out _).mono ?_
  rintro e w1 ⟨rfl, hb⟩
  have a0 : At w1 w.heap.size #[.int .i64 lo, .int .i64 hi] := At.below (At.new _ _ _) hb
  have hb1 : Below w.heap.size w w1 := Below.via ((Below.refl _ _).alloc (by simp) _) hb
  have q0 := a0.cell; have z0 := a0.lt
  have A0 := Lib.hid a0
  clear hb a0
  go_wp2_with fail
  refine (H1.out _).mono ?_
  rintro e w2 ⟨rfl, hb⟩
  have a0 := A0.out.below hb
  have hb2 : Below w.heap.size w w2 := Below.via hb1 hb
  have z2 := hb2.size
  clear q0 z0 A0 hb hb1
  have q0 := a0.cell; have z0 := a0.lt
  have A0 := Lib.hid a0
  clear a0
  go_wp2_with fail
  refine (H2.out _).mono ?_
  rintro e w3 ⟨rfl, hb⟩
  have a1 : At w3 w2.heap.size #[.int .i64 a, .int .i64 b] := At.below (At.new _ _ _) hb
  have hb3 : Below w.heap.size w w3 := Below.via (hb2.alloc (by first | exact z2 | (simp <;> omega)) _) hb
  have z3 := hb3.size
  clear q0 z0 A0 hb hb2
  have q1 := a1.cell; have z1 := a1.lt
  clear a1
  go_wp2_with fail
  go_ret
  refine ⟨rfl, ?_⟩
  repeat (first | with_reducible exact hb3 | with_reducible refine Below.drew ?_ | with_reducible refine below_drewN ?_ _ | refine Below.alloc ?_ (by first | exact z3 | (simp <;> omega)) _)

end Go.Proofs.Ythkooiopiaakbaa
