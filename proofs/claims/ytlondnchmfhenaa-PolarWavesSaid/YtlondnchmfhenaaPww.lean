/- PolarWaves, the sense of its walk -/
import Derived.Test.YtlondnchmfhenaaPwv
import Derived.Test.YtlondnchmfhenaaRawg
namespace Go.Proofs.Ytlondnchmfhenaa.Ev
set_option linter.unusedSimpArgs false
set_option linter.unusedVariables false
open Go Go.RowKit
set_option maxRecDepth 100000
set_option maxHeartbeats 4000000 in
theorem waves {x0 x1 y0 y1 a0 a1 b0 b1 c0 c1 d0 d1 : Nat} (u0 : U x0) (u1 : U x1) (u2 : U y0) (u3 : U y1) (h0 : U a0) (h1 : U a1) (h2 : U b0) (h3 : U b1) (h4 : U c0) (h5 : U c1) (h6 : U d0) (h7 : U d1) (w : World) :
    Calls Try.prog 3 #[.agg #[.float .f64 x0, .float .f64 x1, .float .f64 y0, .float .f64 y1], .agg #[.float .f64 a0, .float .f64 a1, .float .f64 b0, .float .f64 b1, .float .f64 c0, .float .f64 c1, .float .f64 d0, .float .f64 d1]] w fun e w' => e = .returned (.bool true) ∧ Below w.heap.size w w' := by
  by_cases hv : veC x0 x1 y0 y1 = 0
  · obtain ⟨X0, X1, Y0, Y1, ⟨p0, p1, p2, p3⟩, q0, q1, q2, q3⟩ := ve_ok u0 u1 u2 u3 hv
    by_cases hm : maC a0 a1 b0 b1 c0 c1 d0 d1 = 0
    · obtain ⟨A0, A1, B0, B1, C0, C1, D0, D1, ⟨m0, m1, m2, m3, m4, m5, m6, m7⟩, n0, n1, n2, n3, n4, n5, n6, n7⟩ := ma_ok h0 h1 h2 h3 h4 h5 h6 h7 hm
      refine one_val (w1 q0 q1 q2 q3 n0 n1 n2 n3 n4 n5 n6 n7 p0 p1 p2 p3 m0 m1 m2 m3 m4 m5 m6 m7 (Q := (· = _)) ⟨awake, ?_⟩) w
      repeat' (first | exact rfl | exact congrArg Value.bool (beq_self_eq_true _) | apply And.intro | intro _ | fail)
    · have hr := rng_ma hm
      refine one_val (w3 q0 q1 q2 q3 p0 p1 p2 p3 (Q := (· = _)) ⟨awake, _, fun w => jon_raw h0 h1 h2 h3 h4 h5 h6 h7 w, hr, _, _, _, _, _, _, _, _, _, fun w => matrix_bad h0 h1 h2 h3 h4 h5 h6 h7 hm w, hr, ?_⟩) w
      repeat' (first | exact rfl | apply And.intro | intro _ | fail)
      all_goals simp_all
  · have hr := rng_ve hv
    obtain ⟨Z0, Z1, Z2, Z3, Z4, Z5, Z6, Z7, rm⟩ := matrix_any h0 h1 h2 h3 h4 h5 h6 h7
    refine one_val (w2 (Q := (· = _)) ⟨awake, _, fun w => vec_raw u0 u1 u2 u3 w, hr, _, fun w => jon_raw h0 h1 h2 h3 h4 h5 h6 h7 w, fun g => ⟨_, _, _, _, _, fun w => wave_bad u0 u1 u2 u3 hv w, hr, _, _, _, _, _, _, _, _, _, rm, ?_⟩, fun g => ⟨_, _, _, _, _, fun w => wave_bad u0 u1 u2 u3 hv w, hr, _, _, _, _, _, _, _, _, _, rm, ?_⟩⟩) w
    all_goals repeat' (first | exact rfl | apply And.intro | intro _ | fail)
    all_goals simp_all
end Go.Proofs.Ytlondnchmfhenaa.Ev
