/- PolarProducts, the sense of its walk -/
import Derived.Test.YtlondnchmfhenaaPpr
import Derived.Test.YtlondnchmfhenaaRawg
namespace Go.Proofs.Ytlondnchmfhenaa.Ev
set_option linter.unusedSimpArgs false
set_option linter.unusedVariables false
open Go Go.RowKit
set_option maxRecDepth 100000
set_option maxHeartbeats 4000000 in
theorem products {a0 a1 b0 b1 c0 c1 d0 d1 i0 i1 j0 j1 k0 k1 l0 l1 : Nat} (h0 : U a0) (h1 : U a1) (h2 : U b0) (h3 : U b1) (h4 : U c0) (h5 : U c1) (h6 : U d0) (h7 : U d1) (g0 : U i0) (g1 : U i1) (g2 : U j0) (g3 : U j1) (g4 : U k0) (g5 : U k1) (g6 : U l0) (g7 : U l1) (w : World) :
    Calls Try.prog 4 #[.agg #[.float .f64 a0, .float .f64 a1, .float .f64 b0, .float .f64 b1, .float .f64 c0, .float .f64 c1, .float .f64 d0, .float .f64 d1], .agg #[.float .f64 i0, .float .f64 i1, .float .f64 j0, .float .f64 j1, .float .f64 k0, .float .f64 k1, .float .f64 l0, .float .f64 l1]] w fun e w' => e = .returned (.bool true) ∧ Below w.heap.size w w' := by
  by_cases hm : maC a0 a1 b0 b1 c0 c1 d0 d1 = 0 ∧ maC i0 i1 j0 j1 k0 k1 l0 l1 = 0
  · obtain ⟨A0, A1, B0, B1, C0, C1, D0, D1, ⟨m0, m1, m2, m3, m4, m5, m6, m7⟩, n0, n1, n2, n3, n4, n5, n6, n7⟩ := ma_ok h0 h1 h2 h3 h4 h5 h6 h7 hm.1
    obtain ⟨I0, I1, J0, J1, K0, K1, L0, L1, ⟨o0, o1, o2, o3, o4, o5, o6, o7⟩, p0, p1, p2, p3, p4, p5, p6, p7⟩ := ma_ok g0 g1 g2 g3 g4 g5 g6 g7 hm.2
    refine one_val (q1 n0 n1 n2 n3 n4 n5 n6 n7 p0 p1 p2 p3 p4 p5 p6 p7 m0 m1 m2 m3 m4 m5 m6 m7 o0 o1 o2 o3 o4 o5 o6 o7 (Q := (· = _)) ⟨awake, ?_⟩) w
    repeat' (first | exact rfl | exact congrArg Value.bool (beq_self_eq_true _) | apply And.intro | intro _ | fail)
  · obtain ⟨Z0, Z1, Z2, Z3, Z4, Z5, Z6, Z7, ra⟩ := matrix_any h0 h1 h2 h3 h4 h5 h6 h7
    obtain ⟨Y0, Y1, Y2, Y3, Y4, Y5, Y6, Y7, rb⟩ := matrix_any g0 g1 g2 g3 g4 g5 g6 g7
    refine one_val (q2 (Q := (· = _)) ⟨awake, _, fun w => jon_raw h0 h1 h2 h3 h4 h5 h6 h7 w, _, fun w => jon_raw g0 g1 g2 g3 g4 g5 g6 g7 w, fun e1 => ⟨fun e2 => absurd ⟨beq0 e1, beq0 e2⟩ hm, fun e2 => ⟨_, _, _, _, _, _, _, _, _, ra, _, _, _, _, _, _, _, _, _, rb, ?_⟩⟩, fun e1 => ⟨_, _, _, _, _, _, _, _, _, ra, _, _, _, _, _, _, _, _, _, rb, ?_⟩⟩) w
    all_goals repeat' (first | exact rfl | apply And.intro | intro _ | fail)
    all_goals simp_all
end Go.Proofs.Ytlondnchmfhenaa.Ev
