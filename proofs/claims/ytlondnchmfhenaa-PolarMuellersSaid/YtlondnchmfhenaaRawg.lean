/- What is read of a Jones matrix, right or wrong. -/
import Derived.Test.YtlondnchmfhenaaRawf
namespace Go.Proofs.Ytlondnchmfhenaa.Ev
set_option linter.unusedVariables false
open Go Go.RowKit
set_option maxRecDepth 100000
/-- What is read of a Jones matrix, right or wrong. -/
theorem matrix_any {a0 a1 b0 b1 c0 c1 d0 d1 : Nat} (h0 : U a0) (h1 : U a1) (h2 : U b0) (h3 : U b1) (h4 : U c0) (h5 : U c1) (h6 : U d0) (h7 : U d1) : ∃ X0 X1 X2 X3 X4 X5 X6 X7 : Int, ∀ w, Calls Try.prog 26 #[.agg #[.complex .f64 a0 a1, .complex .f64 b0 b1, .complex .f64 c0 c1, .complex .f64 d0 d1]] w fun e w' => e = .returned (.tuple #[.agg #[.int .i64 X0, .int .i64 X1, .int .i64 X2, .int .i64 X3, .int .i64 X4, .int .i64 X5, .int .i64 X6, .int .i64 X7], .int .i64 (maC a0 a1 b0 b1 c0 c1 d0 d1)]) ∧ Below w.heap.size w w' := by
  by_cases h : maC a0 a1 b0 b1 c0 c1 d0 d1 = 0
  · obtain ⟨X, Y, r1⟩ := read_raw (M := 1000) h0 h1 (by decide) (by decide)
    obtain ⟨X2, Y2, r2⟩ := read_raw (M := 1000) h2 h3 (by decide) (by decide)
    obtain ⟨X3, Y3, r3⟩ := read_raw (M := 1000) h4 h5 (by decide) (by decide)
    obtain ⟨X4, Y4, r4⟩ := read_raw (M := 1000) h6 h7 (by decide) (by decide)
    obtain ⟨k1, k⟩ := fst_zero h
    obtain ⟨k2, k⟩ := fst_zero k
    obtain ⟨k3, k4⟩ := fst_zero k
    refine ⟨X, Y, X2, Y2, X3, Y3, X4, Y4, fun w => ?_⟩
    refine one_val (rm (Q := (· = _)) ⟨X, Y, _, r1, fun g => ⟨X2, Y2, _, r2, fun g' => ⟨X3, Y3, _, r3, fun g2 => ⟨X4, Y4, _, r4, fun g3 => ?_, fun g3 => absurd k4 (bne0 g3)⟩, fun g2 => absurd k3 (bne0 g2)⟩, fun g' => absurd k2 (bne0 g')⟩, fun g => absurd k1 (bne0 g)⟩) w
    rw [h]
  · exact ⟨0, 0, 0, 0, 0, 0, 0, 0, fun w => matrix_bad h0 h1 h2 h3 h4 h5 h6 h7 h w⟩
theorem rng_ve {a0 a1 b0 b1 : Nat} (h : veC a0 a1 b0 b1 ≠ 0) : 1 ≤ veC a0 a1 b0 b1 ∧ veC a0 a1 b0 b1 ≤ 100 := by
  rcases ve_in a0 a1 b0 b1 with g | g | g <;> omega
theorem rng_ma {a0 a1 b0 b1 c0 c1 d0 d1 : Nat} (h : maC a0 a1 b0 b1 c0 c1 d0 d1 ≠ 0) : 1 ≤ maC a0 a1 b0 b1 c0 c1 d0 d1 ∧ maC a0 a1 b0 b1 c0 c1 d0 d1 ≤ 100 := by
  rcases ma_in a0 a1 b0 b1 c0 c1 d0 d1 with g | g | g <;> omega
end Go.Proofs.Ytlondnchmfhenaa.Ev
