/- PolarTurns, the sense of its walk -/
import Derived.Test.YtlondnchmfhenaaPtk
import Derived.Test.YtlondnchmfhenaaPtg
import Derived.Test.YtlondnchmfhenaaPth
import Derived.Test.YtlondnchmfhenaaRawg
namespace Go.Proofs.Ytlondnchmfhenaa.Ev
set_option linter.unusedSimpArgs false
set_option linter.unusedVariables false
open Go Go.RowKit
set_option maxRecDepth 100000
theorem sz1000 {m : Int} : ((if (0 - m : Int) > m then (0 - m) else m) ≤ 1000) ↔ (-1000 ≤ m ∧ m ≤ 1000) := by split <;> omega
theorem pr_le {x y K : Int} (hx : -K ≤ x ∧ x ≤ K) (hy : -K ≤ y ∧ y ≤ K) : -(K * K) ≤ x * y ∧ x * y ≤ K * K := by
  have h1 := Int.mul_nonneg (a := K - x) (b := K + y) (by omega) (by omega)
  have h2 := Int.mul_nonneg (a := K + x) (b := K - y) (by omega) (by omega)
  have h3 := Int.mul_nonneg (a := K - x) (b := K - y) (by omega) (by omega)
  have h4 := Int.mul_nonneg (a := K + x) (b := K + y) (by omega) (by omega)
  have e1 : (K - x) * (K + y) + (K + x) * (K - y) = 2 * (K * K) - 2 * (x * y) := by grind
  have e2 : (K - x) * (K - y) + (K + x) * (K + y) = 2 * (K * K) + 2 * (x * y) := by grind
  generalize (K - x) * (K + y) = a at *
  generalize (K + x) * (K - y) = b at *
  generalize (K - x) * (K - y) = c at *
  generalize (K + x) * (K + y) = d at *
  generalize K * K = k at *
  generalize x * y = z at *
  omega
theorem back_ok {n0 n1 n2 n3 n4 n5 n6 n7 : Int} (g0 : (-10000000000000) ≤ n0 ∧ n0 ≤ 10000000000000) (g1 : (-10000000000000) ≤ n1 ∧ n1 ≤ 10000000000000) (g2 : (-10000000000000) ≤ n2 ∧ n2 ≤ 10000000000000) (g3 : (-10000000000000) ≤ n3 ∧ n3 ≤ 10000000000000) (g4 : (-10000000000000) ≤ n4 ∧ n4 ≤ 10000000000000) (g5 : (-10000000000000) ≤ n5 ∧ n5 ≤ 10000000000000) (g6 : (-10000000000000) ≤ n6 ∧ n6 ≤ 10000000000000) (g7 : (-10000000000000) ≤ n7 ∧ n7 ≤ 10000000000000) (h : ((-1000) ≤ n0 ∧ n0 ≤ 1000) ∧ ((-1000) ≤ n1 ∧ n1 ≤ 1000) ∧ ((-1000) ≤ n2 ∧ n2 ≤ 1000) ∧ ((-1000) ≤ n3 ∧ n3 ≤ 1000) ∧ ((-1000) ≤ n4 ∧ n4 ≤ 1000) ∧ ((-1000) ≤ n5 ∧ n5 ≤ 1000) ∧ ((-1000) ≤ n6 ∧ n6 ≤ 1000) ∧ ((-1000) ≤ n7 ∧ n7 ≤ 1000)) (w : World) : Calls Try.prog 34 #[.agg #[.int .i64 n0, .int .i64 n1, .int .i64 n2, .int .i64 n3, .int .i64 n4, .int .i64 n5, .int .i64 n6, .int .i64 n7]] w fun e w' => e = .returned (.tuple #[.agg #[.complex .f64 (FloatKind.f64.nearest n0) (FloatKind.f64.nearest n1), .complex .f64 (FloatKind.f64.nearest n2) (FloatKind.f64.nearest n3), .complex .f64 (FloatKind.f64.nearest n4) (FloatKind.f64.nearest n5), .complex .f64 (FloatKind.f64.nearest n6) (FloatKind.f64.nearest n7)], .int .i64 0]) ∧ Below w.heap.size w w' := by
  refine one_val (bm g0 g1 g2 g3 g4 g5 g6 g7 (Q := (· = _)) ?_) w
  repeat' (first | exact rfl | apply And.intro | intro _ | fail)
  all_goals simp only [decide_eq_true_eq, decide_eq_false_iff_not, sz1000] at *
  all_goals (exfalso; omega)
theorem back_large {n0 n1 n2 n3 n4 n5 n6 n7 : Int} (g0 : (-10000000000000) ≤ n0 ∧ n0 ≤ 10000000000000) (g1 : (-10000000000000) ≤ n1 ∧ n1 ≤ 10000000000000) (g2 : (-10000000000000) ≤ n2 ∧ n2 ≤ 10000000000000) (g3 : (-10000000000000) ≤ n3 ∧ n3 ≤ 10000000000000) (g4 : (-10000000000000) ≤ n4 ∧ n4 ≤ 10000000000000) (g5 : (-10000000000000) ≤ n5 ∧ n5 ≤ 10000000000000) (g6 : (-10000000000000) ≤ n6 ∧ n6 ≤ 10000000000000) (g7 : (-10000000000000) ≤ n7 ∧ n7 ≤ 10000000000000) (h : ¬ (((-1000) ≤ n0 ∧ n0 ≤ 1000) ∧ ((-1000) ≤ n1 ∧ n1 ≤ 1000) ∧ ((-1000) ≤ n2 ∧ n2 ≤ 1000) ∧ ((-1000) ≤ n3 ∧ n3 ≤ 1000) ∧ ((-1000) ≤ n4 ∧ n4 ≤ 1000) ∧ ((-1000) ≤ n5 ∧ n5 ≤ 1000) ∧ ((-1000) ≤ n6 ∧ n6 ≤ 1000) ∧ ((-1000) ≤ n7 ∧ n7 ≤ 1000))) (w : World) : Calls Try.prog 34 #[.agg #[.int .i64 n0, .int .i64 n1, .int .i64 n2, .int .i64 n3, .int .i64 n4, .int .i64 n5, .int .i64 n6, .int .i64 n7]] w fun e w' => e = .returned (.tuple #[.agg #[.complex .f64 0 0, .complex .f64 0 0, .complex .f64 0 0, .complex .f64 0 0], .int .i64 8]) ∧ Below w.heap.size w w' := by
  refine one_val (bm g0 g1 g2 g3 g4 g5 g6 g7 (Q := (· = _)) ?_) w
  repeat' (first | exact rfl | apply And.intro | intro _ | fail)
  all_goals simp only [decide_eq_true_eq, decide_eq_false_iff_not, sz1000] at *
  all_goals (exfalso; apply h; refine ⟨by assumption, by assumption, by assumption, by assumption, by assumption, by assumption, by assumption, by assumption⟩)
theorem same_raw (a0 a1 b0 b1 c0 c1 d0 d1 : Nat) (w : World) : Calls Try.prog 36 #[.agg #[.complex .f64 a0 a1, .complex .f64 b0 b1, .complex .f64 c0 c1, .complex .f64 d0 d1], .agg #[.complex .f64 a0 a1, .complex .f64 b0 b1, .complex .f64 c0 c1, .complex .f64 d0 d1]] w fun e w' => e = .returned (.bool true) ∧ Below w.heap.size w w' := by
  refine one_val (sm (Q := (· = _)) ?_) w
  repeat' (first | exact rfl | exact congrArg Value.bool (beq_self_eq_true _) | apply And.intro | intro _ | fail)
  all_goals (rename_i h; rw [beq_self_eq_true] at h; cases h)
set_option maxHeartbeats 8000000 in
theorem turned_c {a0 a1 b0 b1 c0 c1 d0 d1 : Nat} {A0 A1 B0 B1 C0 C1 D0 D1 p q r : Int} (kA0 : (-1000) ≤ A0 ∧ A0 ≤ 1000) (kA1 : (-1000) ≤ A1 ∧ A1 ≤ 1000) (kB0 : (-1000) ≤ B0 ∧ B0 ≤ 1000) (kB1 : (-1000) ≤ B1 ∧ B1 ≤ 1000) (kC0 : (-1000) ≤ C0 ∧ C0 ≤ 1000) (kC1 : (-1000) ≤ C1 ∧ C1 ≤ 1000) (kD0 : (-1000) ≤ D0 ∧ D0 ≤ 1000) (kD1 : (-1000) ≤ D1 ∧ D1 ≤ 1000) (s0 : (-1000) ≤ p ∧ p ≤ 1000) (s1 : (-1000) ≤ q ∧ q ≤ 1000) (s2 : 1 ≤ r ∧ r ≤ 1000) (ha0 : Rp a0 A0) (ha1 : Rp a1 A1) (hb0 : Rp b0 B0) (hb1 : Rp b1 B1) (hc0 : Rp c0 C0) (hc1 : Rp c1 C1) (hd0 : Rp d0 D0) (hd1 : Rp d1 D1) (hT : ∀ w, Calls Try.prog 41 #[.agg #[.int .i64 p, .int .i64 q, .int .i64 r]] w fun e w' => e = .returned (.int .i64 0) ∧ Below w.heap.size w w') : ∃ n0 n1 n2 n3 n4 n5 n6 n7 : Int, (∀ w, Calls Try.prog 44 #[.agg #[.int .i64 A0, .int .i64 A1, .int .i64 B0, .int .i64 B1, .int .i64 C0, .int .i64 C1, .int .i64 D0, .int .i64 D1], .agg #[.int .i64 p, .int .i64 q, .int .i64 r]] w fun e w' => e = .returned (.agg #[.int .i64 n0, .int .i64 n1, .int .i64 n2, .int .i64 n3, .int .i64 n4, .int .i64 n5, .int .i64 n6, .int .i64 n7]) ∧ Below w.heap.size w w') ∧ (((-10000000000000) ≤ n0 ∧ n0 ≤ 10000000000000) ∧ ((-10000000000000) ≤ n1 ∧ n1 ≤ 10000000000000) ∧ ((-10000000000000) ≤ n2 ∧ n2 ≤ 10000000000000) ∧ ((-10000000000000) ≤ n3 ∧ n3 ≤ 10000000000000) ∧ ((-10000000000000) ≤ n4 ∧ n4 ≤ 10000000000000) ∧ ((-10000000000000) ≤ n5 ∧ n5 ≤ 10000000000000) ∧ ((-10000000000000) ≤ n6 ∧ n6 ≤ 10000000000000) ∧ ((-10000000000000) ≤ n7 ∧ n7 ≤ 10000000000000)) ∧ ((((-1000) ≤ n0 ∧ n0 ≤ 1000) ∧ ((-1000) ≤ n1 ∧ n1 ≤ 1000) ∧ ((-1000) ≤ n2 ∧ n2 ≤ 1000) ∧ ((-1000) ≤ n3 ∧ n3 ≤ 1000) ∧ ((-1000) ≤ n4 ∧ n4 ≤ 1000) ∧ ((-1000) ≤ n5 ∧ n5 ≤ 1000) ∧ ((-1000) ≤ n6 ∧ n6 ≤ 1000) ∧ ((-1000) ≤ n7 ∧ n7 ≤ 1000)) → (∀ w, Calls Try.prog 39 #[.agg #[.complex .f64 a0 a1, .complex .f64 b0 b1, .complex .f64 c0 c1, .complex .f64 d0 d1], .agg #[.int .i64 p, .int .i64 q, .int .i64 r]] w fun e w' => e = .returned (.tuple #[.agg #[.complex .f64 (FloatKind.f64.nearest n0) (FloatKind.f64.nearest n1), .complex .f64 (FloatKind.f64.nearest n2) (FloatKind.f64.nearest n3), .complex .f64 (FloatKind.f64.nearest n4) (FloatKind.f64.nearest n5), .complex .f64 (FloatKind.f64.nearest n6) (FloatKind.f64.nearest n7)], .int .i64 0]) ∧ Below w.heap.size w w')) ∧ (¬ (((-1000) ≤ n0 ∧ n0 ≤ 1000) ∧ ((-1000) ≤ n1 ∧ n1 ≤ 1000) ∧ ((-1000) ≤ n2 ∧ n2 ≤ 1000) ∧ ((-1000) ≤ n3 ∧ n3 ≤ 1000) ∧ ((-1000) ≤ n4 ∧ n4 ≤ 1000) ∧ ((-1000) ≤ n5 ∧ n5 ≤ 1000) ∧ ((-1000) ≤ n6 ∧ n6 ≤ 1000) ∧ ((-1000) ≤ n7 ∧ n7 ≤ 1000)) → (∀ w, Calls Try.prog 39 #[.agg #[.complex .f64 a0 a1, .complex .f64 b0 b1, .complex .f64 c0 c1, .complex .f64 d0 d1], .agg #[.int .i64 p, .int .i64 q, .int .i64 r]] w fun e w' => e = .returned (.tuple #[.agg #[.complex .f64 0 0, .complex .f64 0 0, .complex .f64 0 0, .complex .f64 0 0], .int .i64 8]) ∧ Below w.heap.size w w')) := by
  obtain ⟨n0, e0⟩ : ∃ n : Int, n = ((((p * A0) + ((0 - q) * C0)) * p) + (((p * B0) + ((0 - q) * D0)) * (0 - q))) := ⟨_, rfl⟩
  obtain ⟨n1, e1⟩ : ∃ n : Int, n = ((((p * A1) + ((0 - q) * C1)) * p) + (((p * B1) + ((0 - q) * D1)) * (0 - q))) := ⟨_, rfl⟩
  obtain ⟨n2, e2⟩ : ∃ n : Int, n = ((((p * A0) + ((0 - q) * C0)) * (0 - (0 - q))) + (((p * B0) + ((0 - q) * D0)) * p)) := ⟨_, rfl⟩
  obtain ⟨n3, e3⟩ : ∃ n : Int, n = ((((p * A1) + ((0 - q) * C1)) * (0 - (0 - q))) + (((p * B1) + ((0 - q) * D1)) * p)) := ⟨_, rfl⟩
  obtain ⟨n4, e4⟩ : ∃ n : Int, n = ((((q * A0) + (p * C0)) * p) + (((q * B0) + (p * D0)) * (0 - q))) := ⟨_, rfl⟩
  obtain ⟨n5, e5⟩ : ∃ n : Int, n = ((((q * A1) + (p * C1)) * p) + (((q * B1) + (p * D1)) * (0 - q))) := ⟨_, rfl⟩
  obtain ⟨n6, e6⟩ : ∃ n : Int, n = ((((q * A0) + (p * C0)) * (0 - (0 - q))) + (((q * B0) + (p * D0)) * p)) := ⟨_, rfl⟩
  obtain ⟨n7, e7⟩ : ∃ n : Int, n = ((((q * A1) + (p * C1)) * (0 - (0 - q))) + (((q * B1) + (p * D1)) * p)) := ⟨_, rfl⟩
  have RT := fun w => one_val (rt kA0 kA1 kB0 kB1 kC0 kC1 kD0 kD1 s0 s1 s2 (Q := (· = _)) rfl) w
  simp only [← e0, ← e1, ← e2, ← e3, ← e4, ← e5, ← e6, ← e7] at RT
  have b_A0 := pr_le (K := 1000) s0 kA0
  have d_A0 := pr_le (K := 1000) (x := 0 - q) ⟨by omega, by omega⟩ kA0
  have f_A0 := pr_le (K := 1000) s1 kA0
  have b_A1 := pr_le (K := 1000) s0 kA1
  have d_A1 := pr_le (K := 1000) (x := 0 - q) ⟨by omega, by omega⟩ kA1
  have f_A1 := pr_le (K := 1000) s1 kA1
  have b_B0 := pr_le (K := 1000) s0 kB0
  have d_B0 := pr_le (K := 1000) (x := 0 - q) ⟨by omega, by omega⟩ kB0
  have f_B0 := pr_le (K := 1000) s1 kB0
  have b_B1 := pr_le (K := 1000) s0 kB1
  have d_B1 := pr_le (K := 1000) (x := 0 - q) ⟨by omega, by omega⟩ kB1
  have f_B1 := pr_le (K := 1000) s1 kB1
  have b_C0 := pr_le (K := 1000) s0 kC0
  have d_C0 := pr_le (K := 1000) (x := 0 - q) ⟨by omega, by omega⟩ kC0
  have f_C0 := pr_le (K := 1000) s1 kC0
  have b_C1 := pr_le (K := 1000) s0 kC1
  have d_C1 := pr_le (K := 1000) (x := 0 - q) ⟨by omega, by omega⟩ kC1
  have f_C1 := pr_le (K := 1000) s1 kC1
  have b_D0 := pr_le (K := 1000) s0 kD0
  have d_D0 := pr_le (K := 1000) (x := 0 - q) ⟨by omega, by omega⟩ kD0
  have f_D0 := pr_le (K := 1000) s1 kD0
  have b_D1 := pr_le (K := 1000) s0 kD1
  have d_D1 := pr_le (K := 1000) (x := 0 - q) ⟨by omega, by omega⟩ kD1
  have f_D1 := pr_le (K := 1000) s1 kD1
  have c_1 := pr_le (K := 2000000) (x := ((p * A0) + ((0 - q) * C0))) (y := p) ⟨by omega, by omega⟩ ⟨by omega, by omega⟩
  have c_2 := pr_le (K := 2000000) (x := ((p * B0) + ((0 - q) * D0))) (y := (0 - q)) ⟨by omega, by omega⟩ ⟨by omega, by omega⟩
  have c_3 := pr_le (K := 2000000) (x := ((p * A1) + ((0 - q) * C1))) (y := p) ⟨by omega, by omega⟩ ⟨by omega, by omega⟩
  have c_4 := pr_le (K := 2000000) (x := ((p * B1) + ((0 - q) * D1))) (y := (0 - q)) ⟨by omega, by omega⟩ ⟨by omega, by omega⟩
  have c_5 := pr_le (K := 2000000) (x := ((p * A0) + ((0 - q) * C0))) (y := (0 - (0 - q))) ⟨by omega, by omega⟩ ⟨by omega, by omega⟩
  have c_6 := pr_le (K := 2000000) (x := ((p * B0) + ((0 - q) * D0))) (y := p) ⟨by omega, by omega⟩ ⟨by omega, by omega⟩
  have c_7 := pr_le (K := 2000000) (x := ((p * A1) + ((0 - q) * C1))) (y := (0 - (0 - q))) ⟨by omega, by omega⟩ ⟨by omega, by omega⟩
  have c_8 := pr_le (K := 2000000) (x := ((p * B1) + ((0 - q) * D1))) (y := p) ⟨by omega, by omega⟩ ⟨by omega, by omega⟩
  have c_9 := pr_le (K := 2000000) (x := ((q * A0) + (p * C0))) (y := p) ⟨by omega, by omega⟩ ⟨by omega, by omega⟩
  have c_10 := pr_le (K := 2000000) (x := ((q * B0) + (p * D0))) (y := (0 - q)) ⟨by omega, by omega⟩ ⟨by omega, by omega⟩
  have c_11 := pr_le (K := 2000000) (x := ((q * A1) + (p * C1))) (y := p) ⟨by omega, by omega⟩ ⟨by omega, by omega⟩
  have c_12 := pr_le (K := 2000000) (x := ((q * B1) + (p * D1))) (y := (0 - q)) ⟨by omega, by omega⟩ ⟨by omega, by omega⟩
  have c_13 := pr_le (K := 2000000) (x := ((q * A0) + (p * C0))) (y := (0 - (0 - q))) ⟨by omega, by omega⟩ ⟨by omega, by omega⟩
  have c_14 := pr_le (K := 2000000) (x := ((q * B0) + (p * D0))) (y := p) ⟨by omega, by omega⟩ ⟨by omega, by omega⟩
  have c_15 := pr_le (K := 2000000) (x := ((q * A1) + (p * C1))) (y := (0 - (0 - q))) ⟨by omega, by omega⟩ ⟨by omega, by omega⟩
  have c_16 := pr_le (K := 2000000) (x := ((q * B1) + (p * D1))) (y := p) ⟨by omega, by omega⟩ ⟨by omega, by omega⟩
  refine ⟨n0, n1, n2, n3, n4, n5, n6, n7, RT, ⟨⟨by omega, by omega⟩, ⟨by omega, by omega⟩, ⟨by omega, by omega⟩, ⟨by omega, by omega⟩, ⟨by omega, by omega⟩, ⟨by omega, by omega⟩, ⟨by omega, by omega⟩, ⟨by omega, by omega⟩⟩, fun hs w => one_val (tg kA0 kA1 kB0 kB1 kC0 kC1 kD0 kD1 s0 s1 s2 ha0 ha1 hb0 hb1 hc0 hc1 hd0 hd1 (Q := (· = _)) ⟨0, hT, ⟨by omega, by omega⟩, fun _ => ?_, fun h => absurd rfl (bne0 h)⟩) w, fun hs w => one_val (tg kA0 kA1 kB0 kB1 kC0 kC1 kD0 kD1 s0 s1 s2 ha0 ha1 hb0 hb1 hc0 hc1 hd0 hd1 (Q := (· = _)) ⟨0, hT, ⟨by omega, by omega⟩, fun _ => ?_, fun h => absurd rfl (bne0 h)⟩) w⟩
  · clear RT b_A0 d_A0 f_A0 b_A1 d_A1 f_A1 b_B0 d_B0 f_B0 b_B1 d_B1 f_B1 b_C0 d_C0 f_C0 b_C1 d_C1 f_C1 b_D0 d_D0 f_D0 b_D1 d_D1 f_D1 c_1 c_2 c_3 c_4 c_5 c_6 c_7 c_8 c_9 c_10 c_11 c_12 c_13 c_14 c_15 c_16
    simp only [← e0, ← e1, ← e2, ← e3, ← e4, ← e5, ← e6, ← e7]
    clear e0 e1 e2 e3 e4 e5 e6 e7
    repeat' (first | exact rfl | apply And.intro | intro _ | fail)
    all_goals simp only [decide_eq_true_eq, decide_eq_false_iff_not, sz1000] at *
    all_goals (exfalso; omega)
  · clear RT b_A0 d_A0 f_A0 b_A1 d_A1 f_A1 b_B0 d_B0 f_B0 b_B1 d_B1 f_B1 b_C0 d_C0 f_C0 b_C1 d_C1 f_C1 b_D0 d_D0 f_D0 b_D1 d_D1 f_D1 c_1 c_2 c_3 c_4 c_5 c_6 c_7 c_8 c_9 c_10 c_11 c_12 c_13 c_14 c_15 c_16
    simp only [← e0, ← e1, ← e2, ← e3, ← e4, ← e5, ← e6, ← e7]
    clear e0 e1 e2 e3 e4 e5 e6 e7
    repeat' (first | exact rfl | apply And.intro | intro _ | fail)
    all_goals simp only [decide_eq_true_eq, decide_eq_false_iff_not, sz1000] at *
    all_goals (exfalso; apply hs; refine ⟨by assumption, by assumption, by assumption, by assumption, by assumption, by assumption, by assumption, by assumption⟩)
theorem turn_wrong {p q r : Int} (s0 : (-1000) ≤ p ∧ p ≤ 1000) (s1 : (-1000) ≤ q ∧ q ≤ 1000) (s2 : 1 ≤ r ∧ r ≤ 1000) (h : ¬ ((0 - r ≤ p ∧ p ≤ r) ∧ (0 - r ≤ q ∧ q ≤ r) ∧ p * p + q * q = r * r)) (w : World) : Calls Try.prog 41 #[.agg #[.int .i64 p, .int .i64 q, .int .i64 r]] w fun e w' => e = .returned (.int .i64 12) ∧ Below w.heap.size w w' := by
  refine one_val (ctr s0 s1 s2 (Q := (· = _)) ?_) w
  repeat' (first | exact rfl | apply And.intro | intro _ | fail)
  all_goals simp only [decide_eq_true_eq, decide_eq_false_iff_not, beq_iff_eq, beq_eq_false_iff_ne] at *
  all_goals (exfalso; apply h; refine ⟨⟨?_, ?_⟩, ⟨?_, ?_⟩, ?_⟩ <;> assumption)
theorem turn_any {p q r : Int} (r0 : (-9223372036854775808) ≤ p ∧ p ≤ 9223372036854775807) (r1 : (-9223372036854775808) ≤ q ∧ q ≤ 9223372036854775807) (r2 : (-9223372036854775808) ≤ r ∧ r ≤ 9223372036854775807) : ∃ c : Int, ∀ w, Calls Try.prog 41 #[.agg #[.int .i64 p, .int .i64 q, .int .i64 r]] w fun e w' => e = .returned (.int .i64 c) ∧ Below w.heap.size w w' := by
  obtain ⟨v, ⟨c, rfl⟩, h⟩ := ct r0 r1 r2 (Q := fun v => ∃ c : Int, v = .int .i64 c) (by repeat' (first | exact ⟨_, rfl⟩ | apply And.intro | intro _ | fail))
  exact ⟨c, h⟩
theorem turn_right {p q r : Int} (s0 : (-1000) ≤ p ∧ p ≤ 1000) (s1 : (-1000) ≤ q ∧ q ≤ 1000) (s2 : 1 ≤ r ∧ r ≤ 1000) (h0 : 0 - r ≤ p) (h1 : p ≤ r) (h2 : 0 - r ≤ q) (h3 : q ≤ r) (h4 : p * p + q * q = r * r) (w : World) : Calls Try.prog 41 #[.agg #[.int .i64 p, .int .i64 q, .int .i64 r]] w fun e w' => e = .returned (.int .i64 0) ∧ Below w.heap.size w w' := by
  refine one_val (ctr s0 s1 s2 (Q := (· = _)) ?_) w
  repeat' (first | exact rfl | apply And.intro | intro _ | fail)
  all_goals simp only [decide_eq_true_eq, decide_eq_false_iff_not, beq_iff_eq, beq_eq_false_iff_ne] at *
  all_goals (exfalso; omega)
/-- What a matrix of whole numbers comes back as. -/
theorem back_any {n0 n1 n2 n3 n4 n5 n6 n7 : Int} (g0 : (-10000000000000) ≤ n0 ∧ n0 ≤ 10000000000000) (g1 : (-10000000000000) ≤ n1 ∧ n1 ≤ 10000000000000) (g2 : (-10000000000000) ≤ n2 ∧ n2 ≤ 10000000000000) (g3 : (-10000000000000) ≤ n3 ∧ n3 ≤ 10000000000000) (g4 : (-10000000000000) ≤ n4 ∧ n4 ≤ 10000000000000) (g5 : (-10000000000000) ≤ n5 ∧ n5 ≤ 10000000000000) (g6 : (-10000000000000) ≤ n6 ∧ n6 ≤ 10000000000000) (g7 : (-10000000000000) ≤ n7 ∧ n7 ≤ 10000000000000) : ∃ (z0 z1 z2 z3 z4 z5 z6 z7 : Nat) (c : Int), (∀ w, Calls Try.prog 34 #[.agg #[.int .i64 n0, .int .i64 n1, .int .i64 n2, .int .i64 n3, .int .i64 n4, .int .i64 n5, .int .i64 n6, .int .i64 n7]] w fun e w' => e = .returned (.tuple #[.agg #[.complex .f64 z0 z1, .complex .f64 z2 z3, .complex .f64 z4 z5, .complex .f64 z6 z7], .int .i64 c]) ∧ Below w.heap.size w w') ∧ ((((-1000) ≤ n0 ∧ n0 ≤ 1000) ∧ ((-1000) ≤ n1 ∧ n1 ≤ 1000) ∧ ((-1000) ≤ n2 ∧ n2 ≤ 1000) ∧ ((-1000) ≤ n3 ∧ n3 ≤ 1000) ∧ ((-1000) ≤ n4 ∧ n4 ≤ 1000) ∧ ((-1000) ≤ n5 ∧ n5 ≤ 1000) ∧ ((-1000) ≤ n6 ∧ n6 ≤ 1000) ∧ ((-1000) ≤ n7 ∧ n7 ≤ 1000)) → z0 = FloatKind.f64.nearest n0 ∧ z1 = FloatKind.f64.nearest n1 ∧ z2 = FloatKind.f64.nearest n2 ∧ z3 = FloatKind.f64.nearest n3 ∧ z4 = FloatKind.f64.nearest n4 ∧ z5 = FloatKind.f64.nearest n5 ∧ z6 = FloatKind.f64.nearest n6 ∧ z7 = FloatKind.f64.nearest n7 ∧ c = 0) ∧ (¬ (((-1000) ≤ n0 ∧ n0 ≤ 1000) ∧ ((-1000) ≤ n1 ∧ n1 ≤ 1000) ∧ ((-1000) ≤ n2 ∧ n2 ≤ 1000) ∧ ((-1000) ≤ n3 ∧ n3 ≤ 1000) ∧ ((-1000) ≤ n4 ∧ n4 ≤ 1000) ∧ ((-1000) ≤ n5 ∧ n5 ≤ 1000) ∧ ((-1000) ≤ n6 ∧ n6 ≤ 1000) ∧ ((-1000) ≤ n7 ∧ n7 ≤ 1000)) → z0 = 0 ∧ z1 = 0 ∧ z2 = 0 ∧ z3 = 0 ∧ z4 = 0 ∧ z5 = 0 ∧ z6 = 0 ∧ z7 = 0 ∧ c = 8) := by
  by_cases h : ((-1000) ≤ n0 ∧ n0 ≤ 1000) ∧ ((-1000) ≤ n1 ∧ n1 ≤ 1000) ∧ ((-1000) ≤ n2 ∧ n2 ≤ 1000) ∧ ((-1000) ≤ n3 ∧ n3 ≤ 1000) ∧ ((-1000) ≤ n4 ∧ n4 ≤ 1000) ∧ ((-1000) ≤ n5 ∧ n5 ≤ 1000) ∧ ((-1000) ≤ n6 ∧ n6 ≤ 1000) ∧ ((-1000) ≤ n7 ∧ n7 ≤ 1000)
  · exact ⟨_, _, _, _, _, _, _, _, 0, fun w => back_ok g0 g1 g2 g3 g4 g5 g6 g7 h w, fun _ => ⟨rfl, rfl, rfl, rfl, rfl, rfl, rfl, rfl, rfl⟩, fun g => absurd h g⟩
  · exact ⟨0, 0, 0, 0, 0, 0, 0, 0, 8, fun w => back_large g0 g1 g2 g3 g4 g5 g6 g7 h w, fun g => absurd g h, fun _ => ⟨rfl, rfl, rfl, rfl, rfl, rfl, rfl, rfl, rfl⟩⟩
set_option maxHeartbeats 8000000 in
theorem turns {p q r : Int} {a0 a1 b0 b1 c0 c1 d0 d1 : Nat} (r0 : (-9223372036854775808) ≤ p ∧ p ≤ 9223372036854775807) (r1 : (-9223372036854775808) ≤ q ∧ q ≤ 9223372036854775807) (r2 : (-9223372036854775808) ≤ r ∧ r ≤ 9223372036854775807) (u0 : U a0) (u1 : U a1) (u2 : U b0) (u3 : U b1) (u4 : U c0) (u5 : U c1) (u6 : U d0) (u7 : U d1) (w : World) : Calls Try.prog 5 #[.agg #[.int .i64 p, .int .i64 q, .int .i64 r], .agg #[.float .f64 a0, .float .f64 a1, .float .f64 b0, .float .f64 b1, .float .f64 c0, .float .f64 c1, .float .f64 d0, .float .f64 d1]] w fun e w' => e = .returned (.bool true) ∧ Below w.heap.size w w' := by
  by_cases hs : ((-1000) ≤ p ∧ p ≤ 1000) ∧ ((-1000) ≤ q ∧ q ≤ 1000) ∧ (1 ≤ r ∧ r ≤ 1000)
  · obtain ⟨s0, s1, s2⟩ := hs
    by_cases hm : maC a0 a1 b0 b1 c0 c1 d0 d1 = 0
    · obtain ⟨A0, A1, B0, B1, C0, C1, D0, D1, ⟨ha0, ha1, hb0, hb1, hc0, hc1, hd0, hd1⟩, kA0, kA1, kB0, kB1, kC0, kC1, kD0, kD1⟩ := ma_ok u0 u1 u2 u3 u4 u5 u6 u7 hm
      have pp := pr_le (K := 1000) s0 s0; have pq := pr_le (K := 1000) s0 s1; have qq := pr_le (K := 1000) s1 s1
      obtain ⟨x0, x1, x2, x3, x4, x5, x6, x7, xc, BX, bx, by'⟩ := back_any (n0 := p) (n1 := 0) (n2 := 0 - q) (n3 := 0) (n4 := q) (n5 := 0) (n6 := p) (n7 := 0) ⟨by omega, by omega⟩ ⟨by omega, by omega⟩ ⟨by omega, by omega⟩ ⟨by omega, by omega⟩ ⟨by omega, by omega⟩ ⟨by omega, by omega⟩ ⟨by omega, by omega⟩ ⟨by omega, by omega⟩
      obtain ⟨rfl, rfl, rfl, rfl, rfl, rfl, rfl, rfl, rfl⟩ := bx ⟨⟨by omega, by omega⟩, ⟨by omega, by omega⟩, ⟨by omega, by omega⟩, ⟨by omega, by omega⟩, ⟨by omega, by omega⟩, ⟨by omega, by omega⟩, ⟨by omega, by omega⟩, ⟨by omega, by omega⟩⟩
      obtain ⟨y0, y1, y2, y3, y4, y5, y6, y7, yc, BY, by0, by1⟩ := back_any (n0 := p * p) (n1 := 0) (n2 := p * q) (n3 := 0) (n4 := p * q) (n5 := 0) (n6 := q * q) (n7 := 0) ⟨by omega, by omega⟩ ⟨by omega, by omega⟩ ⟨by omega, by omega⟩ ⟨by omega, by omega⟩ ⟨by omega, by omega⟩ ⟨by omega, by omega⟩ ⟨by omega, by omega⟩ ⟨by omega, by omega⟩
      by_cases hR : (0 - r ≤ p ∧ p ≤ r) ∧ (0 - r ≤ q ∧ q ≤ r) ∧ p * p + q * q = r * r
      rotate_left
      · have TB : (∀ w, Calls Try.prog 39 #[.agg #[.complex .f64 a0 a1, .complex .f64 b0 b1, .complex .f64 c0 c1, .complex .f64 d0 d1], .agg #[.int .i64 p, .int .i64 q, .int .i64 r]] w fun e w' => e = .returned (.tuple #[.agg #[.complex .f64 0 0, .complex .f64 0 0, .complex .f64 0 0, .complex .f64 0 0], .int .i64 12]) ∧ Below w.heap.size w w') := fun w => one_val (tb2 kA0 kA1 kB0 kB1 kC0 kC1 kD0 kD1 s0 s1 s2 ha0 ha1 hb0 hb1 hc0 hc1 hd0 hd1 (Q := (· = _)) ⟨12, fun w => turn_wrong s0 s1 s2 hR w, ⟨by omega, by omega⟩, rfl⟩) w
        refine one_val (t1 s0 s1 s2 kA0 kA1 kB0 kB1 kC0 kC1 kD0 kD1 ha0 ha1 hb0 hb1 hc0 hc1 hd0 hd1 (Q := (· = _)) ⟨awake, ?_⟩) w
        refine ⟨fun q0 => ⟨fun q1 => ⟨fun q2 => ⟨fun q3 => ⟨fun q4 => ?_, fun _ => ?_⟩, fun _ => ?_⟩, fun _ => ?_⟩, fun _ => ?_⟩, fun _ => ?_⟩
        · exfalso; simp only [decide_eq_true_eq, beq_iff_eq] at q0 q1 q2 q3 q4; exact hR ⟨⟨q0, q1⟩, ⟨q2, q3⟩, q4⟩
        all_goals (refine ⟨0, 0, 0, 0, 0, 0, 0, 0, 12, TB, ?_⟩; repeat' (first | exact rfl | refine ⟨true, fun w => same_raw _ _ _ _ _ _ _ _ w, ?_⟩ | exact (fun w => same_raw _ _ _ _ _ _ _ _ w) | apply And.intro | intro _ | fail))
        all_goals (rename_i h; first | (rw [beq_self_eq_true] at h; cases h; done) | cases h)
      obtain ⟨⟨z1, z2⟩, ⟨z3, z4⟩, z5⟩ := hR
      refine one_val (t1 s0 s1 s2 kA0 kA1 kB0 kB1 kC0 kC1 kD0 kD1 ha0 ha1 hb0 hb1 hc0 hc1 hd0 hd1 (Q := (· = _)) ⟨awake, ?_⟩) w
      refine ⟨fun q0 => ⟨fun q1 => ⟨fun q2 => ⟨fun q3 => ⟨fun q4 => ?_, fun _ => ?_⟩, fun _ => ?_⟩, fun _ => ?_⟩, fun _ => ?_⟩, fun _ => ?_⟩
      rotate_left
      iterate 5 (exfalso; rename_i g; simp only [decide_eq_false_iff_not, beq_eq_false_iff_ne] at g; omega)
      simp only [decide_eq_true_eq, beq_iff_eq] at q0 q1 q2 q3 q4
      obtain ⟨n0, n1, n2, n3, n4, n5, n6, n7, RT, ⟨g0, g1, g2, g3, g4, g5, g6, g7⟩, T0, T1⟩ := turned_c kA0 kA1 kB0 kB1 kC0 kC1 kD0 kD1 s0 s1 s2 ha0 ha1 hb0 hb1 hc0 hc1 hd0 hd1 (fun w => turn_right s0 s1 s2 q0 q1 q2 q3 q4 w)
      have BT : ∃ (z0 z1 z2 z3 z4 z5 z6 z7 : Nat) (c : Int), (∀ w, Calls Try.prog 39 #[.agg #[.complex .f64 a0 a1, .complex .f64 b0 b1, .complex .f64 c0 c1, .complex .f64 d0 d1], .agg #[.int .i64 p, .int .i64 q, .int .i64 r]] w fun e w' => e = .returned (.tuple #[.agg #[.complex .f64 z0 z1, .complex .f64 z2 z3, .complex .f64 z4 z5, .complex .f64 z6 z7], .int .i64 c]) ∧ Below w.heap.size w w') ∧ (∀ w, Calls Try.prog 34 #[.agg #[.int .i64 n0, .int .i64 n1, .int .i64 n2, .int .i64 n3, .int .i64 n4, .int .i64 n5, .int .i64 n6, .int .i64 n7]] w fun e w' => e = .returned (.tuple #[.agg #[.complex .f64 z0 z1, .complex .f64 z2 z3, .complex .f64 z4 z5, .complex .f64 z6 z7], .int .i64 c]) ∧ Below w.heap.size w w') := by
        by_cases h : ((-1000) ≤ n0 ∧ n0 ≤ 1000) ∧ ((-1000) ≤ n1 ∧ n1 ≤ 1000) ∧ ((-1000) ≤ n2 ∧ n2 ≤ 1000) ∧ ((-1000) ≤ n3 ∧ n3 ≤ 1000) ∧ ((-1000) ≤ n4 ∧ n4 ≤ 1000) ∧ ((-1000) ≤ n5 ∧ n5 ≤ 1000) ∧ ((-1000) ≤ n6 ∧ n6 ≤ 1000) ∧ ((-1000) ≤ n7 ∧ n7 ≤ 1000)
        · exact ⟨_, _, _, _, _, _, _, _, 0, T0 h, fun w => back_ok g0 g1 g2 g3 g4 g5 g6 g7 h w⟩
        · exact ⟨0, 0, 0, 0, 0, 0, 0, 0, 8, T1 h, fun w => back_large g0 g1 g2 g3 g4 g5 g6 g7 h w⟩
      obtain ⟨z0, z1, z2, z3, z4, z5, z6, z7, c, TT, BB⟩ := BT
      have fin : ∀ {a b : Int}, a = b → ((a : Int) == b) = false → False := fun h g => by rw [h, beq_self_eq_true] at g; cases g
      have S : ∀ (a0 a1 b0 b1 c0 c1 d0 d1 : Nat), ∀ w, Calls Try.prog 36 #[.agg #[.complex .f64 a0 a1, .complex .f64 b0 b1, .complex .f64 c0 c1, .complex .f64 d0 d1], .agg #[.complex .f64 a0 a1, .complex .f64 b0 b1, .complex .f64 c0 c1, .complex .f64 d0 d1]] w fun e w' => e = .returned (.bool true) ∧ Below w.heap.size w w' := fun _ _ _ _ _ _ _ _ w => same_raw _ _ _ _ _ _ _ _ w
      refine ⟨fun l0 => ⟨fun l1 => ⟨fun l2 => ?_, fun l2 => ?_⟩, fun l1 => ?_⟩, fun l0 => ?_⟩
      all_goals simp only [decide_eq_true_eq, decide_eq_false_iff_not, sz1000] at *
      · obtain ⟨rfl, rfl, rfl, rfl, rfl, rfl, rfl, rfl, rfl⟩ := by0 ⟨l0, ⟨by omega, by omega⟩, l1, ⟨by omega, by omega⟩, l1, ⟨by omega, by omega⟩, l2, ⟨by omega, by omega⟩⟩
        exact ⟨((z0 : Nat) : Int), ((z1 : Nat) : Int), ((z2 : Nat) : Int), ((z3 : Nat) : Int), ((z4 : Nat) : Int), ((z5 : Nat) : Int), ((z6 : Nat) : Int), ((z7 : Nat) : Int), c, TT, ((FloatKind.f64.nearest p : Nat) : Int), ((FloatKind.f64.nearest 0 : Nat) : Int), ((FloatKind.f64.nearest (0 - q) : Nat) : Int), ((FloatKind.f64.nearest 0 : Nat) : Int), ((FloatKind.f64.nearest q : Nat) : Int), ((FloatKind.f64.nearest 0 : Nat) : Int), ((FloatKind.f64.nearest p : Nat) : Int), ((FloatKind.f64.nearest 0 : Nat) : Int), 0, BX, ((FloatKind.f64.nearest (p * p) : Nat) : Int), ((FloatKind.f64.nearest 0 : Nat) : Int), ((FloatKind.f64.nearest (p * q) : Nat) : Int), ((FloatKind.f64.nearest 0 : Nat) : Int), ((FloatKind.f64.nearest (p * q) : Nat) : Int), ((FloatKind.f64.nearest 0 : Nat) : Int), ((FloatKind.f64.nearest (q * q) : Nat) : Int), ((FloatKind.f64.nearest 0 : Nat) : Int), 0, BY, n0, n1, n2, n3, n4, n5, n6, n7, RT, ((z0 : Nat) : Int), ((z1 : Nat) : Int), ((z2 : Nat) : Int), ((z3 : Nat) : Int), ((z4 : Nat) : Int), ((z5 : Nat) : Int), ((z6 : Nat) : Int), ((z7 : Nat) : Int), c, BB, ⟨fun _ => ⟨true, fun w => S _ _ _ _ _ _ _ _ w, fun _ => ⟨fun _ => ⟨true, fun w => S _ _ _ _ _ _ _ _ w, fun _ => ⟨fun _ => ⟨true, fun w => S _ _ _ _ _ _ _ _ w, rfl⟩, fun g => (fin rfl g).elim⟩, fun g => by cases g⟩, fun g => (fin rfl g).elim⟩, fun g => by cases g⟩, fun g => (fin rfl g).elim⟩⟩
      · obtain ⟨rfl, rfl, rfl, rfl, rfl, rfl, rfl, rfl, rfl⟩ := by1 (fun h => l2 h.2.2.2.2.2.2.1)
        exact ⟨((z0 : Nat) : Int), ((z1 : Nat) : Int), ((z2 : Nat) : Int), ((z3 : Nat) : Int), ((z4 : Nat) : Int), ((z5 : Nat) : Int), ((z6 : Nat) : Int), ((z7 : Nat) : Int), c, TT, ((FloatKind.f64.nearest p : Nat) : Int), ((FloatKind.f64.nearest 0 : Nat) : Int), ((FloatKind.f64.nearest (0 - q) : Nat) : Int), ((FloatKind.f64.nearest 0 : Nat) : Int), ((FloatKind.f64.nearest q : Nat) : Int), ((FloatKind.f64.nearest 0 : Nat) : Int), ((FloatKind.f64.nearest p : Nat) : Int), ((FloatKind.f64.nearest 0 : Nat) : Int), 0, BX, ((0 : Nat) : Int), ((0 : Nat) : Int), ((0 : Nat) : Int), ((0 : Nat) : Int), ((0 : Nat) : Int), ((0 : Nat) : Int), ((0 : Nat) : Int), ((0 : Nat) : Int), 8, BY, n0, n1, n2, n3, n4, n5, n6, n7, RT, ((z0 : Nat) : Int), ((z1 : Nat) : Int), ((z2 : Nat) : Int), ((z3 : Nat) : Int), ((z4 : Nat) : Int), ((z5 : Nat) : Int), ((z6 : Nat) : Int), ((z7 : Nat) : Int), c, BB, ⟨fun _ => ⟨true, fun w => S _ _ _ _ _ _ _ _ w, fun _ => ⟨fun _ => ⟨true, fun w => S _ _ _ _ _ _ _ _ w, fun _ => ⟨fun _ => ⟨true, fun w => S _ _ _ _ _ _ _ _ w, rfl⟩, fun g => (fin rfl g).elim⟩, fun g => by cases g⟩, fun g => (fin rfl g).elim⟩, fun g => by cases g⟩, fun g => (fin rfl g).elim⟩⟩
      · obtain ⟨rfl, rfl, rfl, rfl, rfl, rfl, rfl, rfl, rfl⟩ := by1 (fun h => l1 h.2.2.1)
        exact ⟨((z0 : Nat) : Int), ((z1 : Nat) : Int), ((z2 : Nat) : Int), ((z3 : Nat) : Int), ((z4 : Nat) : Int), ((z5 : Nat) : Int), ((z6 : Nat) : Int), ((z7 : Nat) : Int), c, TT, ((FloatKind.f64.nearest p : Nat) : Int), ((FloatKind.f64.nearest 0 : Nat) : Int), ((FloatKind.f64.nearest (0 - q) : Nat) : Int), ((FloatKind.f64.nearest 0 : Nat) : Int), ((FloatKind.f64.nearest q : Nat) : Int), ((FloatKind.f64.nearest 0 : Nat) : Int), ((FloatKind.f64.nearest p : Nat) : Int), ((FloatKind.f64.nearest 0 : Nat) : Int), 0, BX, ((0 : Nat) : Int), ((0 : Nat) : Int), ((0 : Nat) : Int), ((0 : Nat) : Int), ((0 : Nat) : Int), ((0 : Nat) : Int), ((0 : Nat) : Int), ((0 : Nat) : Int), 8, BY, n0, n1, n2, n3, n4, n5, n6, n7, RT, ((z0 : Nat) : Int), ((z1 : Nat) : Int), ((z2 : Nat) : Int), ((z3 : Nat) : Int), ((z4 : Nat) : Int), ((z5 : Nat) : Int), ((z6 : Nat) : Int), ((z7 : Nat) : Int), c, BB, ⟨fun _ => ⟨true, fun w => S _ _ _ _ _ _ _ _ w, fun _ => ⟨fun _ => ⟨true, fun w => S _ _ _ _ _ _ _ _ w, fun _ => ⟨fun _ => ⟨true, fun w => S _ _ _ _ _ _ _ _ w, rfl⟩, fun g => (fin rfl g).elim⟩, fun g => by cases g⟩, fun g => (fin rfl g).elim⟩, fun g => by cases g⟩, fun g => (fin rfl g).elim⟩⟩
      · obtain ⟨rfl, rfl, rfl, rfl, rfl, rfl, rfl, rfl, rfl⟩ := by1 (fun h => l0 h.1)
        exact ⟨((z0 : Nat) : Int), ((z1 : Nat) : Int), ((z2 : Nat) : Int), ((z3 : Nat) : Int), ((z4 : Nat) : Int), ((z5 : Nat) : Int), ((z6 : Nat) : Int), ((z7 : Nat) : Int), c, TT, ((FloatKind.f64.nearest p : Nat) : Int), ((FloatKind.f64.nearest 0 : Nat) : Int), ((FloatKind.f64.nearest (0 - q) : Nat) : Int), ((FloatKind.f64.nearest 0 : Nat) : Int), ((FloatKind.f64.nearest q : Nat) : Int), ((FloatKind.f64.nearest 0 : Nat) : Int), ((FloatKind.f64.nearest p : Nat) : Int), ((FloatKind.f64.nearest 0 : Nat) : Int), 0, BX, ((0 : Nat) : Int), ((0 : Nat) : Int), ((0 : Nat) : Int), ((0 : Nat) : Int), ((0 : Nat) : Int), ((0 : Nat) : Int), ((0 : Nat) : Int), ((0 : Nat) : Int), 8, BY, n0, n1, n2, n3, n4, n5, n6, n7, RT, ((z0 : Nat) : Int), ((z1 : Nat) : Int), ((z2 : Nat) : Int), ((z3 : Nat) : Int), ((z4 : Nat) : Int), ((z5 : Nat) : Int), ((z6 : Nat) : Int), ((z7 : Nat) : Int), c, BB, ⟨fun _ => ⟨true, fun w => S _ _ _ _ _ _ _ _ w, fun _ => ⟨fun _ => ⟨true, fun w => S _ _ _ _ _ _ _ _ w, fun _ => ⟨fun _ => ⟨true, fun w => S _ _ _ _ _ _ _ _ w, rfl⟩, fun g => (fin rfl g).elim⟩, fun g => by cases g⟩, fun g => (fin rfl g).elim⟩, fun g => by cases g⟩, fun g => (fin rfl g).elim⟩⟩
    · have hr := rng_ma hm
      obtain ⟨c, hc⟩ := turn_any r0 r1 r2
      have T := fun w => one_val (tb (a0 := a0) (a1 := a1) (b0 := b0) (b1 := b1) (c0 := c0) (c1 := c1) (d0 := d0) (d1 := d1) r0 r1 r2 (Q := (· = _)) ⟨_, fun w => jon_raw u0 u1 u2 u3 u4 u5 u6 u7 w, hr, c, hc, rfl⟩) w
      have M := fun w => matrix_bad u0 u1 u2 u3 u4 u5 u6 u7 hm w
      refine one_val (t2 s0 s1 s2 (Q := (· = _)) ⟨awake, ?_⟩) w
      repeat' (first | exact rfl | refine ⟨0, 0, 0, 0, 0, 0, 0, 0, _, T, ?_⟩ | refine ⟨0, 0, 0, 0, 0, 0, 0, 0, _, M, hr, ?_⟩ | refine ⟨true, fun w => same_raw _ _ _ _ _ _ _ _ w, ?_⟩ | exact (fun w => same_raw _ _ _ _ _ _ _ _ w) | apply And.intro | intro _ | fail)
      all_goals (rename_i h; first | (rw [beq_self_eq_true] at h; cases h; done) | cases h)
  · obtain ⟨Z0, Z1, Z2, Z3, Z4, Z5, Z6, Z7, ra⟩ := matrix_any u0 u1 u2 u3 u4 u5 u6 u7
    have J := fun w => jon_raw u0 u1 u2 u3 u4 u5 u6 u7 w
    refine one_val (t3 r0 r1 r2 (Q := (· = _)) ⟨awake, ?_⟩) w
    repeat' (first | exact rfl | refine ⟨_, J, ?_⟩ | refine ⟨_, _, _, _, _, _, _, _, _, ra, ?_⟩ | apply And.intro | intro _ | fail)
    all_goals simp only [decide_eq_true_eq, decide_eq_false_iff_not, beq_iff_eq, beq_eq_false_iff_ne] at *
    all_goals first | (exfalso; omega) | skip
end Go.Proofs.Ytlondnchmfhenaa.Ev
