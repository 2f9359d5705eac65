/- PolarBothWays: what it calls, with numbers in normal form -/
import Derived.Test.YtlondnchmfhenaaPbc
namespace Go.Proofs.Ytlondnchmfhenaa.Ev
set_option linter.unusedSimpArgs false
set_option linter.unusedVariables false
open Go Go.RowKit
set_option maxRecDepth 100000
theorem rpn (k : Int) : Rp (FloatKind.f64.nearest k) k := Rp_fi k
theorem pr_bd {x y K : Int} (hx : -K ≤ x ∧ x ≤ K) (hy : -K ≤ y ∧ y ≤ K) : -(K * K) ≤ x * y ∧ x * y ≤ K * K := by
  have h1 := Int.mul_nonneg (a := K - x) (b := K + y) (by omega) (by omega)
  have h2 := Int.mul_nonneg (a := K + x) (b := K - y) (by omega) (by omega)
  have h3 := Int.mul_nonneg (a := K - x) (b := K - y) (by omega) (by omega)
  have h4 := Int.mul_nonneg (a := K + x) (b := K + y) (by omega) (by omega)
  have e1 : (K - x) * (K + y) + (K + x) * (K - y) = 2 * (K * K) - 2 * (x * y) := by grind
  have e2 : (K - x) * (K - y) + (K + x) * (K + y) = 2 * (K * K) + 2 * (x * y) := by grind
  generalize (K - x) * (K + y) = a at *
  generalize (K + x) * (K - y) = b at *
  generalize (K - x) * (K - y) = c at *
  generalize (K + x) * (K + y) = d at *
  generalize K * K = k at *
  generalize x * y = z at *
  omega
set_option maxHeartbeats 4000000 in
theorem pass_c {A0 A1 B0 B1 C0 C1 D0 D1 X0 X1 Y0 Y1 : Int} (qA0 : (-10) ≤ A0 ∧ A0 ≤ 10) (qA1 : (-10) ≤ A1 ∧ A1 ≤ 10) (qB0 : (-10) ≤ B0 ∧ B0 ≤ 10) (qB1 : (-10) ≤ B1 ∧ B1 ≤ 10) (qC0 : (-10) ≤ C0 ∧ C0 ≤ 10) (qC1 : (-10) ≤ C1 ∧ C1 ≤ 10) (qD0 : (-10) ≤ D0 ∧ D0 ≤ 10) (qD1 : (-10) ≤ D1 ∧ D1 ≤ 10) (qX0 : (-10) ≤ X0 ∧ X0 ≤ 10) (qX1 : (-10) ≤ X1 ∧ X1 ≤ 10) (qY0 : (-10) ≤ Y0 ∧ Y0 ≤ 10) (qY1 : (-10) ≤ Y1 ∧ Y1 ≤ 10) : ∃ z0 z1 z2 z3 : Int, (z0 = (A0 * X0) - (A1 * X1) + (B0 * Y0) - (B1 * Y1) ∧ z1 = (A0 * X1) + (A1 * X0) + (B0 * Y1) + (B1 * Y0) ∧ z2 = (C0 * X0) - (C1 * X1) + (D0 * Y0) - (D1 * Y1) ∧ z3 = (C0 * X1) + (C1 * X0) + (D0 * Y1) + (D1 * Y0)) ∧ ((-400) ≤ z0 ∧ z0 ≤ 400 ∧ (-400) ≤ z1 ∧ z1 ≤ 400 ∧ (-400) ≤ z2 ∧ z2 ≤ 400 ∧ (-400) ≤ z3 ∧ z3 ≤ 400) ∧ ∀ w, Calls Try.prog 23 #[.agg #[.complex .f64 (FloatKind.f64.nearest A0) (FloatKind.f64.nearest A1), .complex .f64 (FloatKind.f64.nearest B0) (FloatKind.f64.nearest B1), .complex .f64 (FloatKind.f64.nearest C0) (FloatKind.f64.nearest C1), .complex .f64 (FloatKind.f64.nearest D0) (FloatKind.f64.nearest D1)], .agg #[.complex .f64 (FloatKind.f64.nearest X0) (FloatKind.f64.nearest X1), .complex .f64 (FloatKind.f64.nearest Y0) (FloatKind.f64.nearest Y1)]] w fun e w' => e = .returned (.tuple #[.agg #[.complex .f64 (FloatKind.f64.nearest z0) (FloatKind.f64.nearest z1), .complex .f64 (FloatKind.f64.nearest z2) (FloatKind.f64.nearest z3)], .int .i64 0]) ∧ Below w.heap.size w w' := by
  have e0 : (((A0 * X0) - (A1 * X1)) + ((B0 * Y0) - (B1 * Y1))) = (A0 * X0) - (A1 * X1) + (B0 * Y0) - (B1 * Y1) := by grind
  have e1 : (((A0 * X1) + (A1 * X0)) + ((B0 * Y1) + (B1 * Y0))) = (A0 * X1) + (A1 * X0) + (B0 * Y1) + (B1 * Y0) := by grind
  have e2 : (((C0 * X0) - (C1 * X1)) + ((D0 * Y0) - (D1 * Y1))) = (C0 * X0) - (C1 * X1) + (D0 * Y0) - (D1 * Y1) := by grind
  have e3 : (((C0 * X1) + (C1 * X0)) + ((D0 * Y1) + (D1 * Y0))) = (C0 * X1) + (C1 * X0) + (D0 * Y1) + (D1 * Y0) := by grind
  have b_A0_X0 := pr_bd (K := 10) (x := A0) (y := X0) ⟨by omega, by omega⟩ ⟨by omega, by omega⟩
  have b_A0_X1 := pr_bd (K := 10) (x := A0) (y := X1) ⟨by omega, by omega⟩ ⟨by omega, by omega⟩
  have b_A1_X0 := pr_bd (K := 10) (x := A1) (y := X0) ⟨by omega, by omega⟩ ⟨by omega, by omega⟩
  have b_A1_X1 := pr_bd (K := 10) (x := A1) (y := X1) ⟨by omega, by omega⟩ ⟨by omega, by omega⟩
  have b_B0_Y0 := pr_bd (K := 10) (x := B0) (y := Y0) ⟨by omega, by omega⟩ ⟨by omega, by omega⟩
  have b_B0_Y1 := pr_bd (K := 10) (x := B0) (y := Y1) ⟨by omega, by omega⟩ ⟨by omega, by omega⟩
  have b_B1_Y0 := pr_bd (K := 10) (x := B1) (y := Y0) ⟨by omega, by omega⟩ ⟨by omega, by omega⟩
  have b_B1_Y1 := pr_bd (K := 10) (x := B1) (y := Y1) ⟨by omega, by omega⟩ ⟨by omega, by omega⟩
  have b_C0_X0 := pr_bd (K := 10) (x := C0) (y := X0) ⟨by omega, by omega⟩ ⟨by omega, by omega⟩
  have b_C0_X1 := pr_bd (K := 10) (x := C0) (y := X1) ⟨by omega, by omega⟩ ⟨by omega, by omega⟩
  have b_C1_X0 := pr_bd (K := 10) (x := C1) (y := X0) ⟨by omega, by omega⟩ ⟨by omega, by omega⟩
  have b_C1_X1 := pr_bd (K := 10) (x := C1) (y := X1) ⟨by omega, by omega⟩ ⟨by omega, by omega⟩
  have b_D0_Y0 := pr_bd (K := 10) (x := D0) (y := Y0) ⟨by omega, by omega⟩ ⟨by omega, by omega⟩
  have b_D0_Y1 := pr_bd (K := 10) (x := D0) (y := Y1) ⟨by omega, by omega⟩ ⟨by omega, by omega⟩
  have b_D1_Y0 := pr_bd (K := 10) (x := D1) (y := Y0) ⟨by omega, by omega⟩ ⟨by omega, by omega⟩
  have b_D1_Y1 := pr_bd (K := 10) (x := D1) (y := Y1) ⟨by omega, by omega⟩ ⟨by omega, by omega⟩
  refine ⟨_, _, _, _, ⟨rfl, rfl, rfl, rfl⟩, ⟨by omega, by omega, by omega, by omega, by omega, by omega, by omega, by omega⟩, fun w => ?_⟩
  refine one_val (pd qA0 qA1 qB0 qB1 qC0 qC1 qD0 qD1 qX0 qX1 qY0 qY1 (rpn _) (rpn _) (rpn _) (rpn _) (rpn _) (rpn _) (rpn _) (rpn _) (rpn _) (rpn _) (rpn _) (rpn _) (Q := (· = _)) ?_) w
  simp only [e0, e1, e2, e3]
set_option maxHeartbeats 4000000 in
theorem stokes_c {X0 X1 Y0 Y1 : Int} (qX0 : (-10) ≤ X0 ∧ X0 ≤ 10) (qX1 : (-10) ≤ X1 ∧ X1 ≤ 10) (qY0 : (-10) ≤ Y0 ∧ Y0 ≤ 10) (qY1 : (-10) ≤ Y1 ∧ Y1 ≤ 10) : ∃ z0 z1 z2 z3 : Int, (z0 = (X0 * X0) + (X1 * X1) + (Y0 * Y0) + (Y1 * Y1) ∧ z1 = (X0 * X0) + (X1 * X1) - (Y0 * Y0) - (Y1 * Y1) ∧ z2 = 2 * (X0 * Y0) + 2 * (X1 * Y1) ∧ z3 = 2 * (X0 * Y1) - 2 * (X1 * Y0)) ∧ ((-400) ≤ z0 ∧ z0 ≤ 400 ∧ (-400) ≤ z1 ∧ z1 ≤ 400 ∧ (-400) ≤ z2 ∧ z2 ≤ 400 ∧ (-400) ≤ z3 ∧ z3 ≤ 400) ∧ ∀ w, Calls Try.prog 21 #[.agg #[.complex .f64 (FloatKind.f64.nearest X0) (FloatKind.f64.nearest X1), .complex .f64 (FloatKind.f64.nearest Y0) (FloatKind.f64.nearest Y1)]] w fun e w' => e = .returned (.tuple #[.agg #[.int .i64 z0, .int .i64 z1, .int .i64 z2, .int .i64 z3], .int .i64 0]) ∧ Below w.heap.size w w' := by
  have e0 : (((X0 * X0) - (X1 * (0 - X1))) + ((Y0 * Y0) - (Y1 * (0 - Y1)))) = (X0 * X0) + (X1 * X1) + (Y0 * Y0) + (Y1 * Y1) := by grind
  have e1 : (((X0 * X0) - (X1 * (0 - X1))) - ((Y0 * Y0) - (Y1 * (0 - Y1)))) = (X0 * X0) + (X1 * X1) - (Y0 * Y0) - (Y1 * Y1) := by grind
  have e2 : (2 * ((X0 * Y0) - (X1 * (0 - Y1)))) = 2 * (X0 * Y0) + 2 * (X1 * Y1) := by grind
  have e3 : ((-2) * ((X0 * (0 - Y1)) + (X1 * Y0))) = 2 * (X0 * Y1) - 2 * (X1 * Y0) := by grind
  have b_X0_X0 := pr_bd (K := 10) (x := X0) (y := X0) ⟨by omega, by omega⟩ ⟨by omega, by omega⟩
  have b_X0_Y0 := pr_bd (K := 10) (x := X0) (y := Y0) ⟨by omega, by omega⟩ ⟨by omega, by omega⟩
  have b_X0_Y1 := pr_bd (K := 10) (x := X0) (y := Y1) ⟨by omega, by omega⟩ ⟨by omega, by omega⟩
  have b_X1_X1 := pr_bd (K := 10) (x := X1) (y := X1) ⟨by omega, by omega⟩ ⟨by omega, by omega⟩
  have b_X1_Y0 := pr_bd (K := 10) (x := X1) (y := Y0) ⟨by omega, by omega⟩ ⟨by omega, by omega⟩
  have b_X1_Y1 := pr_bd (K := 10) (x := X1) (y := Y1) ⟨by omega, by omega⟩ ⟨by omega, by omega⟩
  have b_Y0_Y0 := pr_bd (K := 10) (x := Y0) (y := Y0) ⟨by omega, by omega⟩ ⟨by omega, by omega⟩
  have b_Y1_Y1 := pr_bd (K := 10) (x := Y1) (y := Y1) ⟨by omega, by omega⟩ ⟨by omega, by omega⟩
  refine ⟨_, _, _, _, ⟨rfl, rfl, rfl, rfl⟩, ⟨by omega, by omega, by omega, by omega, by omega, by omega, by omega, by omega⟩, fun w => ?_⟩
  refine one_val (so ⟨by omega, by omega⟩ ⟨by omega, by omega⟩ ⟨by omega, by omega⟩ ⟨by omega, by omega⟩ (rpn _) (rpn _) (rpn _) (rpn _) (Q := (· = _)) ?_) w
  simp only [e0, e1, e2, e3]
set_option maxHeartbeats 4000000 in
theorem stokes_d {X0 X1 Y0 Y1 : Int} (qX0 : (-400) ≤ X0 ∧ X0 ≤ 400) (qX1 : (-400) ≤ X1 ∧ X1 ≤ 400) (qY0 : (-400) ≤ Y0 ∧ Y0 ≤ 400) (qY1 : (-400) ≤ Y1 ∧ Y1 ≤ 400) : ∃ z0 z1 z2 z3 : Int, (z0 = (X0 * X0) + (X1 * X1) + (Y0 * Y0) + (Y1 * Y1) ∧ z1 = (X0 * X0) + (X1 * X1) - (Y0 * Y0) - (Y1 * Y1) ∧ z2 = 2 * (X0 * Y0) + 2 * (X1 * Y1) ∧ z3 = 2 * (X0 * Y1) - 2 * (X1 * Y0)) ∧ ((-640000) ≤ z0 ∧ z0 ≤ 640000 ∧ (-640000) ≤ z1 ∧ z1 ≤ 640000 ∧ (-640000) ≤ z2 ∧ z2 ≤ 640000 ∧ (-640000) ≤ z3 ∧ z3 ≤ 640000) ∧ ∀ w, Calls Try.prog 21 #[.agg #[.complex .f64 (FloatKind.f64.nearest X0) (FloatKind.f64.nearest X1), .complex .f64 (FloatKind.f64.nearest Y0) (FloatKind.f64.nearest Y1)]] w fun e w' => e = .returned (.tuple #[.agg #[.int .i64 z0, .int .i64 z1, .int .i64 z2, .int .i64 z3], .int .i64 0]) ∧ Below w.heap.size w w' := by
  have e0 : (((X0 * X0) - (X1 * (0 - X1))) + ((Y0 * Y0) - (Y1 * (0 - Y1)))) = (X0 * X0) + (X1 * X1) + (Y0 * Y0) + (Y1 * Y1) := by grind
  have e1 : (((X0 * X0) - (X1 * (0 - X1))) - ((Y0 * Y0) - (Y1 * (0 - Y1)))) = (X0 * X0) + (X1 * X1) - (Y0 * Y0) - (Y1 * Y1) := by grind
  have e2 : (2 * ((X0 * Y0) - (X1 * (0 - Y1)))) = 2 * (X0 * Y0) + 2 * (X1 * Y1) := by grind
  have e3 : ((-2) * ((X0 * (0 - Y1)) + (X1 * Y0))) = 2 * (X0 * Y1) - 2 * (X1 * Y0) := by grind
  have b_X0_X0 := pr_bd (K := 400) (x := X0) (y := X0) ⟨by omega, by omega⟩ ⟨by omega, by omega⟩
  have b_X0_Y0 := pr_bd (K := 400) (x := X0) (y := Y0) ⟨by omega, by omega⟩ ⟨by omega, by omega⟩
  have b_X0_Y1 := pr_bd (K := 400) (x := X0) (y := Y1) ⟨by omega, by omega⟩ ⟨by omega, by omega⟩
  have b_X1_X1 := pr_bd (K := 400) (x := X1) (y := X1) ⟨by omega, by omega⟩ ⟨by omega, by omega⟩
  have b_X1_Y0 := pr_bd (K := 400) (x := X1) (y := Y0) ⟨by omega, by omega⟩ ⟨by omega, by omega⟩
  have b_X1_Y1 := pr_bd (K := 400) (x := X1) (y := Y1) ⟨by omega, by omega⟩ ⟨by omega, by omega⟩
  have b_Y0_Y0 := pr_bd (K := 400) (x := Y0) (y := Y0) ⟨by omega, by omega⟩ ⟨by omega, by omega⟩
  have b_Y1_Y1 := pr_bd (K := 400) (x := Y1) (y := Y1) ⟨by omega, by omega⟩ ⟨by omega, by omega⟩
  refine ⟨_, _, _, _, ⟨rfl, rfl, rfl, rfl⟩, ⟨by omega, by omega, by omega, by omega, by omega, by omega, by omega, by omega⟩, fun w => ?_⟩
  refine one_val (so qX0 qX1 qY0 qY1 (rpn _) (rpn _) (rpn _) (rpn _) (Q := (· = _)) ?_) w
  simp only [e0, e1, e2, e3]
set_option maxHeartbeats 4000000 in
theorem chain_c {A0 A1 B0 B1 C0 C1 D0 D1 I0 I1 J0 J1 K0 K1 L0 L1 : Int} (qA0 : (-10) ≤ A0 ∧ A0 ≤ 10) (qA1 : (-10) ≤ A1 ∧ A1 ≤ 10) (qB0 : (-10) ≤ B0 ∧ B0 ≤ 10) (qB1 : (-10) ≤ B1 ∧ B1 ≤ 10) (qC0 : (-10) ≤ C0 ∧ C0 ≤ 10) (qC1 : (-10) ≤ C1 ∧ C1 ≤ 10) (qD0 : (-10) ≤ D0 ∧ D0 ≤ 10) (qD1 : (-10) ≤ D1 ∧ D1 ≤ 10) (qI0 : (-10) ≤ I0 ∧ I0 ≤ 10) (qI1 : (-10) ≤ I1 ∧ I1 ≤ 10) (qJ0 : (-10) ≤ J0 ∧ J0 ≤ 10) (qJ1 : (-10) ≤ J1 ∧ J1 ≤ 10) (qK0 : (-10) ≤ K0 ∧ K0 ≤ 10) (qK1 : (-10) ≤ K1 ∧ K1 ≤ 10) (qL0 : (-10) ≤ L0 ∧ L0 ≤ 10) (qL1 : (-10) ≤ L1 ∧ L1 ≤ 10) : ∃ z0 z1 z2 z3 z4 z5 z6 z7 : Int, (z0 = (A0 * I0) - (A1 * I1) + (B0 * K0) - (B1 * K1) ∧ z1 = (A0 * I1) + (A1 * I0) + (B0 * K1) + (B1 * K0) ∧ z2 = (A0 * J0) - (A1 * J1) + (B0 * L0) - (B1 * L1) ∧ z3 = (A0 * J1) + (A1 * J0) + (B0 * L1) + (B1 * L0) ∧ z4 = (C0 * I0) - (C1 * I1) + (D0 * K0) - (D1 * K1) ∧ z5 = (C0 * I1) + (C1 * I0) + (D0 * K1) + (D1 * K0) ∧ z6 = (C0 * J0) - (C1 * J1) + (D0 * L0) - (D1 * L1) ∧ z7 = (C0 * J1) + (C1 * J0) + (D0 * L1) + (D1 * L0)) ∧ ((-400) ≤ z0 ∧ z0 ≤ 400 ∧ (-400) ≤ z1 ∧ z1 ≤ 400 ∧ (-400) ≤ z2 ∧ z2 ≤ 400 ∧ (-400) ≤ z3 ∧ z3 ≤ 400 ∧ (-400) ≤ z4 ∧ z4 ≤ 400 ∧ (-400) ≤ z5 ∧ z5 ≤ 400 ∧ (-400) ≤ z6 ∧ z6 ≤ 400 ∧ (-400) ≤ z7 ∧ z7 ≤ 400) ∧ ∀ w, Calls Try.prog 33 #[.agg #[.complex .f64 (FloatKind.f64.nearest A0) (FloatKind.f64.nearest A1), .complex .f64 (FloatKind.f64.nearest B0) (FloatKind.f64.nearest B1), .complex .f64 (FloatKind.f64.nearest C0) (FloatKind.f64.nearest C1), .complex .f64 (FloatKind.f64.nearest D0) (FloatKind.f64.nearest D1)], .agg #[.complex .f64 (FloatKind.f64.nearest I0) (FloatKind.f64.nearest I1), .complex .f64 (FloatKind.f64.nearest J0) (FloatKind.f64.nearest J1), .complex .f64 (FloatKind.f64.nearest K0) (FloatKind.f64.nearest K1), .complex .f64 (FloatKind.f64.nearest L0) (FloatKind.f64.nearest L1)]] w fun e w' => e = .returned (.tuple #[.agg #[.complex .f64 (FloatKind.f64.nearest z0) (FloatKind.f64.nearest z1), .complex .f64 (FloatKind.f64.nearest z2) (FloatKind.f64.nearest z3), .complex .f64 (FloatKind.f64.nearest z4) (FloatKind.f64.nearest z5), .complex .f64 (FloatKind.f64.nearest z6) (FloatKind.f64.nearest z7)], .int .i64 0]) ∧ Below w.heap.size w w' := by
  have e0 : (((A0 * I0) - (A1 * I1)) + ((B0 * K0) - (B1 * K1))) = (A0 * I0) - (A1 * I1) + (B0 * K0) - (B1 * K1) := by grind
  have e1 : (((A0 * I1) + (A1 * I0)) + ((B0 * K1) + (B1 * K0))) = (A0 * I1) + (A1 * I0) + (B0 * K1) + (B1 * K0) := by grind
  have e2 : (((A0 * J0) - (A1 * J1)) + ((B0 * L0) - (B1 * L1))) = (A0 * J0) - (A1 * J1) + (B0 * L0) - (B1 * L1) := by grind
  have e3 : (((A0 * J1) + (A1 * J0)) + ((B0 * L1) + (B1 * L0))) = (A0 * J1) + (A1 * J0) + (B0 * L1) + (B1 * L0) := by grind
  have e4 : (((C0 * I0) - (C1 * I1)) + ((D0 * K0) - (D1 * K1))) = (C0 * I0) - (C1 * I1) + (D0 * K0) - (D1 * K1) := by grind
  have e5 : (((C0 * I1) + (C1 * I0)) + ((D0 * K1) + (D1 * K0))) = (C0 * I1) + (C1 * I0) + (D0 * K1) + (D1 * K0) := by grind
  have e6 : (((C0 * J0) - (C1 * J1)) + ((D0 * L0) - (D1 * L1))) = (C0 * J0) - (C1 * J1) + (D0 * L0) - (D1 * L1) := by grind
  have e7 : (((C0 * J1) + (C1 * J0)) + ((D0 * L1) + (D1 * L0))) = (C0 * J1) + (C1 * J0) + (D0 * L1) + (D1 * L0) := by grind
  have b_A0_I0 := pr_bd (K := 10) (x := A0) (y := I0) ⟨by omega, by omega⟩ ⟨by omega, by omega⟩
  have b_A0_I1 := pr_bd (K := 10) (x := A0) (y := I1) ⟨by omega, by omega⟩ ⟨by omega, by omega⟩
  have b_A0_J0 := pr_bd (K := 10) (x := A0) (y := J0) ⟨by omega, by omega⟩ ⟨by omega, by omega⟩
  have b_A0_J1 := pr_bd (K := 10) (x := A0) (y := J1) ⟨by omega, by omega⟩ ⟨by omega, by omega⟩
  have b_A1_I0 := pr_bd (K := 10) (x := A1) (y := I0) ⟨by omega, by omega⟩ ⟨by omega, by omega⟩
  have b_A1_I1 := pr_bd (K := 10) (x := A1) (y := I1) ⟨by omega, by omega⟩ ⟨by omega, by omega⟩
  have b_A1_J0 := pr_bd (K := 10) (x := A1) (y := J0) ⟨by omega, by omega⟩ ⟨by omega, by omega⟩
  have b_A1_J1 := pr_bd (K := 10) (x := A1) (y := J1) ⟨by omega, by omega⟩ ⟨by omega, by omega⟩
  have b_B0_K0 := pr_bd (K := 10) (x := B0) (y := K0) ⟨by omega, by omega⟩ ⟨by omega, by omega⟩
  have b_B0_K1 := pr_bd (K := 10) (x := B0) (y := K1) ⟨by omega, by omega⟩ ⟨by omega, by omega⟩
  have b_B0_L0 := pr_bd (K := 10) (x := B0) (y := L0) ⟨by omega, by omega⟩ ⟨by omega, by omega⟩
  have b_B0_L1 := pr_bd (K := 10) (x := B0) (y := L1) ⟨by omega, by omega⟩ ⟨by omega, by omega⟩
  have b_B1_K0 := pr_bd (K := 10) (x := B1) (y := K0) ⟨by omega, by omega⟩ ⟨by omega, by omega⟩
  have b_B1_K1 := pr_bd (K := 10) (x := B1) (y := K1) ⟨by omega, by omega⟩ ⟨by omega, by omega⟩
  have b_B1_L0 := pr_bd (K := 10) (x := B1) (y := L0) ⟨by omega, by omega⟩ ⟨by omega, by omega⟩
  have b_B1_L1 := pr_bd (K := 10) (x := B1) (y := L1) ⟨by omega, by omega⟩ ⟨by omega, by omega⟩
  have b_C0_I0 := pr_bd (K := 10) (x := C0) (y := I0) ⟨by omega, by omega⟩ ⟨by omega, by omega⟩
  have b_C0_I1 := pr_bd (K := 10) (x := C0) (y := I1) ⟨by omega, by omega⟩ ⟨by omega, by omega⟩
  have b_C0_J0 := pr_bd (K := 10) (x := C0) (y := J0) ⟨by omega, by omega⟩ ⟨by omega, by omega⟩
  have b_C0_J1 := pr_bd (K := 10) (x := C0) (y := J1) ⟨by omega, by omega⟩ ⟨by omega, by omega⟩
  have b_C1_I0 := pr_bd (K := 10) (x := C1) (y := I0) ⟨by omega, by omega⟩ ⟨by omega, by omega⟩
  have b_C1_I1 := pr_bd (K := 10) (x := C1) (y := I1) ⟨by omega, by omega⟩ ⟨by omega, by omega⟩
  have b_C1_J0 := pr_bd (K := 10) (x := C1) (y := J0) ⟨by omega, by omega⟩ ⟨by omega, by omega⟩
  have b_C1_J1 := pr_bd (K := 10) (x := C1) (y := J1) ⟨by omega, by omega⟩ ⟨by omega, by omega⟩
  have b_D0_K0 := pr_bd (K := 10) (x := D0) (y := K0) ⟨by omega, by omega⟩ ⟨by omega, by omega⟩
  have b_D0_K1 := pr_bd (K := 10) (x := D0) (y := K1) ⟨by omega, by omega⟩ ⟨by omega, by omega⟩
  have b_D0_L0 := pr_bd (K := 10) (x := D0) (y := L0) ⟨by omega, by omega⟩ ⟨by omega, by omega⟩
  have b_D0_L1 := pr_bd (K := 10) (x := D0) (y := L1) ⟨by omega, by omega⟩ ⟨by omega, by omega⟩
  have b_D1_K0 := pr_bd (K := 10) (x := D1) (y := K0) ⟨by omega, by omega⟩ ⟨by omega, by omega⟩
  have b_D1_K1 := pr_bd (K := 10) (x := D1) (y := K1) ⟨by omega, by omega⟩ ⟨by omega, by omega⟩
  have b_D1_L0 := pr_bd (K := 10) (x := D1) (y := L0) ⟨by omega, by omega⟩ ⟨by omega, by omega⟩
  have b_D1_L1 := pr_bd (K := 10) (x := D1) (y := L1) ⟨by omega, by omega⟩ ⟨by omega, by omega⟩
  refine ⟨_, _, _, _, _, _, _, _, ⟨rfl, rfl, rfl, rfl, rfl, rfl, rfl, rfl⟩, ⟨by omega, by omega, by omega, by omega, by omega, by omega, by omega, by omega, by omega, by omega, by omega, by omega, by omega, by omega, by omega, by omega⟩, fun w => ?_⟩
  refine one_val (ch qA0 qA1 qB0 qB1 qC0 qC1 qD0 qD1 qI0 qI1 qJ0 qJ1 qK0 qK1 qL0 qL1 (rpn _) (rpn _) (rpn _) (rpn _) (rpn _) (rpn _) (rpn _) (rpn _) (rpn _) (rpn _) (rpn _) (rpn _) (rpn _) (rpn _) (rpn _) (rpn _) (Q := (· = _)) ?_) w
  simp only [e0, e1, e2, e3, e4, e5, e6, e7]
set_option maxHeartbeats 4000000 in
theorem mueller_c {A0 A1 B0 B1 C0 C1 D0 D1 : Int} (qA0 : (-10) ≤ A0 ∧ A0 ≤ 10) (qA1 : (-10) ≤ A1 ∧ A1 ≤ 10) (qB0 : (-10) ≤ B0 ∧ B0 ≤ 10) (qB1 : (-10) ≤ B1 ∧ B1 ≤ 10) (qC0 : (-10) ≤ C0 ∧ C0 ≤ 10) (qC1 : (-10) ≤ C1 ∧ C1 ≤ 10) (qD0 : (-10) ≤ D0 ∧ D0 ≤ 10) (qD1 : (-10) ≤ D1 ∧ D1 ≤ 10) : ∃ z0 z1 z2 z3 z4 z5 z6 z7 z8 z9 z10 z11 z12 z13 z14 z15 : Int, (z0 = (A0 * A0) + (A1 * A1) + (B0 * B0) + (B1 * B1) + (C0 * C0) + (C1 * C1) + (D0 * D0) + (D1 * D1) ∧ z1 = (A0 * A0) + (A1 * A1) - (B0 * B0) - (B1 * B1) + (C0 * C0) + (C1 * C1) - (D0 * D0) - (D1 * D1) ∧ z2 = 2 * (A0 * B0) + 2 * (A1 * B1) + 2 * (C0 * D0) + 2 * (C1 * D1) ∧ z3 = 0 - 2 * (A0 * B1) + 2 * (A1 * B0) - 2 * (C0 * D1) + 2 * (C1 * D0) ∧ z4 = (A0 * A0) + (A1 * A1) + (B0 * B0) + (B1 * B1) - (C0 * C0) - (C1 * C1) - (D0 * D0) - (D1 * D1) ∧ z5 = (A0 * A0) + (A1 * A1) - (B0 * B0) - (B1 * B1) - (C0 * C0) - (C1 * C1) + (D0 * D0) + (D1 * D1) ∧ z6 = 2 * (A0 * B0) + 2 * (A1 * B1) - 2 * (C0 * D0) - 2 * (C1 * D1) ∧ z7 = 0 - 2 * (A0 * B1) + 2 * (A1 * B0) + 2 * (C0 * D1) - 2 * (C1 * D0) ∧ z8 = 2 * (A0 * C0) + 2 * (A1 * C1) + 2 * (B0 * D0) + 2 * (B1 * D1) ∧ z9 = 2 * (A0 * C0) + 2 * (A1 * C1) - 2 * (B0 * D0) - 2 * (B1 * D1) ∧ z10 = 2 * (A0 * D0) + 2 * (A1 * D1) + 2 * (B0 * C0) + 2 * (B1 * C1) ∧ z11 = 0 - 2 * (A0 * D1) + 2 * (A1 * D0) + 2 * (B0 * C1) - 2 * (B1 * C0) ∧ z12 = 2 * (A0 * C1) - 2 * (A1 * C0) + 2 * (B0 * D1) - 2 * (B1 * D0) ∧ z13 = 2 * (A0 * C1) - 2 * (A1 * C0) - 2 * (B0 * D1) + 2 * (B1 * D0) ∧ z14 = 2 * (A0 * D1) - 2 * (A1 * D0) + 2 * (B0 * C1) - 2 * (B1 * C0) ∧ z15 = 2 * (A0 * D0) + 2 * (A1 * D1) - 2 * (B0 * C0) - 2 * (B1 * C1)) ∧ ((-800) ≤ z0 ∧ z0 ≤ 800 ∧ (-800) ≤ z1 ∧ z1 ≤ 800 ∧ (-800) ≤ z2 ∧ z2 ≤ 800 ∧ (-800) ≤ z3 ∧ z3 ≤ 800 ∧ (-800) ≤ z4 ∧ z4 ≤ 800 ∧ (-800) ≤ z5 ∧ z5 ≤ 800 ∧ (-800) ≤ z6 ∧ z6 ≤ 800 ∧ (-800) ≤ z7 ∧ z7 ≤ 800 ∧ (-800) ≤ z8 ∧ z8 ≤ 800 ∧ (-800) ≤ z9 ∧ z9 ≤ 800 ∧ (-800) ≤ z10 ∧ z10 ≤ 800 ∧ (-800) ≤ z11 ∧ z11 ≤ 800 ∧ (-800) ≤ z12 ∧ z12 ≤ 800 ∧ (-800) ≤ z13 ∧ z13 ≤ 800 ∧ (-800) ≤ z14 ∧ z14 ≤ 800 ∧ (-800) ≤ z15 ∧ z15 ≤ 800) ∧ ∀ w, Calls Try.prog 53 #[.agg #[.complex .f64 (FloatKind.f64.nearest A0) (FloatKind.f64.nearest A1), .complex .f64 (FloatKind.f64.nearest B0) (FloatKind.f64.nearest B1), .complex .f64 (FloatKind.f64.nearest C0) (FloatKind.f64.nearest C1), .complex .f64 (FloatKind.f64.nearest D0) (FloatKind.f64.nearest D1)]] w fun e w' => e = .returned (.tuple #[.agg #[.int .i64 z0, .int .i64 z1, .int .i64 z2, .int .i64 z3, .int .i64 z4, .int .i64 z5, .int .i64 z6, .int .i64 z7, .int .i64 z8, .int .i64 z9, .int .i64 z10, .int .i64 z11, .int .i64 z12, .int .i64 z13, .int .i64 z14, .int .i64 z15], .int .i64 0]) ∧ Below w.heap.size w w' := by
  have e0 : ((((A0 * A0) - (A1 * (0 - A1))) + ((B0 * B0) - (B1 * (0 - B1)))) + (((C0 * C0) - (C1 * (0 - C1))) + ((D0 * D0) - (D1 * (0 - D1))))) = (A0 * A0) + (A1 * A1) + (B0 * B0) + (B1 * B1) + (C0 * C0) + (C1 * C1) + (D0 * D0) + (D1 * D1) := by grind
  have e1 : ((((A0 * A0) - (A1 * (0 - A1))) + ((B0 * ((-1) * B0)) - (B1 * ((-1) * (0 - B1))))) + (((C0 * C0) - (C1 * (0 - C1))) + ((D0 * ((-1) * D0)) - (D1 * ((-1) * (0 - D1)))))) = (A0 * A0) + (A1 * A1) - (B0 * B0) - (B1 * B1) + (C0 * C0) + (C1 * C1) - (D0 * D0) - (D1 * D1) := by grind
  have e2 : ((((A0 * B0) - (A1 * (0 - B1))) + ((B0 * A0) - (B1 * (0 - A1)))) + (((C0 * D0) - (C1 * (0 - D1))) + ((D0 * C0) - (D1 * (0 - C1))))) = 2 * (A0 * B0) + 2 * (A1 * B1) + 2 * (C0 * D0) + 2 * (C1 * D1) := by grind
  have e3 : ((((A0 * (0 - ((-1) * (0 - B1)))) - (A1 * ((-1) * B0))) + ((B0 * (0 - (0 - A1))) - (B1 * A0))) + (((C0 * (0 - ((-1) * (0 - D1)))) - (C1 * ((-1) * D0))) + ((D0 * (0 - (0 - C1))) - (D1 * C0)))) = 0 - 2 * (A0 * B1) + 2 * (A1 * B0) - 2 * (C0 * D1) + 2 * (C1 * D0) := by grind
  have e4 : ((((A0 * A0) - (A1 * (0 - A1))) + ((B0 * B0) - (B1 * (0 - B1)))) + (((((-1) * C0) * C0) - (((-1) * C1) * (0 - C1))) + ((((-1) * D0) * D0) - (((-1) * D1) * (0 - D1))))) = (A0 * A0) + (A1 * A1) + (B0 * B0) + (B1 * B1) - (C0 * C0) - (C1 * C1) - (D0 * D0) - (D1 * D1) := by grind
  have e5 : ((((A0 * A0) - (A1 * (0 - A1))) + ((B0 * ((-1) * B0)) - (B1 * ((-1) * (0 - B1))))) + (((((-1) * C0) * C0) - (((-1) * C1) * (0 - C1))) + ((((-1) * D0) * ((-1) * D0)) - (((-1) * D1) * ((-1) * (0 - D1)))))) = (A0 * A0) + (A1 * A1) - (B0 * B0) - (B1 * B1) - (C0 * C0) - (C1 * C1) + (D0 * D0) + (D1 * D1) := by grind
  have e6 : ((((A0 * B0) - (A1 * (0 - B1))) + ((B0 * A0) - (B1 * (0 - A1)))) + (((((-1) * C0) * D0) - (((-1) * C1) * (0 - D1))) + ((((-1) * D0) * C0) - (((-1) * D1) * (0 - C1))))) = 2 * (A0 * B0) + 2 * (A1 * B1) - 2 * (C0 * D0) - 2 * (C1 * D1) := by grind
  have e7 : ((((A0 * (0 - ((-1) * (0 - B1)))) - (A1 * ((-1) * B0))) + ((B0 * (0 - (0 - A1))) - (B1 * A0))) + (((((-1) * C0) * (0 - ((-1) * (0 - D1)))) - (((-1) * C1) * ((-1) * D0))) + ((((-1) * D0) * (0 - (0 - C1))) - (((-1) * D1) * C0)))) = 0 - 2 * (A0 * B1) + 2 * (A1 * B0) + 2 * (C0 * D1) - 2 * (C1 * D0) := by grind
  have e8 : ((((C0 * A0) - (C1 * (0 - A1))) + ((D0 * B0) - (D1 * (0 - B1)))) + (((A0 * C0) - (A1 * (0 - C1))) + ((B0 * D0) - (B1 * (0 - D1))))) = 2 * (A0 * C0) + 2 * (A1 * C1) + 2 * (B0 * D0) + 2 * (B1 * D1) := by grind
  have e9 : ((((C0 * A0) - (C1 * (0 - A1))) + ((D0 * ((-1) * B0)) - (D1 * ((-1) * (0 - B1))))) + (((A0 * C0) - (A1 * (0 - C1))) + ((B0 * ((-1) * D0)) - (B1 * ((-1) * (0 - D1)))))) = 2 * (A0 * C0) + 2 * (A1 * C1) - 2 * (B0 * D0) - 2 * (B1 * D1) := by grind
  have e10 : ((((C0 * B0) - (C1 * (0 - B1))) + ((D0 * A0) - (D1 * (0 - A1)))) + (((A0 * D0) - (A1 * (0 - D1))) + ((B0 * C0) - (B1 * (0 - C1))))) = 2 * (A0 * D0) + 2 * (A1 * D1) + 2 * (B0 * C0) + 2 * (B1 * C1) := by grind
  have e11 : ((((C0 * (0 - ((-1) * (0 - B1)))) - (C1 * ((-1) * B0))) + ((D0 * (0 - (0 - A1))) - (D1 * A0))) + (((A0 * (0 - ((-1) * (0 - D1)))) - (A1 * ((-1) * D0))) + ((B0 * (0 - (0 - C1))) - (B1 * C0)))) = 0 - 2 * (A0 * D1) + 2 * (A1 * D0) + 2 * (B0 * C1) - 2 * (B1 * C0) := by grind
  have e12 : (((((0 - ((-1) * C1)) * A0) - (((-1) * C0) * (0 - A1))) + (((0 - ((-1) * D1)) * B0) - (((-1) * D0) * (0 - B1)))) + ((((0 - A1) * C0) - (A0 * (0 - C1))) + (((0 - B1) * D0) - (B0 * (0 - D1))))) = 2 * (A0 * C1) - 2 * (A1 * C0) + 2 * (B0 * D1) - 2 * (B1 * D0) := by grind
  have e13 : (((((0 - ((-1) * C1)) * A0) - (((-1) * C0) * (0 - A1))) + (((0 - ((-1) * D1)) * ((-1) * B0)) - (((-1) * D0) * ((-1) * (0 - B1))))) + ((((0 - A1) * C0) - (A0 * (0 - C1))) + (((0 - B1) * ((-1) * D0)) - (B0 * ((-1) * (0 - D1)))))) = 2 * (A0 * C1) - 2 * (A1 * C0) - 2 * (B0 * D1) + 2 * (B1 * D0) := by grind
  have e14 : (((((0 - ((-1) * C1)) * B0) - (((-1) * C0) * (0 - B1))) + (((0 - ((-1) * D1)) * A0) - (((-1) * D0) * (0 - A1)))) + ((((0 - A1) * D0) - (A0 * (0 - D1))) + (((0 - B1) * C0) - (B0 * (0 - C1))))) = 2 * (A0 * D1) - 2 * (A1 * D0) + 2 * (B0 * C1) - 2 * (B1 * C0) := by grind
  have e15 : (((((0 - ((-1) * C1)) * (0 - ((-1) * (0 - B1)))) - (((-1) * C0) * ((-1) * B0))) + (((0 - ((-1) * D1)) * (0 - (0 - A1))) - (((-1) * D0) * A0))) + ((((0 - A1) * (0 - ((-1) * (0 - D1)))) - (A0 * ((-1) * D0))) + (((0 - B1) * (0 - (0 - C1))) - (B0 * C0)))) = 2 * (A0 * D0) + 2 * (A1 * D1) - 2 * (B0 * C0) - 2 * (B1 * C1) := by grind
  have b_A0_A0 := pr_bd (K := 10) (x := A0) (y := A0) ⟨by omega, by omega⟩ ⟨by omega, by omega⟩
  have b_A0_B0 := pr_bd (K := 10) (x := A0) (y := B0) ⟨by omega, by omega⟩ ⟨by omega, by omega⟩
  have b_A0_B1 := pr_bd (K := 10) (x := A0) (y := B1) ⟨by omega, by omega⟩ ⟨by omega, by omega⟩
  have b_A0_C0 := pr_bd (K := 10) (x := A0) (y := C0) ⟨by omega, by omega⟩ ⟨by omega, by omega⟩
  have b_A0_C1 := pr_bd (K := 10) (x := A0) (y := C1) ⟨by omega, by omega⟩ ⟨by omega, by omega⟩
  have b_A0_D0 := pr_bd (K := 10) (x := A0) (y := D0) ⟨by omega, by omega⟩ ⟨by omega, by omega⟩
  have b_A0_D1 := pr_bd (K := 10) (x := A0) (y := D1) ⟨by omega, by omega⟩ ⟨by omega, by omega⟩
  have b_A1_A1 := pr_bd (K := 10) (x := A1) (y := A1) ⟨by omega, by omega⟩ ⟨by omega, by omega⟩
  have b_A1_B0 := pr_bd (K := 10) (x := A1) (y := B0) ⟨by omega, by omega⟩ ⟨by omega, by omega⟩
  have b_A1_B1 := pr_bd (K := 10) (x := A1) (y := B1) ⟨by omega, by omega⟩ ⟨by omega, by omega⟩
  have b_A1_C0 := pr_bd (K := 10) (x := A1) (y := C0) ⟨by omega, by omega⟩ ⟨by omega, by omega⟩
  have b_A1_C1 := pr_bd (K := 10) (x := A1) (y := C1) ⟨by omega, by omega⟩ ⟨by omega, by omega⟩
  have b_A1_D0 := pr_bd (K := 10) (x := A1) (y := D0) ⟨by omega, by omega⟩ ⟨by omega, by omega⟩
  have b_A1_D1 := pr_bd (K := 10) (x := A1) (y := D1) ⟨by omega, by omega⟩ ⟨by omega, by omega⟩
  have b_B0_B0 := pr_bd (K := 10) (x := B0) (y := B0) ⟨by omega, by omega⟩ ⟨by omega, by omega⟩
  have b_B0_C0 := pr_bd (K := 10) (x := B0) (y := C0) ⟨by omega, by omega⟩ ⟨by omega, by omega⟩
  have b_B0_C1 := pr_bd (K := 10) (x := B0) (y := C1) ⟨by omega, by omega⟩ ⟨by omega, by omega⟩
  have b_B0_D0 := pr_bd (K := 10) (x := B0) (y := D0) ⟨by omega, by omega⟩ ⟨by omega, by omega⟩
  have b_B0_D1 := pr_bd (K := 10) (x := B0) (y := D1) ⟨by omega, by omega⟩ ⟨by omega, by omega⟩
  have b_B1_B1 := pr_bd (K := 10) (x := B1) (y := B1) ⟨by omega, by omega⟩ ⟨by omega, by omega⟩
  have b_B1_C0 := pr_bd (K := 10) (x := B1) (y := C0) ⟨by omega, by omega⟩ ⟨by omega, by omega⟩
  have b_B1_C1 := pr_bd (K := 10) (x := B1) (y := C1) ⟨by omega, by omega⟩ ⟨by omega, by omega⟩
  have b_B1_D0 := pr_bd (K := 10) (x := B1) (y := D0) ⟨by omega, by omega⟩ ⟨by omega, by omega⟩
  have b_B1_D1 := pr_bd (K := 10) (x := B1) (y := D1) ⟨by omega, by omega⟩ ⟨by omega, by omega⟩
  have b_C0_C0 := pr_bd (K := 10) (x := C0) (y := C0) ⟨by omega, by omega⟩ ⟨by omega, by omega⟩
  have b_C0_D0 := pr_bd (K := 10) (x := C0) (y := D0) ⟨by omega, by omega⟩ ⟨by omega, by omega⟩
  have b_C0_D1 := pr_bd (K := 10) (x := C0) (y := D1) ⟨by omega, by omega⟩ ⟨by omega, by omega⟩
  have b_C1_C1 := pr_bd (K := 10) (x := C1) (y := C1) ⟨by omega, by omega⟩ ⟨by omega, by omega⟩
  have b_C1_D0 := pr_bd (K := 10) (x := C1) (y := D0) ⟨by omega, by omega⟩ ⟨by omega, by omega⟩
  have b_C1_D1 := pr_bd (K := 10) (x := C1) (y := D1) ⟨by omega, by omega⟩ ⟨by omega, by omega⟩
  have b_D0_D0 := pr_bd (K := 10) (x := D0) (y := D0) ⟨by omega, by omega⟩ ⟨by omega, by omega⟩
  have b_D1_D1 := pr_bd (K := 10) (x := D1) (y := D1) ⟨by omega, by omega⟩ ⟨by omega, by omega⟩
  refine ⟨_, _, _, _, _, _, _, _, _, _, _, _, _, _, _, _, ⟨rfl, rfl, rfl, rfl, rfl, rfl, rfl, rfl, rfl, rfl, rfl, rfl, rfl, rfl, rfl, rfl⟩, ⟨by omega, by omega, by omega, by omega, by omega, by omega, by omega, by omega, by omega, by omega, by omega, by omega, by omega, by omega, by omega, by omega, by omega, by omega, by omega, by omega, by omega, by omega, by omega, by omega, by omega, by omega, by omega, by omega, by omega, by omega, by omega, by omega⟩, fun w => ?_⟩
  refine one_val (mu ⟨by omega, by omega⟩ ⟨by omega, by omega⟩ ⟨by omega, by omega⟩ ⟨by omega, by omega⟩ ⟨by omega, by omega⟩ ⟨by omega, by omega⟩ ⟨by omega, by omega⟩ ⟨by omega, by omega⟩ (rpn _) (rpn _) (rpn _) (rpn _) (rpn _) (rpn _) (rpn _) (rpn _) (Q := (· = _)) ?_) w
  simp only [e0, e1, e2, e3, e4, e5, e6, e7, e8, e9, e10, e11, e12, e13, e14, e15]
set_option maxHeartbeats 4000000 in
theorem mueller_d {A0 A1 B0 B1 C0 C1 D0 D1 : Int} (qA0 : (-400) ≤ A0 ∧ A0 ≤ 400) (qA1 : (-400) ≤ A1 ∧ A1 ≤ 400) (qB0 : (-400) ≤ B0 ∧ B0 ≤ 400) (qB1 : (-400) ≤ B1 ∧ B1 ≤ 400) (qC0 : (-400) ≤ C0 ∧ C0 ≤ 400) (qC1 : (-400) ≤ C1 ∧ C1 ≤ 400) (qD0 : (-400) ≤ D0 ∧ D0 ≤ 400) (qD1 : (-400) ≤ D1 ∧ D1 ≤ 400) : ∃ z0 z1 z2 z3 z4 z5 z6 z7 z8 z9 z10 z11 z12 z13 z14 z15 : Int, (z0 = (A0 * A0) + (A1 * A1) + (B0 * B0) + (B1 * B1) + (C0 * C0) + (C1 * C1) + (D0 * D0) + (D1 * D1) ∧ z1 = (A0 * A0) + (A1 * A1) - (B0 * B0) - (B1 * B1) + (C0 * C0) + (C1 * C1) - (D0 * D0) - (D1 * D1) ∧ z2 = 2 * (A0 * B0) + 2 * (A1 * B1) + 2 * (C0 * D0) + 2 * (C1 * D1) ∧ z3 = 0 - 2 * (A0 * B1) + 2 * (A1 * B0) - 2 * (C0 * D1) + 2 * (C1 * D0) ∧ z4 = (A0 * A0) + (A1 * A1) + (B0 * B0) + (B1 * B1) - (C0 * C0) - (C1 * C1) - (D0 * D0) - (D1 * D1) ∧ z5 = (A0 * A0) + (A1 * A1) - (B0 * B0) - (B1 * B1) - (C0 * C0) - (C1 * C1) + (D0 * D0) + (D1 * D1) ∧ z6 = 2 * (A0 * B0) + 2 * (A1 * B1) - 2 * (C0 * D0) - 2 * (C1 * D1) ∧ z7 = 0 - 2 * (A0 * B1) + 2 * (A1 * B0) + 2 * (C0 * D1) - 2 * (C1 * D0) ∧ z8 = 2 * (A0 * C0) + 2 * (A1 * C1) + 2 * (B0 * D0) + 2 * (B1 * D1) ∧ z9 = 2 * (A0 * C0) + 2 * (A1 * C1) - 2 * (B0 * D0) - 2 * (B1 * D1) ∧ z10 = 2 * (A0 * D0) + 2 * (A1 * D1) + 2 * (B0 * C0) + 2 * (B1 * C1) ∧ z11 = 0 - 2 * (A0 * D1) + 2 * (A1 * D0) + 2 * (B0 * C1) - 2 * (B1 * C0) ∧ z12 = 2 * (A0 * C1) - 2 * (A1 * C0) + 2 * (B0 * D1) - 2 * (B1 * D0) ∧ z13 = 2 * (A0 * C1) - 2 * (A1 * C0) - 2 * (B0 * D1) + 2 * (B1 * D0) ∧ z14 = 2 * (A0 * D1) - 2 * (A1 * D0) + 2 * (B0 * C1) - 2 * (B1 * C0) ∧ z15 = 2 * (A0 * D0) + 2 * (A1 * D1) - 2 * (B0 * C0) - 2 * (B1 * C1)) ∧ ((-1280000) ≤ z0 ∧ z0 ≤ 1280000 ∧ (-1280000) ≤ z1 ∧ z1 ≤ 1280000 ∧ (-1280000) ≤ z2 ∧ z2 ≤ 1280000 ∧ (-1280000) ≤ z3 ∧ z3 ≤ 1280000 ∧ (-1280000) ≤ z4 ∧ z4 ≤ 1280000 ∧ (-1280000) ≤ z5 ∧ z5 ≤ 1280000 ∧ (-1280000) ≤ z6 ∧ z6 ≤ 1280000 ∧ (-1280000) ≤ z7 ∧ z7 ≤ 1280000 ∧ (-1280000) ≤ z8 ∧ z8 ≤ 1280000 ∧ (-1280000) ≤ z9 ∧ z9 ≤ 1280000 ∧ (-1280000) ≤ z10 ∧ z10 ≤ 1280000 ∧ (-1280000) ≤ z11 ∧ z11 ≤ 1280000 ∧ (-1280000) ≤ z12 ∧ z12 ≤ 1280000 ∧ (-1280000) ≤ z13 ∧ z13 ≤ 1280000 ∧ (-1280000) ≤ z14 ∧ z14 ≤ 1280000 ∧ (-1280000) ≤ z15 ∧ z15 ≤ 1280000) ∧ ∀ w, Calls Try.prog 53 #[.agg #[.complex .f64 (FloatKind.f64.nearest A0) (FloatKind.f64.nearest A1), .complex .f64 (FloatKind.f64.nearest B0) (FloatKind.f64.nearest B1), .complex .f64 (FloatKind.f64.nearest C0) (FloatKind.f64.nearest C1), .complex .f64 (FloatKind.f64.nearest D0) (FloatKind.f64.nearest D1)]] w fun e w' => e = .returned (.tuple #[.agg #[.int .i64 z0, .int .i64 z1, .int .i64 z2, .int .i64 z3, .int .i64 z4, .int .i64 z5, .int .i64 z6, .int .i64 z7, .int .i64 z8, .int .i64 z9, .int .i64 z10, .int .i64 z11, .int .i64 z12, .int .i64 z13, .int .i64 z14, .int .i64 z15], .int .i64 0]) ∧ Below w.heap.size w w' := by
  have e0 : ((((A0 * A0) - (A1 * (0 - A1))) + ((B0 * B0) - (B1 * (0 - B1)))) + (((C0 * C0) - (C1 * (0 - C1))) + ((D0 * D0) - (D1 * (0 - D1))))) = (A0 * A0) + (A1 * A1) + (B0 * B0) + (B1 * B1) + (C0 * C0) + (C1 * C1) + (D0 * D0) + (D1 * D1) := by grind
  have e1 : ((((A0 * A0) - (A1 * (0 - A1))) + ((B0 * ((-1) * B0)) - (B1 * ((-1) * (0 - B1))))) + (((C0 * C0) - (C1 * (0 - C1))) + ((D0 * ((-1) * D0)) - (D1 * ((-1) * (0 - D1)))))) = (A0 * A0) + (A1 * A1) - (B0 * B0) - (B1 * B1) + (C0 * C0) + (C1 * C1) - (D0 * D0) - (D1 * D1) := by grind
  have e2 : ((((A0 * B0) - (A1 * (0 - B1))) + ((B0 * A0) - (B1 * (0 - A1)))) + (((C0 * D0) - (C1 * (0 - D1))) + ((D0 * C0) - (D1 * (0 - C1))))) = 2 * (A0 * B0) + 2 * (A1 * B1) + 2 * (C0 * D0) + 2 * (C1 * D1) := by grind
  have e3 : ((((A0 * (0 - ((-1) * (0 - B1)))) - (A1 * ((-1) * B0))) + ((B0 * (0 - (0 - A1))) - (B1 * A0))) + (((C0 * (0 - ((-1) * (0 - D1)))) - (C1 * ((-1) * D0))) + ((D0 * (0 - (0 - C1))) - (D1 * C0)))) = 0 - 2 * (A0 * B1) + 2 * (A1 * B0) - 2 * (C0 * D1) + 2 * (C1 * D0) := by grind
  have e4 : ((((A0 * A0) - (A1 * (0 - A1))) + ((B0 * B0) - (B1 * (0 - B1)))) + (((((-1) * C0) * C0) - (((-1) * C1) * (0 - C1))) + ((((-1) * D0) * D0) - (((-1) * D1) * (0 - D1))))) = (A0 * A0) + (A1 * A1) + (B0 * B0) + (B1 * B1) - (C0 * C0) - (C1 * C1) - (D0 * D0) - (D1 * D1) := by grind
  have e5 : ((((A0 * A0) - (A1 * (0 - A1))) + ((B0 * ((-1) * B0)) - (B1 * ((-1) * (0 - B1))))) + (((((-1) * C0) * C0) - (((-1) * C1) * (0 - C1))) + ((((-1) * D0) * ((-1) * D0)) - (((-1) * D1) * ((-1) * (0 - D1)))))) = (A0 * A0) + (A1 * A1) - (B0 * B0) - (B1 * B1) - (C0 * C0) - (C1 * C1) + (D0 * D0) + (D1 * D1) := by grind
  have e6 : ((((A0 * B0) - (A1 * (0 - B1))) + ((B0 * A0) - (B1 * (0 - A1)))) + (((((-1) * C0) * D0) - (((-1) * C1) * (0 - D1))) + ((((-1) * D0) * C0) - (((-1) * D1) * (0 - C1))))) = 2 * (A0 * B0) + 2 * (A1 * B1) - 2 * (C0 * D0) - 2 * (C1 * D1) := by grind
  have e7 : ((((A0 * (0 - ((-1) * (0 - B1)))) - (A1 * ((-1) * B0))) + ((B0 * (0 - (0 - A1))) - (B1 * A0))) + (((((-1) * C0) * (0 - ((-1) * (0 - D1)))) - (((-1) * C1) * ((-1) * D0))) + ((((-1) * D0) * (0 - (0 - C1))) - (((-1) * D1) * C0)))) = 0 - 2 * (A0 * B1) + 2 * (A1 * B0) + 2 * (C0 * D1) - 2 * (C1 * D0) := by grind
  have e8 : ((((C0 * A0) - (C1 * (0 - A1))) + ((D0 * B0) - (D1 * (0 - B1)))) + (((A0 * C0) - (A1 * (0 - C1))) + ((B0 * D0) - (B1 * (0 - D1))))) = 2 * (A0 * C0) + 2 * (A1 * C1) + 2 * (B0 * D0) + 2 * (B1 * D1) := by grind
  have e9 : ((((C0 * A0) - (C1 * (0 - A1))) + ((D0 * ((-1) * B0)) - (D1 * ((-1) * (0 - B1))))) + (((A0 * C0) - (A1 * (0 - C1))) + ((B0 * ((-1) * D0)) - (B1 * ((-1) * (0 - D1)))))) = 2 * (A0 * C0) + 2 * (A1 * C1) - 2 * (B0 * D0) - 2 * (B1 * D1) := by grind
  have e10 : ((((C0 * B0) - (C1 * (0 - B1))) + ((D0 * A0) - (D1 * (0 - A1)))) + (((A0 * D0) - (A1 * (0 - D1))) + ((B0 * C0) - (B1 * (0 - C1))))) = 2 * (A0 * D0) + 2 * (A1 * D1) + 2 * (B0 * C0) + 2 * (B1 * C1) := by grind
  have e11 : ((((C0 * (0 - ((-1) * (0 - B1)))) - (C1 * ((-1) * B0))) + ((D0 * (0 - (0 - A1))) - (D1 * A0))) + (((A0 * (0 - ((-1) * (0 - D1)))) - (A1 * ((-1) * D0))) + ((B0 * (0 - (0 - C1))) - (B1 * C0)))) = 0 - 2 * (A0 * D1) + 2 * (A1 * D0) + 2 * (B0 * C1) - 2 * (B1 * C0) := by grind
  have e12 : (((((0 - ((-1) * C1)) * A0) - (((-1) * C0) * (0 - A1))) + (((0 - ((-1) * D1)) * B0) - (((-1) * D0) * (0 - B1)))) + ((((0 - A1) * C0) - (A0 * (0 - C1))) + (((0 - B1) * D0) - (B0 * (0 - D1))))) = 2 * (A0 * C1) - 2 * (A1 * C0) + 2 * (B0 * D1) - 2 * (B1 * D0) := by grind
  have e13 : (((((0 - ((-1) * C1)) * A0) - (((-1) * C0) * (0 - A1))) + (((0 - ((-1) * D1)) * ((-1) * B0)) - (((-1) * D0) * ((-1) * (0 - B1))))) + ((((0 - A1) * C0) - (A0 * (0 - C1))) + (((0 - B1) * ((-1) * D0)) - (B0 * ((-1) * (0 - D1)))))) = 2 * (A0 * C1) - 2 * (A1 * C0) - 2 * (B0 * D1) + 2 * (B1 * D0) := by grind
  have e14 : (((((0 - ((-1) * C1)) * B0) - (((-1) * C0) * (0 - B1))) + (((0 - ((-1) * D1)) * A0) - (((-1) * D0) * (0 - A1)))) + ((((0 - A1) * D0) - (A0 * (0 - D1))) + (((0 - B1) * C0) - (B0 * (0 - C1))))) = 2 * (A0 * D1) - 2 * (A1 * D0) + 2 * (B0 * C1) - 2 * (B1 * C0) := by grind
  have e15 : (((((0 - ((-1) * C1)) * (0 - ((-1) * (0 - B1)))) - (((-1) * C0) * ((-1) * B0))) + (((0 - ((-1) * D1)) * (0 - (0 - A1))) - (((-1) * D0) * A0))) + ((((0 - A1) * (0 - ((-1) * (0 - D1)))) - (A0 * ((-1) * D0))) + (((0 - B1) * (0 - (0 - C1))) - (B0 * C0)))) = 2 * (A0 * D0) + 2 * (A1 * D1) - 2 * (B0 * C0) - 2 * (B1 * C1) := by grind
  have b_A0_A0 := pr_bd (K := 400) (x := A0) (y := A0) ⟨by omega, by omega⟩ ⟨by omega, by omega⟩
  have b_A0_B0 := pr_bd (K := 400) (x := A0) (y := B0) ⟨by omega, by omega⟩ ⟨by omega, by omega⟩
  have b_A0_B1 := pr_bd (K := 400) (x := A0) (y := B1) ⟨by omega, by omega⟩ ⟨by omega, by omega⟩
  have b_A0_C0 := pr_bd (K := 400) (x := A0) (y := C0) ⟨by omega, by omega⟩ ⟨by omega, by omega⟩
  have b_A0_C1 := pr_bd (K := 400) (x := A0) (y := C1) ⟨by omega, by omega⟩ ⟨by omega, by omega⟩
  have b_A0_D0 := pr_bd (K := 400) (x := A0) (y := D0) ⟨by omega, by omega⟩ ⟨by omega, by omega⟩
  have b_A0_D1 := pr_bd (K := 400) (x := A0) (y := D1) ⟨by omega, by omega⟩ ⟨by omega, by omega⟩
  have b_A1_A1 := pr_bd (K := 400) (x := A1) (y := A1) ⟨by omega, by omega⟩ ⟨by omega, by omega⟩
  have b_A1_B0 := pr_bd (K := 400) (x := A1) (y := B0) ⟨by omega, by omega⟩ ⟨by omega, by omega⟩
  have b_A1_B1 := pr_bd (K := 400) (x := A1) (y := B1) ⟨by omega, by omega⟩ ⟨by omega, by omega⟩
  have b_A1_C0 := pr_bd (K := 400) (x := A1) (y := C0) ⟨by omega, by omega⟩ ⟨by omega, by omega⟩
  have b_A1_C1 := pr_bd (K := 400) (x := A1) (y := C1) ⟨by omega, by omega⟩ ⟨by omega, by omega⟩
  have b_A1_D0 := pr_bd (K := 400) (x := A1) (y := D0) ⟨by omega, by omega⟩ ⟨by omega, by omega⟩
  have b_A1_D1 := pr_bd (K := 400) (x := A1) (y := D1) ⟨by omega, by omega⟩ ⟨by omega, by omega⟩
  have b_B0_B0 := pr_bd (K := 400) (x := B0) (y := B0) ⟨by omega, by omega⟩ ⟨by omega, by omega⟩
  have b_B0_C0 := pr_bd (K := 400) (x := B0) (y := C0) ⟨by omega, by omega⟩ ⟨by omega, by omega⟩
  have b_B0_C1 := pr_bd (K := 400) (x := B0) (y := C1) ⟨by omega, by omega⟩ ⟨by omega, by omega⟩
  have b_B0_D0 := pr_bd (K := 400) (x := B0) (y := D0) ⟨by omega, by omega⟩ ⟨by omega, by omega⟩
  have b_B0_D1 := pr_bd (K := 400) (x := B0) (y := D1) ⟨by omega, by omega⟩ ⟨by omega, by omega⟩
  have b_B1_B1 := pr_bd (K := 400) (x := B1) (y := B1) ⟨by omega, by omega⟩ ⟨by omega, by omega⟩
  have b_B1_C0 := pr_bd (K := 400) (x := B1) (y := C0) ⟨by omega, by omega⟩ ⟨by omega, by omega⟩
  have b_B1_C1 := pr_bd (K := 400) (x := B1) (y := C1) ⟨by omega, by omega⟩ ⟨by omega, by omega⟩
  have b_B1_D0 := pr_bd (K := 400) (x := B1) (y := D0) ⟨by omega, by omega⟩ ⟨by omega, by omega⟩
  have b_B1_D1 := pr_bd (K := 400) (x := B1) (y := D1) ⟨by omega, by omega⟩ ⟨by omega, by omega⟩
  have b_C0_C0 := pr_bd (K := 400) (x := C0) (y := C0) ⟨by omega, by omega⟩ ⟨by omega, by omega⟩
  have b_C0_D0 := pr_bd (K := 400) (x := C0) (y := D0) ⟨by omega, by omega⟩ ⟨by omega, by omega⟩
  have b_C0_D1 := pr_bd (K := 400) (x := C0) (y := D1) ⟨by omega, by omega⟩ ⟨by omega, by omega⟩
  have b_C1_C1 := pr_bd (K := 400) (x := C1) (y := C1) ⟨by omega, by omega⟩ ⟨by omega, by omega⟩
  have b_C1_D0 := pr_bd (K := 400) (x := C1) (y := D0) ⟨by omega, by omega⟩ ⟨by omega, by omega⟩
  have b_C1_D1 := pr_bd (K := 400) (x := C1) (y := D1) ⟨by omega, by omega⟩ ⟨by omega, by omega⟩
  have b_D0_D0 := pr_bd (K := 400) (x := D0) (y := D0) ⟨by omega, by omega⟩ ⟨by omega, by omega⟩
  have b_D1_D1 := pr_bd (K := 400) (x := D1) (y := D1) ⟨by omega, by omega⟩ ⟨by omega, by omega⟩
  refine ⟨_, _, _, _, _, _, _, _, _, _, _, _, _, _, _, _, ⟨rfl, rfl, rfl, rfl, rfl, rfl, rfl, rfl, rfl, rfl, rfl, rfl, rfl, rfl, rfl, rfl⟩, ⟨by omega, by omega, by omega, by omega, by omega, by omega, by omega, by omega, by omega, by omega, by omega, by omega, by omega, by omega, by omega, by omega, by omega, by omega, by omega, by omega, by omega, by omega, by omega, by omega, by omega, by omega, by omega, by omega, by omega, by omega, by omega, by omega⟩, fun w => ?_⟩
  refine one_val (mu qA0 qA1 qB0 qB1 qC0 qC1 qD0 qD1 (rpn _) (rpn _) (rpn _) (rpn _) (rpn _) (rpn _) (rpn _) (rpn _) (Q := (· = _)) ?_) w
  simp only [e0, e1, e2, e3, e4, e5, e6, e7, e8, e9, e10, e11, e12, e13, e14, e15]
end Go.Proofs.Ytlondnchmfhenaa.Ev
