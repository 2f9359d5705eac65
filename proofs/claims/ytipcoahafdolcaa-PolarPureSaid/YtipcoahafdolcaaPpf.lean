/- PolarPure: the sense of its walk. -/
import Derived.Test.YtipcoahafdolcaaPpb
import Derived.Test.YtipcoahafdolcaaPfr
import Derived.Test.YtipcoahafdolcaaPawk
namespace Go.Proofs.Ytipcoahafdolcaa.Ev
set_option linter.unusedSimpArgs false
set_option linter.unusedVariables false
open Go Go.RowKit
set_option maxRecDepth 100000
theorem szq {m K : Int} : ((if (0 - m : Int) > m then (0 - m) else m) ≤ K) ↔ (-K ≤ m ∧ m ≤ K) := by split <;> omega
theorem cu_in {m0 m1 m2 m3 m4 m5 m6 m7 m8 m9 m10 m11 m12 m13 m14 m15 : Int} (r0 : (-64) ≤ m0 ∧ m0 ≤ 64) (r1 : (-64) ≤ m1 ∧ m1 ≤ 64) (r2 : (-64) ≤ m2 ∧ m2 ≤ 64) (r3 : (-64) ≤ m3 ∧ m3 ≤ 64) (r4 : (-64) ≤ m4 ∧ m4 ≤ 64) (r5 : (-64) ≤ m5 ∧ m5 ≤ 64) (r6 : (-64) ≤ m6 ∧ m6 ≤ 64) (r7 : (-64) ≤ m7 ∧ m7 ≤ 64) (r8 : (-64) ≤ m8 ∧ m8 ≤ 64) (r9 : (-64) ≤ m9 ∧ m9 ≤ 64) (r10 : (-64) ≤ m10 ∧ m10 ≤ 64) (r11 : (-64) ≤ m11 ∧ m11 ≤ 64) (r12 : (-64) ≤ m12 ∧ m12 ≤ 64) (r13 : (-64) ≤ m13 ∧ m13 ≤ 64) (r14 : (-64) ≤ m14 ∧ m14 ≤ 64) (r15 : (-64) ≤ m15 ∧ m15 ≤ 64) (w : World) : Calls Try.prog 119 #[.int .i64 10000000, .agg #[.int .i64 m0, .int .i64 m1, .int .i64 m2, .int .i64 m3, .int .i64 m4, .int .i64 m5, .int .i64 m6, .int .i64 m7, .int .i64 m8, .int .i64 m9, .int .i64 m10, .int .i64 m11, .int .i64 m12, .int .i64 m13, .int .i64 m14, .int .i64 m15]] w fun e w' => e = .returned (.int .i64 0) ∧ Below w.heap.size w w' := by
  refine one_val (jcu ⟨by omega, by omega⟩ ⟨by omega, by omega⟩ ⟨by omega, by omega⟩ ⟨by omega, by omega⟩ ⟨by omega, by omega⟩ ⟨by omega, by omega⟩ ⟨by omega, by omega⟩ ⟨by omega, by omega⟩ ⟨by omega, by omega⟩ ⟨by omega, by omega⟩ ⟨by omega, by omega⟩ ⟨by omega, by omega⟩ ⟨by omega, by omega⟩ ⟨by omega, by omega⟩ ⟨by omega, by omega⟩ ⟨by omega, by omega⟩ (Q := (· = _)) ?_) w
  repeat' (first | exact rfl | apply And.intro | intro _ | fail)
  all_goals simp only [decide_eq_true_eq, decide_eq_false_iff_not] at *
  all_goals (exfalso; omega)
theorem ct_ok {m0 m1 m2 m3 m4 m5 m6 m7 m8 m9 m10 m11 m12 m13 m14 m15 : Int} (r0 : (-64) ≤ m0 ∧ m0 ≤ 64) (r1 : (-64) ≤ m1 ∧ m1 ≤ 64) (r2 : (-64) ≤ m2 ∧ m2 ≤ 64) (r3 : (-64) ≤ m3 ∧ m3 ≤ 64) (r4 : (-64) ≤ m4 ∧ m4 ≤ 64) (r5 : (-64) ≤ m5 ∧ m5 ≤ 64) (r6 : (-64) ≤ m6 ∧ m6 ≤ 64) (r7 : (-64) ≤ m7 ∧ m7 ≤ 64) (r8 : (-64) ≤ m8 ∧ m8 ≤ 64) (r9 : (-64) ≤ m9 ∧ m9 ≤ 64) (r10 : (-64) ≤ m10 ∧ m10 ≤ 64) (r11 : (-64) ≤ m11 ∧ m11 ≤ 64) (r12 : (-64) ≤ m12 ∧ m12 ≤ 64) (r13 : (-64) ≤ m13 ∧ m13 ≤ 64) (r14 : (-64) ≤ m14 ∧ m14 ≤ 64) (r15 : (-64) ≤ m15 ∧ m15 ≤ 64) (h : ((-40) ≤ m0 ∧ m0 ≤ 40) ∧ ((-40) ≤ m1 ∧ m1 ≤ 40) ∧ ((-40) ≤ m2 ∧ m2 ≤ 40) ∧ ((-40) ≤ m3 ∧ m3 ≤ 40) ∧ ((-40) ≤ m4 ∧ m4 ≤ 40) ∧ ((-40) ≤ m5 ∧ m5 ≤ 40) ∧ ((-40) ≤ m6 ∧ m6 ≤ 40) ∧ ((-40) ≤ m7 ∧ m7 ≤ 40) ∧ ((-40) ≤ m8 ∧ m8 ≤ 40) ∧ ((-40) ≤ m9 ∧ m9 ≤ 40) ∧ ((-40) ≤ m10 ∧ m10 ≤ 40) ∧ ((-40) ≤ m11 ∧ m11 ≤ 40) ∧ ((-40) ≤ m12 ∧ m12 ≤ 40) ∧ ((-40) ≤ m13 ∧ m13 ≤ 40) ∧ ((-40) ≤ m14 ∧ m14 ≤ 40) ∧ ((-40) ≤ m15 ∧ m15 ≤ 40)) (w : World) : Calls Try.prog 127 #[.agg #[.int .i64 m0, .int .i64 m1, .int .i64 m2, .int .i64 m3, .int .i64 m4, .int .i64 m5, .int .i64 m6, .int .i64 m7, .int .i64 m8, .int .i64 m9, .int .i64 m10, .int .i64 m11, .int .i64 m12, .int .i64 m13, .int .i64 m14, .int .i64 m15]] w fun e w' => e = .returned (.int .i64 0) ∧ Below w.heap.size w w' := by
  obtain ⟨g0, g1, g2, g3, g4, g5, g6, g7, g8, g9, g10, g11, g12, g13, g14, g15⟩ := h
  refine one_val (pct r0 r1 r2 r3 r4 r5 r6 r7 r8 r9 r10 r11 r12 r13 r14 r15 (Q := (· = _)) ?_) w
  repeat' (first | exact rfl | apply And.intro | intro _ | fail)
  all_goals simp only [decide_eq_true_eq, decide_eq_false_iff_not] at *
  all_goals (exfalso; omega)
theorem ct_bad {m0 m1 m2 m3 m4 m5 m6 m7 m8 m9 m10 m11 m12 m13 m14 m15 : Int} (r0 : (-64) ≤ m0 ∧ m0 ≤ 64) (r1 : (-64) ≤ m1 ∧ m1 ≤ 64) (r2 : (-64) ≤ m2 ∧ m2 ≤ 64) (r3 : (-64) ≤ m3 ∧ m3 ≤ 64) (r4 : (-64) ≤ m4 ∧ m4 ≤ 64) (r5 : (-64) ≤ m5 ∧ m5 ≤ 64) (r6 : (-64) ≤ m6 ∧ m6 ≤ 64) (r7 : (-64) ≤ m7 ∧ m7 ≤ 64) (r8 : (-64) ≤ m8 ∧ m8 ≤ 64) (r9 : (-64) ≤ m9 ∧ m9 ≤ 64) (r10 : (-64) ≤ m10 ∧ m10 ≤ 64) (r11 : (-64) ≤ m11 ∧ m11 ≤ 64) (r12 : (-64) ≤ m12 ∧ m12 ≤ 64) (r13 : (-64) ≤ m13 ∧ m13 ≤ 64) (r14 : (-64) ≤ m14 ∧ m14 ≤ 64) (r15 : (-64) ≤ m15 ∧ m15 ≤ 64) (h : ¬ (((-40) ≤ m0 ∧ m0 ≤ 40) ∧ ((-40) ≤ m1 ∧ m1 ≤ 40) ∧ ((-40) ≤ m2 ∧ m2 ≤ 40) ∧ ((-40) ≤ m3 ∧ m3 ≤ 40) ∧ ((-40) ≤ m4 ∧ m4 ≤ 40) ∧ ((-40) ≤ m5 ∧ m5 ≤ 40) ∧ ((-40) ≤ m6 ∧ m6 ≤ 40) ∧ ((-40) ≤ m7 ∧ m7 ≤ 40) ∧ ((-40) ≤ m8 ∧ m8 ≤ 40) ∧ ((-40) ≤ m9 ∧ m9 ≤ 40) ∧ ((-40) ≤ m10 ∧ m10 ≤ 40) ∧ ((-40) ≤ m11 ∧ m11 ≤ 40) ∧ ((-40) ≤ m12 ∧ m12 ≤ 40) ∧ ((-40) ≤ m13 ∧ m13 ≤ 40) ∧ ((-40) ≤ m14 ∧ m14 ≤ 40) ∧ ((-40) ≤ m15 ∧ m15 ≤ 40))) (w : World) : Calls Try.prog 127 #[.agg #[.int .i64 m0, .int .i64 m1, .int .i64 m2, .int .i64 m3, .int .i64 m4, .int .i64 m5, .int .i64 m6, .int .i64 m7, .int .i64 m8, .int .i64 m9, .int .i64 m10, .int .i64 m11, .int .i64 m12, .int .i64 m13, .int .i64 m14, .int .i64 m15]] w fun e w' => e = .returned (.int .i64 8) ∧ Below w.heap.size w w' := by
  refine one_val (pct r0 r1 r2 r3 r4 r5 r6 r7 r8 r9 r10 r11 r12 r13 r14 r15 (Q := (· = _)) ?_) w
  repeat' (first | exact rfl | apply And.intro | intro _ | fail)
  all_goals simp only [decide_eq_true_eq, decide_eq_false_iff_not] at *
  all_goals (exfalso; apply h; refine ⟨?_, ?_, ?_, ?_, ?_, ?_, ?_, ?_, ?_, ?_, ?_, ?_, ?_, ?_, ?_, ?_⟩ <;> constructor <;> assumption)
theorem res_ok {n0 n1 n2 n3 n4 n5 n6 n7 : Int} (g0 : -1000 ≤ n0 ∧ n0 ≤ 1000) (g1 : -1000 ≤ n1 ∧ n1 ≤ 1000) (g2 : -1000 ≤ n2 ∧ n2 ≤ 1000) (g3 : -1000 ≤ n3 ∧ n3 ≤ 1000) (g4 : -1000 ≤ n4 ∧ n4 ≤ 1000) (g5 : -1000 ≤ n5 ∧ n5 ≤ 1000) (g6 : -1000 ≤ n6 ∧ n6 ≤ 1000) (g7 : -1000 ≤ n7 ∧ n7 ≤ 1000) (w : World) : Calls Try.prog 100 #[.agg #[.complex .f64 (FloatKind.f64.nearest n0) (FloatKind.f64.nearest n1), .complex .f64 (FloatKind.f64.nearest n2) (FloatKind.f64.nearest n3), .complex .f64 (FloatKind.f64.nearest n4) (FloatKind.f64.nearest n5), .complex .f64 (FloatKind.f64.nearest n6) (FloatKind.f64.nearest n7)]] w fun e w' => e = .returned (.tuple #[.agg #[.complex .f64 (FloatKind.f64.nearest n0) (FloatKind.f64.nearest n1), .complex .f64 (FloatKind.f64.nearest n2) (FloatKind.f64.nearest n3), .complex .f64 (FloatKind.f64.nearest n4) (FloatKind.f64.nearest n5), .complex .f64 (FloatKind.f64.nearest n6) (FloatKind.f64.nearest n7)], .int .i64 0]) ∧ Below w.heap.size w w' := by
  refine one_val (jrm ⟨by omega, by omega⟩ ⟨by omega, by omega⟩ ⟨by omega, by omega⟩ ⟨by omega, by omega⟩ ⟨by omega, by omega⟩ ⟨by omega, by omega⟩ ⟨by omega, by omega⟩ ⟨by omega, by omega⟩ (rpn' _) (rpn' _) (rpn' _) (rpn' _) (rpn' _) (rpn' _) (rpn' _) (rpn' _) (Q := (· = _)) ?_) w
  repeat' (first | exact rfl | apply And.intro | intro _ | fail)
  all_goals simp only [decide_eq_true_eq, decide_eq_false_iff_not, szq] at *
  all_goals (exfalso; omega)
set_option maxHeartbeats 4000000 in
theorem dep_one {m0 m1 m2 m3 m4 m5 m6 m7 m8 m9 m10 m11 m12 m13 m14 m15 : Int} (r0 : (-64) ≤ m0 ∧ m0 ≤ 64) (r1 : (-64) ≤ m1 ∧ m1 ≤ 64) (r2 : (-64) ≤ m2 ∧ m2 ≤ 64) (r3 : (-64) ≤ m3 ∧ m3 ≤ 64) (r4 : (-64) ≤ m4 ∧ m4 ≤ 64) (r5 : (-64) ≤ m5 ∧ m5 ≤ 64) (r6 : (-64) ≤ m6 ∧ m6 ≤ 64) (r7 : (-64) ≤ m7 ∧ m7 ≤ 64) (r8 : (-64) ≤ m8 ∧ m8 ≤ 64) (r9 : (-64) ≤ m9 ∧ m9 ≤ 64) (r10 : (-64) ≤ m10 ∧ m10 ≤ 64) (r11 : (-64) ≤ m11 ∧ m11 ≤ 64) (r12 : (-64) ≤ m12 ∧ m12 ≤ 64) (r13 : (-64) ≤ m13 ∧ m13 ≤ 64) (r14 : (-64) ≤ m14 ∧ m14 ≤ 64) (r15 : (-64) ≤ m15 ∧ m15 ≤ 64) (h0 : 0 < m0) (h : ((((((((((((((m1 * m1) + (m2 * m2)) + (m3 * m3)) + (m4 * m4)) + (m5 * m5)) + (m6 * m6)) + (m7 * m7)) + (m8 * m8)) + (m9 * m9)) + (m10 * m10)) + (m11 * m11)) + (m12 * m12)) + (m13 * m13)) + (m14 * m14)) + (m15 * m15) = 3 * (m0 * m0)) (w : World) : Calls Try.prog 66 #[.agg #[.int .i64 m0, .int .i64 m1, .int .i64 m2, .int .i64 m3, .int .i64 m4, .int .i64 m5, .int .i64 m6, .int .i64 m7, .int .i64 m8, .int .i64 m9, .int .i64 m10, .int .i64 m11, .int .i64 m12, .int .i64 m13, .int .i64 m14, .int .i64 m15]] w fun e w' => e = .returned (.tuple #[.agg #[.int .i64 1, .int .i64 1], .int .i64 0]) ∧ Below w.heap.size w w' := by
  have hb : 1 ≤ m0 * m0 ∧ m0 * m0 ≤ 4096 := by
    have h1 := Int.mul_pos h0 h0
    have h2 := Int.mul_nonneg (a := 64 - m0) (b := 64 + m0) (by omega) (by omega)
    have e : (64 - m0) * (64 + m0) = 4096 - m0 * m0 := by grind
    omega
  have FL := fun w => frac_lowest (n := 3 * (m0 * m0)) (d := 3 * (m0 * m0)) (by omega) (by omega) w
  have e1 : ((Int.gcd (3 * (m0 * m0)) (3 * (m0 * m0)) : Nat) : Int) = 3 * (m0 * m0) := by rw [Int.gcd_self]; omega
  rw [e1, Int.ediv_self (by omega)] at FL
  refine one_val (pdq r0 r1 r2 r3 r4 r5 r6 r7 r8 r9 r10 r11 r12 r13 r14 r15 (Q := (· = _)) ⟨fun h => by have := beq0 h; omega, fun _ => ⟨1, 1, fun w => by rw [h]; exact FL w, ?_⟩⟩) w
  repeat' (first | exact rfl | apply And.intro | intro _ | fail)
  all_goals (rename_i h; have := of_decide_eq_false h; omega)
theorem prop_re {g a b c d p q Jr Ji Lr Li : Int} (hg : g ≠ 0) (h1 : 4 * (c * p + d * q) = g * Jr) (h2 : 4 * (d * p - c * q) = g * Ji) (h3 : 4 * (a * p + b * q) = g * Lr) (h4 : 4 * (b * p - a * q) = g * Li) : a * Jr - b * Ji = c * Lr - d * Li := by
  apply Int.eq_of_mul_eq_mul_left hg
  have t1 : g * (a * Jr - b * Ji) = a * (g * Jr) - b * (g * Ji) := by grind
  have t2 : g * (c * Lr - d * Li) = c * (g * Lr) - d * (g * Li) := by grind
  rw [t1, t2, ← h1, ← h2, ← h3, ← h4]; grind
theorem prop_im {g a b c d p q Jr Ji Lr Li : Int} (hg : g ≠ 0) (h1 : 4 * (c * p + d * q) = g * Jr) (h2 : 4 * (d * p - c * q) = g * Ji) (h3 : 4 * (a * p + b * q) = g * Lr) (h4 : 4 * (b * p - a * q) = g * Li) : a * Ji + b * Jr = c * Li + d * Lr := by
  apply Int.eq_of_mul_eq_mul_left hg
  have t1 : g * (a * Ji + b * Jr) = a * (g * Ji) + b * (g * Jr) := by grind
  have t2 : g * (c * Li + d * Lr) = c * (g * Li) + d * (g * Lr) := by grind
  rw [t1, t2, ← h1, ← h2, ← h3, ← h4]; grind
theorem pr2 {x y : Int} (hx : -2 ≤ x ∧ x ≤ 2) (hy : -2 ≤ y ∧ y ≤ 2) : -4 ≤ x * y ∧ x * y ≤ 4 := by
  have h1 := Int.mul_nonneg (a := 2 - x) (b := 2 + y) (by omega) (by omega)
  have h2 := Int.mul_nonneg (a := 2 + x) (b := 2 - y) (by omega) (by omega)
  have h3 := Int.mul_nonneg (a := 2 - x) (b := 2 - y) (by omega) (by omega)
  have h4 := Int.mul_nonneg (a := 2 + x) (b := 2 + y) (by omega) (by omega)
  have e1 : (2 - x) * (2 + y) + (2 + x) * (2 - y) = 8 - 2 * (x * y) := by grind
  have e2 : (2 - x) * (2 - y) + (2 + x) * (2 + y) = 8 + 2 * (x * y) := by grind
  omega
theorem bq_d0 {x0 x1 x2 x3 x4 x5 x6 x7 : Int} (s0 : (-2) ≤ x0 ∧ x0 ≤ 2) (s1 : (-2) ≤ x1 ∧ x1 ≤ 2) (s2 : (-2) ≤ x2 ∧ x2 ≤ 2) (s3 : (-2) ≤ x3 ∧ x3 ≤ 2) (s4 : (-2) ≤ x4 ∧ x4 ≤ 2) (s5 : (-2) ≤ x5 ∧ x5 ≤ 2) (s6 : (-2) ≤ x6 ∧ x6 ≤ 2) (s7 : (-2) ≤ x7 ∧ x7 ≤ 2) : -32 ≤ (x0 * x0 + x1 * x1) ∧ (x0 * x0 + x1 * x1) ≤ 32 := by
  have := pr2 s0 s0
  have := pr2 s1 s1
  omega
theorem bq_d1 {x0 x1 x2 x3 x4 x5 x6 x7 : Int} (s0 : (-2) ≤ x0 ∧ x0 ≤ 2) (s1 : (-2) ≤ x1 ∧ x1 ≤ 2) (s2 : (-2) ≤ x2 ∧ x2 ≤ 2) (s3 : (-2) ≤ x3 ∧ x3 ≤ 2) (s4 : (-2) ≤ x4 ∧ x4 ≤ 2) (s5 : (-2) ≤ x5 ∧ x5 ≤ 2) (s6 : (-2) ≤ x6 ∧ x6 ≤ 2) (s7 : (-2) ≤ x7 ∧ x7 ≤ 2) : -32 ≤ (x2 * x2 + x3 * x3) ∧ (x2 * x2 + x3 * x3) ≤ 32 := by
  have := pr2 s2 s2
  have := pr2 s3 s3
  omega
theorem bq_d2 {x0 x1 x2 x3 x4 x5 x6 x7 : Int} (s0 : (-2) ≤ x0 ∧ x0 ≤ 2) (s1 : (-2) ≤ x1 ∧ x1 ≤ 2) (s2 : (-2) ≤ x2 ∧ x2 ≤ 2) (s3 : (-2) ≤ x3 ∧ x3 ≤ 2) (s4 : (-2) ≤ x4 ∧ x4 ≤ 2) (s5 : (-2) ≤ x5 ∧ x5 ≤ 2) (s6 : (-2) ≤ x6 ∧ x6 ≤ 2) (s7 : (-2) ≤ x7 ∧ x7 ≤ 2) : -32 ≤ (x4 * x4 + x5 * x5) ∧ (x4 * x4 + x5 * x5) ≤ 32 := by
  have := pr2 s4 s4
  have := pr2 s5 s5
  omega
theorem bq_d3 {x0 x1 x2 x3 x4 x5 x6 x7 : Int} (s0 : (-2) ≤ x0 ∧ x0 ≤ 2) (s1 : (-2) ≤ x1 ∧ x1 ≤ 2) (s2 : (-2) ≤ x2 ∧ x2 ≤ 2) (s3 : (-2) ≤ x3 ∧ x3 ≤ 2) (s4 : (-2) ≤ x4 ∧ x4 ≤ 2) (s5 : (-2) ≤ x5 ∧ x5 ≤ 2) (s6 : (-2) ≤ x6 ∧ x6 ≤ 2) (s7 : (-2) ≤ x7 ∧ x7 ≤ 2) : -32 ≤ (x6 * x6 + x7 * x7) ∧ (x6 * x6 + x7 * x7) ≤ 32 := by
  have := pr2 s6 s6
  have := pr2 s7 s7
  omega
theorem bq_x01 {x0 x1 x2 x3 x4 x5 x6 x7 : Int} (s0 : (-2) ≤ x0 ∧ x0 ≤ 2) (s1 : (-2) ≤ x1 ∧ x1 ≤ 2) (s2 : (-2) ≤ x2 ∧ x2 ≤ 2) (s3 : (-2) ≤ x3 ∧ x3 ≤ 2) (s4 : (-2) ≤ x4 ∧ x4 ≤ 2) (s5 : (-2) ≤ x5 ∧ x5 ≤ 2) (s6 : (-2) ≤ x6 ∧ x6 ≤ 2) (s7 : (-2) ≤ x7 ∧ x7 ≤ 2) : -32 ≤ (x0 * x2 + x1 * x3) ∧ (x0 * x2 + x1 * x3) ≤ 32 := by
  have := pr2 s0 s2
  have := pr2 s1 s3
  omega
theorem bq_y01 {x0 x1 x2 x3 x4 x5 x6 x7 : Int} (s0 : (-2) ≤ x0 ∧ x0 ≤ 2) (s1 : (-2) ≤ x1 ∧ x1 ≤ 2) (s2 : (-2) ≤ x2 ∧ x2 ≤ 2) (s3 : (-2) ≤ x3 ∧ x3 ≤ 2) (s4 : (-2) ≤ x4 ∧ x4 ≤ 2) (s5 : (-2) ≤ x5 ∧ x5 ≤ 2) (s6 : (-2) ≤ x6 ∧ x6 ≤ 2) (s7 : (-2) ≤ x7 ∧ x7 ≤ 2) : -32 ≤ (x1 * x2 - x0 * x3) ∧ (x1 * x2 - x0 * x3) ≤ 32 := by
  have := pr2 s1 s2
  have := pr2 s0 s3
  omega
theorem bq_x02 {x0 x1 x2 x3 x4 x5 x6 x7 : Int} (s0 : (-2) ≤ x0 ∧ x0 ≤ 2) (s1 : (-2) ≤ x1 ∧ x1 ≤ 2) (s2 : (-2) ≤ x2 ∧ x2 ≤ 2) (s3 : (-2) ≤ x3 ∧ x3 ≤ 2) (s4 : (-2) ≤ x4 ∧ x4 ≤ 2) (s5 : (-2) ≤ x5 ∧ x5 ≤ 2) (s6 : (-2) ≤ x6 ∧ x6 ≤ 2) (s7 : (-2) ≤ x7 ∧ x7 ≤ 2) : -32 ≤ (x0 * x4 + x1 * x5) ∧ (x0 * x4 + x1 * x5) ≤ 32 := by
  have := pr2 s0 s4
  have := pr2 s1 s5
  omega
theorem bq_y02 {x0 x1 x2 x3 x4 x5 x6 x7 : Int} (s0 : (-2) ≤ x0 ∧ x0 ≤ 2) (s1 : (-2) ≤ x1 ∧ x1 ≤ 2) (s2 : (-2) ≤ x2 ∧ x2 ≤ 2) (s3 : (-2) ≤ x3 ∧ x3 ≤ 2) (s4 : (-2) ≤ x4 ∧ x4 ≤ 2) (s5 : (-2) ≤ x5 ∧ x5 ≤ 2) (s6 : (-2) ≤ x6 ∧ x6 ≤ 2) (s7 : (-2) ≤ x7 ∧ x7 ≤ 2) : -32 ≤ (x1 * x4 - x0 * x5) ∧ (x1 * x4 - x0 * x5) ≤ 32 := by
  have := pr2 s1 s4
  have := pr2 s0 s5
  omega
theorem bq_x03 {x0 x1 x2 x3 x4 x5 x6 x7 : Int} (s0 : (-2) ≤ x0 ∧ x0 ≤ 2) (s1 : (-2) ≤ x1 ∧ x1 ≤ 2) (s2 : (-2) ≤ x2 ∧ x2 ≤ 2) (s3 : (-2) ≤ x3 ∧ x3 ≤ 2) (s4 : (-2) ≤ x4 ∧ x4 ≤ 2) (s5 : (-2) ≤ x5 ∧ x5 ≤ 2) (s6 : (-2) ≤ x6 ∧ x6 ≤ 2) (s7 : (-2) ≤ x7 ∧ x7 ≤ 2) : -32 ≤ (x0 * x6 + x1 * x7) ∧ (x0 * x6 + x1 * x7) ≤ 32 := by
  have := pr2 s0 s6
  have := pr2 s1 s7
  omega
theorem bq_y03 {x0 x1 x2 x3 x4 x5 x6 x7 : Int} (s0 : (-2) ≤ x0 ∧ x0 ≤ 2) (s1 : (-2) ≤ x1 ∧ x1 ≤ 2) (s2 : (-2) ≤ x2 ∧ x2 ≤ 2) (s3 : (-2) ≤ x3 ∧ x3 ≤ 2) (s4 : (-2) ≤ x4 ∧ x4 ≤ 2) (s5 : (-2) ≤ x5 ∧ x5 ≤ 2) (s6 : (-2) ≤ x6 ∧ x6 ≤ 2) (s7 : (-2) ≤ x7 ∧ x7 ≤ 2) : -32 ≤ (x1 * x6 - x0 * x7) ∧ (x1 * x6 - x0 * x7) ≤ 32 := by
  have := pr2 s1 s6
  have := pr2 s0 s7
  omega
theorem bq_x12 {x0 x1 x2 x3 x4 x5 x6 x7 : Int} (s0 : (-2) ≤ x0 ∧ x0 ≤ 2) (s1 : (-2) ≤ x1 ∧ x1 ≤ 2) (s2 : (-2) ≤ x2 ∧ x2 ≤ 2) (s3 : (-2) ≤ x3 ∧ x3 ≤ 2) (s4 : (-2) ≤ x4 ∧ x4 ≤ 2) (s5 : (-2) ≤ x5 ∧ x5 ≤ 2) (s6 : (-2) ≤ x6 ∧ x6 ≤ 2) (s7 : (-2) ≤ x7 ∧ x7 ≤ 2) : -32 ≤ (x2 * x4 + x3 * x5) ∧ (x2 * x4 + x3 * x5) ≤ 32 := by
  have := pr2 s2 s4
  have := pr2 s3 s5
  omega
theorem bq_y12 {x0 x1 x2 x3 x4 x5 x6 x7 : Int} (s0 : (-2) ≤ x0 ∧ x0 ≤ 2) (s1 : (-2) ≤ x1 ∧ x1 ≤ 2) (s2 : (-2) ≤ x2 ∧ x2 ≤ 2) (s3 : (-2) ≤ x3 ∧ x3 ≤ 2) (s4 : (-2) ≤ x4 ∧ x4 ≤ 2) (s5 : (-2) ≤ x5 ∧ x5 ≤ 2) (s6 : (-2) ≤ x6 ∧ x6 ≤ 2) (s7 : (-2) ≤ x7 ∧ x7 ≤ 2) : -32 ≤ (x3 * x4 - x2 * x5) ∧ (x3 * x4 - x2 * x5) ≤ 32 := by
  have := pr2 s3 s4
  have := pr2 s2 s5
  omega
theorem bq_x13 {x0 x1 x2 x3 x4 x5 x6 x7 : Int} (s0 : (-2) ≤ x0 ∧ x0 ≤ 2) (s1 : (-2) ≤ x1 ∧ x1 ≤ 2) (s2 : (-2) ≤ x2 ∧ x2 ≤ 2) (s3 : (-2) ≤ x3 ∧ x3 ≤ 2) (s4 : (-2) ≤ x4 ∧ x4 ≤ 2) (s5 : (-2) ≤ x5 ∧ x5 ≤ 2) (s6 : (-2) ≤ x6 ∧ x6 ≤ 2) (s7 : (-2) ≤ x7 ∧ x7 ≤ 2) : -32 ≤ (x2 * x6 + x3 * x7) ∧ (x2 * x6 + x3 * x7) ≤ 32 := by
  have := pr2 s2 s6
  have := pr2 s3 s7
  omega
theorem bq_y13 {x0 x1 x2 x3 x4 x5 x6 x7 : Int} (s0 : (-2) ≤ x0 ∧ x0 ≤ 2) (s1 : (-2) ≤ x1 ∧ x1 ≤ 2) (s2 : (-2) ≤ x2 ∧ x2 ≤ 2) (s3 : (-2) ≤ x3 ∧ x3 ≤ 2) (s4 : (-2) ≤ x4 ∧ x4 ≤ 2) (s5 : (-2) ≤ x5 ∧ x5 ≤ 2) (s6 : (-2) ≤ x6 ∧ x6 ≤ 2) (s7 : (-2) ≤ x7 ∧ x7 ≤ 2) : -32 ≤ (x3 * x6 - x2 * x7) ∧ (x3 * x6 - x2 * x7) ≤ 32 := by
  have := pr2 s3 s6
  have := pr2 s2 s7
  omega
theorem bq_x23 {x0 x1 x2 x3 x4 x5 x6 x7 : Int} (s0 : (-2) ≤ x0 ∧ x0 ≤ 2) (s1 : (-2) ≤ x1 ∧ x1 ≤ 2) (s2 : (-2) ≤ x2 ∧ x2 ≤ 2) (s3 : (-2) ≤ x3 ∧ x3 ≤ 2) (s4 : (-2) ≤ x4 ∧ x4 ≤ 2) (s5 : (-2) ≤ x5 ∧ x5 ≤ 2) (s6 : (-2) ≤ x6 ∧ x6 ≤ 2) (s7 : (-2) ≤ x7 ∧ x7 ≤ 2) : -32 ≤ (x4 * x6 + x5 * x7) ∧ (x4 * x6 + x5 * x7) ≤ 32 := by
  have := pr2 s4 s6
  have := pr2 s5 s7
  omega
theorem bq_y23 {x0 x1 x2 x3 x4 x5 x6 x7 : Int} (s0 : (-2) ≤ x0 ∧ x0 ≤ 2) (s1 : (-2) ≤ x1 ∧ x1 ≤ 2) (s2 : (-2) ≤ x2 ∧ x2 ≤ 2) (s3 : (-2) ≤ x3 ∧ x3 ≤ 2) (s4 : (-2) ≤ x4 ∧ x4 ≤ 2) (s5 : (-2) ≤ x5 ∧ x5 ≤ 2) (s6 : (-2) ≤ x6 ∧ x6 ≤ 2) (s7 : (-2) ≤ x7 ∧ x7 ≤ 2) : -32 ≤ (x5 * x6 - x4 * x7) ∧ (x5 * x6 - x4 * x7) ≤ 32 := by
  have := pr2 s5 s6
  have := pr2 s4 s7
  omega
theorem pure_of0 {x0 x1 x2 x3 x4 x5 x6 x7 d0 d1 d2 d3 x01 y01 x02 y02 x03 y03 x12 y12 x13 y13 x23 y23 : Int} (hd0 : d0 = 4 * (x0 * x0 + x1 * x1)) (hx01 : x01 = 4 * (x0 * x2 + x1 * x3)) (hy01 : y01 = 4 * (x1 * x2 - x0 * x3)) (hx02 : x02 = 4 * (x0 * x4 + x1 * x5)) (hy02 : y02 = 4 * (x1 * x4 - x0 * x5)) (hx03 : x03 = 4 * (x0 * x6 + x1 * x7)) (hy03 : y03 = 4 * (x1 * x6 - x0 * x7)) (hd1 : d1 = 4 * (x2 * x2 + x3 * x3)) (hx12 : x12 = 4 * (x2 * x4 + x3 * x5)) (hy12 : y12 = 4 * (x3 * x4 - x2 * x5)) (hx13 : x13 = 4 * (x2 * x6 + x3 * x7)) (hy13 : y13 = 4 * (x3 * x6 - x2 * x7)) (hd2 : d2 = 4 * (x4 * x4 + x5 * x5)) (hx23 : x23 = 4 * (x4 * x6 + x5 * x7)) (hy23 : y23 = 4 * (x5 * x6 - x4 * x7)) (hd3 : d3 = 4 * (x6 * x6 + x7 * x7))  (hne : 0 < x0 * x0 + x1 * x1) : Pure0 d0 d1 d2 d3 x01 y01 x02 y02 x03 y03 x12 y12 x13 y13 x23 y23 := by
  have hpos : 0 < d0 := by rw [hd0]; omega
  exact { pos := hpos, e0 := by simp only [hd0]; grind, e1 := by simp only [hd0]; grind, e2 := by simp only [hd0, hx01, hy01]; grind, e3 := by simp only [hd0, hx01, hy01]; grind, e4 := by simp only [hd0, hx02, hy02]; grind, e5 := by simp only [hd0, hx02, hy02]; grind, e6 := by simp only [hd0, hx03, hy03]; grind, e7 := by simp only [hd0, hx03, hy03]; grind, e8 := by simp only [hd0, hx01, hy01]; grind, e9 := by simp only [hd0, hx01, hy01]; grind, e10 := by simp only [hd0, hd1, hx01, hy01]; grind, e11 := by simp only [hd0, hd1, hx01, hy01]; grind, e12 := by simp only [hd0, hx01, hx02, hx12, hy01, hy02, hy12]; grind, e13 := by simp only [hd0, hx01, hx02, hx12, hy01, hy02, hy12]; grind, e14 := by simp only [hd0, hx01, hx03, hx13, hy01, hy03, hy13]; grind, e15 := by simp only [hd0, hx01, hx03, hx13, hy01, hy03, hy13]; grind, e16 := by simp only [hd0, hx02, hy02]; grind, e17 := by simp only [hd0, hx02, hy02]; grind, e18 := by simp only [hd0, hx01, hx02, hx12, hy01, hy02, hy12]; grind, e19 := by simp only [hd0, hx01, hx02, hx12, hy01, hy02, hy12]; grind, e20 := by simp only [hd0, hd2, hx02, hy02]; grind, e21 := by simp only [hd0, hd2, hx02, hy02]; grind, e22 := by simp only [hd0, hx02, hx03, hx23, hy02, hy03, hy23]; grind, e23 := by simp only [hd0, hx02, hx03, hx23, hy02, hy03, hy23]; grind, e24 := by simp only [hd0, hx03, hy03]; grind, e25 := by simp only [hd0, hx03, hy03]; grind, e26 := by simp only [hd0, hx01, hx03, hx13, hy01, hy03, hy13]; grind, e27 := by simp only [hd0, hx01, hx03, hx13, hy01, hy03, hy13]; grind, e28 := by simp only [hd0, hx02, hx03, hx23, hy02, hy03, hy23]; grind, e29 := by simp only [hd0, hx02, hx03, hx23, hy02, hy03, hy23]; grind, e30 := by simp only [hd0, hd3, hx03, hy03]; grind, e31 := by simp only [hd0, hd3, hx03, hy03]; grind }
theorem pure_of1 {x0 x1 x2 x3 x4 x5 x6 x7 d0 d1 d2 d3 x01 y01 x02 y02 x03 y03 x12 y12 x13 y13 x23 y23 : Int} (hd0 : d0 = 4 * (x0 * x0 + x1 * x1)) (hx01 : x01 = 4 * (x0 * x2 + x1 * x3)) (hy01 : y01 = 4 * (x1 * x2 - x0 * x3)) (hx02 : x02 = 4 * (x0 * x4 + x1 * x5)) (hy02 : y02 = 4 * (x1 * x4 - x0 * x5)) (hx03 : x03 = 4 * (x0 * x6 + x1 * x7)) (hy03 : y03 = 4 * (x1 * x6 - x0 * x7)) (hd1 : d1 = 4 * (x2 * x2 + x3 * x3)) (hx12 : x12 = 4 * (x2 * x4 + x3 * x5)) (hy12 : y12 = 4 * (x3 * x4 - x2 * x5)) (hx13 : x13 = 4 * (x2 * x6 + x3 * x7)) (hy13 : y13 = 4 * (x3 * x6 - x2 * x7)) (hd2 : d2 = 4 * (x4 * x4 + x5 * x5)) (hx23 : x23 = 4 * (x4 * x6 + x5 * x7)) (hy23 : y23 = 4 * (x5 * x6 - x4 * x7)) (hd3 : d3 = 4 * (x6 * x6 + x7 * x7)) (zx0 : x0 = 0) (zx1 : x1 = 0) (hne : 0 < x2 * x2 + x3 * x3) : Pure1 d0 d1 d2 d3 x01 y01 x02 y02 x03 y03 x12 y12 x13 y13 x23 y23 := by
  subst zx0 zx1
  have hpos : 0 < d1 := by rw [hd1]; omega
  exact { z0 := by rw [hd0]; omega, pos := hpos, e0 := by simp only [hd0, hd1, hx01, hy01]; grind, e1 := by simp only [hd0, hd1, hx01, hy01]; grind, e2 := by simp only [hd1, hx01, hy01]; grind, e3 := by simp only [hd1, hx01, hy01]; grind, e4 := by simp only [hd1, hx01, hx02, hx12, hy01, hy02, hy12]; grind, e5 := by simp only [hd1, hx01, hx02, hx12, hy01, hy02, hy12]; grind, e6 := by simp only [hd1, hx01, hx03, hx13, hy01, hy03, hy13]; grind, e7 := by simp only [hd1, hx01, hx03, hx13, hy01, hy03, hy13]; grind, e8 := by simp only [hd1, hx01, hy01]; grind, e9 := by simp only [hd1, hx01, hy01]; grind, e10 := by simp only [hd1]; grind, e11 := by simp only [hd1]; grind, e12 := by simp only [hd1, hx12, hy12]; grind, e13 := by simp only [hd1, hx12, hy12]; grind, e14 := by simp only [hd1, hx13, hy13]; grind, e15 := by simp only [hd1, hx13, hy13]; grind, e16 := by simp only [hd1, hx01, hx02, hx12, hy01, hy02, hy12]; grind, e17 := by simp only [hd1, hx01, hx02, hx12, hy01, hy02, hy12]; grind, e18 := by simp only [hd1, hx12, hy12]; grind, e19 := by simp only [hd1, hx12, hy12]; grind, e20 := by simp only [hd1, hd2, hx12, hy12]; grind, e21 := by simp only [hd1, hd2, hx12, hy12]; grind, e22 := by simp only [hd1, hx12, hx13, hx23, hy12, hy13, hy23]; grind, e23 := by simp only [hd1, hx12, hx13, hx23, hy12, hy13, hy23]; grind, e24 := by simp only [hd1, hx01, hx03, hx13, hy01, hy03, hy13]; grind, e25 := by simp only [hd1, hx01, hx03, hx13, hy01, hy03, hy13]; grind, e26 := by simp only [hd1, hx13, hy13]; grind, e27 := by simp only [hd1, hx13, hy13]; grind, e28 := by simp only [hd1, hx12, hx13, hx23, hy12, hy13, hy23]; grind, e29 := by simp only [hd1, hx12, hx13, hx23, hy12, hy13, hy23]; grind, e30 := by simp only [hd1, hd3, hx13, hy13]; grind, e31 := by simp only [hd1, hd3, hx13, hy13]; grind }
theorem pure_of2 {x0 x1 x2 x3 x4 x5 x6 x7 d0 d1 d2 d3 x01 y01 x02 y02 x03 y03 x12 y12 x13 y13 x23 y23 : Int} (hd0 : d0 = 4 * (x0 * x0 + x1 * x1)) (hx01 : x01 = 4 * (x0 * x2 + x1 * x3)) (hy01 : y01 = 4 * (x1 * x2 - x0 * x3)) (hx02 : x02 = 4 * (x0 * x4 + x1 * x5)) (hy02 : y02 = 4 * (x1 * x4 - x0 * x5)) (hx03 : x03 = 4 * (x0 * x6 + x1 * x7)) (hy03 : y03 = 4 * (x1 * x6 - x0 * x7)) (hd1 : d1 = 4 * (x2 * x2 + x3 * x3)) (hx12 : x12 = 4 * (x2 * x4 + x3 * x5)) (hy12 : y12 = 4 * (x3 * x4 - x2 * x5)) (hx13 : x13 = 4 * (x2 * x6 + x3 * x7)) (hy13 : y13 = 4 * (x3 * x6 - x2 * x7)) (hd2 : d2 = 4 * (x4 * x4 + x5 * x5)) (hx23 : x23 = 4 * (x4 * x6 + x5 * x7)) (hy23 : y23 = 4 * (x5 * x6 - x4 * x7)) (hd3 : d3 = 4 * (x6 * x6 + x7 * x7)) (zx0 : x0 = 0) (zx1 : x1 = 0) (zx2 : x2 = 0) (zx3 : x3 = 0) (hne : 0 < x4 * x4 + x5 * x5) : Pure2 d0 d1 d2 d3 x01 y01 x02 y02 x03 y03 x12 y12 x13 y13 x23 y23 := by
  subst zx0 zx1 zx2 zx3
  have hpos : 0 < d2 := by rw [hd2]; omega
  exact { z0 := by rw [hd0]; omega, z1 := by rw [hd1]; omega, pos := hpos, e0 := by simp only [hd0, hd2, hx02, hy02]; grind, e1 := by simp only [hd0, hd2, hx02, hy02]; grind, e2 := by simp only [hd2, hx01, hx02, hx12, hy01, hy02, hy12]; grind, e3 := by simp only [hd2, hx01, hx02, hx12, hy01, hy02, hy12]; grind, e4 := by simp only [hd2, hx02, hy02]; grind, e5 := by simp only [hd2, hx02, hy02]; grind, e6 := by simp only [hd2, hx02, hx03, hx23, hy02, hy03, hy23]; grind, e7 := by simp only [hd2, hx02, hx03, hx23, hy02, hy03, hy23]; grind, e8 := by simp only [hd2, hx01, hx02, hx12, hy01, hy02, hy12]; grind, e9 := by simp only [hd2, hx01, hx02, hx12, hy01, hy02, hy12]; grind, e10 := by simp only [hd1, hd2, hx12, hy12]; grind, e11 := by simp only [hd1, hd2, hx12, hy12]; grind, e12 := by simp only [hd2, hx12, hy12]; grind, e13 := by simp only [hd2, hx12, hy12]; grind, e14 := by simp only [hd2, hx12, hx13, hx23, hy12, hy13, hy23]; grind, e15 := by simp only [hd2, hx12, hx13, hx23, hy12, hy13, hy23]; grind, e16 := by simp only [hd2, hx02, hy02]; grind, e17 := by simp only [hd2, hx02, hy02]; grind, e18 := by simp only [hd2, hx12, hy12]; grind, e19 := by simp only [hd2, hx12, hy12]; grind, e20 := by simp only [hd2]; grind, e21 := by simp only [hd2]; grind, e22 := by simp only [hd2, hx23, hy23]; grind, e23 := by simp only [hd2, hx23, hy23]; grind, e24 := by simp only [hd2, hx02, hx03, hx23, hy02, hy03, hy23]; grind, e25 := by simp only [hd2, hx02, hx03, hx23, hy02, hy03, hy23]; grind, e26 := by simp only [hd2, hx12, hx13, hx23, hy12, hy13, hy23]; grind, e27 := by simp only [hd2, hx12, hx13, hx23, hy12, hy13, hy23]; grind, e28 := by simp only [hd2, hx23, hy23]; grind, e29 := by simp only [hd2, hx23, hy23]; grind, e30 := by simp only [hd2, hd3, hx23, hy23]; grind, e31 := by simp only [hd2, hd3, hx23, hy23]; grind }
theorem pure_of3 {x0 x1 x2 x3 x4 x5 x6 x7 d0 d1 d2 d3 x01 y01 x02 y02 x03 y03 x12 y12 x13 y13 x23 y23 : Int} (hd0 : d0 = 4 * (x0 * x0 + x1 * x1)) (hx01 : x01 = 4 * (x0 * x2 + x1 * x3)) (hy01 : y01 = 4 * (x1 * x2 - x0 * x3)) (hx02 : x02 = 4 * (x0 * x4 + x1 * x5)) (hy02 : y02 = 4 * (x1 * x4 - x0 * x5)) (hx03 : x03 = 4 * (x0 * x6 + x1 * x7)) (hy03 : y03 = 4 * (x1 * x6 - x0 * x7)) (hd1 : d1 = 4 * (x2 * x2 + x3 * x3)) (hx12 : x12 = 4 * (x2 * x4 + x3 * x5)) (hy12 : y12 = 4 * (x3 * x4 - x2 * x5)) (hx13 : x13 = 4 * (x2 * x6 + x3 * x7)) (hy13 : y13 = 4 * (x3 * x6 - x2 * x7)) (hd2 : d2 = 4 * (x4 * x4 + x5 * x5)) (hx23 : x23 = 4 * (x4 * x6 + x5 * x7)) (hy23 : y23 = 4 * (x5 * x6 - x4 * x7)) (hd3 : d3 = 4 * (x6 * x6 + x7 * x7)) (zx0 : x0 = 0) (zx1 : x1 = 0) (zx2 : x2 = 0) (zx3 : x3 = 0) (zx4 : x4 = 0) (zx5 : x5 = 0) (hne : 0 < x6 * x6 + x7 * x7) : Pure3 d0 d1 d2 d3 x01 y01 x02 y02 x03 y03 x12 y12 x13 y13 x23 y23 := by
  subst zx0 zx1 zx2 zx3 zx4 zx5
  have hpos : 0 < d3 := by rw [hd3]; omega
  exact { z0 := by rw [hd0]; omega, z1 := by rw [hd1]; omega, z2 := by rw [hd2]; omega, pos := hpos, e0 := by simp only [hd0, hd3, hx03, hy03]; grind, e1 := by simp only [hd0, hd3, hx03, hy03]; grind, e2 := by simp only [hd3, hx01, hx03, hx13, hy01, hy03, hy13]; grind, e3 := by simp only [hd3, hx01, hx03, hx13, hy01, hy03, hy13]; grind, e4 := by simp only [hd3, hx02, hx03, hx23, hy02, hy03, hy23]; grind, e5 := by simp only [hd3, hx02, hx03, hx23, hy02, hy03, hy23]; grind, e6 := by simp only [hd3, hx03, hy03]; grind, e7 := by simp only [hd3, hx03, hy03]; grind, e8 := by simp only [hd3, hx01, hx03, hx13, hy01, hy03, hy13]; grind, e9 := by simp only [hd3, hx01, hx03, hx13, hy01, hy03, hy13]; grind, e10 := by simp only [hd1, hd3, hx13, hy13]; grind, e11 := by simp only [hd1, hd3, hx13, hy13]; grind, e12 := by simp only [hd3, hx12, hx13, hx23, hy12, hy13, hy23]; grind, e13 := by simp only [hd3, hx12, hx13, hx23, hy12, hy13, hy23]; grind, e14 := by simp only [hd3, hx13, hy13]; grind, e15 := by simp only [hd3, hx13, hy13]; grind, e16 := by simp only [hd3, hx02, hx03, hx23, hy02, hy03, hy23]; grind, e17 := by simp only [hd3, hx02, hx03, hx23, hy02, hy03, hy23]; grind, e18 := by simp only [hd3, hx12, hx13, hx23, hy12, hy13, hy23]; grind, e19 := by simp only [hd3, hx12, hx13, hx23, hy12, hy13, hy23]; grind, e20 := by simp only [hd2, hd3, hx23, hy23]; grind, e21 := by simp only [hd2, hd3, hx23, hy23]; grind, e22 := by simp only [hd3, hx23, hy23]; grind, e23 := by simp only [hd3, hx23, hy23]; grind, e24 := by simp only [hd3, hx03, hy03]; grind, e25 := by simp only [hd3, hx03, hy03]; grind, e26 := by simp only [hd3, hx13, hy13]; grind, e27 := by simp only [hd3, hx13, hy13]; grind, e28 := by simp only [hd3, hx23, hy23]; grind, e29 := by simp only [hd3, hx23, hy23]; grind, e30 := by simp only [hd3]; grind, e31 := by simp only [hd3]; grind }
set_option maxHeartbeats 16000000 in
theorem pure_in {x0 x1 x2 x3 x4 x5 x6 x7 : Int} (s0 : (-2) ≤ x0 ∧ x0 ≤ 2) (s1 : (-2) ≤ x1 ∧ x1 ≤ 2) (s2 : (-2) ≤ x2 ∧ x2 ≤ 2) (s3 : (-2) ≤ x3 ∧ x3 ≤ 2) (s4 : (-2) ≤ x4 ∧ x4 ≤ 2) (s5 : (-2) ≤ x5 ∧ x5 ≤ 2) (s6 : (-2) ≤ x6 ∧ x6 ≤ 2) (s7 : (-2) ≤ x7 ∧ x7 ≤ 2) (hz : ¬ (x0 = 0 ∧ x1 = 0 ∧ x2 = 0 ∧ x3 = 0 ∧ x4 = 0 ∧ x5 = 0 ∧ x6 = 0 ∧ x7 = 0)) (w : World) : Calls Try.prog 11 #[.agg #[.int .i64 x0, .int .i64 x1, .int .i64 x2, .int .i64 x3, .int .i64 x4, .int .i64 x5, .int .i64 x6, .int .i64 x7]] w fun e w' => e = .returned (.bool true) ∧ Below w.heap.size w w' := by
  obtain ⟨N0, hN0⟩ : ∃ N : Int, N = ((((x0 * x0) - (x1 * (0 - x1))) + ((x2 * x2) - (x3 * (0 - x3)))) + (((x4 * x4) - (x5 * (0 - x5))) + ((x6 * x6) - (x7 * (0 - x7))))) := ⟨_, rfl⟩
  obtain ⟨N1, hN1⟩ : ∃ N : Int, N = ((((x0 * x0) - (x1 * (0 - x1))) + ((x2 * ((-1) * x2)) - (x3 * ((-1) * (0 - x3))))) + (((x4 * x4) - (x5 * (0 - x5))) + ((x6 * ((-1) * x6)) - (x7 * ((-1) * (0 - x7)))))) := ⟨_, rfl⟩
  obtain ⟨N2, hN2⟩ : ∃ N : Int, N = ((((x0 * x2) - (x1 * (0 - x3))) + ((x2 * x0) - (x3 * (0 - x1)))) + (((x4 * x6) - (x5 * (0 - x7))) + ((x6 * x4) - (x7 * (0 - x5))))) := ⟨_, rfl⟩
  obtain ⟨N3, hN3⟩ : ∃ N : Int, N = ((((x0 * (0 - ((-1) * (0 - x3)))) - (x1 * ((-1) * x2))) + ((x2 * (0 - (0 - x1))) - (x3 * x0))) + (((x4 * (0 - ((-1) * (0 - x7)))) - (x5 * ((-1) * x6))) + ((x6 * (0 - (0 - x5))) - (x7 * x4)))) := ⟨_, rfl⟩
  obtain ⟨N4, hN4⟩ : ∃ N : Int, N = ((((x0 * x0) - (x1 * (0 - x1))) + ((x2 * x2) - (x3 * (0 - x3)))) + (((((-1) * x4) * x4) - (((-1) * x5) * (0 - x5))) + ((((-1) * x6) * x6) - (((-1) * x7) * (0 - x7))))) := ⟨_, rfl⟩
  obtain ⟨N5, hN5⟩ : ∃ N : Int, N = ((((x0 * x0) - (x1 * (0 - x1))) + ((x2 * ((-1) * x2)) - (x3 * ((-1) * (0 - x3))))) + (((((-1) * x4) * x4) - (((-1) * x5) * (0 - x5))) + ((((-1) * x6) * ((-1) * x6)) - (((-1) * x7) * ((-1) * (0 - x7)))))) := ⟨_, rfl⟩
  obtain ⟨N6, hN6⟩ : ∃ N : Int, N = ((((x0 * x2) - (x1 * (0 - x3))) + ((x2 * x0) - (x3 * (0 - x1)))) + (((((-1) * x4) * x6) - (((-1) * x5) * (0 - x7))) + ((((-1) * x6) * x4) - (((-1) * x7) * (0 - x5))))) := ⟨_, rfl⟩
  obtain ⟨N7, hN7⟩ : ∃ N : Int, N = ((((x0 * (0 - ((-1) * (0 - x3)))) - (x1 * ((-1) * x2))) + ((x2 * (0 - (0 - x1))) - (x3 * x0))) + (((((-1) * x4) * (0 - ((-1) * (0 - x7)))) - (((-1) * x5) * ((-1) * x6))) + ((((-1) * x6) * (0 - (0 - x5))) - (((-1) * x7) * x4)))) := ⟨_, rfl⟩
  obtain ⟨N8, hN8⟩ : ∃ N : Int, N = ((((x4 * x0) - (x5 * (0 - x1))) + ((x6 * x2) - (x7 * (0 - x3)))) + (((x0 * x4) - (x1 * (0 - x5))) + ((x2 * x6) - (x3 * (0 - x7))))) := ⟨_, rfl⟩
  obtain ⟨N9, hN9⟩ : ∃ N : Int, N = ((((x4 * x0) - (x5 * (0 - x1))) + ((x6 * ((-1) * x2)) - (x7 * ((-1) * (0 - x3))))) + (((x0 * x4) - (x1 * (0 - x5))) + ((x2 * ((-1) * x6)) - (x3 * ((-1) * (0 - x7)))))) := ⟨_, rfl⟩
  obtain ⟨N10, hN10⟩ : ∃ N : Int, N = ((((x4 * x2) - (x5 * (0 - x3))) + ((x6 * x0) - (x7 * (0 - x1)))) + (((x0 * x6) - (x1 * (0 - x7))) + ((x2 * x4) - (x3 * (0 - x5))))) := ⟨_, rfl⟩
  obtain ⟨N11, hN11⟩ : ∃ N : Int, N = ((((x4 * (0 - ((-1) * (0 - x3)))) - (x5 * ((-1) * x2))) + ((x6 * (0 - (0 - x1))) - (x7 * x0))) + (((x0 * (0 - ((-1) * (0 - x7)))) - (x1 * ((-1) * x6))) + ((x2 * (0 - (0 - x5))) - (x3 * x4)))) := ⟨_, rfl⟩
  obtain ⟨N12, hN12⟩ : ∃ N : Int, N = (((((0 - ((-1) * x5)) * x0) - (((-1) * x4) * (0 - x1))) + (((0 - ((-1) * x7)) * x2) - (((-1) * x6) * (0 - x3)))) + ((((0 - x1) * x4) - (x0 * (0 - x5))) + (((0 - x3) * x6) - (x2 * (0 - x7))))) := ⟨_, rfl⟩
  obtain ⟨N13, hN13⟩ : ∃ N : Int, N = (((((0 - ((-1) * x5)) * x0) - (((-1) * x4) * (0 - x1))) + (((0 - ((-1) * x7)) * ((-1) * x2)) - (((-1) * x6) * ((-1) * (0 - x3))))) + ((((0 - x1) * x4) - (x0 * (0 - x5))) + (((0 - x3) * ((-1) * x6)) - (x2 * ((-1) * (0 - x7)))))) := ⟨_, rfl⟩
  obtain ⟨N14, hN14⟩ : ∃ N : Int, N = (((((0 - ((-1) * x5)) * x2) - (((-1) * x4) * (0 - x3))) + (((0 - ((-1) * x7)) * x0) - (((-1) * x6) * (0 - x1)))) + ((((0 - x1) * x6) - (x0 * (0 - x7))) + (((0 - x3) * x4) - (x2 * (0 - x5))))) := ⟨_, rfl⟩
  obtain ⟨N15, hN15⟩ : ∃ N : Int, N = (((((0 - ((-1) * x5)) * (0 - ((-1) * (0 - x3)))) - (((-1) * x4) * ((-1) * x2))) + (((0 - ((-1) * x7)) * (0 - (0 - x1))) - (((-1) * x6) * x0))) + ((((0 - x1) * (0 - ((-1) * (0 - x7)))) - (x0 * ((-1) * x6))) + (((0 - x3) * (0 - (0 - x5))) - (x2 * x4)))) := ⟨_, rfl⟩
  have MG := fun w => one_val (pmg s0 s1 s2 s3 s4 s5 s6 s7 (rpn' _) (rpn' _) (rpn' _) (rpn' _) (rpn' _) (rpn' _) (rpn' _) (rpn' _) (Q := (· = _)) rfl) w
  simp only [← hN0, ← hN1, ← hN2, ← hN3, ← hN4, ← hN5, ← hN6, ← hN7, ← hN8, ← hN9, ← hN10, ← hN11, ← hN12, ← hN13, ← hN14, ← hN15] at MG
  have hE0 : N0 = (1) * (x0 * x0 + x1 * x1) + (1) * (x2 * x2 + x3 * x3) + (1) * (x4 * x4 + x5 * x5) + (1) * (x6 * x6 + x7 * x7) := by rw [hN0]; grind
  have hE1 : N1 = (1) * (x0 * x0 + x1 * x1) + (-1) * (x2 * x2 + x3 * x3) + (1) * (x4 * x4 + x5 * x5) + (-1) * (x6 * x6 + x7 * x7) := by rw [hN1]; grind
  have hE2 : N2 = (2) * (x0 * x2 + x1 * x3) + (2) * (x4 * x6 + x5 * x7) := by rw [hN2]; grind
  have hE3 : N3 = (2) * (x1 * x2 - x0 * x3) + (2) * (x5 * x6 - x4 * x7) := by rw [hN3]; grind
  have hE4 : N4 = (1) * (x0 * x0 + x1 * x1) + (1) * (x2 * x2 + x3 * x3) + (-1) * (x4 * x4 + x5 * x5) + (-1) * (x6 * x6 + x7 * x7) := by rw [hN4]; grind
  have hE5 : N5 = (1) * (x0 * x0 + x1 * x1) + (-1) * (x2 * x2 + x3 * x3) + (-1) * (x4 * x4 + x5 * x5) + (1) * (x6 * x6 + x7 * x7) := by rw [hN5]; grind
  have hE6 : N6 = (2) * (x0 * x2 + x1 * x3) + (-2) * (x4 * x6 + x5 * x7) := by rw [hN6]; grind
  have hE7 : N7 = (2) * (x1 * x2 - x0 * x3) + (-2) * (x5 * x6 - x4 * x7) := by rw [hN7]; grind
  have hE8 : N8 = (2) * (x0 * x4 + x1 * x5) + (2) * (x2 * x6 + x3 * x7) := by rw [hN8]; grind
  have hE9 : N9 = (2) * (x0 * x4 + x1 * x5) + (-2) * (x2 * x6 + x3 * x7) := by rw [hN9]; grind
  have hE10 : N10 = (2) * (x0 * x6 + x1 * x7) + (2) * (x2 * x4 + x3 * x5) := by rw [hN10]; grind
  have hE11 : N11 = (2) * (x1 * x6 - x0 * x7) + (-2) * (x3 * x4 - x2 * x5) := by rw [hN11]; grind
  have hE12 : N12 = (-2) * (x1 * x4 - x0 * x5) + (-2) * (x3 * x6 - x2 * x7) := by rw [hN12]; grind
  have hE13 : N13 = (-2) * (x1 * x4 - x0 * x5) + (2) * (x3 * x6 - x2 * x7) := by rw [hN13]; grind
  have hE14 : N14 = (-2) * (x1 * x6 - x0 * x7) + (-2) * (x3 * x4 - x2 * x5) := by rw [hN14]; grind
  have hE15 : N15 = (2) * (x0 * x6 + x1 * x7) + (-2) * (x2 * x4 + x3 * x5) := by rw [hN15]; grind
  clear hN0 hN1 hN2 hN3 hN4 hN5 hN6 hN7 hN8 hN9 hN10 hN11 hN12 hN13 hN14 hN15
  have sq0 : 0 ≤ x0 * x0 ∧ x0 * x0 ≤ 4 := ⟨sqn x0, (pr2 s0 s0).2⟩
  have sq1 : 0 ≤ x1 * x1 ∧ x1 * x1 ≤ 4 := ⟨sqn x1, (pr2 s1 s1).2⟩
  have sq2 : 0 ≤ x2 * x2 ∧ x2 * x2 ≤ 4 := ⟨sqn x2, (pr2 s2 s2).2⟩
  have sq3 : 0 ≤ x3 * x3 ∧ x3 * x3 ≤ 4 := ⟨sqn x3, (pr2 s3 s3).2⟩
  have sq4 : 0 ≤ x4 * x4 ∧ x4 * x4 ≤ 4 := ⟨sqn x4, (pr2 s4 s4).2⟩
  have sq5 : 0 ≤ x5 * x5 ∧ x5 * x5 ≤ 4 := ⟨sqn x5, (pr2 s5 s5).2⟩
  have sq6 : 0 ≤ x6 * x6 ∧ x6 * x6 ≤ 4 := ⟨sqn x6, (pr2 s6 s6).2⟩
  have sq7 : 0 ≤ x7 * x7 ∧ x7 * x7 ≤ 4 := ⟨sqn x7, (pr2 s7 s7).2⟩
  have B0 := bd0 x0 x1 x2 x3 x4 x5 x6 x7
  have B1 := bd1 x0 x1 x2 x3 x4 x5 x6 x7
  have B2 := bd2 x0 x1 x2 x3 x4 x5 x6 x7
  have B3 := bd3 x0 x1 x2 x3 x4 x5 x6 x7
  have B4 := bd4 x0 x1 x2 x3 x4 x5 x6 x7
  have B5 := bd5 x0 x1 x2 x3 x4 x5 x6 x7
  have B6 := bd6 x0 x1 x2 x3 x4 x5 x6 x7
  have B7 := bd7 x0 x1 x2 x3 x4 x5 x6 x7
  have B8 := bd8 x0 x1 x2 x3 x4 x5 x6 x7
  have B9 := bd9 x0 x1 x2 x3 x4 x5 x6 x7
  have B10 := bd10 x0 x1 x2 x3 x4 x5 x6 x7
  have B11 := bd11 x0 x1 x2 x3 x4 x5 x6 x7
  have B12 := bd12 x0 x1 x2 x3 x4 x5 x6 x7
  have B13 := bd13 x0 x1 x2 x3 x4 x5 x6 x7
  have B14 := bd14 x0 x1 x2 x3 x4 x5 x6 x7
  have B15 := bd15 x0 x1 x2 x3 x4 x5 x6 x7
  have n0b : N0 ≤ 32 := by rw [hE0]; omega
  rw [← hE0] at B0
  rw [← hE0, ← hE1] at B1
  rw [← hE0, ← hE2] at B2
  rw [← hE0, ← hE3] at B3
  rw [← hE0, ← hE4] at B4
  rw [← hE0, ← hE5] at B5
  rw [← hE0, ← hE6] at B6
  rw [← hE0, ← hE7] at B7
  rw [← hE0, ← hE8] at B8
  rw [← hE0, ← hE9] at B9
  rw [← hE0, ← hE10] at B10
  rw [← hE0, ← hE11] at B11
  rw [← hE0, ← hE12] at B12
  rw [← hE0, ← hE13] at B13
  rw [← hE0, ← hE14] at B14
  rw [← hE0, ← hE15] at B15
  have c0 : (-64) ≤ N0 ∧ N0 ≤ 64 := by clear hE0 hE1 hE2 hE3 hE4 hE5 hE6 hE7 hE8 hE9 hE10 hE11 hE12 hE13 hE14 hE15 B1 B2 B3 B4 B5 B6 B7 B8 B9 B10 B11 B12 B13 B14 B15 sq0 sq1 sq2 sq3 sq4 sq5 sq6 sq7 MG; omega
  have c1 : (-64) ≤ N1 ∧ N1 ≤ 64 := by clear hE0 hE1 hE2 hE3 hE4 hE5 hE6 hE7 hE8 hE9 hE10 hE11 hE12 hE13 hE14 hE15 B0 B2 B3 B4 B5 B6 B7 B8 B9 B10 B11 B12 B13 B14 B15 sq0 sq1 sq2 sq3 sq4 sq5 sq6 sq7 MG; omega
  have c2 : (-64) ≤ N2 ∧ N2 ≤ 64 := by clear hE0 hE1 hE2 hE3 hE4 hE5 hE6 hE7 hE8 hE9 hE10 hE11 hE12 hE13 hE14 hE15 B0 B1 B3 B4 B5 B6 B7 B8 B9 B10 B11 B12 B13 B14 B15 sq0 sq1 sq2 sq3 sq4 sq5 sq6 sq7 MG; omega
  have c3 : (-64) ≤ N3 ∧ N3 ≤ 64 := by clear hE0 hE1 hE2 hE3 hE4 hE5 hE6 hE7 hE8 hE9 hE10 hE11 hE12 hE13 hE14 hE15 B0 B1 B2 B4 B5 B6 B7 B8 B9 B10 B11 B12 B13 B14 B15 sq0 sq1 sq2 sq3 sq4 sq5 sq6 sq7 MG; omega
  have c4 : (-64) ≤ N4 ∧ N4 ≤ 64 := by clear hE0 hE1 hE2 hE3 hE4 hE5 hE6 hE7 hE8 hE9 hE10 hE11 hE12 hE13 hE14 hE15 B0 B1 B2 B3 B5 B6 B7 B8 B9 B10 B11 B12 B13 B14 B15 sq0 sq1 sq2 sq3 sq4 sq5 sq6 sq7 MG; omega
  have c5 : (-64) ≤ N5 ∧ N5 ≤ 64 := by clear hE0 hE1 hE2 hE3 hE4 hE5 hE6 hE7 hE8 hE9 hE10 hE11 hE12 hE13 hE14 hE15 B0 B1 B2 B3 B4 B6 B7 B8 B9 B10 B11 B12 B13 B14 B15 sq0 sq1 sq2 sq3 sq4 sq5 sq6 sq7 MG; omega
  have c6 : (-64) ≤ N6 ∧ N6 ≤ 64 := by clear hE0 hE1 hE2 hE3 hE4 hE5 hE6 hE7 hE8 hE9 hE10 hE11 hE12 hE13 hE14 hE15 B0 B1 B2 B3 B4 B5 B7 B8 B9 B10 B11 B12 B13 B14 B15 sq0 sq1 sq2 sq3 sq4 sq5 sq6 sq7 MG; omega
  have c7 : (-64) ≤ N7 ∧ N7 ≤ 64 := by clear hE0 hE1 hE2 hE3 hE4 hE5 hE6 hE7 hE8 hE9 hE10 hE11 hE12 hE13 hE14 hE15 B0 B1 B2 B3 B4 B5 B6 B8 B9 B10 B11 B12 B13 B14 B15 sq0 sq1 sq2 sq3 sq4 sq5 sq6 sq7 MG; omega
  have c8 : (-64) ≤ N8 ∧ N8 ≤ 64 := by clear hE0 hE1 hE2 hE3 hE4 hE5 hE6 hE7 hE8 hE9 hE10 hE11 hE12 hE13 hE14 hE15 B0 B1 B2 B3 B4 B5 B6 B7 B9 B10 B11 B12 B13 B14 B15 sq0 sq1 sq2 sq3 sq4 sq5 sq6 sq7 MG; omega
  have c9 : (-64) ≤ N9 ∧ N9 ≤ 64 := by clear hE0 hE1 hE2 hE3 hE4 hE5 hE6 hE7 hE8 hE9 hE10 hE11 hE12 hE13 hE14 hE15 B0 B1 B2 B3 B4 B5 B6 B7 B8 B10 B11 B12 B13 B14 B15 sq0 sq1 sq2 sq3 sq4 sq5 sq6 sq7 MG; omega
  have c10 : (-64) ≤ N10 ∧ N10 ≤ 64 := by clear hE0 hE1 hE2 hE3 hE4 hE5 hE6 hE7 hE8 hE9 hE10 hE11 hE12 hE13 hE14 hE15 B0 B1 B2 B3 B4 B5 B6 B7 B8 B9 B11 B12 B13 B14 B15 sq0 sq1 sq2 sq3 sq4 sq5 sq6 sq7 MG; omega
  have c11 : (-64) ≤ N11 ∧ N11 ≤ 64 := by clear hE0 hE1 hE2 hE3 hE4 hE5 hE6 hE7 hE8 hE9 hE10 hE11 hE12 hE13 hE14 hE15 B0 B1 B2 B3 B4 B5 B6 B7 B8 B9 B10 B12 B13 B14 B15 sq0 sq1 sq2 sq3 sq4 sq5 sq6 sq7 MG; omega
  have c12 : (-64) ≤ N12 ∧ N12 ≤ 64 := by clear hE0 hE1 hE2 hE3 hE4 hE5 hE6 hE7 hE8 hE9 hE10 hE11 hE12 hE13 hE14 hE15 B0 B1 B2 B3 B4 B5 B6 B7 B8 B9 B10 B11 B13 B14 B15 sq0 sq1 sq2 sq3 sq4 sq5 sq6 sq7 MG; omega
  have c13 : (-64) ≤ N13 ∧ N13 ≤ 64 := by clear hE0 hE1 hE2 hE3 hE4 hE5 hE6 hE7 hE8 hE9 hE10 hE11 hE12 hE13 hE14 hE15 B0 B1 B2 B3 B4 B5 B6 B7 B8 B9 B10 B11 B12 B14 B15 sq0 sq1 sq2 sq3 sq4 sq5 sq6 sq7 MG; omega
  have c14 : (-64) ≤ N14 ∧ N14 ≤ 64 := by clear hE0 hE1 hE2 hE3 hE4 hE5 hE6 hE7 hE8 hE9 hE10 hE11 hE12 hE13 hE14 hE15 B0 B1 B2 B3 B4 B5 B6 B7 B8 B9 B10 B11 B12 B13 B15 sq0 sq1 sq2 sq3 sq4 sq5 sq6 sq7 MG; omega
  have c15 : (-64) ≤ N15 ∧ N15 ≤ 64 := by clear hE0 hE1 hE2 hE3 hE4 hE5 hE6 hE7 hE8 hE9 hE10 hE11 hE12 hE13 hE14 hE15 B0 B1 B2 B3 B4 B5 B6 B7 B8 B9 B10 B11 B12 B13 B14 sq0 sq1 sq2 sq3 sq4 sq5 sq6 sq7 MG; omega
  have n0p : 0 < N0 := by
    rw [hE0]
    rcases Int.lt_or_eq_of_le (show 0 ≤ (1) * (x0 * x0 + x1 * x1) + (1) * (x2 * x2 + x3 * x3) + (1) * (x4 * x4 + x5 * x5) + (1) * (x6 * x6 + x7 * x7) by omega) with h | h
    · exact h
    · exfalso; apply hz
      have z : ∀ a : Int, a * a = 0 → a = 0 := fun a h => by rcases Int.mul_eq_zero.mp h with h | h <;> exact h
      exact ⟨z x0 (by omega), z x1 (by omega), z x2 (by omega), z x3 (by omega), z x4 (by omega), z x5 (by omega), z x6 (by omega), z x7 (by omega)⟩
  have hS : ((((((((((((((N1 * N1) + (N2 * N2)) + (N3 * N3)) + (N4 * N4)) + (N5 * N5)) + (N6 * N6)) + (N7 * N7)) + (N8 * N8)) + (N9 * N9)) + (N10 * N10)) + (N11 * N11)) + (N12 * N12)) + (N13 * N13)) + (N14 * N14)) + (N15 * N15) = 3 * (N0 * N0) := by clear MG B0 c0 B1 c1 B2 c2 B3 c3 B4 c4 B5 c5 B6 c6 B7 c7 B8 c8 B9 c9 B10 c10 B11 c11 B12 c12 B13 c13 B14 c14 B15 c15 n0p n0b hz; simp only [hE0, hE1, hE2, hE3, hE4, hE5, hE6, hE7, hE8, hE9, hE10, hE11, hE12, hE13, hE14, hE15]; grind
  have DP := fun w => dep_one c0 c1 c2 c3 c4 c5 c6 c7 c8 c9 c10 c11 c12 c13 c14 c15 n0p hS w
  obtain ⟨d0, d1, d2, d3, x01, y01, x02, y02, x03, y03, x12, y12, x13, y13, x23, y23, ⟨ed0, ex01, ey01, ex02, ey02, ex03, ey03, ed1, ex12, ey12, ex13, ey13, ed2, ex23, ey23, ed3⟩, ⟨bd0, bd1, bd2, bd3, bx01, by01, bx02, by02, bx03, by03, bx12, by12, bx13, by13, bx23, by23⟩, KF, KI⟩ := khm (m0 := N0) (m1 := N1) (m2 := N2) (m3 := N3) (m4 := N4) (m5 := N5) (m6 := N6) (m7 := N7) (m8 := N8) (m9 := N9) (m10 := N10) (m11 := N11) (m12 := N12) (m13 := N13) (m14 := N14) (m15 := N15) ⟨by omega, by omega⟩ ⟨by omega, by omega⟩ ⟨by omega, by omega⟩ ⟨by omega, by omega⟩ ⟨by omega, by omega⟩ ⟨by omega, by omega⟩ ⟨by omega, by omega⟩ ⟨by omega, by omega⟩ ⟨by omega, by omega⟩ ⟨by omega, by omega⟩ ⟨by omega, by omega⟩ ⟨by omega, by omega⟩ ⟨by omega, by omega⟩ ⟨by omega, by omega⟩ ⟨by omega, by omega⟩ ⟨by omega, by omega⟩
  clear KI
  have hd0 : d0 = 4 * (x0 * x0 + x1 * x1) := by clear MG DP KF hS; simp only [ed0, hE0, hE1, hE2, hE3, hE4, hE5, hE6, hE7, hE8, hE9, hE10, hE11, hE12, hE13, hE14, hE15]; grind
  have hx01 : x01 = 4 * (x0 * x2 + x1 * x3) := by clear MG DP KF hS; simp only [ex01, hE0, hE1, hE2, hE3, hE4, hE5, hE6, hE7, hE8, hE9, hE10, hE11, hE12, hE13, hE14, hE15]; grind
  have hy01 : y01 = 4 * (x1 * x2 - x0 * x3) := by clear MG DP KF hS; simp only [ey01, hE0, hE1, hE2, hE3, hE4, hE5, hE6, hE7, hE8, hE9, hE10, hE11, hE12, hE13, hE14, hE15]; grind
  have hx02 : x02 = 4 * (x0 * x4 + x1 * x5) := by clear MG DP KF hS; simp only [ex02, hE0, hE1, hE2, hE3, hE4, hE5, hE6, hE7, hE8, hE9, hE10, hE11, hE12, hE13, hE14, hE15]; grind
  have hy02 : y02 = 4 * (x1 * x4 - x0 * x5) := by clear MG DP KF hS; simp only [ey02, hE0, hE1, hE2, hE3, hE4, hE5, hE6, hE7, hE8, hE9, hE10, hE11, hE12, hE13, hE14, hE15]; grind
  have hx03 : x03 = 4 * (x0 * x6 + x1 * x7) := by clear MG DP KF hS; simp only [ex03, hE0, hE1, hE2, hE3, hE4, hE5, hE6, hE7, hE8, hE9, hE10, hE11, hE12, hE13, hE14, hE15]; grind
  have hy03 : y03 = 4 * (x1 * x6 - x0 * x7) := by clear MG DP KF hS; simp only [ey03, hE0, hE1, hE2, hE3, hE4, hE5, hE6, hE7, hE8, hE9, hE10, hE11, hE12, hE13, hE14, hE15]; grind
  have hd1 : d1 = 4 * (x2 * x2 + x3 * x3) := by clear MG DP KF hS; simp only [ed1, hE0, hE1, hE2, hE3, hE4, hE5, hE6, hE7, hE8, hE9, hE10, hE11, hE12, hE13, hE14, hE15]; grind
  have hx12 : x12 = 4 * (x2 * x4 + x3 * x5) := by clear MG DP KF hS; simp only [ex12, hE0, hE1, hE2, hE3, hE4, hE5, hE6, hE7, hE8, hE9, hE10, hE11, hE12, hE13, hE14, hE15]; grind
  have hy12 : y12 = 4 * (x3 * x4 - x2 * x5) := by clear MG DP KF hS; simp only [ey12, hE0, hE1, hE2, hE3, hE4, hE5, hE6, hE7, hE8, hE9, hE10, hE11, hE12, hE13, hE14, hE15]; grind
  have hx13 : x13 = 4 * (x2 * x6 + x3 * x7) := by clear MG DP KF hS; simp only [ex13, hE0, hE1, hE2, hE3, hE4, hE5, hE6, hE7, hE8, hE9, hE10, hE11, hE12, hE13, hE14, hE15]; grind
  have hy13 : y13 = 4 * (x3 * x6 - x2 * x7) := by clear MG DP KF hS; simp only [ey13, hE0, hE1, hE2, hE3, hE4, hE5, hE6, hE7, hE8, hE9, hE10, hE11, hE12, hE13, hE14, hE15]; grind
  have hd2 : d2 = 4 * (x4 * x4 + x5 * x5) := by clear MG DP KF hS; simp only [ed2, hE0, hE1, hE2, hE3, hE4, hE5, hE6, hE7, hE8, hE9, hE10, hE11, hE12, hE13, hE14, hE15]; grind
  have hx23 : x23 = 4 * (x4 * x6 + x5 * x7) := by clear MG DP KF hS; simp only [ex23, hE0, hE1, hE2, hE3, hE4, hE5, hE6, hE7, hE8, hE9, hE10, hE11, hE12, hE13, hE14, hE15]; grind
  have hy23 : y23 = 4 * (x5 * x6 - x4 * x7) := by clear MG DP KF hS; simp only [ey23, hE0, hE1, hE2, hE3, hE4, hE5, hE6, hE7, hE8, hE9, hE10, hE11, hE12, hE13, hE14, hE15]; grind
  have hd3 : d3 = 4 * (x6 * x6 + x7 * x7) := by clear MG DP KF hS; simp only [ed3, hE0, hE1, hE2, hE3, hE4, hE5, hE6, hE7, hE8, hE9, hE10, hE11, hE12, hE13, hE14, hE15]; grind
  clear ed0 ex01 ey01 ex02 ey02 ex03 ey03 ed1 ex12 ey12 ex13 ey13 ed2 ex23 ey23 ed3 hE0 hE1 hE2 hE3 hE4 hE5 hE6 hE7 hE8 hE9 hE10 hE11 hE12 hE13 hE14 hE15
  have PHx : ¬ (((-40) ≤ N0 ∧ N0 ≤ 40) ∧ ((-40) ≤ N1 ∧ N1 ≤ 40) ∧ ((-40) ≤ N2 ∧ N2 ≤ 40) ∧ ((-40) ≤ N3 ∧ N3 ≤ 40) ∧ ((-40) ≤ N4 ∧ N4 ≤ 40) ∧ ((-40) ≤ N5 ∧ N5 ≤ 40) ∧ ((-40) ≤ N6 ∧ N6 ≤ 40) ∧ ((-40) ≤ N7 ∧ N7 ≤ 40) ∧ ((-40) ≤ N8 ∧ N8 ≤ 40) ∧ ((-40) ≤ N9 ∧ N9 ≤ 40) ∧ ((-40) ≤ N10 ∧ N10 ≤ 40) ∧ ((-40) ≤ N11 ∧ N11 ≤ 40) ∧ ((-40) ≤ N12 ∧ N12 ≤ 40) ∧ ((-40) ≤ N13 ∧ N13 ≤ 40) ∧ ((-40) ≤ N14 ∧ N14 ≤ 40) ∧ ((-40) ≤ N15 ∧ N15 ≤ 40)) → (∀ w, Calls Try.prog 67 #[.agg #[.int .i64 N0, .int .i64 N1, .int .i64 N2, .int .i64 N3, .int .i64 N4, .int .i64 N5, .int .i64 N6, .int .i64 N7, .int .i64 N8, .int .i64 N9, .int .i64 N10, .int .i64 N11, .int .i64 N12, .int .i64 N13, .int .i64 N14, .int .i64 N15]] w fun e w' => e = .returned (.tuple #[.bool false, .int .i64 8]) ∧ Below w.heap.size w w') := fun h w => one_val (phx c0 c1 c2 c3 c4 c5 c6 c7 c8 c9 c10 c11 c12 c13 c14 c15 (Q := (· = _)) ⟨8, fun w => ct_bad c0 c1 c2 c3 c4 c5 c6 c7 c8 c9 c10 c11 c12 c13 c14 c15 h w, ⟨by omega, by omega⟩, rfl⟩) w
  have qd0 : -1000 ≤ d0 ∧ d0 ≤ 1000 := by have := bq_d0 s0 s1 s2 s3 s4 s5 s6 s7; rw [hd0]; omega
  have qd1 : -1000 ≤ d1 ∧ d1 ≤ 1000 := by have := bq_d1 s0 s1 s2 s3 s4 s5 s6 s7; rw [hd1]; omega
  have qd2 : -1000 ≤ d2 ∧ d2 ≤ 1000 := by have := bq_d2 s0 s1 s2 s3 s4 s5 s6 s7; rw [hd2]; omega
  have qd3 : -1000 ≤ d3 ∧ d3 ≤ 1000 := by have := bq_d3 s0 s1 s2 s3 s4 s5 s6 s7; rw [hd3]; omega
  have qx01 : -1000 ≤ x01 ∧ x01 ≤ 1000 := by have := bq_x01 s0 s1 s2 s3 s4 s5 s6 s7; rw [hx01]; omega
  have qy01 : -1000 ≤ y01 ∧ y01 ≤ 1000 := by have := bq_y01 s0 s1 s2 s3 s4 s5 s6 s7; rw [hy01]; omega
  have qx02 : -1000 ≤ x02 ∧ x02 ≤ 1000 := by have := bq_x02 s0 s1 s2 s3 s4 s5 s6 s7; rw [hx02]; omega
  have qy02 : -1000 ≤ y02 ∧ y02 ≤ 1000 := by have := bq_y02 s0 s1 s2 s3 s4 s5 s6 s7; rw [hy02]; omega
  have qx03 : -1000 ≤ x03 ∧ x03 ≤ 1000 := by have := bq_x03 s0 s1 s2 s3 s4 s5 s6 s7; rw [hx03]; omega
  have qy03 : -1000 ≤ y03 ∧ y03 ≤ 1000 := by have := bq_y03 s0 s1 s2 s3 s4 s5 s6 s7; rw [hy03]; omega
  have qx12 : -1000 ≤ x12 ∧ x12 ≤ 1000 := by have := bq_x12 s0 s1 s2 s3 s4 s5 s6 s7; rw [hx12]; omega
  have qy12 : -1000 ≤ y12 ∧ y12 ≤ 1000 := by have := bq_y12 s0 s1 s2 s3 s4 s5 s6 s7; rw [hy12]; omega
  have qx13 : -1000 ≤ x13 ∧ x13 ≤ 1000 := by have := bq_x13 s0 s1 s2 s3 s4 s5 s6 s7; rw [hx13]; omega
  have qy13 : -1000 ≤ y13 ∧ y13 ≤ 1000 := by have := bq_y13 s0 s1 s2 s3 s4 s5 s6 s7; rw [hy13]; omega
  have qx23 : -1000 ≤ x23 ∧ x23 ≤ 1000 := by have := bq_x23 s0 s1 s2 s3 s4 s5 s6 s7; rw [hx23]; omega
  have qy23 : -1000 ≤ y23 ∧ y23 ≤ 1000 := by have := bq_y23 s0 s1 s2 s3 s4 s5 s6 s7; rw [hy23]; omega
  by_cases p0 : x0 = 0 ∧ x1 = 0
  rotate_left
  · have hne : 0 < x0 * x0 + x1 * x1 := by
      rcases Int.lt_or_eq_of_le (show 0 ≤ x0 * x0 + x1 * x1 by omega) with h | h
      · exact h
      · exfalso; apply p0
        have z : ∀ a : Int, a * a = 0 → a = 0 := fun a h => by rcases Int.mul_eq_zero.mp h with h | h <;> exact h
        exact ⟨z _ (by omega), z _ (by omega)⟩
    have hp := pure_of0 hd0 hx01 hy01 hx02 hy02 hx03 hy03 hd1 hx12 hy12 hx13 hy13 hd2 hx23 hy23 hd3  hne
    have hpos := hp.pos
    obtain ⟨g, hg⟩ : ∃ g : Int, g = ((Int.gcd ((Int.gcd ((Int.gcd ((Int.gcd ((Int.gcd ((Int.gcd ((Int.gcd ((Int.gcd 0 d0 : Nat) : Int) 0 : Nat) : Int) x01 : Nat) : Int) (0 - y01) : Nat) : Int) x02 : Nat) : Int) (0 - y02) : Nat) : Int) x03 : Nat) : Int) (0 - y03) : Nat) : Int) := ⟨_, rfl⟩
    obtain ⟨v0, v1, v2, v3, v4, v5, v6, v7⟩ := dvd_all' hg
    have hg0 : g ≠ 0 := by intro h; rw [h, Int.zero_mul] at v0; omega
    have LO := fun w => low_c (A0 := d0) (A1 := (0 : Int)) (B0 := x01) (B1 := (0 - y01)) (C0 := x02) (C1 := (0 - y02)) (D0 := x03) (D1 := (0 - y03)) (g := g) ⟨by omega, by omega⟩ ⟨by omega, by omega⟩ ⟨by omega, by omega⟩ ⟨by omega, by omega⟩ ⟨by omega, by omega⟩ ⟨by omega, by omega⟩ ⟨by omega, by omega⟩ ⟨by omega, by omega⟩ hg hg0 w
    have t0 := tdiv_bd (g := g) (a := d0) (M := 1000) ⟨by omega, by omega⟩
    obtain ⟨j0, ej0⟩ : ∃ t : Int, t = (d0).tdiv g := ⟨_, rfl⟩
    have t1 := tdiv_bd (g := g) (a := (0 : Int)) (M := 1000) ⟨by omega, by omega⟩
    obtain ⟨j1, ej1⟩ : ∃ t : Int, t = ((0 : Int)).tdiv g := ⟨_, rfl⟩
    have t2 := tdiv_bd (g := g) (a := x01) (M := 1000) ⟨by omega, by omega⟩
    obtain ⟨j2, ej2⟩ : ∃ t : Int, t = (x01).tdiv g := ⟨_, rfl⟩
    have t3 := tdiv_bd (g := g) (a := (0 - y01)) (M := 1000) ⟨by omega, by omega⟩
    obtain ⟨j3, ej3⟩ : ∃ t : Int, t = ((0 - y01)).tdiv g := ⟨_, rfl⟩
    have t4 := tdiv_bd (g := g) (a := x02) (M := 1000) ⟨by omega, by omega⟩
    obtain ⟨j4, ej4⟩ : ∃ t : Int, t = (x02).tdiv g := ⟨_, rfl⟩
    have t5 := tdiv_bd (g := g) (a := (0 - y02)) (M := 1000) ⟨by omega, by omega⟩
    obtain ⟨j5, ej5⟩ : ∃ t : Int, t = ((0 - y02)).tdiv g := ⟨_, rfl⟩
    have t6 := tdiv_bd (g := g) (a := x03) (M := 1000) ⟨by omega, by omega⟩
    obtain ⟨j6, ej6⟩ : ∃ t : Int, t = (x03).tdiv g := ⟨_, rfl⟩
    have t7 := tdiv_bd (g := g) (a := (0 - y03)) (M := 1000) ⟨by omega, by omega⟩
    obtain ⟨j7, ej7⟩ : ∃ t : Int, t = ((0 - y03)).tdiv g := ⟨_, rfl⟩
    rw [← ej0] at t0 v0
    rw [← ej1] at t1 v1
    rw [← ej2] at t2 v2
    rw [← ej3] at t3 v3
    rw [← ej4] at t4 v4
    rw [← ej5] at t5 v5
    rw [← ej6] at t6 v6
    rw [← ej7] at t7 v7
    simp only [← ej0, ← ej1, ← ej2, ← ej3, ← ej4, ← ej5, ← ej6, ← ej7] at LO
    have RP := fun w => res_ok t0 t1 t2 t3 t4 t5 t6 t7 w
    have JO := fun w => jo_pure0 ⟨by omega, by omega⟩ ⟨by omega, by omega⟩ ⟨by omega, by omega⟩ ⟨by omega, by omega⟩ ⟨by omega, by omega⟩ ⟨by omega, by omega⟩ ⟨by omega, by omega⟩ ⟨by omega, by omega⟩ ⟨by omega, by omega⟩ ⟨by omega, by omega⟩ ⟨by omega, by omega⟩ ⟨by omega, by omega⟩ ⟨by omega, by omega⟩ ⟨by omega, by omega⟩ ⟨by omega, by omega⟩ ⟨by omega, by omega⟩ ⟨by omega, by omega⟩ ⟨by omega, by omega⟩ ⟨by omega, by omega⟩ ⟨by omega, by omega⟩ ⟨by omega, by omega⟩ ⟨by omega, by omega⟩ ⟨by omega, by omega⟩ ⟨by omega, by omega⟩ ⟨by omega, by omega⟩ ⟨by omega, by omega⟩ ⟨by omega, by omega⟩ ⟨by omega, by omega⟩ ⟨by omega, by omega⟩ ⟨by omega, by omega⟩ ⟨by omega, by omega⟩ ⟨by omega, by omega⟩ (fun w => cu_in c0 c1 c2 c3 c4 c5 c6 c7 c8 c9 c10 c11 c12 c13 c14 c15 w) KF hp LO RP w
    have u0 : 4 * (x0 * x0 + x1 * x1) = g * j0 := by rw [← v0, hd0] <;> grind
    have u1 : 4 * (x1 * x0 - x0 * x1) = g * j1 := by rw [← v1] <;> grind
    have u2 : 4 * (x2 * x0 + x3 * x1) = g * j2 := by rw [← v2, hx01] <;> grind
    have u3 : 4 * (x3 * x0 - x2 * x1) = g * j3 := by rw [← v3, hy01] <;> grind
    have u4 : 4 * (x4 * x0 + x5 * x1) = g * j4 := by rw [← v4, hx02] <;> grind
    have u5 : 4 * (x5 * x0 - x4 * x1) = g * j5 := by rw [← v5, hy02] <;> grind
    have u6 : 4 * (x6 * x0 + x7 * x1) = g * j6 := by rw [← v6, hx03] <;> grind
    have u7 : 4 * (x7 * x0 - x6 * x1) = g * j7 := by rw [← v7, hy03] <;> grind
    have PH : ∃ (u : Bool) (ec : Int), (∀ w, Calls Try.prog 67 #[.agg #[.int .i64 N0, .int .i64 N1, .int .i64 N2, .int .i64 N3, .int .i64 N4, .int .i64 N5, .int .i64 N6, .int .i64 N7, .int .i64 N8, .int .i64 N9, .int .i64 N10, .int .i64 N11, .int .i64 N12, .int .i64 N13, .int .i64 N14, .int .i64 N15]] w fun e w' => e = .returned (.tuple #[.bool u, .int .i64 ec]) ∧ Below w.heap.size w w') ∧ ((ec = 8 ∧ u = false) ∨ (ec = 0 ∧ u = true)) := by
      by_cases h4 : ((-40) ≤ N0 ∧ N0 ≤ 40) ∧ ((-40) ≤ N1 ∧ N1 ≤ 40) ∧ ((-40) ≤ N2 ∧ N2 ≤ 40) ∧ ((-40) ≤ N3 ∧ N3 ≤ 40) ∧ ((-40) ≤ N4 ∧ N4 ≤ 40) ∧ ((-40) ≤ N5 ∧ N5 ≤ 40) ∧ ((-40) ≤ N6 ∧ N6 ≤ 40) ∧ ((-40) ≤ N7 ∧ N7 ≤ 40) ∧ ((-40) ≤ N8 ∧ N8 ≤ 40) ∧ ((-40) ≤ N9 ∧ N9 ≤ 40) ∧ ((-40) ≤ N10 ∧ N10 ≤ 40) ∧ ((-40) ≤ N11 ∧ N11 ≤ 40) ∧ ((-40) ≤ N12 ∧ N12 ≤ 40) ∧ ((-40) ≤ N13 ∧ N13 ≤ 40) ∧ ((-40) ≤ N14 ∧ N14 ≤ 40) ∧ ((-40) ≤ N15 ∧ N15 ≤ 40)
      · have ct := fun w => ct_ok c0 c1 c2 c3 c4 c5 c6 c7 c8 c9 c10 c11 c12 c13 c14 c15 h4 w
        obtain ⟨f0, f1, f2, f3, f4, f5, f6, f7, f8, f9, f10, f11, f12, f13, f14, f15⟩ := h4
        exact ⟨true, 0, fun w => phys_pure0 f0 f1 f2 f3 f4 f5 f6 f7 f8 f9 f10 f11 f12 f13 f14 f15 qd0 qd1 qd2 qd3 qx01 qy01 qx02 qy02 qx03 qy03 qx12 qy12 qx13 qy13 qx23 qy23 ct KF  hp w, Or.inr ⟨rfl, rfl⟩⟩
      · exact ⟨false, 8, PHx h4, Or.inl ⟨rfl, rfl⟩⟩
    obtain ⟨uu, ee, PH, hue⟩ := PH
    refine one_val (pu s0 s1 s2 s3 s4 s5 s6 s7 (Q := (· = _)) ⟨awake, ?_⟩) w
    refine ⟨?_, N0, N1, N2, N3, N4, N5, N6, N7, N8, N9, N10, N11, N12, N13, N14, N15, 0, MG, c0, c1, c2, c3, c4, c5, c6, c7, c8, c9, c10, c11, c12, c13, c14, c15, ?_⟩
    · clear MG DP KF LO RP JO PH PHx
      refine Bool.eq_false_iff.mpr fun h => hz ?_
      simp only [Bool.and_eq_true, beq_iff_eq] at h
      exact h
    refine ⟨((FloatKind.f64.nearest j0 : Nat) : Int), ((FloatKind.f64.nearest j1 : Nat) : Int), ((FloatKind.f64.nearest j2 : Nat) : Int), ((FloatKind.f64.nearest j3 : Nat) : Int), ((FloatKind.f64.nearest j4 : Nat) : Int), ((FloatKind.f64.nearest j5 : Nat) : Int), ((FloatKind.f64.nearest j6 : Nat) : Int), ((FloatKind.f64.nearest j7 : Nat) : Int), 0, JO, ?_⟩
    refine ⟨j0, ⟨rpn' _, by omega⟩, ⟨by omega, by omega⟩, ?_⟩
    refine ⟨j1, ⟨rpn' _, by omega⟩, ⟨by omega, by omega⟩, ?_⟩
    refine ⟨j2, ⟨rpn' _, by omega⟩, ⟨by omega, by omega⟩, ?_⟩
    refine ⟨j3, ⟨rpn' _, by omega⟩, ⟨by omega, by omega⟩, ?_⟩
    refine ⟨j4, ⟨rpn' _, by omega⟩, ⟨by omega, by omega⟩, ?_⟩
    refine ⟨j5, ⟨rpn' _, by omega⟩, ⟨by omega, by omega⟩, ?_⟩
    refine ⟨j6, ⟨rpn' _, by omega⟩, ⟨by omega, by omega⟩, ?_⟩
    refine ⟨j7, ⟨rpn' _, by omega⟩, ⟨by omega, by omega⟩, ?_⟩
    refine ⟨1, 1, 0, DP, ?_⟩
    clear MG DP KF LO RP JO PHx
    refine ⟨fun _ => ⟨fun _ => ⟨fun _ => ⟨fun _ => ⟨fun _ => ?_, fun h => absurd rfl (beq_eq_false_iff_ne.mp h)⟩, fun h => absurd rfl (beq_eq_false_iff_ne.mp h)⟩, fun h => absurd rfl (bne0 h)⟩, fun h => absurd rfl (bne0 h)⟩, fun h => absurd rfl (bne0 h)⟩
    refine ⟨fun _ => ?_, fun h => absurd (prop_re hg0 u2 u3 u0 u1) (beq_eq_false_iff_ne.mp h)⟩
    refine ⟨fun _ => ?_, fun h => absurd (prop_im hg0 u2 u3 u0 u1) (beq_eq_false_iff_ne.mp h)⟩
    refine ⟨fun _ => ?_, fun h => absurd (prop_re hg0 u4 u5 u0 u1) (beq_eq_false_iff_ne.mp h)⟩
    refine ⟨fun _ => ?_, fun h => absurd (prop_im hg0 u4 u5 u0 u1) (beq_eq_false_iff_ne.mp h)⟩
    refine ⟨fun _ => ?_, fun h => absurd (prop_re hg0 u6 u7 u0 u1) (beq_eq_false_iff_ne.mp h)⟩
    refine ⟨fun _ => ?_, fun h => absurd (prop_im hg0 u6 u7 u0 u1) (beq_eq_false_iff_ne.mp h)⟩
    refine ⟨fun _ => ?_, fun h => absurd (prop_re hg0 u0 u1 u2 u3) (beq_eq_false_iff_ne.mp h)⟩
    refine ⟨fun _ => ?_, fun h => absurd (prop_im hg0 u0 u1 u2 u3) (beq_eq_false_iff_ne.mp h)⟩
    refine ⟨fun _ => ?_, fun h => absurd (prop_re hg0 u4 u5 u2 u3) (beq_eq_false_iff_ne.mp h)⟩
    refine ⟨fun _ => ?_, fun h => absurd (prop_im hg0 u4 u5 u2 u3) (beq_eq_false_iff_ne.mp h)⟩
    refine ⟨fun _ => ?_, fun h => absurd (prop_re hg0 u6 u7 u2 u3) (beq_eq_false_iff_ne.mp h)⟩
    refine ⟨fun _ => ?_, fun h => absurd (prop_im hg0 u6 u7 u2 u3) (beq_eq_false_iff_ne.mp h)⟩
    refine ⟨fun _ => ?_, fun h => absurd (prop_re hg0 u0 u1 u4 u5) (beq_eq_false_iff_ne.mp h)⟩
    refine ⟨fun _ => ?_, fun h => absurd (prop_im hg0 u0 u1 u4 u5) (beq_eq_false_iff_ne.mp h)⟩
    refine ⟨fun _ => ?_, fun h => absurd (prop_re hg0 u2 u3 u4 u5) (beq_eq_false_iff_ne.mp h)⟩
    refine ⟨fun _ => ?_, fun h => absurd (prop_im hg0 u2 u3 u4 u5) (beq_eq_false_iff_ne.mp h)⟩
    refine ⟨fun _ => ?_, fun h => absurd (prop_re hg0 u6 u7 u4 u5) (beq_eq_false_iff_ne.mp h)⟩
    refine ⟨fun _ => ?_, fun h => absurd (prop_im hg0 u6 u7 u4 u5) (beq_eq_false_iff_ne.mp h)⟩
    refine ⟨fun _ => ?_, fun h => absurd (prop_re hg0 u0 u1 u6 u7) (beq_eq_false_iff_ne.mp h)⟩
    refine ⟨fun _ => ?_, fun h => absurd (prop_im hg0 u0 u1 u6 u7) (beq_eq_false_iff_ne.mp h)⟩
    refine ⟨fun _ => ?_, fun h => absurd (prop_re hg0 u2 u3 u6 u7) (beq_eq_false_iff_ne.mp h)⟩
    refine ⟨fun _ => ?_, fun h => absurd (prop_im hg0 u2 u3 u6 u7) (beq_eq_false_iff_ne.mp h)⟩
    refine ⟨fun _ => ?_, fun h => absurd (prop_re hg0 u4 u5 u6 u7) (beq_eq_false_iff_ne.mp h)⟩
    refine ⟨fun _ => ?_, fun h => absurd (prop_im hg0 u4 u5 u6 u7) (beq_eq_false_iff_ne.mp h)⟩
    refine ⟨ee, uu, PH, ?_⟩
    rcases hue with ⟨rfl, rfl⟩ | ⟨rfl, rfl⟩
    · exact ⟨fun _ => ⟨fun h => (by cases h), fun _ => rfl⟩, fun h => absurd rfl (beq_eq_false_iff_ne.mp h)⟩
    · exact ⟨fun h => absurd (beq_iff_eq.mp h) (by decide), fun _ => ⟨fun _ => rfl, fun h => absurd rfl (bne0 h)⟩⟩
  obtain ⟨zx0, zx1⟩ := p0
  by_cases p1 : x2 = 0 ∧ x3 = 0
  rotate_left
  · have hne : 0 < x2 * x2 + x3 * x3 := by
      rcases Int.lt_or_eq_of_le (show 0 ≤ x2 * x2 + x3 * x3 by omega) with h | h
      · exact h
      · exfalso; apply p1
        have z : ∀ a : Int, a * a = 0 → a = 0 := fun a h => by rcases Int.mul_eq_zero.mp h with h | h <;> exact h
        exact ⟨z _ (by omega), z _ (by omega)⟩
    have hp := pure_of1 hd0 hx01 hy01 hx02 hy02 hx03 hy03 hd1 hx12 hy12 hx13 hy13 hd2 hx23 hy23 hd3 zx0 zx1 hne
    have hpos := hp.pos
    obtain ⟨g, hg⟩ : ∃ g : Int, g = ((Int.gcd ((Int.gcd ((Int.gcd ((Int.gcd ((Int.gcd ((Int.gcd ((Int.gcd ((Int.gcd 0 x01 : Nat) : Int) y01 : Nat) : Int) d1 : Nat) : Int) 0 : Nat) : Int) x12 : Nat) : Int) (0 - y12) : Nat) : Int) x13 : Nat) : Int) (0 - y13) : Nat) : Int) := ⟨_, rfl⟩
    obtain ⟨v0, v1, v2, v3, v4, v5, v6, v7⟩ := dvd_all' hg
    have hg0 : g ≠ 0 := by intro h; rw [h, Int.zero_mul] at v2; omega
    have LO := fun w => low_c (A0 := x01) (A1 := y01) (B0 := d1) (B1 := (0 : Int)) (C0 := x12) (C1 := (0 - y12)) (D0 := x13) (D1 := (0 - y13)) (g := g) ⟨by omega, by omega⟩ ⟨by omega, by omega⟩ ⟨by omega, by omega⟩ ⟨by omega, by omega⟩ ⟨by omega, by omega⟩ ⟨by omega, by omega⟩ ⟨by omega, by omega⟩ ⟨by omega, by omega⟩ hg hg0 w
    have t0 := tdiv_bd (g := g) (a := x01) (M := 1000) ⟨by omega, by omega⟩
    obtain ⟨j0, ej0⟩ : ∃ t : Int, t = (x01).tdiv g := ⟨_, rfl⟩
    have t1 := tdiv_bd (g := g) (a := y01) (M := 1000) ⟨by omega, by omega⟩
    obtain ⟨j1, ej1⟩ : ∃ t : Int, t = (y01).tdiv g := ⟨_, rfl⟩
    have t2 := tdiv_bd (g := g) (a := d1) (M := 1000) ⟨by omega, by omega⟩
    obtain ⟨j2, ej2⟩ : ∃ t : Int, t = (d1).tdiv g := ⟨_, rfl⟩
    have t3 := tdiv_bd (g := g) (a := (0 : Int)) (M := 1000) ⟨by omega, by omega⟩
    obtain ⟨j3, ej3⟩ : ∃ t : Int, t = ((0 : Int)).tdiv g := ⟨_, rfl⟩
    have t4 := tdiv_bd (g := g) (a := x12) (M := 1000) ⟨by omega, by omega⟩
    obtain ⟨j4, ej4⟩ : ∃ t : Int, t = (x12).tdiv g := ⟨_, rfl⟩
    have t5 := tdiv_bd (g := g) (a := (0 - y12)) (M := 1000) ⟨by omega, by omega⟩
    obtain ⟨j5, ej5⟩ : ∃ t : Int, t = ((0 - y12)).tdiv g := ⟨_, rfl⟩
    have t6 := tdiv_bd (g := g) (a := x13) (M := 1000) ⟨by omega, by omega⟩
    obtain ⟨j6, ej6⟩ : ∃ t : Int, t = (x13).tdiv g := ⟨_, rfl⟩
    have t7 := tdiv_bd (g := g) (a := (0 - y13)) (M := 1000) ⟨by omega, by omega⟩
    obtain ⟨j7, ej7⟩ : ∃ t : Int, t = ((0 - y13)).tdiv g := ⟨_, rfl⟩
    rw [← ej0] at t0 v0
    rw [← ej1] at t1 v1
    rw [← ej2] at t2 v2
    rw [← ej3] at t3 v3
    rw [← ej4] at t4 v4
    rw [← ej5] at t5 v5
    rw [← ej6] at t6 v6
    rw [← ej7] at t7 v7
    simp only [← ej0, ← ej1, ← ej2, ← ej3, ← ej4, ← ej5, ← ej6, ← ej7] at LO
    have RP := fun w => res_ok t0 t1 t2 t3 t4 t5 t6 t7 w
    have JO := fun w => jo_pure1 ⟨by omega, by omega⟩ ⟨by omega, by omega⟩ ⟨by omega, by omega⟩ ⟨by omega, by omega⟩ ⟨by omega, by omega⟩ ⟨by omega, by omega⟩ ⟨by omega, by omega⟩ ⟨by omega, by omega⟩ ⟨by omega, by omega⟩ ⟨by omega, by omega⟩ ⟨by omega, by omega⟩ ⟨by omega, by omega⟩ ⟨by omega, by omega⟩ ⟨by omega, by omega⟩ ⟨by omega, by omega⟩ ⟨by omega, by omega⟩ ⟨by omega, by omega⟩ ⟨by omega, by omega⟩ ⟨by omega, by omega⟩ ⟨by omega, by omega⟩ ⟨by omega, by omega⟩ ⟨by omega, by omega⟩ ⟨by omega, by omega⟩ ⟨by omega, by omega⟩ ⟨by omega, by omega⟩ ⟨by omega, by omega⟩ ⟨by omega, by omega⟩ ⟨by omega, by omega⟩ ⟨by omega, by omega⟩ ⟨by omega, by omega⟩ ⟨by omega, by omega⟩ ⟨by omega, by omega⟩ (fun w => cu_in c0 c1 c2 c3 c4 c5 c6 c7 c8 c9 c10 c11 c12 c13 c14 c15 w) KF hp LO RP w
    have u0 : 4 * (x0 * x2 + x1 * x3) = g * j0 := by rw [← v0, hx01] <;> grind
    have u1 : 4 * (x1 * x2 - x0 * x3) = g * j1 := by rw [← v1, hy01] <;> grind
    have u2 : 4 * (x2 * x2 + x3 * x3) = g * j2 := by rw [← v2, hd1] <;> grind
    have u3 : 4 * (x3 * x2 - x2 * x3) = g * j3 := by rw [← v3] <;> grind
    have u4 : 4 * (x4 * x2 + x5 * x3) = g * j4 := by rw [← v4, hx12] <;> grind
    have u5 : 4 * (x5 * x2 - x4 * x3) = g * j5 := by rw [← v5, hy12] <;> grind
    have u6 : 4 * (x6 * x2 + x7 * x3) = g * j6 := by rw [← v6, hx13] <;> grind
    have u7 : 4 * (x7 * x2 - x6 * x3) = g * j7 := by rw [← v7, hy13] <;> grind
    have PH : ∃ (u : Bool) (ec : Int), (∀ w, Calls Try.prog 67 #[.agg #[.int .i64 N0, .int .i64 N1, .int .i64 N2, .int .i64 N3, .int .i64 N4, .int .i64 N5, .int .i64 N6, .int .i64 N7, .int .i64 N8, .int .i64 N9, .int .i64 N10, .int .i64 N11, .int .i64 N12, .int .i64 N13, .int .i64 N14, .int .i64 N15]] w fun e w' => e = .returned (.tuple #[.bool u, .int .i64 ec]) ∧ Below w.heap.size w w') ∧ ((ec = 8 ∧ u = false) ∨ (ec = 0 ∧ u = true)) := by
      by_cases h4 : ((-40) ≤ N0 ∧ N0 ≤ 40) ∧ ((-40) ≤ N1 ∧ N1 ≤ 40) ∧ ((-40) ≤ N2 ∧ N2 ≤ 40) ∧ ((-40) ≤ N3 ∧ N3 ≤ 40) ∧ ((-40) ≤ N4 ∧ N4 ≤ 40) ∧ ((-40) ≤ N5 ∧ N5 ≤ 40) ∧ ((-40) ≤ N6 ∧ N6 ≤ 40) ∧ ((-40) ≤ N7 ∧ N7 ≤ 40) ∧ ((-40) ≤ N8 ∧ N8 ≤ 40) ∧ ((-40) ≤ N9 ∧ N9 ≤ 40) ∧ ((-40) ≤ N10 ∧ N10 ≤ 40) ∧ ((-40) ≤ N11 ∧ N11 ≤ 40) ∧ ((-40) ≤ N12 ∧ N12 ≤ 40) ∧ ((-40) ≤ N13 ∧ N13 ≤ 40) ∧ ((-40) ≤ N14 ∧ N14 ≤ 40) ∧ ((-40) ≤ N15 ∧ N15 ≤ 40)
      · have ct := fun w => ct_ok c0 c1 c2 c3 c4 c5 c6 c7 c8 c9 c10 c11 c12 c13 c14 c15 h4 w
        obtain ⟨f0, f1, f2, f3, f4, f5, f6, f7, f8, f9, f10, f11, f12, f13, f14, f15⟩ := h4
        exact ⟨true, 0, fun w => phys_pure1 f0 f1 f2 f3 f4 f5 f6 f7 f8 f9 f10 f11 f12 f13 f14 f15 qd0 qd1 qd2 qd3 qx01 qy01 qx02 qy02 qx03 qy03 qx12 qy12 qx13 qy13 qx23 qy23 ct KF (by rw [hd0]; simp only [zx0, zx1, Int.zero_mul, Int.mul_zero]; omega) (by rw [hx01]; simp only [zx0, zx1, Int.zero_mul, Int.mul_zero]; omega) (by rw [hy01]; simp only [zx0, zx1, Int.zero_mul, Int.mul_zero]; omega) (by rw [hx02]; simp only [zx0, zx1, Int.zero_mul, Int.mul_zero]; omega) (by rw [hy02]; simp only [zx0, zx1, Int.zero_mul, Int.mul_zero]; omega) (by rw [hx03]; simp only [zx0, zx1, Int.zero_mul, Int.mul_zero]; omega) (by rw [hy03]; simp only [zx0, zx1, Int.zero_mul, Int.mul_zero]; omega) hp w, Or.inr ⟨rfl, rfl⟩⟩
      · exact ⟨false, 8, PHx h4, Or.inl ⟨rfl, rfl⟩⟩
    obtain ⟨uu, ee, PH, hue⟩ := PH
    refine one_val (pu s0 s1 s2 s3 s4 s5 s6 s7 (Q := (· = _)) ⟨awake, ?_⟩) w
    refine ⟨?_, N0, N1, N2, N3, N4, N5, N6, N7, N8, N9, N10, N11, N12, N13, N14, N15, 0, MG, c0, c1, c2, c3, c4, c5, c6, c7, c8, c9, c10, c11, c12, c13, c14, c15, ?_⟩
    · clear MG DP KF LO RP JO PH PHx
      refine Bool.eq_false_iff.mpr fun h => hz ?_
      simp only [Bool.and_eq_true, beq_iff_eq] at h
      exact h
    refine ⟨((FloatKind.f64.nearest j0 : Nat) : Int), ((FloatKind.f64.nearest j1 : Nat) : Int), ((FloatKind.f64.nearest j2 : Nat) : Int), ((FloatKind.f64.nearest j3 : Nat) : Int), ((FloatKind.f64.nearest j4 : Nat) : Int), ((FloatKind.f64.nearest j5 : Nat) : Int), ((FloatKind.f64.nearest j6 : Nat) : Int), ((FloatKind.f64.nearest j7 : Nat) : Int), 0, JO, ?_⟩
    refine ⟨j0, ⟨rpn' _, by omega⟩, ⟨by omega, by omega⟩, ?_⟩
    refine ⟨j1, ⟨rpn' _, by omega⟩, ⟨by omega, by omega⟩, ?_⟩
    refine ⟨j2, ⟨rpn' _, by omega⟩, ⟨by omega, by omega⟩, ?_⟩
    refine ⟨j3, ⟨rpn' _, by omega⟩, ⟨by omega, by omega⟩, ?_⟩
    refine ⟨j4, ⟨rpn' _, by omega⟩, ⟨by omega, by omega⟩, ?_⟩
    refine ⟨j5, ⟨rpn' _, by omega⟩, ⟨by omega, by omega⟩, ?_⟩
    refine ⟨j6, ⟨rpn' _, by omega⟩, ⟨by omega, by omega⟩, ?_⟩
    refine ⟨j7, ⟨rpn' _, by omega⟩, ⟨by omega, by omega⟩, ?_⟩
    refine ⟨1, 1, 0, DP, ?_⟩
    clear MG DP KF LO RP JO PHx
    refine ⟨fun _ => ⟨fun _ => ⟨fun _ => ⟨fun _ => ⟨fun _ => ?_, fun h => absurd rfl (beq_eq_false_iff_ne.mp h)⟩, fun h => absurd rfl (beq_eq_false_iff_ne.mp h)⟩, fun h => absurd rfl (bne0 h)⟩, fun h => absurd rfl (bne0 h)⟩, fun h => absurd rfl (bne0 h)⟩
    refine ⟨fun _ => ?_, fun h => absurd (prop_re hg0 u2 u3 u0 u1) (beq_eq_false_iff_ne.mp h)⟩
    refine ⟨fun _ => ?_, fun h => absurd (prop_im hg0 u2 u3 u0 u1) (beq_eq_false_iff_ne.mp h)⟩
    refine ⟨fun _ => ?_, fun h => absurd (prop_re hg0 u4 u5 u0 u1) (beq_eq_false_iff_ne.mp h)⟩
    refine ⟨fun _ => ?_, fun h => absurd (prop_im hg0 u4 u5 u0 u1) (beq_eq_false_iff_ne.mp h)⟩
    refine ⟨fun _ => ?_, fun h => absurd (prop_re hg0 u6 u7 u0 u1) (beq_eq_false_iff_ne.mp h)⟩
    refine ⟨fun _ => ?_, fun h => absurd (prop_im hg0 u6 u7 u0 u1) (beq_eq_false_iff_ne.mp h)⟩
    refine ⟨fun _ => ?_, fun h => absurd (prop_re hg0 u0 u1 u2 u3) (beq_eq_false_iff_ne.mp h)⟩
    refine ⟨fun _ => ?_, fun h => absurd (prop_im hg0 u0 u1 u2 u3) (beq_eq_false_iff_ne.mp h)⟩
    refine ⟨fun _ => ?_, fun h => absurd (prop_re hg0 u4 u5 u2 u3) (beq_eq_false_iff_ne.mp h)⟩
    refine ⟨fun _ => ?_, fun h => absurd (prop_im hg0 u4 u5 u2 u3) (beq_eq_false_iff_ne.mp h)⟩
    refine ⟨fun _ => ?_, fun h => absurd (prop_re hg0 u6 u7 u2 u3) (beq_eq_false_iff_ne.mp h)⟩
    refine ⟨fun _ => ?_, fun h => absurd (prop_im hg0 u6 u7 u2 u3) (beq_eq_false_iff_ne.mp h)⟩
    refine ⟨fun _ => ?_, fun h => absurd (prop_re hg0 u0 u1 u4 u5) (beq_eq_false_iff_ne.mp h)⟩
    refine ⟨fun _ => ?_, fun h => absurd (prop_im hg0 u0 u1 u4 u5) (beq_eq_false_iff_ne.mp h)⟩
    refine ⟨fun _ => ?_, fun h => absurd (prop_re hg0 u2 u3 u4 u5) (beq_eq_false_iff_ne.mp h)⟩
    refine ⟨fun _ => ?_, fun h => absurd (prop_im hg0 u2 u3 u4 u5) (beq_eq_false_iff_ne.mp h)⟩
    refine ⟨fun _ => ?_, fun h => absurd (prop_re hg0 u6 u7 u4 u5) (beq_eq_false_iff_ne.mp h)⟩
    refine ⟨fun _ => ?_, fun h => absurd (prop_im hg0 u6 u7 u4 u5) (beq_eq_false_iff_ne.mp h)⟩
    refine ⟨fun _ => ?_, fun h => absurd (prop_re hg0 u0 u1 u6 u7) (beq_eq_false_iff_ne.mp h)⟩
    refine ⟨fun _ => ?_, fun h => absurd (prop_im hg0 u0 u1 u6 u7) (beq_eq_false_iff_ne.mp h)⟩
    refine ⟨fun _ => ?_, fun h => absurd (prop_re hg0 u2 u3 u6 u7) (beq_eq_false_iff_ne.mp h)⟩
    refine ⟨fun _ => ?_, fun h => absurd (prop_im hg0 u2 u3 u6 u7) (beq_eq_false_iff_ne.mp h)⟩
    refine ⟨fun _ => ?_, fun h => absurd (prop_re hg0 u4 u5 u6 u7) (beq_eq_false_iff_ne.mp h)⟩
    refine ⟨fun _ => ?_, fun h => absurd (prop_im hg0 u4 u5 u6 u7) (beq_eq_false_iff_ne.mp h)⟩
    refine ⟨ee, uu, PH, ?_⟩
    rcases hue with ⟨rfl, rfl⟩ | ⟨rfl, rfl⟩
    · exact ⟨fun _ => ⟨fun h => (by cases h), fun _ => rfl⟩, fun h => absurd rfl (beq_eq_false_iff_ne.mp h)⟩
    · exact ⟨fun h => absurd (beq_iff_eq.mp h) (by decide), fun _ => ⟨fun _ => rfl, fun h => absurd rfl (bne0 h)⟩⟩
  obtain ⟨zx2, zx3⟩ := p1
  by_cases p2 : x4 = 0 ∧ x5 = 0
  rotate_left
  · have hne : 0 < x4 * x4 + x5 * x5 := by
      rcases Int.lt_or_eq_of_le (show 0 ≤ x4 * x4 + x5 * x5 by omega) with h | h
      · exact h
      · exfalso; apply p2
        have z : ∀ a : Int, a * a = 0 → a = 0 := fun a h => by rcases Int.mul_eq_zero.mp h with h | h <;> exact h
        exact ⟨z _ (by omega), z _ (by omega)⟩
    have hp := pure_of2 hd0 hx01 hy01 hx02 hy02 hx03 hy03 hd1 hx12 hy12 hx13 hy13 hd2 hx23 hy23 hd3 zx0 zx1 zx2 zx3 hne
    have hpos := hp.pos
    obtain ⟨g, hg⟩ : ∃ g : Int, g = ((Int.gcd ((Int.gcd ((Int.gcd ((Int.gcd ((Int.gcd ((Int.gcd ((Int.gcd ((Int.gcd 0 x02 : Nat) : Int) y02 : Nat) : Int) x12 : Nat) : Int) y12 : Nat) : Int) d2 : Nat) : Int) 0 : Nat) : Int) x23 : Nat) : Int) (0 - y23) : Nat) : Int) := ⟨_, rfl⟩
    obtain ⟨v0, v1, v2, v3, v4, v5, v6, v7⟩ := dvd_all' hg
    have hg0 : g ≠ 0 := by intro h; rw [h, Int.zero_mul] at v4; omega
    have LO := fun w => low_c (A0 := x02) (A1 := y02) (B0 := x12) (B1 := y12) (C0 := d2) (C1 := (0 : Int)) (D0 := x23) (D1 := (0 - y23)) (g := g) ⟨by omega, by omega⟩ ⟨by omega, by omega⟩ ⟨by omega, by omega⟩ ⟨by omega, by omega⟩ ⟨by omega, by omega⟩ ⟨by omega, by omega⟩ ⟨by omega, by omega⟩ ⟨by omega, by omega⟩ hg hg0 w
    have t0 := tdiv_bd (g := g) (a := x02) (M := 1000) ⟨by omega, by omega⟩
    obtain ⟨j0, ej0⟩ : ∃ t : Int, t = (x02).tdiv g := ⟨_, rfl⟩
    have t1 := tdiv_bd (g := g) (a := y02) (M := 1000) ⟨by omega, by omega⟩
    obtain ⟨j1, ej1⟩ : ∃ t : Int, t = (y02).tdiv g := ⟨_, rfl⟩
    have t2 := tdiv_bd (g := g) (a := x12) (M := 1000) ⟨by omega, by omega⟩
    obtain ⟨j2, ej2⟩ : ∃ t : Int, t = (x12).tdiv g := ⟨_, rfl⟩
    have t3 := tdiv_bd (g := g) (a := y12) (M := 1000) ⟨by omega, by omega⟩
    obtain ⟨j3, ej3⟩ : ∃ t : Int, t = (y12).tdiv g := ⟨_, rfl⟩
    have t4 := tdiv_bd (g := g) (a := d2) (M := 1000) ⟨by omega, by omega⟩
    obtain ⟨j4, ej4⟩ : ∃ t : Int, t = (d2).tdiv g := ⟨_, rfl⟩
    have t5 := tdiv_bd (g := g) (a := (0 : Int)) (M := 1000) ⟨by omega, by omega⟩
    obtain ⟨j5, ej5⟩ : ∃ t : Int, t = ((0 : Int)).tdiv g := ⟨_, rfl⟩
    have t6 := tdiv_bd (g := g) (a := x23) (M := 1000) ⟨by omega, by omega⟩
    obtain ⟨j6, ej6⟩ : ∃ t : Int, t = (x23).tdiv g := ⟨_, rfl⟩
    have t7 := tdiv_bd (g := g) (a := (0 - y23)) (M := 1000) ⟨by omega, by omega⟩
    obtain ⟨j7, ej7⟩ : ∃ t : Int, t = ((0 - y23)).tdiv g := ⟨_, rfl⟩
    rw [← ej0] at t0 v0
    rw [← ej1] at t1 v1
    rw [← ej2] at t2 v2
    rw [← ej3] at t3 v3
    rw [← ej4] at t4 v4
    rw [← ej5] at t5 v5
    rw [← ej6] at t6 v6
    rw [← ej7] at t7 v7
    simp only [← ej0, ← ej1, ← ej2, ← ej3, ← ej4, ← ej5, ← ej6, ← ej7] at LO
    have RP := fun w => res_ok t0 t1 t2 t3 t4 t5 t6 t7 w
    have JO := fun w => jo_pure2 ⟨by omega, by omega⟩ ⟨by omega, by omega⟩ ⟨by omega, by omega⟩ ⟨by omega, by omega⟩ ⟨by omega, by omega⟩ ⟨by omega, by omega⟩ ⟨by omega, by omega⟩ ⟨by omega, by omega⟩ ⟨by omega, by omega⟩ ⟨by omega, by omega⟩ ⟨by omega, by omega⟩ ⟨by omega, by omega⟩ ⟨by omega, by omega⟩ ⟨by omega, by omega⟩ ⟨by omega, by omega⟩ ⟨by omega, by omega⟩ ⟨by omega, by omega⟩ ⟨by omega, by omega⟩ ⟨by omega, by omega⟩ ⟨by omega, by omega⟩ ⟨by omega, by omega⟩ ⟨by omega, by omega⟩ ⟨by omega, by omega⟩ ⟨by omega, by omega⟩ ⟨by omega, by omega⟩ ⟨by omega, by omega⟩ ⟨by omega, by omega⟩ ⟨by omega, by omega⟩ ⟨by omega, by omega⟩ ⟨by omega, by omega⟩ ⟨by omega, by omega⟩ ⟨by omega, by omega⟩ (fun w => cu_in c0 c1 c2 c3 c4 c5 c6 c7 c8 c9 c10 c11 c12 c13 c14 c15 w) KF hp LO RP w
    have u0 : 4 * (x0 * x4 + x1 * x5) = g * j0 := by rw [← v0, hx02] <;> grind
    have u1 : 4 * (x1 * x4 - x0 * x5) = g * j1 := by rw [← v1, hy02] <;> grind
    have u2 : 4 * (x2 * x4 + x3 * x5) = g * j2 := by rw [← v2, hx12] <;> grind
    have u3 : 4 * (x3 * x4 - x2 * x5) = g * j3 := by rw [← v3, hy12] <;> grind
    have u4 : 4 * (x4 * x4 + x5 * x5) = g * j4 := by rw [← v4, hd2] <;> grind
    have u5 : 4 * (x5 * x4 - x4 * x5) = g * j5 := by rw [← v5] <;> grind
    have u6 : 4 * (x6 * x4 + x7 * x5) = g * j6 := by rw [← v6, hx23] <;> grind
    have u7 : 4 * (x7 * x4 - x6 * x5) = g * j7 := by rw [← v7, hy23] <;> grind
    have PH : ∃ (u : Bool) (ec : Int), (∀ w, Calls Try.prog 67 #[.agg #[.int .i64 N0, .int .i64 N1, .int .i64 N2, .int .i64 N3, .int .i64 N4, .int .i64 N5, .int .i64 N6, .int .i64 N7, .int .i64 N8, .int .i64 N9, .int .i64 N10, .int .i64 N11, .int .i64 N12, .int .i64 N13, .int .i64 N14, .int .i64 N15]] w fun e w' => e = .returned (.tuple #[.bool u, .int .i64 ec]) ∧ Below w.heap.size w w') ∧ ((ec = 8 ∧ u = false) ∨ (ec = 0 ∧ u = true)) := by
      by_cases h4 : ((-40) ≤ N0 ∧ N0 ≤ 40) ∧ ((-40) ≤ N1 ∧ N1 ≤ 40) ∧ ((-40) ≤ N2 ∧ N2 ≤ 40) ∧ ((-40) ≤ N3 ∧ N3 ≤ 40) ∧ ((-40) ≤ N4 ∧ N4 ≤ 40) ∧ ((-40) ≤ N5 ∧ N5 ≤ 40) ∧ ((-40) ≤ N6 ∧ N6 ≤ 40) ∧ ((-40) ≤ N7 ∧ N7 ≤ 40) ∧ ((-40) ≤ N8 ∧ N8 ≤ 40) ∧ ((-40) ≤ N9 ∧ N9 ≤ 40) ∧ ((-40) ≤ N10 ∧ N10 ≤ 40) ∧ ((-40) ≤ N11 ∧ N11 ≤ 40) ∧ ((-40) ≤ N12 ∧ N12 ≤ 40) ∧ ((-40) ≤ N13 ∧ N13 ≤ 40) ∧ ((-40) ≤ N14 ∧ N14 ≤ 40) ∧ ((-40) ≤ N15 ∧ N15 ≤ 40)
      · have ct := fun w => ct_ok c0 c1 c2 c3 c4 c5 c6 c7 c8 c9 c10 c11 c12 c13 c14 c15 h4 w
        obtain ⟨f0, f1, f2, f3, f4, f5, f6, f7, f8, f9, f10, f11, f12, f13, f14, f15⟩ := h4
        exact ⟨true, 0, fun w => phys_pure2 f0 f1 f2 f3 f4 f5 f6 f7 f8 f9 f10 f11 f12 f13 f14 f15 qd0 qd1 qd2 qd3 qx01 qy01 qx02 qy02 qx03 qy03 qx12 qy12 qx13 qy13 qx23 qy23 ct KF (by rw [hd0]; simp only [zx0, zx1, zx2, zx3, Int.zero_mul, Int.mul_zero]; omega) (by rw [hd1]; simp only [zx0, zx1, zx2, zx3, Int.zero_mul, Int.mul_zero]; omega) (by rw [hx01]; simp only [zx0, zx1, zx2, zx3, Int.zero_mul, Int.mul_zero]; omega) (by rw [hy01]; simp only [zx0, zx1, zx2, zx3, Int.zero_mul, Int.mul_zero]; omega) (by rw [hx02]; simp only [zx0, zx1, zx2, zx3, Int.zero_mul, Int.mul_zero]; omega) (by rw [hy02]; simp only [zx0, zx1, zx2, zx3, Int.zero_mul, Int.mul_zero]; omega) (by rw [hx03]; simp only [zx0, zx1, zx2, zx3, Int.zero_mul, Int.mul_zero]; omega) (by rw [hy03]; simp only [zx0, zx1, zx2, zx3, Int.zero_mul, Int.mul_zero]; omega) (by rw [hx12]; simp only [zx0, zx1, zx2, zx3, Int.zero_mul, Int.mul_zero]; omega) (by rw [hy12]; simp only [zx0, zx1, zx2, zx3, Int.zero_mul, Int.mul_zero]; omega) (by rw [hx13]; simp only [zx0, zx1, zx2, zx3, Int.zero_mul, Int.mul_zero]; omega) (by rw [hy13]; simp only [zx0, zx1, zx2, zx3, Int.zero_mul, Int.mul_zero]; omega) hp w, Or.inr ⟨rfl, rfl⟩⟩
      · exact ⟨false, 8, PHx h4, Or.inl ⟨rfl, rfl⟩⟩
    obtain ⟨uu, ee, PH, hue⟩ := PH
    refine one_val (pu s0 s1 s2 s3 s4 s5 s6 s7 (Q := (· = _)) ⟨awake, ?_⟩) w
    refine ⟨?_, N0, N1, N2, N3, N4, N5, N6, N7, N8, N9, N10, N11, N12, N13, N14, N15, 0, MG, c0, c1, c2, c3, c4, c5, c6, c7, c8, c9, c10, c11, c12, c13, c14, c15, ?_⟩
    · clear MG DP KF LO RP JO PH PHx
      refine Bool.eq_false_iff.mpr fun h => hz ?_
      simp only [Bool.and_eq_true, beq_iff_eq] at h
      exact h
    refine ⟨((FloatKind.f64.nearest j0 : Nat) : Int), ((FloatKind.f64.nearest j1 : Nat) : Int), ((FloatKind.f64.nearest j2 : Nat) : Int), ((FloatKind.f64.nearest j3 : Nat) : Int), ((FloatKind.f64.nearest j4 : Nat) : Int), ((FloatKind.f64.nearest j5 : Nat) : Int), ((FloatKind.f64.nearest j6 : Nat) : Int), ((FloatKind.f64.nearest j7 : Nat) : Int), 0, JO, ?_⟩
    refine ⟨j0, ⟨rpn' _, by omega⟩, ⟨by omega, by omega⟩, ?_⟩
    refine ⟨j1, ⟨rpn' _, by omega⟩, ⟨by omega, by omega⟩, ?_⟩
    refine ⟨j2, ⟨rpn' _, by omega⟩, ⟨by omega, by omega⟩, ?_⟩
    refine ⟨j3, ⟨rpn' _, by omega⟩, ⟨by omega, by omega⟩, ?_⟩
    refine ⟨j4, ⟨rpn' _, by omega⟩, ⟨by omega, by omega⟩, ?_⟩
    refine ⟨j5, ⟨rpn' _, by omega⟩, ⟨by omega, by omega⟩, ?_⟩
    refine ⟨j6, ⟨rpn' _, by omega⟩, ⟨by omega, by omega⟩, ?_⟩
    refine ⟨j7, ⟨rpn' _, by omega⟩, ⟨by omega, by omega⟩, ?_⟩
    refine ⟨1, 1, 0, DP, ?_⟩
    clear MG DP KF LO RP JO PHx
    refine ⟨fun _ => ⟨fun _ => ⟨fun _ => ⟨fun _ => ⟨fun _ => ?_, fun h => absurd rfl (beq_eq_false_iff_ne.mp h)⟩, fun h => absurd rfl (beq_eq_false_iff_ne.mp h)⟩, fun h => absurd rfl (bne0 h)⟩, fun h => absurd rfl (bne0 h)⟩, fun h => absurd rfl (bne0 h)⟩
    refine ⟨fun _ => ?_, fun h => absurd (prop_re hg0 u2 u3 u0 u1) (beq_eq_false_iff_ne.mp h)⟩
    refine ⟨fun _ => ?_, fun h => absurd (prop_im hg0 u2 u3 u0 u1) (beq_eq_false_iff_ne.mp h)⟩
    refine ⟨fun _ => ?_, fun h => absurd (prop_re hg0 u4 u5 u0 u1) (beq_eq_false_iff_ne.mp h)⟩
    refine ⟨fun _ => ?_, fun h => absurd (prop_im hg0 u4 u5 u0 u1) (beq_eq_false_iff_ne.mp h)⟩
    refine ⟨fun _ => ?_, fun h => absurd (prop_re hg0 u6 u7 u0 u1) (beq_eq_false_iff_ne.mp h)⟩
    refine ⟨fun _ => ?_, fun h => absurd (prop_im hg0 u6 u7 u0 u1) (beq_eq_false_iff_ne.mp h)⟩
    refine ⟨fun _ => ?_, fun h => absurd (prop_re hg0 u0 u1 u2 u3) (beq_eq_false_iff_ne.mp h)⟩
    refine ⟨fun _ => ?_, fun h => absurd (prop_im hg0 u0 u1 u2 u3) (beq_eq_false_iff_ne.mp h)⟩
    refine ⟨fun _ => ?_, fun h => absurd (prop_re hg0 u4 u5 u2 u3) (beq_eq_false_iff_ne.mp h)⟩
    refine ⟨fun _ => ?_, fun h => absurd (prop_im hg0 u4 u5 u2 u3) (beq_eq_false_iff_ne.mp h)⟩
    refine ⟨fun _ => ?_, fun h => absurd (prop_re hg0 u6 u7 u2 u3) (beq_eq_false_iff_ne.mp h)⟩
    refine ⟨fun _ => ?_, fun h => absurd (prop_im hg0 u6 u7 u2 u3) (beq_eq_false_iff_ne.mp h)⟩
    refine ⟨fun _ => ?_, fun h => absurd (prop_re hg0 u0 u1 u4 u5) (beq_eq_false_iff_ne.mp h)⟩
    refine ⟨fun _ => ?_, fun h => absurd (prop_im hg0 u0 u1 u4 u5) (beq_eq_false_iff_ne.mp h)⟩
    refine ⟨fun _ => ?_, fun h => absurd (prop_re hg0 u2 u3 u4 u5) (beq_eq_false_iff_ne.mp h)⟩
    refine ⟨fun _ => ?_, fun h => absurd (prop_im hg0 u2 u3 u4 u5) (beq_eq_false_iff_ne.mp h)⟩
    refine ⟨fun _ => ?_, fun h => absurd (prop_re hg0 u6 u7 u4 u5) (beq_eq_false_iff_ne.mp h)⟩
    refine ⟨fun _ => ?_, fun h => absurd (prop_im hg0 u6 u7 u4 u5) (beq_eq_false_iff_ne.mp h)⟩
    refine ⟨fun _ => ?_, fun h => absurd (prop_re hg0 u0 u1 u6 u7) (beq_eq_false_iff_ne.mp h)⟩
    refine ⟨fun _ => ?_, fun h => absurd (prop_im hg0 u0 u1 u6 u7) (beq_eq_false_iff_ne.mp h)⟩
    refine ⟨fun _ => ?_, fun h => absurd (prop_re hg0 u2 u3 u6 u7) (beq_eq_false_iff_ne.mp h)⟩
    refine ⟨fun _ => ?_, fun h => absurd (prop_im hg0 u2 u3 u6 u7) (beq_eq_false_iff_ne.mp h)⟩
    refine ⟨fun _ => ?_, fun h => absurd (prop_re hg0 u4 u5 u6 u7) (beq_eq_false_iff_ne.mp h)⟩
    refine ⟨fun _ => ?_, fun h => absurd (prop_im hg0 u4 u5 u6 u7) (beq_eq_false_iff_ne.mp h)⟩
    refine ⟨ee, uu, PH, ?_⟩
    rcases hue with ⟨rfl, rfl⟩ | ⟨rfl, rfl⟩
    · exact ⟨fun _ => ⟨fun h => (by cases h), fun _ => rfl⟩, fun h => absurd rfl (beq_eq_false_iff_ne.mp h)⟩
    · exact ⟨fun h => absurd (beq_iff_eq.mp h) (by decide), fun _ => ⟨fun _ => rfl, fun h => absurd rfl (bne0 h)⟩⟩
  obtain ⟨zx4, zx5⟩ := p2
  have hne : 0 < x6 * x6 + x7 * x7 := by
      rcases Int.lt_or_eq_of_le (show 0 ≤ x6 * x6 + x7 * x7 by omega) with h | h
      · exact h
      · exfalso; apply hz
        have z : ∀ a : Int, a * a = 0 → a = 0 := fun a h => by rcases Int.mul_eq_zero.mp h with h | h <;> exact h
        exact ⟨zx0, zx1, zx2, zx3, zx4, zx5, z _ (by omega), z _ (by omega)⟩
  have hp := pure_of3 hd0 hx01 hy01 hx02 hy02 hx03 hy03 hd1 hx12 hy12 hx13 hy13 hd2 hx23 hy23 hd3 zx0 zx1 zx2 zx3 zx4 zx5 hne
  have hpos := hp.pos
  obtain ⟨g, hg⟩ : ∃ g : Int, g = ((Int.gcd ((Int.gcd ((Int.gcd ((Int.gcd ((Int.gcd ((Int.gcd ((Int.gcd ((Int.gcd 0 x03 : Nat) : Int) y03 : Nat) : Int) x13 : Nat) : Int) y13 : Nat) : Int) x23 : Nat) : Int) y23 : Nat) : Int) d3 : Nat) : Int) 0 : Nat) : Int) := ⟨_, rfl⟩
  obtain ⟨v0, v1, v2, v3, v4, v5, v6, v7⟩ := dvd_all' hg
  have hg0 : g ≠ 0 := by intro h; rw [h, Int.zero_mul] at v6; omega
  have LO := fun w => low_c (A0 := x03) (A1 := y03) (B0 := x13) (B1 := y13) (C0 := x23) (C1 := y23) (D0 := d3) (D1 := (0 : Int)) (g := g) ⟨by omega, by omega⟩ ⟨by omega, by omega⟩ ⟨by omega, by omega⟩ ⟨by omega, by omega⟩ ⟨by omega, by omega⟩ ⟨by omega, by omega⟩ ⟨by omega, by omega⟩ ⟨by omega, by omega⟩ hg hg0 w
  have t0 := tdiv_bd (g := g) (a := x03) (M := 1000) ⟨by omega, by omega⟩
  obtain ⟨j0, ej0⟩ : ∃ t : Int, t = (x03).tdiv g := ⟨_, rfl⟩
  have t1 := tdiv_bd (g := g) (a := y03) (M := 1000) ⟨by omega, by omega⟩
  obtain ⟨j1, ej1⟩ : ∃ t : Int, t = (y03).tdiv g := ⟨_, rfl⟩
  have t2 := tdiv_bd (g := g) (a := x13) (M := 1000) ⟨by omega, by omega⟩
  obtain ⟨j2, ej2⟩ : ∃ t : Int, t = (x13).tdiv g := ⟨_, rfl⟩
  have t3 := tdiv_bd (g := g) (a := y13) (M := 1000) ⟨by omega, by omega⟩
  obtain ⟨j3, ej3⟩ : ∃ t : Int, t = (y13).tdiv g := ⟨_, rfl⟩
  have t4 := tdiv_bd (g := g) (a := x23) (M := 1000) ⟨by omega, by omega⟩
  obtain ⟨j4, ej4⟩ : ∃ t : Int, t = (x23).tdiv g := ⟨_, rfl⟩
  have t5 := tdiv_bd (g := g) (a := y23) (M := 1000) ⟨by omega, by omega⟩
  obtain ⟨j5, ej5⟩ : ∃ t : Int, t = (y23).tdiv g := ⟨_, rfl⟩
  have t6 := tdiv_bd (g := g) (a := d3) (M := 1000) ⟨by omega, by omega⟩
  obtain ⟨j6, ej6⟩ : ∃ t : Int, t = (d3).tdiv g := ⟨_, rfl⟩
  have t7 := tdiv_bd (g := g) (a := (0 : Int)) (M := 1000) ⟨by omega, by omega⟩
  obtain ⟨j7, ej7⟩ : ∃ t : Int, t = ((0 : Int)).tdiv g := ⟨_, rfl⟩
  rw [← ej0] at t0 v0
  rw [← ej1] at t1 v1
  rw [← ej2] at t2 v2
  rw [← ej3] at t3 v3
  rw [← ej4] at t4 v4
  rw [← ej5] at t5 v5
  rw [← ej6] at t6 v6
  rw [← ej7] at t7 v7
  simp only [← ej0, ← ej1, ← ej2, ← ej3, ← ej4, ← ej5, ← ej6, ← ej7] at LO
  have RP := fun w => res_ok t0 t1 t2 t3 t4 t5 t6 t7 w
  have JO := fun w => jo_pure3 ⟨by omega, by omega⟩ ⟨by omega, by omega⟩ ⟨by omega, by omega⟩ ⟨by omega, by omega⟩ ⟨by omega, by omega⟩ ⟨by omega, by omega⟩ ⟨by omega, by omega⟩ ⟨by omega, by omega⟩ ⟨by omega, by omega⟩ ⟨by omega, by omega⟩ ⟨by omega, by omega⟩ ⟨by omega, by omega⟩ ⟨by omega, by omega⟩ ⟨by omega, by omega⟩ ⟨by omega, by omega⟩ ⟨by omega, by omega⟩ ⟨by omega, by omega⟩ ⟨by omega, by omega⟩ ⟨by omega, by omega⟩ ⟨by omega, by omega⟩ ⟨by omega, by omega⟩ ⟨by omega, by omega⟩ ⟨by omega, by omega⟩ ⟨by omega, by omega⟩ ⟨by omega, by omega⟩ ⟨by omega, by omega⟩ ⟨by omega, by omega⟩ ⟨by omega, by omega⟩ ⟨by omega, by omega⟩ ⟨by omega, by omega⟩ ⟨by omega, by omega⟩ ⟨by omega, by omega⟩ (fun w => cu_in c0 c1 c2 c3 c4 c5 c6 c7 c8 c9 c10 c11 c12 c13 c14 c15 w) KF hp LO RP w
  have u0 : 4 * (x0 * x6 + x1 * x7) = g * j0 := by rw [← v0, hx03] <;> grind
  have u1 : 4 * (x1 * x6 - x0 * x7) = g * j1 := by rw [← v1, hy03] <;> grind
  have u2 : 4 * (x2 * x6 + x3 * x7) = g * j2 := by rw [← v2, hx13] <;> grind
  have u3 : 4 * (x3 * x6 - x2 * x7) = g * j3 := by rw [← v3, hy13] <;> grind
  have u4 : 4 * (x4 * x6 + x5 * x7) = g * j4 := by rw [← v4, hx23] <;> grind
  have u5 : 4 * (x5 * x6 - x4 * x7) = g * j5 := by rw [← v5, hy23] <;> grind
  have u6 : 4 * (x6 * x6 + x7 * x7) = g * j6 := by rw [← v6, hd3] <;> grind
  have u7 : 4 * (x7 * x6 - x6 * x7) = g * j7 := by rw [← v7] <;> grind
  have PH : ∃ (u : Bool) (ec : Int), (∀ w, Calls Try.prog 67 #[.agg #[.int .i64 N0, .int .i64 N1, .int .i64 N2, .int .i64 N3, .int .i64 N4, .int .i64 N5, .int .i64 N6, .int .i64 N7, .int .i64 N8, .int .i64 N9, .int .i64 N10, .int .i64 N11, .int .i64 N12, .int .i64 N13, .int .i64 N14, .int .i64 N15]] w fun e w' => e = .returned (.tuple #[.bool u, .int .i64 ec]) ∧ Below w.heap.size w w') ∧ ((ec = 8 ∧ u = false) ∨ (ec = 0 ∧ u = true)) := by
    by_cases h4 : ((-40) ≤ N0 ∧ N0 ≤ 40) ∧ ((-40) ≤ N1 ∧ N1 ≤ 40) ∧ ((-40) ≤ N2 ∧ N2 ≤ 40) ∧ ((-40) ≤ N3 ∧ N3 ≤ 40) ∧ ((-40) ≤ N4 ∧ N4 ≤ 40) ∧ ((-40) ≤ N5 ∧ N5 ≤ 40) ∧ ((-40) ≤ N6 ∧ N6 ≤ 40) ∧ ((-40) ≤ N7 ∧ N7 ≤ 40) ∧ ((-40) ≤ N8 ∧ N8 ≤ 40) ∧ ((-40) ≤ N9 ∧ N9 ≤ 40) ∧ ((-40) ≤ N10 ∧ N10 ≤ 40) ∧ ((-40) ≤ N11 ∧ N11 ≤ 40) ∧ ((-40) ≤ N12 ∧ N12 ≤ 40) ∧ ((-40) ≤ N13 ∧ N13 ≤ 40) ∧ ((-40) ≤ N14 ∧ N14 ≤ 40) ∧ ((-40) ≤ N15 ∧ N15 ≤ 40)
    · have ct := fun w => ct_ok c0 c1 c2 c3 c4 c5 c6 c7 c8 c9 c10 c11 c12 c13 c14 c15 h4 w
      obtain ⟨f0, f1, f2, f3, f4, f5, f6, f7, f8, f9, f10, f11, f12, f13, f14, f15⟩ := h4
      exact ⟨true, 0, fun w => phys_pure3 f0 f1 f2 f3 f4 f5 f6 f7 f8 f9 f10 f11 f12 f13 f14 f15 qd0 qd1 qd2 qd3 qx01 qy01 qx02 qy02 qx03 qy03 qx12 qy12 qx13 qy13 qx23 qy23 ct KF (by rw [hd0]; simp only [zx0, zx1, zx2, zx3, zx4, zx5, Int.zero_mul, Int.mul_zero]; omega) (by rw [hd1]; simp only [zx0, zx1, zx2, zx3, zx4, zx5, Int.zero_mul, Int.mul_zero]; omega) (by rw [hd2]; simp only [zx0, zx1, zx2, zx3, zx4, zx5, Int.zero_mul, Int.mul_zero]; omega) (by rw [hx01]; simp only [zx0, zx1, zx2, zx3, zx4, zx5, Int.zero_mul, Int.mul_zero]; omega) (by rw [hy01]; simp only [zx0, zx1, zx2, zx3, zx4, zx5, Int.zero_mul, Int.mul_zero]; omega) (by rw [hx02]; simp only [zx0, zx1, zx2, zx3, zx4, zx5, Int.zero_mul, Int.mul_zero]; omega) (by rw [hy02]; simp only [zx0, zx1, zx2, zx3, zx4, zx5, Int.zero_mul, Int.mul_zero]; omega) (by rw [hx03]; simp only [zx0, zx1, zx2, zx3, zx4, zx5, Int.zero_mul, Int.mul_zero]; omega) (by rw [hy03]; simp only [zx0, zx1, zx2, zx3, zx4, zx5, Int.zero_mul, Int.mul_zero]; omega) (by rw [hx12]; simp only [zx0, zx1, zx2, zx3, zx4, zx5, Int.zero_mul, Int.mul_zero]; omega) (by rw [hy12]; simp only [zx0, zx1, zx2, zx3, zx4, zx5, Int.zero_mul, Int.mul_zero]; omega) (by rw [hx13]; simp only [zx0, zx1, zx2, zx3, zx4, zx5, Int.zero_mul, Int.mul_zero]; omega) (by rw [hy13]; simp only [zx0, zx1, zx2, zx3, zx4, zx5, Int.zero_mul, Int.mul_zero]; omega) (by rw [hx23]; simp only [zx0, zx1, zx2, zx3, zx4, zx5, Int.zero_mul, Int.mul_zero]; omega) (by rw [hy23]; simp only [zx0, zx1, zx2, zx3, zx4, zx5, Int.zero_mul, Int.mul_zero]; omega) hp w, Or.inr ⟨rfl, rfl⟩⟩
    · exact ⟨false, 8, PHx h4, Or.inl ⟨rfl, rfl⟩⟩
  obtain ⟨uu, ee, PH, hue⟩ := PH
  refine one_val (pu s0 s1 s2 s3 s4 s5 s6 s7 (Q := (· = _)) ⟨awake, ?_⟩) w
  refine ⟨?_, N0, N1, N2, N3, N4, N5, N6, N7, N8, N9, N10, N11, N12, N13, N14, N15, 0, MG, c0, c1, c2, c3, c4, c5, c6, c7, c8, c9, c10, c11, c12, c13, c14, c15, ?_⟩
  · clear MG DP KF LO RP JO PH PHx
    refine Bool.eq_false_iff.mpr fun h => hz ?_
    simp only [Bool.and_eq_true, beq_iff_eq] at h
    exact h
  refine ⟨((FloatKind.f64.nearest j0 : Nat) : Int), ((FloatKind.f64.nearest j1 : Nat) : Int), ((FloatKind.f64.nearest j2 : Nat) : Int), ((FloatKind.f64.nearest j3 : Nat) : Int), ((FloatKind.f64.nearest j4 : Nat) : Int), ((FloatKind.f64.nearest j5 : Nat) : Int), ((FloatKind.f64.nearest j6 : Nat) : Int), ((FloatKind.f64.nearest j7 : Nat) : Int), 0, JO, ?_⟩
  refine ⟨j0, ⟨rpn' _, by omega⟩, ⟨by omega, by omega⟩, ?_⟩
  refine ⟨j1, ⟨rpn' _, by omega⟩, ⟨by omega, by omega⟩, ?_⟩
  refine ⟨j2, ⟨rpn' _, by omega⟩, ⟨by omega, by omega⟩, ?_⟩
  refine ⟨j3, ⟨rpn' _, by omega⟩, ⟨by omega, by omega⟩, ?_⟩
  refine ⟨j4, ⟨rpn' _, by omega⟩, ⟨by omega, by omega⟩, ?_⟩
  refine ⟨j5, ⟨rpn' _, by omega⟩, ⟨by omega, by omega⟩, ?_⟩
  refine ⟨j6, ⟨rpn' _, by omega⟩, ⟨by omega, by omega⟩, ?_⟩
  refine ⟨j7, ⟨rpn' _, by omega⟩, ⟨by omega, by omega⟩, ?_⟩
  refine ⟨1, 1, 0, DP, ?_⟩
  clear MG DP KF LO RP JO PHx
  refine ⟨fun _ => ⟨fun _ => ⟨fun _ => ⟨fun _ => ⟨fun _ => ?_, fun h => absurd rfl (beq_eq_false_iff_ne.mp h)⟩, fun h => absurd rfl (beq_eq_false_iff_ne.mp h)⟩, fun h => absurd rfl (bne0 h)⟩, fun h => absurd rfl (bne0 h)⟩, fun h => absurd rfl (bne0 h)⟩
  refine ⟨fun _ => ?_, fun h => absurd (prop_re hg0 u2 u3 u0 u1) (beq_eq_false_iff_ne.mp h)⟩
  refine ⟨fun _ => ?_, fun h => absurd (prop_im hg0 u2 u3 u0 u1) (beq_eq_false_iff_ne.mp h)⟩
  refine ⟨fun _ => ?_, fun h => absurd (prop_re hg0 u4 u5 u0 u1) (beq_eq_false_iff_ne.mp h)⟩
  refine ⟨fun _ => ?_, fun h => absurd (prop_im hg0 u4 u5 u0 u1) (beq_eq_false_iff_ne.mp h)⟩
  refine ⟨fun _ => ?_, fun h => absurd (prop_re hg0 u6 u7 u0 u1) (beq_eq_false_iff_ne.mp h)⟩
  refine ⟨fun _ => ?_, fun h => absurd (prop_im hg0 u6 u7 u0 u1) (beq_eq_false_iff_ne.mp h)⟩
  refine ⟨fun _ => ?_, fun h => absurd (prop_re hg0 u0 u1 u2 u3) (beq_eq_false_iff_ne.mp h)⟩
  refine ⟨fun _ => ?_, fun h => absurd (prop_im hg0 u0 u1 u2 u3) (beq_eq_false_iff_ne.mp h)⟩
  refine ⟨fun _ => ?_, fun h => absurd (prop_re hg0 u4 u5 u2 u3) (beq_eq_false_iff_ne.mp h)⟩
  refine ⟨fun _ => ?_, fun h => absurd (prop_im hg0 u4 u5 u2 u3) (beq_eq_false_iff_ne.mp h)⟩
  refine ⟨fun _ => ?_, fun h => absurd (prop_re hg0 u6 u7 u2 u3) (beq_eq_false_iff_ne.mp h)⟩
  refine ⟨fun _ => ?_, fun h => absurd (prop_im hg0 u6 u7 u2 u3) (beq_eq_false_iff_ne.mp h)⟩
  refine ⟨fun _ => ?_, fun h => absurd (prop_re hg0 u0 u1 u4 u5) (beq_eq_false_iff_ne.mp h)⟩
  refine ⟨fun _ => ?_, fun h => absurd (prop_im hg0 u0 u1 u4 u5) (beq_eq_false_iff_ne.mp h)⟩
  refine ⟨fun _ => ?_, fun h => absurd (prop_re hg0 u2 u3 u4 u5) (beq_eq_false_iff_ne.mp h)⟩
  refine ⟨fun _ => ?_, fun h => absurd (prop_im hg0 u2 u3 u4 u5) (beq_eq_false_iff_ne.mp h)⟩
  refine ⟨fun _ => ?_, fun h => absurd (prop_re hg0 u6 u7 u4 u5) (beq_eq_false_iff_ne.mp h)⟩
  refine ⟨fun _ => ?_, fun h => absurd (prop_im hg0 u6 u7 u4 u5) (beq_eq_false_iff_ne.mp h)⟩
  refine ⟨fun _ => ?_, fun h => absurd (prop_re hg0 u0 u1 u6 u7) (beq_eq_false_iff_ne.mp h)⟩
  refine ⟨fun _ => ?_, fun h => absurd (prop_im hg0 u0 u1 u6 u7) (beq_eq_false_iff_ne.mp h)⟩
  refine ⟨fun _ => ?_, fun h => absurd (prop_re hg0 u2 u3 u6 u7) (beq_eq_false_iff_ne.mp h)⟩
  refine ⟨fun _ => ?_, fun h => absurd (prop_im hg0 u2 u3 u6 u7) (beq_eq_false_iff_ne.mp h)⟩
  refine ⟨fun _ => ?_, fun h => absurd (prop_re hg0 u4 u5 u6 u7) (beq_eq_false_iff_ne.mp h)⟩
  refine ⟨fun _ => ?_, fun h => absurd (prop_im hg0 u4 u5 u6 u7) (beq_eq_false_iff_ne.mp h)⟩
  refine ⟨ee, uu, PH, ?_⟩
  rcases hue with ⟨rfl, rfl⟩ | ⟨rfl, rfl⟩
  · exact ⟨fun _ => ⟨fun h => (by cases h), fun _ => rfl⟩, fun h => absurd rfl (beq_eq_false_iff_ne.mp h)⟩
  · exact ⟨fun h => absurd (beq_iff_eq.mp h) (by decide), fun _ => ⟨fun _ => rfl, fun h => absurd rfl (bne0 h)⟩⟩
theorem pures {x0 x1 x2 x3 x4 x5 x6 x7 : Int} (r0 : (-9223372036854775808) ≤ x0 ∧ x0 ≤ 9223372036854775807) (r1 : (-9223372036854775808) ≤ x1 ∧ x1 ≤ 9223372036854775807) (r2 : (-9223372036854775808) ≤ x2 ∧ x2 ≤ 9223372036854775807) (r3 : (-9223372036854775808) ≤ x3 ∧ x3 ≤ 9223372036854775807) (r4 : (-9223372036854775808) ≤ x4 ∧ x4 ≤ 9223372036854775807) (r5 : (-9223372036854775808) ≤ x5 ∧ x5 ≤ 9223372036854775807) (r6 : (-9223372036854775808) ≤ x6 ∧ x6 ≤ 9223372036854775807) (r7 : (-9223372036854775808) ≤ x7 ∧ x7 ≤ 9223372036854775807) (w : World) : Calls Try.prog 11 #[.agg #[.int .i64 x0, .int .i64 x1, .int .i64 x2, .int .i64 x3, .int .i64 x4, .int .i64 x5, .int .i64 x6, .int .i64 x7]] w fun e w' => e = .returned (.bool true) ∧ Below w.heap.size w w' := by
  by_cases hs : ((-2) ≤ x0 ∧ x0 ≤ 2) ∧ ((-2) ≤ x1 ∧ x1 ≤ 2) ∧ ((-2) ≤ x2 ∧ x2 ≤ 2) ∧ ((-2) ≤ x3 ∧ x3 ≤ 2) ∧ ((-2) ≤ x4 ∧ x4 ≤ 2) ∧ ((-2) ≤ x5 ∧ x5 ≤ 2) ∧ ((-2) ≤ x6 ∧ x6 ≤ 2) ∧ ((-2) ≤ x7 ∧ x7 ≤ 2)
  · obtain ⟨s0, s1, s2, s3, s4, s5, s6, s7⟩ := hs
    by_cases hz : x0 = 0 ∧ x1 = 0 ∧ x2 = 0 ∧ x3 = 0 ∧ x4 = 0 ∧ x5 = 0 ∧ x6 = 0 ∧ x7 = 0
    · obtain ⟨z0, z1, z2, z3, z4, z5, z6, z7⟩ := hz
      exact one_val (pze ⟨by omega, by omega⟩ ⟨by omega, by omega⟩ ⟨by omega, by omega⟩ ⟨by omega, by omega⟩ ⟨by omega, by omega⟩ ⟨by omega, by omega⟩ ⟨by omega, by omega⟩ ⟨by omega, by omega⟩ (Q := (· = _)) ⟨awake, rfl⟩) w
    · exact pure_in s0 s1 s2 s3 s4 s5 s6 s7 hz w
  · refine one_val (pv r0 r1 r2 r3 r4 r5 r6 r7 (Q := (· = _)) ⟨awake, ?_⟩) w
    repeat' (first | exact rfl | apply And.intro | intro _ | fail)
    all_goals simp only [decide_eq_true_eq, decide_eq_false_iff_not] at *
    all_goals (exfalso; apply hs; refine ⟨?_, ?_, ?_, ?_, ?_, ?_, ?_, ?_⟩ <;> constructor <;> assumption)
end Go.Proofs.Ytipcoahafdolcaa.Ev
