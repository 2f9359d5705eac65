/- PolarBack: the sense of its walk. -/
import Derived.Test.YtlondnchmfhenaaPjv
import Derived.Test.YtlondnchmfhenaaPjl
import Derived.Test.YtlondnchmfhenaaPawk
namespace Go.Proofs.Ytlondnchmfhenaa.Ev
set_option linter.unusedSimpArgs false
set_option linter.unusedVariables false
open Go Go.RowKit
set_option maxRecDepth 100000
theorem szz {m K : Int} : ((if (0 - m : Int) > m then (0 - m) else m) ≤ K) ↔ (-K ≤ m ∧ m ≤ K) := by split <;> omega
theorem cu_ok {m0 m1 m2 m3 m4 m5 m6 m7 m8 m9 m10 m11 m12 m13 m14 m15 : Int} (r0 : (-1000000000) ≤ m0 ∧ m0 ≤ 1000000000) (r1 : (-1000000000) ≤ m1 ∧ m1 ≤ 1000000000) (r2 : (-1000000000) ≤ m2 ∧ m2 ≤ 1000000000) (r3 : (-1000000000) ≤ m3 ∧ m3 ≤ 1000000000) (r4 : (-1000000000) ≤ m4 ∧ m4 ≤ 1000000000) (r5 : (-1000000000) ≤ m5 ∧ m5 ≤ 1000000000) (r6 : (-1000000000) ≤ m6 ∧ m6 ≤ 1000000000) (r7 : (-1000000000) ≤ m7 ∧ m7 ≤ 1000000000) (r8 : (-1000000000) ≤ m8 ∧ m8 ≤ 1000000000) (r9 : (-1000000000) ≤ m9 ∧ m9 ≤ 1000000000) (r10 : (-1000000000) ≤ m10 ∧ m10 ≤ 1000000000) (r11 : (-1000000000) ≤ m11 ∧ m11 ≤ 1000000000) (r12 : (-1000000000) ≤ m12 ∧ m12 ≤ 1000000000) (r13 : (-1000000000) ≤ m13 ∧ m13 ≤ 1000000000) (r14 : (-1000000000) ≤ m14 ∧ m14 ≤ 1000000000) (r15 : (-1000000000) ≤ m15 ∧ m15 ≤ 1000000000) (h : ((-10000000) ≤ m0 ∧ m0 ≤ 10000000) ∧ ((-10000000) ≤ m1 ∧ m1 ≤ 10000000) ∧ ((-10000000) ≤ m2 ∧ m2 ≤ 10000000) ∧ ((-10000000) ≤ m3 ∧ m3 ≤ 10000000) ∧ ((-10000000) ≤ m4 ∧ m4 ≤ 10000000) ∧ ((-10000000) ≤ m5 ∧ m5 ≤ 10000000) ∧ ((-10000000) ≤ m6 ∧ m6 ≤ 10000000) ∧ ((-10000000) ≤ m7 ∧ m7 ≤ 10000000) ∧ ((-10000000) ≤ m8 ∧ m8 ≤ 10000000) ∧ ((-10000000) ≤ m9 ∧ m9 ≤ 10000000) ∧ ((-10000000) ≤ m10 ∧ m10 ≤ 10000000) ∧ ((-10000000) ≤ m11 ∧ m11 ≤ 10000000) ∧ ((-10000000) ≤ m12 ∧ m12 ≤ 10000000) ∧ ((-10000000) ≤ m13 ∧ m13 ≤ 10000000) ∧ ((-10000000) ≤ m14 ∧ m14 ≤ 10000000) ∧ ((-10000000) ≤ m15 ∧ m15 ≤ 10000000)) (w : World) : Calls Try.prog 119 #[.int .i64 10000000, .agg #[.int .i64 m0, .int .i64 m1, .int .i64 m2, .int .i64 m3, .int .i64 m4, .int .i64 m5, .int .i64 m6, .int .i64 m7, .int .i64 m8, .int .i64 m9, .int .i64 m10, .int .i64 m11, .int .i64 m12, .int .i64 m13, .int .i64 m14, .int .i64 m15]] w fun e w' => e = .returned (.int .i64 0) ∧ Below w.heap.size w w' := by
  obtain ⟨g0, g1, g2, g3, g4, g5, g6, g7, g8, g9, g10, g11, g12, g13, g14, g15⟩ := h
  refine one_val (jcu r0 r1 r2 r3 r4 r5 r6 r7 r8 r9 r10 r11 r12 r13 r14 r15 (Q := (· = _)) ?_) w
  repeat' (first | exact rfl | apply And.intro | intro _ | fail)
  all_goals simp only [decide_eq_true_eq, decide_eq_false_iff_not] at *
  all_goals (exfalso; omega)
theorem cu_bad {m0 m1 m2 m3 m4 m5 m6 m7 m8 m9 m10 m11 m12 m13 m14 m15 : Int} (r0 : (-1000000000) ≤ m0 ∧ m0 ≤ 1000000000) (r1 : (-1000000000) ≤ m1 ∧ m1 ≤ 1000000000) (r2 : (-1000000000) ≤ m2 ∧ m2 ≤ 1000000000) (r3 : (-1000000000) ≤ m3 ∧ m3 ≤ 1000000000) (r4 : (-1000000000) ≤ m4 ∧ m4 ≤ 1000000000) (r5 : (-1000000000) ≤ m5 ∧ m5 ≤ 1000000000) (r6 : (-1000000000) ≤ m6 ∧ m6 ≤ 1000000000) (r7 : (-1000000000) ≤ m7 ∧ m7 ≤ 1000000000) (r8 : (-1000000000) ≤ m8 ∧ m8 ≤ 1000000000) (r9 : (-1000000000) ≤ m9 ∧ m9 ≤ 1000000000) (r10 : (-1000000000) ≤ m10 ∧ m10 ≤ 1000000000) (r11 : (-1000000000) ≤ m11 ∧ m11 ≤ 1000000000) (r12 : (-1000000000) ≤ m12 ∧ m12 ≤ 1000000000) (r13 : (-1000000000) ≤ m13 ∧ m13 ≤ 1000000000) (r14 : (-1000000000) ≤ m14 ∧ m14 ≤ 1000000000) (r15 : (-1000000000) ≤ m15 ∧ m15 ≤ 1000000000) (h : ¬ (((-10000000) ≤ m0 ∧ m0 ≤ 10000000) ∧ ((-10000000) ≤ m1 ∧ m1 ≤ 10000000) ∧ ((-10000000) ≤ m2 ∧ m2 ≤ 10000000) ∧ ((-10000000) ≤ m3 ∧ m3 ≤ 10000000) ∧ ((-10000000) ≤ m4 ∧ m4 ≤ 10000000) ∧ ((-10000000) ≤ m5 ∧ m5 ≤ 10000000) ∧ ((-10000000) ≤ m6 ∧ m6 ≤ 10000000) ∧ ((-10000000) ≤ m7 ∧ m7 ≤ 10000000) ∧ ((-10000000) ≤ m8 ∧ m8 ≤ 10000000) ∧ ((-10000000) ≤ m9 ∧ m9 ≤ 10000000) ∧ ((-10000000) ≤ m10 ∧ m10 ≤ 10000000) ∧ ((-10000000) ≤ m11 ∧ m11 ≤ 10000000) ∧ ((-10000000) ≤ m12 ∧ m12 ≤ 10000000) ∧ ((-10000000) ≤ m13 ∧ m13 ≤ 10000000) ∧ ((-10000000) ≤ m14 ∧ m14 ≤ 10000000) ∧ ((-10000000) ≤ m15 ∧ m15 ≤ 10000000))) (w : World) : Calls Try.prog 119 #[.int .i64 10000000, .agg #[.int .i64 m0, .int .i64 m1, .int .i64 m2, .int .i64 m3, .int .i64 m4, .int .i64 m5, .int .i64 m6, .int .i64 m7, .int .i64 m8, .int .i64 m9, .int .i64 m10, .int .i64 m11, .int .i64 m12, .int .i64 m13, .int .i64 m14, .int .i64 m15]] w fun e w' => e = .returned (.int .i64 8) ∧ Below w.heap.size w w' := by
  refine one_val (jcu r0 r1 r2 r3 r4 r5 r6 r7 r8 r9 r10 r11 r12 r13 r14 r15 (Q := (· = _)) ?_) w
  repeat' (first | exact rfl | apply And.intro | intro _ | fail)
  all_goals simp only [decide_eq_true_eq, decide_eq_false_iff_not] at *
  all_goals (exfalso; apply h; refine ⟨?_, ?_, ?_, ?_, ?_, ?_, ?_, ?_, ?_, ?_, ?_, ?_, ?_, ?_, ?_, ?_⟩ <;> constructor <;> assumption)
theorem by_ok {m0 m1 m2 m3 m4 m5 m6 m7 m8 m9 m10 m11 m12 m13 m14 m15 : Int} (r0 : (-1000000000) ≤ m0 ∧ m0 ≤ 1000000000) (r1 : (-1000000000) ≤ m1 ∧ m1 ≤ 1000000000) (r2 : (-1000000000) ≤ m2 ∧ m2 ≤ 1000000000) (r3 : (-1000000000) ≤ m3 ∧ m3 ≤ 1000000000) (r4 : (-1000000000) ≤ m4 ∧ m4 ≤ 1000000000) (r5 : (-1000000000) ≤ m5 ∧ m5 ≤ 1000000000) (r6 : (-1000000000) ≤ m6 ∧ m6 ≤ 1000000000) (r7 : (-1000000000) ≤ m7 ∧ m7 ≤ 1000000000) (r8 : (-1000000000) ≤ m8 ∧ m8 ≤ 1000000000) (r9 : (-1000000000) ≤ m9 ∧ m9 ≤ 1000000000) (r10 : (-1000000000) ≤ m10 ∧ m10 ≤ 1000000000) (r11 : (-1000000000) ≤ m11 ∧ m11 ≤ 1000000000) (r12 : (-1000000000) ≤ m12 ∧ m12 ≤ 1000000000) (r13 : (-1000000000) ≤ m13 ∧ m13 ≤ 1000000000) (r14 : (-1000000000) ≤ m14 ∧ m14 ≤ 1000000000) (r15 : (-1000000000) ≤ m15 ∧ m15 ≤ 1000000000) (h : ((-10000000) ≤ m0 ∧ m0 ≤ 10000000) ∧ ((-10000000) ≤ m1 ∧ m1 ≤ 10000000) ∧ ((-10000000) ≤ m2 ∧ m2 ≤ 10000000) ∧ ((-10000000) ≤ m3 ∧ m3 ≤ 10000000) ∧ ((-10000000) ≤ m4 ∧ m4 ≤ 10000000) ∧ ((-10000000) ≤ m5 ∧ m5 ≤ 10000000) ∧ ((-10000000) ≤ m6 ∧ m6 ≤ 10000000) ∧ ((-10000000) ≤ m7 ∧ m7 ≤ 10000000) ∧ ((-10000000) ≤ m8 ∧ m8 ≤ 10000000) ∧ ((-10000000) ≤ m9 ∧ m9 ≤ 10000000) ∧ ((-10000000) ≤ m10 ∧ m10 ≤ 10000000) ∧ ((-10000000) ≤ m11 ∧ m11 ≤ 10000000) ∧ ((-10000000) ≤ m12 ∧ m12 ≤ 10000000) ∧ ((-10000000) ≤ m13 ∧ m13 ≤ 10000000) ∧ ((-10000000) ≤ m14 ∧ m14 ≤ 10000000) ∧ ((-10000000) ≤ m15 ∧ m15 ≤ 10000000)) (w : World) : Calls Try.prog 123 #[.agg #[.int .i64 m0, .int .i64 m1, .int .i64 m2, .int .i64 m3, .int .i64 m4, .int .i64 m5, .int .i64 m6, .int .i64 m7, .int .i64 m8, .int .i64 m9, .int .i64 m10, .int .i64 m11, .int .i64 m12, .int .i64 m13, .int .i64 m14, .int .i64 m15], .int .i64 10000000] w fun e w' => e = .returned (.bool false) ∧ Below w.heap.size w w' := by
  obtain ⟨g0, g1, g2, g3, g4, g5, g6, g7, g8, g9, g10, g11, g12, g13, g14, g15⟩ := h
  refine one_val (jbd r0 r1 r2 r3 r4 r5 r6 r7 r8 r9 r10 r11 r12 r13 r14 r15 (Q := (· = _)) ?_) w
  repeat' (first | exact rfl | apply And.intro | intro _ | fail)
  all_goals simp only [decide_eq_true_eq, decide_eq_false_iff_not, szz] at *
  all_goals (exfalso; omega)
theorem by_bad {m0 m1 m2 m3 m4 m5 m6 m7 m8 m9 m10 m11 m12 m13 m14 m15 : Int} (r0 : (-1000000000) ≤ m0 ∧ m0 ≤ 1000000000) (r1 : (-1000000000) ≤ m1 ∧ m1 ≤ 1000000000) (r2 : (-1000000000) ≤ m2 ∧ m2 ≤ 1000000000) (r3 : (-1000000000) ≤ m3 ∧ m3 ≤ 1000000000) (r4 : (-1000000000) ≤ m4 ∧ m4 ≤ 1000000000) (r5 : (-1000000000) ≤ m5 ∧ m5 ≤ 1000000000) (r6 : (-1000000000) ≤ m6 ∧ m6 ≤ 1000000000) (r7 : (-1000000000) ≤ m7 ∧ m7 ≤ 1000000000) (r8 : (-1000000000) ≤ m8 ∧ m8 ≤ 1000000000) (r9 : (-1000000000) ≤ m9 ∧ m9 ≤ 1000000000) (r10 : (-1000000000) ≤ m10 ∧ m10 ≤ 1000000000) (r11 : (-1000000000) ≤ m11 ∧ m11 ≤ 1000000000) (r12 : (-1000000000) ≤ m12 ∧ m12 ≤ 1000000000) (r13 : (-1000000000) ≤ m13 ∧ m13 ≤ 1000000000) (r14 : (-1000000000) ≤ m14 ∧ m14 ≤ 1000000000) (r15 : (-1000000000) ≤ m15 ∧ m15 ≤ 1000000000) (h : ¬ (((-10000000) ≤ m0 ∧ m0 ≤ 10000000) ∧ ((-10000000) ≤ m1 ∧ m1 ≤ 10000000) ∧ ((-10000000) ≤ m2 ∧ m2 ≤ 10000000) ∧ ((-10000000) ≤ m3 ∧ m3 ≤ 10000000) ∧ ((-10000000) ≤ m4 ∧ m4 ≤ 10000000) ∧ ((-10000000) ≤ m5 ∧ m5 ≤ 10000000) ∧ ((-10000000) ≤ m6 ∧ m6 ≤ 10000000) ∧ ((-10000000) ≤ m7 ∧ m7 ≤ 10000000) ∧ ((-10000000) ≤ m8 ∧ m8 ≤ 10000000) ∧ ((-10000000) ≤ m9 ∧ m9 ≤ 10000000) ∧ ((-10000000) ≤ m10 ∧ m10 ≤ 10000000) ∧ ((-10000000) ≤ m11 ∧ m11 ≤ 10000000) ∧ ((-10000000) ≤ m12 ∧ m12 ≤ 10000000) ∧ ((-10000000) ≤ m13 ∧ m13 ≤ 10000000) ∧ ((-10000000) ≤ m14 ∧ m14 ≤ 10000000) ∧ ((-10000000) ≤ m15 ∧ m15 ≤ 10000000))) (w : World) : Calls Try.prog 123 #[.agg #[.int .i64 m0, .int .i64 m1, .int .i64 m2, .int .i64 m3, .int .i64 m4, .int .i64 m5, .int .i64 m6, .int .i64 m7, .int .i64 m8, .int .i64 m9, .int .i64 m10, .int .i64 m11, .int .i64 m12, .int .i64 m13, .int .i64 m14, .int .i64 m15], .int .i64 10000000] w fun e w' => e = .returned (.bool true) ∧ Below w.heap.size w w' := by
  refine one_val (jbd r0 r1 r2 r3 r4 r5 r6 r7 r8 r9 r10 r11 r12 r13 r14 r15 (Q := (· = _)) ?_) w
  repeat' (first | exact rfl | apply And.intro | intro _ | fail)
  all_goals simp only [decide_eq_true_eq, decide_eq_false_iff_not, szz] at *
  all_goals (exfalso; apply h; refine ⟨?_, ?_, ?_, ?_, ?_, ?_, ?_, ?_, ?_, ?_, ?_, ?_, ?_, ?_, ?_, ?_⟩ <;> assumption)
theorem res_any {n0 n1 n2 n3 n4 n5 n6 n7 : Int} (g0 : (-40000000) ≤ n0 ∧ n0 ≤ 40000000) (g1 : (-40000000) ≤ n1 ∧ n1 ≤ 40000000) (g2 : (-40000000) ≤ n2 ∧ n2 ≤ 40000000) (g3 : (-40000000) ≤ n3 ∧ n3 ≤ 40000000) (g4 : (-40000000) ≤ n4 ∧ n4 ≤ 40000000) (g5 : (-40000000) ≤ n5 ∧ n5 ≤ 40000000) (g6 : (-40000000) ≤ n6 ∧ n6 ≤ 40000000) (g7 : (-40000000) ≤ n7 ∧ n7 ≤ 40000000) : ∃ (z0 z1 z2 z3 z4 z5 z6 z7 : Nat) (c : Int), (∀ w, Calls Try.prog 100 #[.agg #[.complex .f64 (FloatKind.f64.nearest n0) (FloatKind.f64.nearest n1), .complex .f64 (FloatKind.f64.nearest n2) (FloatKind.f64.nearest n3), .complex .f64 (FloatKind.f64.nearest n4) (FloatKind.f64.nearest n5), .complex .f64 (FloatKind.f64.nearest n6) (FloatKind.f64.nearest n7)]] w fun e w' => e = .returned (.tuple #[.agg #[.complex .f64 z0 z1, .complex .f64 z2 z3, .complex .f64 z4 z5, .complex .f64 z6 z7], .int .i64 c]) ∧ Below w.heap.size w w') ∧ (∀ w, Calls Try.prog 34 #[.agg #[.int .i64 n0, .int .i64 n1, .int .i64 n2, .int .i64 n3, .int .i64 n4, .int .i64 n5, .int .i64 n6, .int .i64 n7]] w fun e w' => e = .returned (.tuple #[.agg #[.complex .f64 z0 z1, .complex .f64 z2 z3, .complex .f64 z4 z5, .complex .f64 z6 z7], .int .i64 c]) ∧ Below w.heap.size w w') ∧ (c = 0 → (((-1000) ≤ n0 ∧ n0 ≤ 1000) ∧ ((-1000) ≤ n1 ∧ n1 ≤ 1000) ∧ ((-1000) ≤ n2 ∧ n2 ≤ 1000) ∧ ((-1000) ≤ n3 ∧ n3 ≤ 1000) ∧ ((-1000) ≤ n4 ∧ n4 ≤ 1000) ∧ ((-1000) ≤ n5 ∧ n5 ≤ 1000) ∧ ((-1000) ≤ n6 ∧ n6 ≤ 1000) ∧ ((-1000) ≤ n7 ∧ n7 ≤ 1000)) ∧ (z0 = (FloatKind.f64.nearest n0) ∧ z1 = (FloatKind.f64.nearest n1) ∧ z2 = (FloatKind.f64.nearest n2) ∧ z3 = (FloatKind.f64.nearest n3) ∧ z4 = (FloatKind.f64.nearest n4) ∧ z5 = (FloatKind.f64.nearest n5) ∧ z6 = (FloatKind.f64.nearest n6) ∧ z7 = (FloatKind.f64.nearest n7))) := by
  by_cases h : ((-1000) ≤ n0 ∧ n0 ≤ 1000) ∧ ((-1000) ≤ n1 ∧ n1 ≤ 1000) ∧ ((-1000) ≤ n2 ∧ n2 ≤ 1000) ∧ ((-1000) ≤ n3 ∧ n3 ≤ 1000) ∧ ((-1000) ≤ n4 ∧ n4 ≤ 1000) ∧ ((-1000) ≤ n5 ∧ n5 ≤ 1000) ∧ ((-1000) ≤ n6 ∧ n6 ≤ 1000) ∧ ((-1000) ≤ n7 ∧ n7 ≤ 1000)
  · refine ⟨(FloatKind.f64.nearest n0), (FloatKind.f64.nearest n1), (FloatKind.f64.nearest n2), (FloatKind.f64.nearest n3), (FloatKind.f64.nearest n4), (FloatKind.f64.nearest n5), (FloatKind.f64.nearest n6), (FloatKind.f64.nearest n7), 0, fun w => ?_, fun w => ?_, fun _ => ⟨h, rfl, rfl, rfl, rfl, rfl, rfl, rfl, rfl⟩⟩
    · obtain ⟨t0, t1, t2, t3, t4, t5, t6, t7⟩ := h
      refine one_val (jrm g0 g1 g2 g3 g4 g5 g6 g7 (rpn' _) (rpn' _) (rpn' _) (rpn' _) (rpn' _) (rpn' _) (rpn' _) (rpn' _) (Q := (· = _)) ?_) w
      repeat' (first | exact rfl | apply And.intro | intro _ | fail)
      all_goals simp only [decide_eq_true_eq, decide_eq_false_iff_not, szz] at *
      all_goals (exfalso; omega)
    · obtain ⟨t0, t1, t2, t3, t4, t5, t6, t7⟩ := h
      refine one_val (jbm g0 g1 g2 g3 g4 g5 g6 g7 (Q := (· = _)) ?_) w
      repeat' (first | exact rfl | apply And.intro | intro _ | fail)
      all_goals simp only [decide_eq_true_eq, decide_eq_false_iff_not, szz] at *
      all_goals (exfalso; omega)
  · refine ⟨0, 0, 0, 0, 0, 0, 0, 0, 8, fun w => ?_, fun w => ?_, fun h => by cases h⟩
    · refine one_val (jrm g0 g1 g2 g3 g4 g5 g6 g7 (rpn' _) (rpn' _) (rpn' _) (rpn' _) (rpn' _) (rpn' _) (rpn' _) (rpn' _) (Q := (· = _)) ?_) w
      repeat' (first | exact rfl | apply And.intro | intro _ | fail)
      all_goals simp only [decide_eq_true_eq, decide_eq_false_iff_not, szz] at *
      all_goals (exfalso; apply h; refine ⟨?_, ?_, ?_, ?_, ?_, ?_, ?_, ?_⟩ <;> assumption)
    · refine one_val (jbm g0 g1 g2 g3 g4 g5 g6 g7 (Q := (· = _)) ?_) w
      repeat' (first | exact rfl | apply And.intro | intro _ | fail)
      all_goals simp only [decide_eq_true_eq, decide_eq_false_iff_not, szz] at *
      all_goals (exfalso; apply h; refine ⟨?_, ?_, ?_, ?_, ?_, ?_, ?_, ?_⟩ <;> assumption)
theorem dv_step {g h : Nat} {a b : Int} (e : h = Int.gcd a b) (d : g ∣ h) : ((g : Nat) : Int) ∣ a ∧ ((g : Nat) : Int) ∣ b := by
  have h1 : ((g : Nat) : Int) ∣ ((h : Nat) : Int) := Int.natCast_dvd_natCast.mpr d
  rw [e] at h1
  exact ⟨Int.dvd_trans h1 (Int.gcd_dvd_left ..), Int.dvd_trans h1 (Int.gcd_dvd_right ..)⟩
theorem dvd_all {A0 A1 B0 B1 C0 C1 D0 D1 g : Int} (hg : g = ((Int.gcd ((Int.gcd ((Int.gcd ((Int.gcd ((Int.gcd ((Int.gcd ((Int.gcd ((Int.gcd 0 A0 : Nat) : Int) A1 : Nat) : Int) B0 : Nat) : Int) B1 : Nat) : Int) C0 : Nat) : Int) C1 : Nat) : Int) D0 : Nat) : Int) D1 : Nat) : Int)) : A0 = g * A0.tdiv g ∧ A1 = g * A1.tdiv g ∧ B0 = g * B0.tdiv g ∧ B1 = g * B1.tdiv g ∧ C0 = g * C0.tdiv g ∧ C1 = g * C1.tdiv g ∧ D0 = g * D0.tdiv g ∧ D1 = g * D1.tdiv g := by
  obtain ⟨g1, e1⟩ : ∃ g : Nat, g = Int.gcd 0 A0 := ⟨_, rfl⟩
  obtain ⟨g2, e2⟩ : ∃ g : Nat, g = Int.gcd ((g1 : Nat) : Int) A1 := ⟨_, rfl⟩
  obtain ⟨g3, e3⟩ : ∃ g : Nat, g = Int.gcd ((g2 : Nat) : Int) B0 := ⟨_, rfl⟩
  obtain ⟨g4, e4⟩ : ∃ g : Nat, g = Int.gcd ((g3 : Nat) : Int) B1 := ⟨_, rfl⟩
  obtain ⟨g5, e5⟩ : ∃ g : Nat, g = Int.gcd ((g4 : Nat) : Int) C0 := ⟨_, rfl⟩
  obtain ⟨g6, e6⟩ : ∃ g : Nat, g = Int.gcd ((g5 : Nat) : Int) C1 := ⟨_, rfl⟩
  obtain ⟨g7, e7⟩ : ∃ g : Nat, g = Int.gcd ((g6 : Nat) : Int) D0 := ⟨_, rfl⟩
  obtain ⟨g8, e8⟩ : ∃ g : Nat, g = Int.gcd ((g7 : Nat) : Int) D1 := ⟨_, rfl⟩
  have hg' : g = ((g8 : Nat) : Int) := by rw [hg]; rw [← e1]; rw [← e2]; rw [← e3]; rw [← e4]; rw [← e5]; rw [← e6]; rw [← e7]; rw [← e8]
  have d8 : g8 ∣ g8 := Nat.dvd_refl _
  obtain ⟨l8, v8⟩ := dv_step e8 d8
  have d7 : g8 ∣ g7 := Int.natCast_dvd_natCast.mp l8
  obtain ⟨l7, v7⟩ := dv_step e7 d7
  have d6 : g8 ∣ g6 := Int.natCast_dvd_natCast.mp l7
  obtain ⟨l6, v6⟩ := dv_step e6 d6
  have d5 : g8 ∣ g5 := Int.natCast_dvd_natCast.mp l6
  obtain ⟨l5, v5⟩ := dv_step e5 d5
  have d4 : g8 ∣ g4 := Int.natCast_dvd_natCast.mp l5
  obtain ⟨l4, v4⟩ := dv_step e4 d4
  have d3 : g8 ∣ g3 := Int.natCast_dvd_natCast.mp l4
  obtain ⟨l3, v3⟩ := dv_step e3 d3
  have d2 : g8 ∣ g2 := Int.natCast_dvd_natCast.mp l3
  obtain ⟨l2, v2⟩ := dv_step e2 d2
  have d1 : g8 ∣ g1 := Int.natCast_dvd_natCast.mp l2
  obtain ⟨l1, v1⟩ := dv_step e1 d1
  rw [hg']
  exact ⟨(Int.mul_tdiv_cancel' v1).symm, (Int.mul_tdiv_cancel' v2).symm, (Int.mul_tdiv_cancel' v3).symm, (Int.mul_tdiv_cancel' v4).symm, (Int.mul_tdiv_cancel' v5).symm, (Int.mul_tdiv_cancel' v6).symm, (Int.mul_tdiv_cancel' v7).symm, (Int.mul_tdiv_cancel' v8).symm⟩
set_option maxHeartbeats 4000000 in
theorem jones_any {m0 m1 m2 m3 m4 m5 m6 m7 m8 m9 m10 m11 m12 m13 m14 m15 : Int} (r0 : (-1000000000) ≤ m0 ∧ m0 ≤ 1000000000) (r1 : (-1000000000) ≤ m1 ∧ m1 ≤ 1000000000) (r2 : (-1000000000) ≤ m2 ∧ m2 ≤ 1000000000) (r3 : (-1000000000) ≤ m3 ∧ m3 ≤ 1000000000) (r4 : (-1000000000) ≤ m4 ∧ m4 ≤ 1000000000) (r5 : (-1000000000) ≤ m5 ∧ m5 ≤ 1000000000) (r6 : (-1000000000) ≤ m6 ∧ m6 ≤ 1000000000) (r7 : (-1000000000) ≤ m7 ∧ m7 ≤ 1000000000) (r8 : (-1000000000) ≤ m8 ∧ m8 ≤ 1000000000) (r9 : (-1000000000) ≤ m9 ∧ m9 ≤ 1000000000) (r10 : (-1000000000) ≤ m10 ∧ m10 ≤ 1000000000) (r11 : (-1000000000) ≤ m11 ∧ m11 ≤ 1000000000) (r12 : (-1000000000) ≤ m12 ∧ m12 ≤ 1000000000) (r13 : (-1000000000) ≤ m13 ∧ m13 ≤ 1000000000) (r14 : (-1000000000) ≤ m14 ∧ m14 ≤ 1000000000) (r15 : (-1000000000) ≤ m15 ∧ m15 ≤ 1000000000) : ∃ (z0 z1 z2 z3 z4 z5 z6 z7 : Nat) (c : Int), (∀ w, Calls Try.prog 64 #[.agg #[.int .i64 m0, .int .i64 m1, .int .i64 m2, .int .i64 m3, .int .i64 m4, .int .i64 m5, .int .i64 m6, .int .i64 m7, .int .i64 m8, .int .i64 m9, .int .i64 m10, .int .i64 m11, .int .i64 m12, .int .i64 m13, .int .i64 m14, .int .i64 m15]] w fun e w' => e = .returned (.tuple #[.agg #[.complex .f64 z0 z1, .complex .f64 z2 z3, .complex .f64 z4 z5, .complex .f64 z6 z7], .int .i64 c]) ∧ Below w.heap.size w w') ∧ (∀ w, Calls Try.prog 65 #[.agg #[.int .i64 m0, .int .i64 m1, .int .i64 m2, .int .i64 m3, .int .i64 m4, .int .i64 m5, .int .i64 m6, .int .i64 m7, .int .i64 m8, .int .i64 m9, .int .i64 m10, .int .i64 m11, .int .i64 m12, .int .i64 m13, .int .i64 m14, .int .i64 m15]] w fun e w' => e = .returned (.tuple #[.agg #[.complex .f64 z0 z1, .complex .f64 z2 z3, .complex .f64 z4 z5, .complex .f64 z6 z7], .int .i64 c]) ∧ Below w.heap.size w w') ∧ (c = 0 → ∃ k0 k1 k2 k3 k4 k5 k6 k7 : Int, (z0 = (FloatKind.f64.nearest k0) ∧ z1 = (FloatKind.f64.nearest k1) ∧ z2 = (FloatKind.f64.nearest k2) ∧ z3 = (FloatKind.f64.nearest k3) ∧ z4 = (FloatKind.f64.nearest k4) ∧ z5 = (FloatKind.f64.nearest k5) ∧ z6 = (FloatKind.f64.nearest k6) ∧ z7 = (FloatKind.f64.nearest k7)) ∧ JBack m0 m1 m2 m3 m4 m5 m6 m7 m8 m9 m10 m11 m12 m13 m14 m15 k0 k1 k2 k3 k4 k5 k6 k7) := by
  by_cases h7 : ((-10000000) ≤ m0 ∧ m0 ≤ 10000000) ∧ ((-10000000) ≤ m1 ∧ m1 ≤ 10000000) ∧ ((-10000000) ≤ m2 ∧ m2 ≤ 10000000) ∧ ((-10000000) ≤ m3 ∧ m3 ≤ 10000000) ∧ ((-10000000) ≤ m4 ∧ m4 ≤ 10000000) ∧ ((-10000000) ≤ m5 ∧ m5 ≤ 10000000) ∧ ((-10000000) ≤ m6 ∧ m6 ≤ 10000000) ∧ ((-10000000) ≤ m7 ∧ m7 ≤ 10000000) ∧ ((-10000000) ≤ m8 ∧ m8 ≤ 10000000) ∧ ((-10000000) ≤ m9 ∧ m9 ≤ 10000000) ∧ ((-10000000) ≤ m10 ∧ m10 ≤ 10000000) ∧ ((-10000000) ≤ m11 ∧ m11 ≤ 10000000) ∧ ((-10000000) ≤ m12 ∧ m12 ≤ 10000000) ∧ ((-10000000) ≤ m13 ∧ m13 ≤ 10000000) ∧ ((-10000000) ≤ m14 ∧ m14 ≤ 10000000) ∧ ((-10000000) ≤ m15 ∧ m15 ≤ 10000000)
  rotate_left
  · have c8 := fun w => cu_bad r0 r1 r2 r3 r4 r5 r6 r7 r8 r9 r10 r11 r12 r13 r14 r15 h7 w
    have b8 := fun w => by_bad r0 r1 r2 r3 r4 r5 r6 r7 r8 r9 r10 r11 r12 r13 r14 r15 h7 w
    exact ⟨0, 0, 0, 0, 0, 0, 0, 0, 8, fun w => one_val (jo r0 r1 r2 r3 r4 r5 r6 r7 r8 r9 r10 r11 r12 r13 r14 r15 (Q := (· = _)) ⟨8, c8, ⟨by omega, by omega⟩, fun h => absurd (beq0 h) (by decide), fun _ => rfl⟩) w, fun w => one_val (rz r0 r1 r2 r3 r4 r5 r6 r7 r8 r9 r10 r11 r12 r13 r14 r15 (Q := (· = _)) ⟨true, b8, fun _ => rfl, (fun h => by cases h)⟩) w, fun h => by cases h⟩
  have hcu := fun w => cu_ok r0 r1 r2 r3 r4 r5 r6 r7 r8 r9 r10 r11 r12 r13 r14 r15 h7 w
  have hb := fun w => by_ok r0 r1 r2 r3 r4 r5 r6 r7 r8 r9 r10 r11 r12 r13 r14 r15 h7 w
  obtain ⟨s0, s1, s2, s3, s4, s5, s6, s7, s8, s9, s10, s11, s12, s13, s14, s15⟩ := h7
  obtain ⟨d0, d1, d2, d3, x01, y01, x02, y02, x03, y03, x12, y12, x13, y13, x23, y23, ⟨hd0, hx01, hy01, hx02, hy02, hx03, hy03, hd1, hx12, hy12, hx13, hy13, hd2, hx23, hy23, hd3⟩, ⟨bd0, bd1, bd2, bd3, bx01, by01, bx02, by02, bx03, by03, bx12, by12, bx13, by13, bx23, by23⟩, KF, KI⟩ := khm s0 s1 s2 s3 s4 s5 s6 s7 s8 s9 s10 s11 s12 s13 s14 s15
  by_cases p0 : Pure0 d0 d1 d2 d3 x01 y01 x02 y02 x03 y03 x12 y12 x13 y13 x23 y23
  · have hpos := p0.pos
    obtain ⟨g, hg⟩ : ∃ g : Int, g = ((Int.gcd ((Int.gcd ((Int.gcd ((Int.gcd ((Int.gcd ((Int.gcd ((Int.gcd ((Int.gcd 0 d0 : Nat) : Int) 0 : Nat) : Int) x01 : Nat) : Int) (0 - y01) : Nat) : Int) x02 : Nat) : Int) (0 - y02) : Nat) : Int) x03 : Nat) : Int) (0 - y03) : Nat) : Int) := ⟨_, rfl⟩
    obtain ⟨v0, v1, v2, v3, v4, v5, v6, v7⟩ := dvd_all hg
    have hg0 : g ≠ 0 := by intro h; rw [h, Int.zero_mul] at v0; omega
    have hgp : 0 < g := by have : 0 ≤ g := by rw [hg]; exact Int.natCast_nonneg _
                           omega
    obtain ⟨z0, z1, z2, z3, z4, z5, z6, z7, c, RP, RB, hz⟩ := res_any (n0 := (d0).tdiv g) (n1 := ((0 : Int)).tdiv g) (n2 := (x01).tdiv g) (n3 := ((0 - y01)).tdiv g) (n4 := (x02).tdiv g) (n5 := ((0 - y02)).tdiv g) (n6 := (x03).tdiv g) (n7 := ((0 - y03)).tdiv g) (tdiv_bd (g := g) (a := d0) (M := 40000000) ⟨by omega, by omega⟩) (tdiv_bd (g := g) (a := (0 : Int)) (M := 40000000) ⟨by omega, by omega⟩) (tdiv_bd (g := g) (a := x01) (M := 40000000) ⟨by omega, by omega⟩) (tdiv_bd (g := g) (a := (0 - y01)) (M := 40000000) ⟨by omega, by omega⟩) (tdiv_bd (g := g) (a := x02) (M := 40000000) ⟨by omega, by omega⟩) (tdiv_bd (g := g) (a := (0 - y02)) (M := 40000000) ⟨by omega, by omega⟩) (tdiv_bd (g := g) (a := x03) (M := 40000000) ⟨by omega, by omega⟩) (tdiv_bd (g := g) (a := (0 - y03)) (M := 40000000) ⟨by omega, by omega⟩)
    have LO := fun w => low_c (A0 := d0) (A1 := (0 : Int)) (B0 := x01) (B1 := (0 - y01)) (C0 := x02) (C1 := (0 - y02)) (D0 := x03) (D1 := (0 - y03)) (g := g) ⟨by omega, by omega⟩ ⟨by omega, by omega⟩ ⟨by omega, by omega⟩ ⟨by omega, by omega⟩ ⟨by omega, by omega⟩ ⟨by omega, by omega⟩ ⟨by omega, by omega⟩ ⟨by omega, by omega⟩ hg hg0 w
    refine ⟨z0, z1, z2, z3, z4, z5, z6, z7, c, fun w => jo_pure0 r0 r1 r2 r3 r4 r5 r6 r7 r8 r9 r10 r11 r12 r13 r14 r15 bd0 bd1 bd2 bd3 bx01 by01 bx02 by02 bx03 by03 bx12 by12 bx13 by13 bx23 by23 hcu KF p0 LO RP w, fun w => rj_pure0 r0 r1 r2 r3 r4 r5 r6 r7 r8 r9 r10 r11 r12 r13 r14 r15 bd0 bd1 bd2 bd3 bx01 by01 bx02 by02 bx03 by03 bx12 by12 bx13 by13 bx23 by23 hb KI p0 hg hg0 RB w, fun hc => ?_⟩
    obtain ⟨⟨t0, t1, t2, t3, t4, t5, t6, t7⟩, ez⟩ := hz hc
    exact ⟨_, _, _, _, _, _, _, _, ez, comes0 hd0 hx01 hy01 hx02 hy02 hx03 hy03 hd1 hx12 hy12 hx13 hy13 hd2 hx23 hy23 hd3 p0 hgp v0 v1 v2 v3 v4 v5 v6 v7 t0 t1 t2 t3 t4 t5 t6 t7⟩
  by_cases p1 : Pure1 d0 d1 d2 d3 x01 y01 x02 y02 x03 y03 x12 y12 x13 y13 x23 y23
  · have hpos := p1.pos
    obtain ⟨g, hg⟩ : ∃ g : Int, g = ((Int.gcd ((Int.gcd ((Int.gcd ((Int.gcd ((Int.gcd ((Int.gcd ((Int.gcd ((Int.gcd 0 x01 : Nat) : Int) y01 : Nat) : Int) d1 : Nat) : Int) 0 : Nat) : Int) x12 : Nat) : Int) (0 - y12) : Nat) : Int) x13 : Nat) : Int) (0 - y13) : Nat) : Int) := ⟨_, rfl⟩
    obtain ⟨v0, v1, v2, v3, v4, v5, v6, v7⟩ := dvd_all hg
    have hg0 : g ≠ 0 := by intro h; rw [h, Int.zero_mul] at v2; omega
    have hgp : 0 < g := by have : 0 ≤ g := by rw [hg]; exact Int.natCast_nonneg _
                           omega
    obtain ⟨z0, z1, z2, z3, z4, z5, z6, z7, c, RP, RB, hz⟩ := res_any (n0 := (x01).tdiv g) (n1 := (y01).tdiv g) (n2 := (d1).tdiv g) (n3 := ((0 : Int)).tdiv g) (n4 := (x12).tdiv g) (n5 := ((0 - y12)).tdiv g) (n6 := (x13).tdiv g) (n7 := ((0 - y13)).tdiv g) (tdiv_bd (g := g) (a := x01) (M := 40000000) ⟨by omega, by omega⟩) (tdiv_bd (g := g) (a := y01) (M := 40000000) ⟨by omega, by omega⟩) (tdiv_bd (g := g) (a := d1) (M := 40000000) ⟨by omega, by omega⟩) (tdiv_bd (g := g) (a := (0 : Int)) (M := 40000000) ⟨by omega, by omega⟩) (tdiv_bd (g := g) (a := x12) (M := 40000000) ⟨by omega, by omega⟩) (tdiv_bd (g := g) (a := (0 - y12)) (M := 40000000) ⟨by omega, by omega⟩) (tdiv_bd (g := g) (a := x13) (M := 40000000) ⟨by omega, by omega⟩) (tdiv_bd (g := g) (a := (0 - y13)) (M := 40000000) ⟨by omega, by omega⟩)
    have LO := fun w => low_c (A0 := x01) (A1 := y01) (B0 := d1) (B1 := (0 : Int)) (C0 := x12) (C1 := (0 - y12)) (D0 := x13) (D1 := (0 - y13)) (g := g) ⟨by omega, by omega⟩ ⟨by omega, by omega⟩ ⟨by omega, by omega⟩ ⟨by omega, by omega⟩ ⟨by omega, by omega⟩ ⟨by omega, by omega⟩ ⟨by omega, by omega⟩ ⟨by omega, by omega⟩ hg hg0 w
    refine ⟨z0, z1, z2, z3, z4, z5, z6, z7, c, fun w => jo_pure1 r0 r1 r2 r3 r4 r5 r6 r7 r8 r9 r10 r11 r12 r13 r14 r15 bd0 bd1 bd2 bd3 bx01 by01 bx02 by02 bx03 by03 bx12 by12 bx13 by13 bx23 by23 hcu KF p1 LO RP w, fun w => rj_pure1 r0 r1 r2 r3 r4 r5 r6 r7 r8 r9 r10 r11 r12 r13 r14 r15 bd0 bd1 bd2 bd3 bx01 by01 bx02 by02 bx03 by03 bx12 by12 bx13 by13 bx23 by23 hb KI p1 hg hg0 RB w, fun hc => ?_⟩
    obtain ⟨⟨t0, t1, t2, t3, t4, t5, t6, t7⟩, ez⟩ := hz hc
    exact ⟨_, _, _, _, _, _, _, _, ez, comes1 hd0 hx01 hy01 hx02 hy02 hx03 hy03 hd1 hx12 hy12 hx13 hy13 hd2 hx23 hy23 hd3 p1 hgp v0 v1 v2 v3 v4 v5 v6 v7 t0 t1 t2 t3 t4 t5 t6 t7⟩
  by_cases p2 : Pure2 d0 d1 d2 d3 x01 y01 x02 y02 x03 y03 x12 y12 x13 y13 x23 y23
  · have hpos := p2.pos
    obtain ⟨g, hg⟩ : ∃ g : Int, g = ((Int.gcd ((Int.gcd ((Int.gcd ((Int.gcd ((Int.gcd ((Int.gcd ((Int.gcd ((Int.gcd 0 x02 : Nat) : Int) y02 : Nat) : Int) x12 : Nat) : Int) y12 : Nat) : Int) d2 : Nat) : Int) 0 : Nat) : Int) x23 : Nat) : Int) (0 - y23) : Nat) : Int) := ⟨_, rfl⟩
    obtain ⟨v0, v1, v2, v3, v4, v5, v6, v7⟩ := dvd_all hg
    have hg0 : g ≠ 0 := by intro h; rw [h, Int.zero_mul] at v4; omega
    have hgp : 0 < g := by have : 0 ≤ g := by rw [hg]; exact Int.natCast_nonneg _
                           omega
    obtain ⟨z0, z1, z2, z3, z4, z5, z6, z7, c, RP, RB, hz⟩ := res_any (n0 := (x02).tdiv g) (n1 := (y02).tdiv g) (n2 := (x12).tdiv g) (n3 := (y12).tdiv g) (n4 := (d2).tdiv g) (n5 := ((0 : Int)).tdiv g) (n6 := (x23).tdiv g) (n7 := ((0 - y23)).tdiv g) (tdiv_bd (g := g) (a := x02) (M := 40000000) ⟨by omega, by omega⟩) (tdiv_bd (g := g) (a := y02) (M := 40000000) ⟨by omega, by omega⟩) (tdiv_bd (g := g) (a := x12) (M := 40000000) ⟨by omega, by omega⟩) (tdiv_bd (g := g) (a := y12) (M := 40000000) ⟨by omega, by omega⟩) (tdiv_bd (g := g) (a := d2) (M := 40000000) ⟨by omega, by omega⟩) (tdiv_bd (g := g) (a := (0 : Int)) (M := 40000000) ⟨by omega, by omega⟩) (tdiv_bd (g := g) (a := x23) (M := 40000000) ⟨by omega, by omega⟩) (tdiv_bd (g := g) (a := (0 - y23)) (M := 40000000) ⟨by omega, by omega⟩)
    have LO := fun w => low_c (A0 := x02) (A1 := y02) (B0 := x12) (B1 := y12) (C0 := d2) (C1 := (0 : Int)) (D0 := x23) (D1 := (0 - y23)) (g := g) ⟨by omega, by omega⟩ ⟨by omega, by omega⟩ ⟨by omega, by omega⟩ ⟨by omega, by omega⟩ ⟨by omega, by omega⟩ ⟨by omega, by omega⟩ ⟨by omega, by omega⟩ ⟨by omega, by omega⟩ hg hg0 w
    refine ⟨z0, z1, z2, z3, z4, z5, z6, z7, c, fun w => jo_pure2 r0 r1 r2 r3 r4 r5 r6 r7 r8 r9 r10 r11 r12 r13 r14 r15 bd0 bd1 bd2 bd3 bx01 by01 bx02 by02 bx03 by03 bx12 by12 bx13 by13 bx23 by23 hcu KF p2 LO RP w, fun w => rj_pure2 r0 r1 r2 r3 r4 r5 r6 r7 r8 r9 r10 r11 r12 r13 r14 r15 bd0 bd1 bd2 bd3 bx01 by01 bx02 by02 bx03 by03 bx12 by12 bx13 by13 bx23 by23 hb KI p2 hg hg0 RB w, fun hc => ?_⟩
    obtain ⟨⟨t0, t1, t2, t3, t4, t5, t6, t7⟩, ez⟩ := hz hc
    exact ⟨_, _, _, _, _, _, _, _, ez, comes2 hd0 hx01 hy01 hx02 hy02 hx03 hy03 hd1 hx12 hy12 hx13 hy13 hd2 hx23 hy23 hd3 p2 hgp v0 v1 v2 v3 v4 v5 v6 v7 t0 t1 t2 t3 t4 t5 t6 t7⟩
  by_cases p3 : Pure3 d0 d1 d2 d3 x01 y01 x02 y02 x03 y03 x12 y12 x13 y13 x23 y23
  · have hpos := p3.pos
    obtain ⟨g, hg⟩ : ∃ g : Int, g = ((Int.gcd ((Int.gcd ((Int.gcd ((Int.gcd ((Int.gcd ((Int.gcd ((Int.gcd ((Int.gcd 0 x03 : Nat) : Int) y03 : Nat) : Int) x13 : Nat) : Int) y13 : Nat) : Int) x23 : Nat) : Int) y23 : Nat) : Int) d3 : Nat) : Int) 0 : Nat) : Int) := ⟨_, rfl⟩
    obtain ⟨v0, v1, v2, v3, v4, v5, v6, v7⟩ := dvd_all hg
    have hg0 : g ≠ 0 := by intro h; rw [h, Int.zero_mul] at v6; omega
    have hgp : 0 < g := by have : 0 ≤ g := by rw [hg]; exact Int.natCast_nonneg _
                           omega
    obtain ⟨z0, z1, z2, z3, z4, z5, z6, z7, c, RP, RB, hz⟩ := res_any (n0 := (x03).tdiv g) (n1 := (y03).tdiv g) (n2 := (x13).tdiv g) (n3 := (y13).tdiv g) (n4 := (x23).tdiv g) (n5 := (y23).tdiv g) (n6 := (d3).tdiv g) (n7 := ((0 : Int)).tdiv g) (tdiv_bd (g := g) (a := x03) (M := 40000000) ⟨by omega, by omega⟩) (tdiv_bd (g := g) (a := y03) (M := 40000000) ⟨by omega, by omega⟩) (tdiv_bd (g := g) (a := x13) (M := 40000000) ⟨by omega, by omega⟩) (tdiv_bd (g := g) (a := y13) (M := 40000000) ⟨by omega, by omega⟩) (tdiv_bd (g := g) (a := x23) (M := 40000000) ⟨by omega, by omega⟩) (tdiv_bd (g := g) (a := y23) (M := 40000000) ⟨by omega, by omega⟩) (tdiv_bd (g := g) (a := d3) (M := 40000000) ⟨by omega, by omega⟩) (tdiv_bd (g := g) (a := (0 : Int)) (M := 40000000) ⟨by omega, by omega⟩)
    have LO := fun w => low_c (A0 := x03) (A1 := y03) (B0 := x13) (B1 := y13) (C0 := x23) (C1 := y23) (D0 := d3) (D1 := (0 : Int)) (g := g) ⟨by omega, by omega⟩ ⟨by omega, by omega⟩ ⟨by omega, by omega⟩ ⟨by omega, by omega⟩ ⟨by omega, by omega⟩ ⟨by omega, by omega⟩ ⟨by omega, by omega⟩ ⟨by omega, by omega⟩ hg hg0 w
    refine ⟨z0, z1, z2, z3, z4, z5, z6, z7, c, fun w => jo_pure3 r0 r1 r2 r3 r4 r5 r6 r7 r8 r9 r10 r11 r12 r13 r14 r15 bd0 bd1 bd2 bd3 bx01 by01 bx02 by02 bx03 by03 bx12 by12 bx13 by13 bx23 by23 hcu KF p3 LO RP w, fun w => rj_pure3 r0 r1 r2 r3 r4 r5 r6 r7 r8 r9 r10 r11 r12 r13 r14 r15 bd0 bd1 bd2 bd3 bx01 by01 bx02 by02 bx03 by03 bx12 by12 bx13 by13 bx23 by23 hb KI p3 hg hg0 RB w, fun hc => ?_⟩
    obtain ⟨⟨t0, t1, t2, t3, t4, t5, t6, t7⟩, ez⟩ := hz hc
    exact ⟨_, _, _, _, _, _, _, _, ez, comes3 hd0 hx01 hy01 hx02 hy02 hx03 hy03 hd1 hx12 hy12 hx13 hy13 hd2 hx23 hy23 hd3 p3 hgp v0 v1 v2 v3 v4 v5 v6 v7 t0 t1 t2 t3 t4 t5 t6 t7⟩
  exact ⟨0, 0, 0, 0, 0, 0, 0, 0, 17, fun w => jo_none r0 r1 r2 r3 r4 r5 r6 r7 r8 r9 r10 r11 r12 r13 r14 r15 bd0 bd1 bd2 bd3 bx01 by01 bx02 by02 bx03 by03 bx12 by12 bx13 by13 bx23 by23 hcu KF p0 p1 p2 p3 w, fun w => rj_none r0 r1 r2 r3 r4 r5 r6 r7 r8 r9 r10 r11 r12 r13 r14 r15 bd0 bd1 bd2 bd3 bx01 by01 bx02 by02 bx03 by03 bx12 by12 bx13 by13 bx23 by23 hb KI p0 p1 p2 p3 w, fun h => by cases h⟩
theorem sq_bd {x : Int} (h : -1000 ≤ x ∧ x ≤ 1000) : 0 ≤ x * x ∧ x * x ≤ 1000000 := by
  have h1 := sqn x
  have h2 := Int.mul_nonneg (a := 1000 - x) (b := 1000 + x) (by omega) (by omega)
  have e : (1000 - x) * (1000 + x) = 1000000 - x * x := by grind
  omega
theorem same_self (z0 z1 z2 z3 z4 z5 z6 z7 : Nat) (w : World) : Calls Try.prog 36 #[.agg #[.complex .f64 z0 z1, .complex .f64 z2 z3, .complex .f64 z4 z5, .complex .f64 z6 z7], .agg #[.complex .f64 z0 z1, .complex .f64 z2 z3, .complex .f64 z4 z5, .complex .f64 z6 z7]] w fun e w' => e = .returned (.bool true) ∧ Below w.heap.size w w' := by
  refine one_val (jsm (Q := (· = _)) ?_) w
  repeat' (first | exact rfl | exact congrArg Value.bool (beq_self_eq_true _) | apply And.intro | intro _ | fail)
  all_goals (rename_i h; rw [beq_self_eq_true] at h; cases h)
theorem jcp_bad {m0 m1 m2 m3 m4 m5 m6 m7 m8 m9 m10 m11 m12 m13 m14 m15 : Int} (r0 : (-9223372036854775808) ≤ m0 ∧ m0 ≤ 9223372036854775807) (r1 : (-9223372036854775808) ≤ m1 ∧ m1 ≤ 9223372036854775807) (r2 : (-9223372036854775808) ≤ m2 ∧ m2 ≤ 9223372036854775807) (r3 : (-9223372036854775808) ≤ m3 ∧ m3 ≤ 9223372036854775807) (r4 : (-9223372036854775808) ≤ m4 ∧ m4 ≤ 9223372036854775807) (r5 : (-9223372036854775808) ≤ m5 ∧ m5 ≤ 9223372036854775807) (r6 : (-9223372036854775808) ≤ m6 ∧ m6 ≤ 9223372036854775807) (r7 : (-9223372036854775808) ≤ m7 ∧ m7 ≤ 9223372036854775807) (r8 : (-9223372036854775808) ≤ m8 ∧ m8 ≤ 9223372036854775807) (r9 : (-9223372036854775808) ≤ m9 ∧ m9 ≤ 9223372036854775807) (r10 : (-9223372036854775808) ≤ m10 ∧ m10 ≤ 9223372036854775807) (r11 : (-9223372036854775808) ≤ m11 ∧ m11 ≤ 9223372036854775807) (r12 : (-9223372036854775808) ≤ m12 ∧ m12 ≤ 9223372036854775807) (r13 : (-9223372036854775808) ≤ m13 ∧ m13 ≤ 9223372036854775807) (r14 : (-9223372036854775808) ≤ m14 ∧ m14 ≤ 9223372036854775807) (r15 : (-9223372036854775808) ≤ m15 ∧ m15 ≤ 9223372036854775807) (h : ¬ (((-1000000000) ≤ m0 ∧ m0 ≤ 1000000000) ∧ ((-1000000000) ≤ m1 ∧ m1 ≤ 1000000000) ∧ ((-1000000000) ≤ m2 ∧ m2 ≤ 1000000000) ∧ ((-1000000000) ≤ m3 ∧ m3 ≤ 1000000000) ∧ ((-1000000000) ≤ m4 ∧ m4 ≤ 1000000000) ∧ ((-1000000000) ≤ m5 ∧ m5 ≤ 1000000000) ∧ ((-1000000000) ≤ m6 ∧ m6 ≤ 1000000000) ∧ ((-1000000000) ≤ m7 ∧ m7 ≤ 1000000000) ∧ ((-1000000000) ≤ m8 ∧ m8 ≤ 1000000000) ∧ ((-1000000000) ≤ m9 ∧ m9 ≤ 1000000000) ∧ ((-1000000000) ≤ m10 ∧ m10 ≤ 1000000000) ∧ ((-1000000000) ≤ m11 ∧ m11 ≤ 1000000000) ∧ ((-1000000000) ≤ m12 ∧ m12 ≤ 1000000000) ∧ ((-1000000000) ≤ m13 ∧ m13 ≤ 1000000000) ∧ ((-1000000000) ≤ m14 ∧ m14 ≤ 1000000000) ∧ ((-1000000000) ≤ m15 ∧ m15 ≤ 1000000000))) (w : World) : Calls Try.prog 58 #[.agg #[.int .i64 m0, .int .i64 m1, .int .i64 m2, .int .i64 m3, .int .i64 m4, .int .i64 m5, .int .i64 m6, .int .i64 m7, .int .i64 m8, .int .i64 m9, .int .i64 m10, .int .i64 m11, .int .i64 m12, .int .i64 m13, .int .i64 m14, .int .i64 m15]] w fun e w' => e = .returned (.int .i64 2) ∧ Below w.heap.size w w' := by
  refine one_val (jcp r0 r1 r2 r3 r4 r5 r6 r7 r8 r9 r10 r11 r12 r13 r14 r15 (Q := (· = _)) ?_) w
  repeat' (first | exact rfl | apply And.intro | intro _ | fail)
  all_goals simp only [decide_eq_true_eq, decide_eq_false_iff_not] at *
  all_goals (exfalso; apply h; refine ⟨?_, ?_, ?_, ?_, ?_, ?_, ?_, ?_, ?_, ?_, ?_, ?_, ?_, ?_, ?_, ?_⟩ <;> constructor <;> assumption)
theorem jcr_bad {m0 m1 m2 m3 m4 m5 m6 m7 m8 m9 m10 m11 m12 m13 m14 m15 : Int} (r0 : (-9223372036854775808) ≤ m0 ∧ m0 ≤ 9223372036854775807) (r1 : (-9223372036854775808) ≤ m1 ∧ m1 ≤ 9223372036854775807) (r2 : (-9223372036854775808) ≤ m2 ∧ m2 ≤ 9223372036854775807) (r3 : (-9223372036854775808) ≤ m3 ∧ m3 ≤ 9223372036854775807) (r4 : (-9223372036854775808) ≤ m4 ∧ m4 ≤ 9223372036854775807) (r5 : (-9223372036854775808) ≤ m5 ∧ m5 ≤ 9223372036854775807) (r6 : (-9223372036854775808) ≤ m6 ∧ m6 ≤ 9223372036854775807) (r7 : (-9223372036854775808) ≤ m7 ∧ m7 ≤ 9223372036854775807) (r8 : (-9223372036854775808) ≤ m8 ∧ m8 ≤ 9223372036854775807) (r9 : (-9223372036854775808) ≤ m9 ∧ m9 ≤ 9223372036854775807) (r10 : (-9223372036854775808) ≤ m10 ∧ m10 ≤ 9223372036854775807) (r11 : (-9223372036854775808) ≤ m11 ∧ m11 ≤ 9223372036854775807) (r12 : (-9223372036854775808) ≤ m12 ∧ m12 ≤ 9223372036854775807) (r13 : (-9223372036854775808) ≤ m13 ∧ m13 ≤ 9223372036854775807) (r14 : (-9223372036854775808) ≤ m14 ∧ m14 ≤ 9223372036854775807) (r15 : (-9223372036854775808) ≤ m15 ∧ m15 ≤ 9223372036854775807) (h : ¬ (((-1000000000) ≤ m0 ∧ m0 ≤ 1000000000) ∧ ((-1000000000) ≤ m1 ∧ m1 ≤ 1000000000) ∧ ((-1000000000) ≤ m2 ∧ m2 ≤ 1000000000) ∧ ((-1000000000) ≤ m3 ∧ m3 ≤ 1000000000) ∧ ((-1000000000) ≤ m4 ∧ m4 ≤ 1000000000) ∧ ((-1000000000) ≤ m5 ∧ m5 ≤ 1000000000) ∧ ((-1000000000) ≤ m6 ∧ m6 ≤ 1000000000) ∧ ((-1000000000) ≤ m7 ∧ m7 ≤ 1000000000) ∧ ((-1000000000) ≤ m8 ∧ m8 ≤ 1000000000) ∧ ((-1000000000) ≤ m9 ∧ m9 ≤ 1000000000) ∧ ((-1000000000) ≤ m10 ∧ m10 ≤ 1000000000) ∧ ((-1000000000) ≤ m11 ∧ m11 ≤ 1000000000) ∧ ((-1000000000) ≤ m12 ∧ m12 ≤ 1000000000) ∧ ((-1000000000) ≤ m13 ∧ m13 ≤ 1000000000) ∧ ((-1000000000) ≤ m14 ∧ m14 ≤ 1000000000) ∧ ((-1000000000) ≤ m15 ∧ m15 ≤ 1000000000))) (w : World) : Calls Try.prog 57 #[.agg #[.int .i64 m0, .int .i64 m1, .int .i64 m2, .int .i64 m3, .int .i64 m4, .int .i64 m5, .int .i64 m6, .int .i64 m7, .int .i64 m8, .int .i64 m9, .int .i64 m10, .int .i64 m11, .int .i64 m12, .int .i64 m13, .int .i64 m14, .int .i64 m15]] w fun e w' => e = .returned (.int .i64 2) ∧ Below w.heap.size w w' := by
  refine one_val (jcr r0 r1 r2 r3 r4 r5 r6 r7 r8 r9 r10 r11 r12 r13 r14 r15 (Q := (· = _)) ?_) w
  repeat' (first | exact rfl | apply And.intro | intro _ | fail)
  all_goals simp only [decide_eq_true_eq, decide_eq_false_iff_not] at *
  all_goals (exfalso; apply h; refine ⟨?_, ?_, ?_, ?_, ?_, ?_, ?_, ?_, ?_, ?_, ?_, ?_, ?_, ?_, ?_, ?_⟩ <;> constructor <;> assumption)
theorem jcr_ok {m0 m1 m2 m3 m4 m5 m6 m7 m8 m9 m10 m11 m12 m13 m14 m15 : Int} (r0 : (-9223372036854775808) ≤ m0 ∧ m0 ≤ 9223372036854775807) (r1 : (-9223372036854775808) ≤ m1 ∧ m1 ≤ 9223372036854775807) (r2 : (-9223372036854775808) ≤ m2 ∧ m2 ≤ 9223372036854775807) (r3 : (-9223372036854775808) ≤ m3 ∧ m3 ≤ 9223372036854775807) (r4 : (-9223372036854775808) ≤ m4 ∧ m4 ≤ 9223372036854775807) (r5 : (-9223372036854775808) ≤ m5 ∧ m5 ≤ 9223372036854775807) (r6 : (-9223372036854775808) ≤ m6 ∧ m6 ≤ 9223372036854775807) (r7 : (-9223372036854775808) ≤ m7 ∧ m7 ≤ 9223372036854775807) (r8 : (-9223372036854775808) ≤ m8 ∧ m8 ≤ 9223372036854775807) (r9 : (-9223372036854775808) ≤ m9 ∧ m9 ≤ 9223372036854775807) (r10 : (-9223372036854775808) ≤ m10 ∧ m10 ≤ 9223372036854775807) (r11 : (-9223372036854775808) ≤ m11 ∧ m11 ≤ 9223372036854775807) (r12 : (-9223372036854775808) ≤ m12 ∧ m12 ≤ 9223372036854775807) (r13 : (-9223372036854775808) ≤ m13 ∧ m13 ≤ 9223372036854775807) (r14 : (-9223372036854775808) ≤ m14 ∧ m14 ≤ 9223372036854775807) (r15 : (-9223372036854775808) ≤ m15 ∧ m15 ≤ 9223372036854775807) (h : ((-1000000000) ≤ m0 ∧ m0 ≤ 1000000000) ∧ ((-1000000000) ≤ m1 ∧ m1 ≤ 1000000000) ∧ ((-1000000000) ≤ m2 ∧ m2 ≤ 1000000000) ∧ ((-1000000000) ≤ m3 ∧ m3 ≤ 1000000000) ∧ ((-1000000000) ≤ m4 ∧ m4 ≤ 1000000000) ∧ ((-1000000000) ≤ m5 ∧ m5 ≤ 1000000000) ∧ ((-1000000000) ≤ m6 ∧ m6 ≤ 1000000000) ∧ ((-1000000000) ≤ m7 ∧ m7 ≤ 1000000000) ∧ ((-1000000000) ≤ m8 ∧ m8 ≤ 1000000000) ∧ ((-1000000000) ≤ m9 ∧ m9 ≤ 1000000000) ∧ ((-1000000000) ≤ m10 ∧ m10 ≤ 1000000000) ∧ ((-1000000000) ≤ m11 ∧ m11 ≤ 1000000000) ∧ ((-1000000000) ≤ m12 ∧ m12 ≤ 1000000000) ∧ ((-1000000000) ≤ m13 ∧ m13 ≤ 1000000000) ∧ ((-1000000000) ≤ m14 ∧ m14 ≤ 1000000000) ∧ ((-1000000000) ≤ m15 ∧ m15 ≤ 1000000000)) (w : World) : Calls Try.prog 57 #[.agg #[.int .i64 m0, .int .i64 m1, .int .i64 m2, .int .i64 m3, .int .i64 m4, .int .i64 m5, .int .i64 m6, .int .i64 m7, .int .i64 m8, .int .i64 m9, .int .i64 m10, .int .i64 m11, .int .i64 m12, .int .i64 m13, .int .i64 m14, .int .i64 m15]] w fun e w' => e = .returned (.int .i64 0) ∧ Below w.heap.size w w' := by
  obtain ⟨g0, g1, g2, g3, g4, g5, g6, g7, g8, g9, g10, g11, g12, g13, g14, g15⟩ := h
  refine one_val (jcr r0 r1 r2 r3 r4 r5 r6 r7 r8 r9 r10 r11 r12 r13 r14 r15 (Q := (· = _)) ?_) w
  repeat' (first | exact rfl | apply And.intro | intro _ | fail)
  all_goals simp only [decide_eq_true_eq, decide_eq_false_iff_not] at *
  all_goals (exfalso; omega)
set_option maxHeartbeats 8000000 in
theorem backs {m0 m1 m2 m3 m4 m5 m6 m7 m8 m9 m10 m11 m12 m13 m14 m15 : Int} (r0 : (-9223372036854775808) ≤ m0 ∧ m0 ≤ 9223372036854775807) (r1 : (-9223372036854775808) ≤ m1 ∧ m1 ≤ 9223372036854775807) (r2 : (-9223372036854775808) ≤ m2 ∧ m2 ≤ 9223372036854775807) (r3 : (-9223372036854775808) ≤ m3 ∧ m3 ≤ 9223372036854775807) (r4 : (-9223372036854775808) ≤ m4 ∧ m4 ≤ 9223372036854775807) (r5 : (-9223372036854775808) ≤ m5 ∧ m5 ≤ 9223372036854775807) (r6 : (-9223372036854775808) ≤ m6 ∧ m6 ≤ 9223372036854775807) (r7 : (-9223372036854775808) ≤ m7 ∧ m7 ≤ 9223372036854775807) (r8 : (-9223372036854775808) ≤ m8 ∧ m8 ≤ 9223372036854775807) (r9 : (-9223372036854775808) ≤ m9 ∧ m9 ≤ 9223372036854775807) (r10 : (-9223372036854775808) ≤ m10 ∧ m10 ≤ 9223372036854775807) (r11 : (-9223372036854775808) ≤ m11 ∧ m11 ≤ 9223372036854775807) (r12 : (-9223372036854775808) ≤ m12 ∧ m12 ≤ 9223372036854775807) (r13 : (-9223372036854775808) ≤ m13 ∧ m13 ≤ 9223372036854775807) (r14 : (-9223372036854775808) ≤ m14 ∧ m14 ≤ 9223372036854775807) (r15 : (-9223372036854775808) ≤ m15 ∧ m15 ≤ 9223372036854775807) (w : World) : Calls Try.prog 10 #[.agg #[.int .i64 m0, .int .i64 m1, .int .i64 m2, .int .i64 m3, .int .i64 m4, .int .i64 m5, .int .i64 m6, .int .i64 m7, .int .i64 m8, .int .i64 m9, .int .i64 m10, .int .i64 m11, .int .i64 m12, .int .i64 m13, .int .i64 m14, .int .i64 m15]] w fun e w' => e = .returned (.bool true) ∧ Below w.heap.size w w' := by
  by_cases hb : ((-1000000000) ≤ m0 ∧ m0 ≤ 1000000000) ∧ ((-1000000000) ≤ m1 ∧ m1 ≤ 1000000000) ∧ ((-1000000000) ≤ m2 ∧ m2 ≤ 1000000000) ∧ ((-1000000000) ≤ m3 ∧ m3 ≤ 1000000000) ∧ ((-1000000000) ≤ m4 ∧ m4 ≤ 1000000000) ∧ ((-1000000000) ≤ m5 ∧ m5 ≤ 1000000000) ∧ ((-1000000000) ≤ m6 ∧ m6 ≤ 1000000000) ∧ ((-1000000000) ≤ m7 ∧ m7 ≤ 1000000000) ∧ ((-1000000000) ≤ m8 ∧ m8 ≤ 1000000000) ∧ ((-1000000000) ≤ m9 ∧ m9 ≤ 1000000000) ∧ ((-1000000000) ≤ m10 ∧ m10 ≤ 1000000000) ∧ ((-1000000000) ≤ m11 ∧ m11 ≤ 1000000000) ∧ ((-1000000000) ≤ m12 ∧ m12 ≤ 1000000000) ∧ ((-1000000000) ≤ m13 ∧ m13 ≤ 1000000000) ∧ ((-1000000000) ≤ m14 ∧ m14 ≤ 1000000000) ∧ ((-1000000000) ≤ m15 ∧ m15 ≤ 1000000000)
  rotate_left
  · have CP := fun w => jcp_bad r0 r1 r2 r3 r4 r5 r6 r7 r8 r9 r10 r11 r12 r13 r14 r15 hb w
    have CR := fun w => jcr_bad r0 r1 r2 r3 r4 r5 r6 r7 r8 r9 r10 r11 r12 r13 r14 r15 hb w
    have CU := fun w => one_val (jcv r0 r1 r2 r3 r4 r5 r6 r7 r8 r9 r10 r11 r12 r13 r14 r15 (Q := (· = _)) ⟨2, CP, ⟨by omega, by omega⟩, rfl⟩) w
    have JO := fun w => one_val (jp r0 r1 r2 r3 r4 r5 r6 r7 r8 r9 r10 r11 r12 r13 r14 r15 (Q := (· = _)) ⟨2, CU, ⟨by omega, by omega⟩, (fun h => absurd (beq0 h) (by decide)), fun _ => rfl⟩) w
    refine one_val (pbe r0 r1 r2 r3 r4 r5 r6 r7 r8 r9 r10 r11 r12 r13 r14 r15 (Q := (· = _)) ⟨awake, 0, 0, 0, 0, 0, 0, 0, 0, 2, JO, 2, CR, (fun h => absurd (beq0 h) (by decide)), fun _ => ?_⟩) w
    repeat' (first | exact rfl | refine ⟨true, fun w => same_self _ _ _ _ _ _ _ _ w, ?_⟩ | apply And.intro | intro _ | fail)
    all_goals (rename_i h; first | (rw [beq_self_eq_true] at h; cases h; done) | cases h)
  have CR := fun w => jcr_ok r0 r1 r2 r3 r4 r5 r6 r7 r8 r9 r10 r11 r12 r13 r14 r15 hb w
  obtain ⟨q0, q1, q2, q3, q4, q5, q6, q7, q8, q9, q10, q11, q12, q13, q14, q15⟩ := hb
  obtain ⟨z0, z1, z2, z3, z4, z5, z6, z7, c, JP, JR, hj⟩ := jones_any q0 q1 q2 q3 q4 q5 q6 q7 q8 q9 q10 q11 q12 q13 q14 q15
  refine one_val (pbk q0 q1 q2 q3 q4 q5 q6 q7 q8 q9 q10 q11 q12 q13 q14 q15 (Q := (· = _)) ⟨awake, ((z0 : Nat) : Int), ((z1 : Nat) : Int), ((z2 : Nat) : Int), ((z3 : Nat) : Int), ((z4 : Nat) : Int), ((z5 : Nat) : Int), ((z6 : Nat) : Int), ((z7 : Nat) : Int), c, JP, 0, CR, fun _ => ⟨((z0 : Nat) : Int), ((z1 : Nat) : Int), ((z2 : Nat) : Int), ((z3 : Nat) : Int), ((z4 : Nat) : Int), ((z5 : Nat) : Int), ((z6 : Nat) : Int), ((z7 : Nat) : Int), c, JR, fun _ => ⟨true, fun w => same_self _ _ _ _ _ _ _ _ w, fun _ => ⟨fun hc => ?_, fun _ => rfl⟩, (fun h => by cases h)⟩, fun h => absurd (beq_self_eq_true c) (by rw [h]; decide)⟩, fun h => absurd rfl (bne0 h)⟩) w
  obtain ⟨k0, k1, k2, k3, k4, k5, k6, k7, ⟨rfl, rfl, rfl, rfl, rfl, rfl, rfl, rfl⟩, JB⟩ := hj (beq0 hc)
  obtain ⟨N0, hN0⟩ : ∃ N : Int, N = ((((k0 * k0) - (k1 * (0 - k1))) + ((k2 * k2) - (k3 * (0 - k3)))) + (((k4 * k4) - (k5 * (0 - k5))) + ((k6 * k6) - (k7 * (0 - k7))))) := ⟨_, rfl⟩
  obtain ⟨N1, hN1⟩ : ∃ N : Int, N = ((((k0 * k0) - (k1 * (0 - k1))) + ((k2 * ((-1) * k2)) - (k3 * ((-1) * (0 - k3))))) + (((k4 * k4) - (k5 * (0 - k5))) + ((k6 * ((-1) * k6)) - (k7 * ((-1) * (0 - k7)))))) := ⟨_, rfl⟩
  obtain ⟨N2, hN2⟩ : ∃ N : Int, N = ((((k0 * k2) - (k1 * (0 - k3))) + ((k2 * k0) - (k3 * (0 - k1)))) + (((k4 * k6) - (k5 * (0 - k7))) + ((k6 * k4) - (k7 * (0 - k5))))) := ⟨_, rfl⟩
  obtain ⟨N3, hN3⟩ : ∃ N : Int, N = ((((k0 * (0 - ((-1) * (0 - k3)))) - (k1 * ((-1) * k2))) + ((k2 * (0 - (0 - k1))) - (k3 * k0))) + (((k4 * (0 - ((-1) * (0 - k7)))) - (k5 * ((-1) * k6))) + ((k6 * (0 - (0 - k5))) - (k7 * k4)))) := ⟨_, rfl⟩
  obtain ⟨N4, hN4⟩ : ∃ N : Int, N = ((((k0 * k0) - (k1 * (0 - k1))) + ((k2 * k2) - (k3 * (0 - k3)))) + (((((-1) * k4) * k4) - (((-1) * k5) * (0 - k5))) + ((((-1) * k6) * k6) - (((-1) * k7) * (0 - k7))))) := ⟨_, rfl⟩
  obtain ⟨N5, hN5⟩ : ∃ N : Int, N = ((((k0 * k0) - (k1 * (0 - k1))) + ((k2 * ((-1) * k2)) - (k3 * ((-1) * (0 - k3))))) + (((((-1) * k4) * k4) - (((-1) * k5) * (0 - k5))) + ((((-1) * k6) * ((-1) * k6)) - (((-1) * k7) * ((-1) * (0 - k7)))))) := ⟨_, rfl⟩
  obtain ⟨N6, hN6⟩ : ∃ N : Int, N = ((((k0 * k2) - (k1 * (0 - k3))) + ((k2 * k0) - (k3 * (0 - k1)))) + (((((-1) * k4) * k6) - (((-1) * k5) * (0 - k7))) + ((((-1) * k6) * k4) - (((-1) * k7) * (0 - k5))))) := ⟨_, rfl⟩
  obtain ⟨N7, hN7⟩ : ∃ N : Int, N = ((((k0 * (0 - ((-1) * (0 - k3)))) - (k1 * ((-1) * k2))) + ((k2 * (0 - (0 - k1))) - (k3 * k0))) + (((((-1) * k4) * (0 - ((-1) * (0 - k7)))) - (((-1) * k5) * ((-1) * k6))) + ((((-1) * k6) * (0 - (0 - k5))) - (((-1) * k7) * k4)))) := ⟨_, rfl⟩
  obtain ⟨N8, hN8⟩ : ∃ N : Int, N = ((((k4 * k0) - (k5 * (0 - k1))) + ((k6 * k2) - (k7 * (0 - k3)))) + (((k0 * k4) - (k1 * (0 - k5))) + ((k2 * k6) - (k3 * (0 - k7))))) := ⟨_, rfl⟩
  obtain ⟨N9, hN9⟩ : ∃ N : Int, N = ((((k4 * k0) - (k5 * (0 - k1))) + ((k6 * ((-1) * k2)) - (k7 * ((-1) * (0 - k3))))) + (((k0 * k4) - (k1 * (0 - k5))) + ((k2 * ((-1) * k6)) - (k3 * ((-1) * (0 - k7)))))) := ⟨_, rfl⟩
  obtain ⟨N10, hN10⟩ : ∃ N : Int, N = ((((k4 * k2) - (k5 * (0 - k3))) + ((k6 * k0) - (k7 * (0 - k1)))) + (((k0 * k6) - (k1 * (0 - k7))) + ((k2 * k4) - (k3 * (0 - k5))))) := ⟨_, rfl⟩
  obtain ⟨N11, hN11⟩ : ∃ N : Int, N = ((((k4 * (0 - ((-1) * (0 - k3)))) - (k5 * ((-1) * k2))) + ((k6 * (0 - (0 - k1))) - (k7 * k0))) + (((k0 * (0 - ((-1) * (0 - k7)))) - (k1 * ((-1) * k6))) + ((k2 * (0 - (0 - k5))) - (k3 * k4)))) := ⟨_, rfl⟩
  obtain ⟨N12, hN12⟩ : ∃ N : Int, N = (((((0 - ((-1) * k5)) * k0) - (((-1) * k4) * (0 - k1))) + (((0 - ((-1) * k7)) * k2) - (((-1) * k6) * (0 - k3)))) + ((((0 - k1) * k4) - (k0 * (0 - k5))) + (((0 - k3) * k6) - (k2 * (0 - k7))))) := ⟨_, rfl⟩
  obtain ⟨N13, hN13⟩ : ∃ N : Int, N = (((((0 - ((-1) * k5)) * k0) - (((-1) * k4) * (0 - k1))) + (((0 - ((-1) * k7)) * ((-1) * k2)) - (((-1) * k6) * ((-1) * (0 - k3))))) + ((((0 - k1) * k4) - (k0 * (0 - k5))) + (((0 - k3) * ((-1) * k6)) - (k2 * ((-1) * (0 - k7)))))) := ⟨_, rfl⟩
  obtain ⟨N14, hN14⟩ : ∃ N : Int, N = (((((0 - ((-1) * k5)) * k2) - (((-1) * k4) * (0 - k3))) + (((0 - ((-1) * k7)) * k0) - (((-1) * k6) * (0 - k1)))) + ((((0 - k1) * k6) - (k0 * (0 - k7))) + (((0 - k3) * k4) - (k2 * (0 - k5))))) := ⟨_, rfl⟩
  obtain ⟨N15, hN15⟩ : ∃ N : Int, N = (((((0 - ((-1) * k5)) * (0 - ((-1) * (0 - k3)))) - (((-1) * k4) * ((-1) * k2))) + (((0 - ((-1) * k7)) * (0 - (0 - k1))) - (((-1) * k6) * k0))) + ((((0 - k1) * (0 - ((-1) * (0 - k7)))) - (k0 * ((-1) * k6))) + (((0 - k3) * (0 - (0 - k5))) - (k2 * k4)))) := ⟨_, rfl⟩
  have hE0 : N0 = (1) * (k0 * k0 + k1 * k1) + (1) * (k2 * k2 + k3 * k3) + (1) * (k4 * k4 + k5 * k5) + (1) * (k6 * k6 + k7 * k7) := by rw [hN0]; grind
  have hE1 : N1 = (1) * (k0 * k0 + k1 * k1) + (-1) * (k2 * k2 + k3 * k3) + (1) * (k4 * k4 + k5 * k5) + (-1) * (k6 * k6 + k7 * k7) := by rw [hN1]; grind
  have hE2 : N2 = (2) * (k0 * k2 + k1 * k3) + (2) * (k4 * k6 + k5 * k7) := by rw [hN2]; grind
  have hE3 : N3 = (2) * (k1 * k2 - k0 * k3) + (2) * (k5 * k6 - k4 * k7) := by rw [hN3]; grind
  have hE4 : N4 = (1) * (k0 * k0 + k1 * k1) + (1) * (k2 * k2 + k3 * k3) + (-1) * (k4 * k4 + k5 * k5) + (-1) * (k6 * k6 + k7 * k7) := by rw [hN4]; grind
  have hE5 : N5 = (1) * (k0 * k0 + k1 * k1) + (-1) * (k2 * k2 + k3 * k3) + (-1) * (k4 * k4 + k5 * k5) + (1) * (k6 * k6 + k7 * k7) := by rw [hN5]; grind
  have hE6 : N6 = (2) * (k0 * k2 + k1 * k3) + (-2) * (k4 * k6 + k5 * k7) := by rw [hN6]; grind
  have hE7 : N7 = (2) * (k1 * k2 - k0 * k3) + (-2) * (k5 * k6 - k4 * k7) := by rw [hN7]; grind
  have hE8 : N8 = (2) * (k0 * k4 + k1 * k5) + (2) * (k2 * k6 + k3 * k7) := by rw [hN8]; grind
  have hE9 : N9 = (2) * (k0 * k4 + k1 * k5) + (-2) * (k2 * k6 + k3 * k7) := by rw [hN9]; grind
  have hE10 : N10 = (2) * (k0 * k6 + k1 * k7) + (2) * (k2 * k4 + k3 * k5) := by rw [hN10]; grind
  have hE11 : N11 = (2) * (k1 * k6 - k0 * k7) + (-2) * (k3 * k4 - k2 * k5) := by rw [hN11]; grind
  have hE12 : N12 = (-2) * (k1 * k4 - k0 * k5) + (-2) * (k3 * k6 - k2 * k7) := by rw [hN12]; grind
  have hE13 : N13 = (-2) * (k1 * k4 - k0 * k5) + (2) * (k3 * k6 - k2 * k7) := by rw [hN13]; grind
  have hE14 : N14 = (-2) * (k1 * k6 - k0 * k7) + (-2) * (k3 * k4 - k2 * k5) := by rw [hN14]; grind
  have hE15 : N15 = (2) * (k0 * k6 + k1 * k7) + (-2) * (k2 * k4 + k3 * k5) := by rw [hN15]; grind
  have MG := fun w => one_val (jmg JB.b0 JB.b1 JB.b2 JB.b3 JB.b4 JB.b5 JB.b6 JB.b7 (rpn' _) (rpn' _) (rpn' _) (rpn' _) (rpn' _) (rpn' _) (rpn' _) (rpn' _) (Q := (· = _)) rfl) w
  simp only [← hN0, ← hN1, ← hN2, ← hN3, ← hN4, ← hN5, ← hN6, ← hN7, ← hN8, ← hN9, ← hN10, ← hN11, ← hN12, ← hN13, ← hN14, ← hN15] at MG
  have np := JB.npos; rw [← hE0] at np
  have sq0 := sq_bd JB.b0
  have sq1 := sq_bd JB.b1
  have sq2 := sq_bd JB.b2
  have sq3 := sq_bd JB.b3
  have sq4 := sq_bd JB.b4
  have sq5 := sq_bd JB.b5
  have sq6 := sq_bd JB.b6
  have sq7 := sq_bd JB.b7
  have nb : N0 ≤ 8000000 := by rw [hE0]; omega
  have ln0 := JB.l0; rw [← hE0] at ln0
  have ln1 := JB.l1; rw [← hE0, ← hE1] at ln1
  have ln2 := JB.l2; rw [← hE0, ← hE2] at ln2
  have ln3 := JB.l3; rw [← hE0, ← hE3] at ln3
  have ln4 := JB.l4; rw [← hE0, ← hE4] at ln4
  have ln5 := JB.l5; rw [← hE0, ← hE5] at ln5
  have ln6 := JB.l6; rw [← hE0, ← hE6] at ln6
  have ln7 := JB.l7; rw [← hE0, ← hE7] at ln7
  have ln8 := JB.l8; rw [← hE0, ← hE8] at ln8
  have ln9 := JB.l9; rw [← hE0, ← hE9] at ln9
  have ln10 := JB.l10; rw [← hE0, ← hE10] at ln10
  have ln11 := JB.l11; rw [← hE0, ← hE11] at ln11
  have ln12 := JB.l12; rw [← hE0, ← hE12] at ln12
  have ln13 := JB.l13; rw [← hE0, ← hE13] at ln13
  have ln14 := JB.l14; rw [← hE0, ← hE14] at ln14
  have ln15 := JB.l15; rw [← hE0, ← hE15] at ln15
  have en0 := JB.e0; rw [← hE0] at en0
  have en1 := JB.e1; rw [← hE0, ← hE1] at en1
  have en2 := JB.e2; rw [← hE0, ← hE2] at en2
  have en3 := JB.e3; rw [← hE0, ← hE3] at en3
  have en4 := JB.e4; rw [← hE0, ← hE4] at en4
  have en5 := JB.e5; rw [← hE0, ← hE5] at en5
  have en6 := JB.e6; rw [← hE0, ← hE6] at en6
  have en7 := JB.e7; rw [← hE0, ← hE7] at en7
  have en8 := JB.e8; rw [← hE0, ← hE8] at en8
  have en9 := JB.e9; rw [← hE0, ← hE9] at en9
  have en10 := JB.e10; rw [← hE0, ← hE10] at en10
  have en11 := JB.e11; rw [← hE0, ← hE11] at en11
  have en12 := JB.e12; rw [← hE0, ← hE12] at en12
  have en13 := JB.e13; rw [← hE0, ← hE13] at en13
  have en14 := JB.e14; rw [← hE0, ← hE14] at en14
  have en15 := JB.e15; rw [← hE0, ← hE15] at en15
  have mp := JB.mpos
  clear hN0 hE0 hN1 hE1 hN2 hE2 hN3 hE3 hN4 hE4 hN5 hE5 hN6 hE6 hN7 hE7 hN8 hE8 hN9 hE9 hN10 hE10 hN11 hE11 hN12 hE12 hN13 hE13 hN14 hE14 hN15 hE15 sq0 sq1 sq2 sq3 sq4 sq5 sq6 sq7 JB
  have bN0 : (-8000000) ≤ N0 ∧ N0 ≤ 8000000 := by clear ln1 ln2 ln3 ln4 ln5 ln6 ln7 ln8 ln9 ln10 ln11 ln12 ln13 ln14 ln15 en0 en1 en2 en3 en4 en5 en6 en7 en8 en9 en10 en11 en12 en13 en14 en15 q0 q1 q2 q3 q4 q5 q6 q7 q8 q9 q10 q11 q12 q13 q14 q15 r0 r1 r2 r3 r4 r5 r6 r7 r8 r9 r10 r11 r12 r13 r14 r15 MG; omega
  have bN1 : (-8000000) ≤ N1 ∧ N1 ≤ 8000000 := by clear ln0 ln2 ln3 ln4 ln5 ln6 ln7 ln8 ln9 ln10 ln11 ln12 ln13 ln14 ln15 en0 en1 en2 en3 en4 en5 en6 en7 en8 en9 en10 en11 en12 en13 en14 en15 bN0 q0 q1 q2 q3 q4 q5 q6 q7 q8 q9 q10 q11 q12 q13 q14 q15 r0 r1 r2 r3 r4 r5 r6 r7 r8 r9 r10 r11 r12 r13 r14 r15 MG; omega
  have bN2 : (-8000000) ≤ N2 ∧ N2 ≤ 8000000 := by clear ln0 ln1 ln3 ln4 ln5 ln6 ln7 ln8 ln9 ln10 ln11 ln12 ln13 ln14 ln15 en0 en1 en2 en3 en4 en5 en6 en7 en8 en9 en10 en11 en12 en13 en14 en15 bN0 bN1 q0 q1 q2 q3 q4 q5 q6 q7 q8 q9 q10 q11 q12 q13 q14 q15 r0 r1 r2 r3 r4 r5 r6 r7 r8 r9 r10 r11 r12 r13 r14 r15 MG; omega
  have bN3 : (-8000000) ≤ N3 ∧ N3 ≤ 8000000 := by clear ln0 ln1 ln2 ln4 ln5 ln6 ln7 ln8 ln9 ln10 ln11 ln12 ln13 ln14 ln15 en0 en1 en2 en3 en4 en5 en6 en7 en8 en9 en10 en11 en12 en13 en14 en15 bN0 bN1 bN2 q0 q1 q2 q3 q4 q5 q6 q7 q8 q9 q10 q11 q12 q13 q14 q15 r0 r1 r2 r3 r4 r5 r6 r7 r8 r9 r10 r11 r12 r13 r14 r15 MG; omega
  have bN4 : (-8000000) ≤ N4 ∧ N4 ≤ 8000000 := by clear ln0 ln1 ln2 ln3 ln5 ln6 ln7 ln8 ln9 ln10 ln11 ln12 ln13 ln14 ln15 en0 en1 en2 en3 en4 en5 en6 en7 en8 en9 en10 en11 en12 en13 en14 en15 bN0 bN1 bN2 bN3 q0 q1 q2 q3 q4 q5 q6 q7 q8 q9 q10 q11 q12 q13 q14 q15 r0 r1 r2 r3 r4 r5 r6 r7 r8 r9 r10 r11 r12 r13 r14 r15 MG; omega
  have bN5 : (-8000000) ≤ N5 ∧ N5 ≤ 8000000 := by clear ln0 ln1 ln2 ln3 ln4 ln6 ln7 ln8 ln9 ln10 ln11 ln12 ln13 ln14 ln15 en0 en1 en2 en3 en4 en5 en6 en7 en8 en9 en10 en11 en12 en13 en14 en15 bN0 bN1 bN2 bN3 bN4 q0 q1 q2 q3 q4 q5 q6 q7 q8 q9 q10 q11 q12 q13 q14 q15 r0 r1 r2 r3 r4 r5 r6 r7 r8 r9 r10 r11 r12 r13 r14 r15 MG; omega
  have bN6 : (-8000000) ≤ N6 ∧ N6 ≤ 8000000 := by clear ln0 ln1 ln2 ln3 ln4 ln5 ln7 ln8 ln9 ln10 ln11 ln12 ln13 ln14 ln15 en0 en1 en2 en3 en4 en5 en6 en7 en8 en9 en10 en11 en12 en13 en14 en15 bN0 bN1 bN2 bN3 bN4 bN5 q0 q1 q2 q3 q4 q5 q6 q7 q8 q9 q10 q11 q12 q13 q14 q15 r0 r1 r2 r3 r4 r5 r6 r7 r8 r9 r10 r11 r12 r13 r14 r15 MG; omega
  have bN7 : (-8000000) ≤ N7 ∧ N7 ≤ 8000000 := by clear ln0 ln1 ln2 ln3 ln4 ln5 ln6 ln8 ln9 ln10 ln11 ln12 ln13 ln14 ln15 en0 en1 en2 en3 en4 en5 en6 en7 en8 en9 en10 en11 en12 en13 en14 en15 bN0 bN1 bN2 bN3 bN4 bN5 bN6 q0 q1 q2 q3 q4 q5 q6 q7 q8 q9 q10 q11 q12 q13 q14 q15 r0 r1 r2 r3 r4 r5 r6 r7 r8 r9 r10 r11 r12 r13 r14 r15 MG; omega
  have bN8 : (-8000000) ≤ N8 ∧ N8 ≤ 8000000 := by clear ln0 ln1 ln2 ln3 ln4 ln5 ln6 ln7 ln9 ln10 ln11 ln12 ln13 ln14 ln15 en0 en1 en2 en3 en4 en5 en6 en7 en8 en9 en10 en11 en12 en13 en14 en15 bN0 bN1 bN2 bN3 bN4 bN5 bN6 bN7 q0 q1 q2 q3 q4 q5 q6 q7 q8 q9 q10 q11 q12 q13 q14 q15 r0 r1 r2 r3 r4 r5 r6 r7 r8 r9 r10 r11 r12 r13 r14 r15 MG; omega
  have bN9 : (-8000000) ≤ N9 ∧ N9 ≤ 8000000 := by clear ln0 ln1 ln2 ln3 ln4 ln5 ln6 ln7 ln8 ln10 ln11 ln12 ln13 ln14 ln15 en0 en1 en2 en3 en4 en5 en6 en7 en8 en9 en10 en11 en12 en13 en14 en15 bN0 bN1 bN2 bN3 bN4 bN5 bN6 bN7 bN8 q0 q1 q2 q3 q4 q5 q6 q7 q8 q9 q10 q11 q12 q13 q14 q15 r0 r1 r2 r3 r4 r5 r6 r7 r8 r9 r10 r11 r12 r13 r14 r15 MG; omega
  have bN10 : (-8000000) ≤ N10 ∧ N10 ≤ 8000000 := by clear ln0 ln1 ln2 ln3 ln4 ln5 ln6 ln7 ln8 ln9 ln11 ln12 ln13 ln14 ln15 en0 en1 en2 en3 en4 en5 en6 en7 en8 en9 en10 en11 en12 en13 en14 en15 bN0 bN1 bN2 bN3 bN4 bN5 bN6 bN7 bN8 bN9 q0 q1 q2 q3 q4 q5 q6 q7 q8 q9 q10 q11 q12 q13 q14 q15 r0 r1 r2 r3 r4 r5 r6 r7 r8 r9 r10 r11 r12 r13 r14 r15 MG; omega
  have bN11 : (-8000000) ≤ N11 ∧ N11 ≤ 8000000 := by clear ln0 ln1 ln2 ln3 ln4 ln5 ln6 ln7 ln8 ln9 ln10 ln12 ln13 ln14 ln15 en0 en1 en2 en3 en4 en5 en6 en7 en8 en9 en10 en11 en12 en13 en14 en15 bN0 bN1 bN2 bN3 bN4 bN5 bN6 bN7 bN8 bN9 bN10 q0 q1 q2 q3 q4 q5 q6 q7 q8 q9 q10 q11 q12 q13 q14 q15 r0 r1 r2 r3 r4 r5 r6 r7 r8 r9 r10 r11 r12 r13 r14 r15 MG; omega
  have bN12 : (-8000000) ≤ N12 ∧ N12 ≤ 8000000 := by clear ln0 ln1 ln2 ln3 ln4 ln5 ln6 ln7 ln8 ln9 ln10 ln11 ln13 ln14 ln15 en0 en1 en2 en3 en4 en5 en6 en7 en8 en9 en10 en11 en12 en13 en14 en15 bN0 bN1 bN2 bN3 bN4 bN5 bN6 bN7 bN8 bN9 bN10 bN11 q0 q1 q2 q3 q4 q5 q6 q7 q8 q9 q10 q11 q12 q13 q14 q15 r0 r1 r2 r3 r4 r5 r6 r7 r8 r9 r10 r11 r12 r13 r14 r15 MG; omega
  have bN13 : (-8000000) ≤ N13 ∧ N13 ≤ 8000000 := by clear ln0 ln1 ln2 ln3 ln4 ln5 ln6 ln7 ln8 ln9 ln10 ln11 ln12 ln14 ln15 en0 en1 en2 en3 en4 en5 en6 en7 en8 en9 en10 en11 en12 en13 en14 en15 bN0 bN1 bN2 bN3 bN4 bN5 bN6 bN7 bN8 bN9 bN10 bN11 bN12 q0 q1 q2 q3 q4 q5 q6 q7 q8 q9 q10 q11 q12 q13 q14 q15 r0 r1 r2 r3 r4 r5 r6 r7 r8 r9 r10 r11 r12 r13 r14 r15 MG; omega
  have bN14 : (-8000000) ≤ N14 ∧ N14 ≤ 8000000 := by clear ln0 ln1 ln2 ln3 ln4 ln5 ln6 ln7 ln8 ln9 ln10 ln11 ln12 ln13 ln15 en0 en1 en2 en3 en4 en5 en6 en7 en8 en9 en10 en11 en12 en13 en14 en15 bN0 bN1 bN2 bN3 bN4 bN5 bN6 bN7 bN8 bN9 bN10 bN11 bN12 bN13 q0 q1 q2 q3 q4 q5 q6 q7 q8 q9 q10 q11 q12 q13 q14 q15 r0 r1 r2 r3 r4 r5 r6 r7 r8 r9 r10 r11 r12 r13 r14 r15 MG; omega
  have bN15 : (-8000000) ≤ N15 ∧ N15 ≤ 8000000 := by clear ln0 ln1 ln2 ln3 ln4 ln5 ln6 ln7 ln8 ln9 ln10 ln11 ln12 ln13 ln14 en0 en1 en2 en3 en4 en5 en6 en7 en8 en9 en10 en11 en12 en13 en14 en15 bN0 bN1 bN2 bN3 bN4 bN5 bN6 bN7 bN8 bN9 bN10 bN11 bN12 bN13 bN14 q0 q1 q2 q3 q4 q5 q6 q7 q8 q9 q10 q11 q12 q13 q14 q15 r0 r1 r2 r3 r4 r5 r6 r7 r8 r9 r10 r11 r12 r13 r14 r15 MG; omega
  skip
  refine ⟨N0, N1, N2, N3, N4, N5, N6, N7, N8, N9, N10, N11, N12, N13, N14, N15, 0, MG, bN0, bN1, bN2, bN3, bN4, bN5, bN6, bN7, bN8, bN9, bN10, bN11, bN12, bN13, bN14, bN15, fun _ => ?_, fun h => absurd rfl (bne0 h)⟩
  clear MG JP JR CR q0 q1 q2 q3 q4 q5 q6 q7 q8 q9 q10 q11 q12 q13 q14 q15 r0 r1 r2 r3 r4 r5 r6 r7 r8 r9 r10 r11 r12 r13 r14 r15
  refine ⟨fun h => absurd (of_decide_eq_true h) (Int.not_le.mpr np), fun _ => ⟨fun h => absurd (of_decide_eq_true h) (Int.not_le.mpr mp), fun _ => ?_⟩⟩
  refine ⟨beq_iff_eq.mpr en0, ?_⟩
  refine ⟨fun _ => ?_, fun h => absurd ln1.1 (of_decide_eq_false h)⟩
  refine ⟨fun _ => ?_, fun h => absurd ln1.2 (of_decide_eq_false h)⟩
  refine ⟨fun _ => ?_, fun h => absurd en1 (beq_eq_false_iff_ne.mp h)⟩
  refine ⟨fun _ => ?_, fun h => absurd ln2.1 (of_decide_eq_false h)⟩
  refine ⟨fun _ => ?_, fun h => absurd ln2.2 (of_decide_eq_false h)⟩
  refine ⟨fun _ => ?_, fun h => absurd en2 (beq_eq_false_iff_ne.mp h)⟩
  refine ⟨fun _ => ?_, fun h => absurd ln3.1 (of_decide_eq_false h)⟩
  refine ⟨fun _ => ?_, fun h => absurd ln3.2 (of_decide_eq_false h)⟩
  refine ⟨fun _ => ?_, fun h => absurd en3 (beq_eq_false_iff_ne.mp h)⟩
  refine ⟨fun _ => ?_, fun h => absurd ln4.1 (of_decide_eq_false h)⟩
  refine ⟨fun _ => ?_, fun h => absurd ln4.2 (of_decide_eq_false h)⟩
  refine ⟨fun _ => ?_, fun h => absurd en4 (beq_eq_false_iff_ne.mp h)⟩
  refine ⟨fun _ => ?_, fun h => absurd ln5.1 (of_decide_eq_false h)⟩
  refine ⟨fun _ => ?_, fun h => absurd ln5.2 (of_decide_eq_false h)⟩
  refine ⟨fun _ => ?_, fun h => absurd en5 (beq_eq_false_iff_ne.mp h)⟩
  refine ⟨fun _ => ?_, fun h => absurd ln6.1 (of_decide_eq_false h)⟩
  refine ⟨fun _ => ?_, fun h => absurd ln6.2 (of_decide_eq_false h)⟩
  refine ⟨fun _ => ?_, fun h => absurd en6 (beq_eq_false_iff_ne.mp h)⟩
  refine ⟨fun _ => ?_, fun h => absurd ln7.1 (of_decide_eq_false h)⟩
  refine ⟨fun _ => ?_, fun h => absurd ln7.2 (of_decide_eq_false h)⟩
  refine ⟨fun _ => ?_, fun h => absurd en7 (beq_eq_false_iff_ne.mp h)⟩
  refine ⟨fun _ => ?_, fun h => absurd ln8.1 (of_decide_eq_false h)⟩
  refine ⟨fun _ => ?_, fun h => absurd ln8.2 (of_decide_eq_false h)⟩
  refine ⟨fun _ => ?_, fun h => absurd en8 (beq_eq_false_iff_ne.mp h)⟩
  refine ⟨fun _ => ?_, fun h => absurd ln9.1 (of_decide_eq_false h)⟩
  refine ⟨fun _ => ?_, fun h => absurd ln9.2 (of_decide_eq_false h)⟩
  refine ⟨fun _ => ?_, fun h => absurd en9 (beq_eq_false_iff_ne.mp h)⟩
  refine ⟨fun _ => ?_, fun h => absurd ln10.1 (of_decide_eq_false h)⟩
  refine ⟨fun _ => ?_, fun h => absurd ln10.2 (of_decide_eq_false h)⟩
  refine ⟨fun _ => ?_, fun h => absurd en10 (beq_eq_false_iff_ne.mp h)⟩
  refine ⟨fun _ => ?_, fun h => absurd ln11.1 (of_decide_eq_false h)⟩
  refine ⟨fun _ => ?_, fun h => absurd ln11.2 (of_decide_eq_false h)⟩
  refine ⟨fun _ => ?_, fun h => absurd en11 (beq_eq_false_iff_ne.mp h)⟩
  refine ⟨fun _ => ?_, fun h => absurd ln12.1 (of_decide_eq_false h)⟩
  refine ⟨fun _ => ?_, fun h => absurd ln12.2 (of_decide_eq_false h)⟩
  refine ⟨fun _ => ?_, fun h => absurd en12 (beq_eq_false_iff_ne.mp h)⟩
  refine ⟨fun _ => ?_, fun h => absurd ln13.1 (of_decide_eq_false h)⟩
  refine ⟨fun _ => ?_, fun h => absurd ln13.2 (of_decide_eq_false h)⟩
  refine ⟨fun _ => ?_, fun h => absurd en13 (beq_eq_false_iff_ne.mp h)⟩
  refine ⟨fun _ => ?_, fun h => absurd ln14.1 (of_decide_eq_false h)⟩
  refine ⟨fun _ => ?_, fun h => absurd ln14.2 (of_decide_eq_false h)⟩
  refine ⟨fun _ => ?_, fun h => absurd en14 (beq_eq_false_iff_ne.mp h)⟩
  refine ⟨fun _ => ?_, fun h => absurd ln15.1 (of_decide_eq_false h)⟩
  refine ⟨fun _ => ?_, fun h => absurd ln15.2 (of_decide_eq_false h)⟩
  refine ⟨fun _ => ?_, fun h => absurd en15 (beq_eq_false_iff_ne.mp h)⟩
  exact rfl
end Go.Proofs.Ytlondnchmfhenaa.Ev
