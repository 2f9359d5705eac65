/- PolarPlates, the sense of its walk -/
import Derived.Test.YtlondnchmfhenaaPpl
namespace Go.Proofs.Ytlondnchmfhenaa.Ev
set_option linter.unusedSimpArgs false
set_option linter.unusedVariables false
open Go Go.RowKit
set_option maxRecDepth 100000
theorem pl_e0 {f0 f1 f2 t0 t1 t2 : Int} (e2 : t0 * t0 + t1 * t1 = t2 * t2) : (((((t1 * f2) * t0) + ((t0 * f0) * (0 - t1))) * (0 - t1)) + ((((t1 * f2) * (0 - (0 - t1))) + ((t0 * f0) * t0)) * t0)) = (((t2 * t2) * f0) * t0) := by grind
theorem pl_e1 {f0 f1 f2 t0 t1 t2 : Int} (e2 : t0 * t0 + t1 * t1 = t2 * t2) : (((((0 - t1) * f1) * (0 - t1)) * (0 - t1)) + ((((0 - t1) * f1) * t0) * t0)) = (((0 - (t2 * t2)) * f1) * t1) := by grind
theorem pl_e2 {f0 f1 f2 t0 t1 t2 : Int} (e2 : t0 * t0 + t1 * t1 = t2 * t2) : (((((t0 * f2) * t0) + (((0 - t1) * f0) * (0 - t1))) * (0 - t1)) + ((((t0 * f2) * (0 - (0 - t1))) + (((0 - t1) * f0) * t0)) * t0)) = (((0 - (t2 * t2)) * f0) * t1) := by grind
theorem pl_e3 {f0 f1 f2 t0 t1 t2 : Int} (e2 : t0 * t0 + t1 * t1 = t2 * t2) : (((((t1 * f2) * t0) + ((t0 * f0) * (0 - t1))) * t0) + ((((t1 * f2) * (0 - (0 - t1))) + ((t0 * f0) * t0)) * t1)) = (((t2 * t2) * f2) * t1) := by grind
theorem pl_e4 {f0 f1 f2 t0 t1 t2 : Int} (e2 : t0 * t0 + t1 * t1 = t2 * t2) : (((((t0 * f2) * t0) + (((0 - t1) * f0) * (0 - t1))) * t0) + ((((t0 * f2) * (0 - (0 - t1))) + (((0 - t1) * f0) * t0)) * t1)) = (((t2 * t2) * f2) * t0) := by grind
theorem pl_e5 {f0 f1 f2 t0 t1 t2 : Int} (e2 : t0 * t0 + t1 * t1 = t2 * t2) : ((((t0 * f1) * (0 - t1)) * (0 - t1)) + (((t0 * f1) * t0) * t0)) = (((t2 * t2) * f1) * t0) := by grind
set_option maxHeartbeats 4000000 in
theorem plates {f0 f1 f2 t0 t1 t2 : Int} (r0 : (-9223372036854775808) ≤ f0 ∧ f0 ≤ 9223372036854775807) (r1 : (-9223372036854775808) ≤ f1 ∧ f1 ≤ 9223372036854775807) (r2 : (-9223372036854775808) ≤ f2 ∧ f2 ≤ 9223372036854775807) (r3 : (-9223372036854775808) ≤ t0 ∧ t0 ≤ 9223372036854775807) (r4 : (-9223372036854775808) ≤ t1 ∧ t1 ≤ 9223372036854775807) (r5 : (-9223372036854775808) ≤ t2 ∧ t2 ≤ 9223372036854775807) (w : World) :
    Calls Try.prog 6 #[.agg #[.int .i64 f0, .int .i64 f1, .int .i64 f2], .agg #[.int .i64 t0, .int .i64 t1, .int .i64 t2]] w fun e w' => e = .returned (.bool true) ∧ Below w.heap.size w w' := by
  by_cases hs : ((-1000) ≤ f0 ∧ f0 ≤ 1000) ∧ ((-1000) ≤ f1 ∧ f1 ≤ 1000) ∧ ((1) ≤ f2 ∧ f2 ≤ 1000) ∧ ((-1000) ≤ t0 ∧ t0 ≤ 1000) ∧ ((-1000) ≤ t1 ∧ t1 ≤ 1000) ∧ ((1) ≤ t2 ∧ t2 ≤ 1000)
  · obtain ⟨h0, h1, h2, h3, h4, h5⟩ := hs
    refine one_val (px h0 h1 h2 h3 h4 h5 (Q := (· = _)) ⟨awake, ?_⟩) w
    repeat' (first | exact rfl | exact beq_iff_eq.2 (by grind) | apply And.intro | intro _ | fail)
    all_goals simp only [decide_eq_true_eq, decide_eq_false_iff_not, beq_iff_eq, beq_eq_false_iff_ne] at *
    all_goals (have e2 : t0 * t0 + t1 * t1 = t2 * t2 := by assumption
               rename_i h
               first | exact (h (pl_e0 (f0 := f0) (f1 := f1) (f2 := f2) e2)).elim | exact (h (pl_e1 (f0 := f0) (f1 := f1) (f2 := f2) e2)).elim | exact (h (pl_e2 (f0 := f0) (f1 := f1) (f2 := f2) e2)).elim | exact (h (pl_e3 (f0 := f0) (f1 := f1) (f2 := f2) e2)).elim | exact (h (pl_e4 (f0 := f0) (f1 := f1) (f2 := f2) e2)).elim | (rw [pl_e5 (f0 := f0) (f1 := f1) (f2 := f2) e2]; exact congrArg Value.bool (beq_self_eq_true _)) | (exfalso; omega; done))
  · refine one_val (py r0 r1 r2 r3 r4 r5 (Q := (· = _)) ⟨awake, ?_⟩) w
    repeat' (first | exact rfl | apply And.intro | intro _ | fail)
    all_goals simp only [decide_eq_true_eq, decide_eq_false_iff_not] at *
    all_goals (apply hs; refine ⟨⟨by omega, by omega⟩, ⟨by omega, by omega⟩, ⟨by omega, by omega⟩, ⟨by omega, by omega⟩, ⟨by omega, by omega⟩, ⟨by omega, by omega⟩⟩)
end Go.Proofs.Ytlondnchmfhenaa.Ev
