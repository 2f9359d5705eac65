/- PolarMuellers: the sense of its walk. -/
import Derived.Test.YtlondnchmfhenaaPml
import Derived.Test.YtlondnchmfhenaaPmp
import Derived.Test.YtlondnchmfhenaaPmn
namespace Go.Proofs.Ytlondnchmfhenaa.Ev
set_option linter.unusedSimpArgs false
set_option linter.unusedVariables false
open Go Go.RowKit
set_option maxRecDepth 100000
theorem jones_c {a0 a1 b0 b1 c0 c1 d0 d1 : Nat} (h0 : U a0) (h1 : U a1) (h2 : U b0) (h3 : U b1) (h4 : U c0) (h5 : U c1) (h6 : U d0) (h7 : U d1) (w : World) : Calls Try.prog 28 #[.agg #[.complex .f64 a0 a1, .complex .f64 b0 b1, .complex .f64 c0 c1, .complex .f64 d0 d1]] w fun e w' => e = .returned (.int .i64 (maC a0 a1 b0 b1 c0 c1 d0 d1)) ∧ Below w.heap.size w w' := jon_raw h0 h1 h2 h3 h4 h5 h6 h7 w
set_option maxHeartbeats 16000000 in
theorem muellers {a0 a1 b0 b1 c0 c1 d0 d1 : Nat} {m0 m1 m2 m3 m4 m5 m6 m7 m8 m9 m10 m11 m12 m13 m14 m15 n0 n1 n2 n3 n4 n5 n6 n7 n8 n9 n10 n11 n12 n13 n14 n15 s0 s1 s2 s3 : Int} (u0 : U a0) (u1 : U a1) (u2 : U b0) (u3 : U b1) (u4 : U c0) (u5 : U c1) (u6 : U d0) (u7 : U d1) (r8 : (-9223372036854775808) ≤ m0 ∧ m0 ≤ 9223372036854775807) (r9 : (-9223372036854775808) ≤ m1 ∧ m1 ≤ 9223372036854775807) (r10 : (-9223372036854775808) ≤ m2 ∧ m2 ≤ 9223372036854775807) (r11 : (-9223372036854775808) ≤ m3 ∧ m3 ≤ 9223372036854775807) (r12 : (-9223372036854775808) ≤ m4 ∧ m4 ≤ 9223372036854775807) (r13 : (-9223372036854775808) ≤ m5 ∧ m5 ≤ 9223372036854775807) (r14 : (-9223372036854775808) ≤ m6 ∧ m6 ≤ 9223372036854775807) (r15 : (-9223372036854775808) ≤ m7 ∧ m7 ≤ 9223372036854775807) (r16 : (-9223372036854775808) ≤ m8 ∧ m8 ≤ 9223372036854775807) (r17 : (-9223372036854775808) ≤ m9 ∧ m9 ≤ 9223372036854775807) (r18 : (-9223372036854775808) ≤ m10 ∧ m10 ≤ 9223372036854775807) (r19 : (-9223372036854775808) ≤ m11 ∧ m11 ≤ 9223372036854775807) (r20 : (-9223372036854775808) ≤ m12 ∧ m12 ≤ 9223372036854775807) (r21 : (-9223372036854775808) ≤ m13 ∧ m13 ≤ 9223372036854775807) (r22 : (-9223372036854775808) ≤ m14 ∧ m14 ≤ 9223372036854775807) (r23 : (-9223372036854775808) ≤ m15 ∧ m15 ≤ 9223372036854775807) (r24 : (-9223372036854775808) ≤ n0 ∧ n0 ≤ 9223372036854775807) (r25 : (-9223372036854775808) ≤ n1 ∧ n1 ≤ 9223372036854775807) (r26 : (-9223372036854775808) ≤ n2 ∧ n2 ≤ 9223372036854775807) (r27 : (-9223372036854775808) ≤ n3 ∧ n3 ≤ 9223372036854775807) (r28 : (-9223372036854775808) ≤ n4 ∧ n4 ≤ 9223372036854775807) (r29 : (-9223372036854775808) ≤ n5 ∧ n5 ≤ 9223372036854775807) (r30 : (-9223372036854775808) ≤ n6 ∧ n6 ≤ 9223372036854775807) (r31 : (-9223372036854775808) ≤ n7 ∧ n7 ≤ 9223372036854775807) (r32 : (-9223372036854775808) ≤ n8 ∧ n8 ≤ 9223372036854775807) (r33 : (-9223372036854775808) ≤ n9 ∧ n9 ≤ 9223372036854775807) (r34 : (-9223372036854775808) ≤ n10 ∧ n10 ≤ 9223372036854775807) (r35 : (-9223372036854775808) ≤ n11 ∧ n11 ≤ 9223372036854775807) (r36 : (-9223372036854775808) ≤ n12 ∧ n12 ≤ 9223372036854775807) (r37 : (-9223372036854775808) ≤ n13 ∧ n13 ≤ 9223372036854775807) (r38 : (-9223372036854775808) ≤ n14 ∧ n14 ≤ 9223372036854775807) (r39 : (-9223372036854775808) ≤ n15 ∧ n15 ≤ 9223372036854775807) (r40 : (-9223372036854775808) ≤ s0 ∧ s0 ≤ 9223372036854775807) (r41 : (-9223372036854775808) ≤ s1 ∧ s1 ≤ 9223372036854775807) (r42 : (-9223372036854775808) ≤ s2 ∧ s2 ≤ 9223372036854775807) (r43 : (-9223372036854775808) ≤ s3 ∧ s3 ≤ 9223372036854775807) (w : World) : Calls Try.prog 8 #[.agg #[.float .f64 a0, .float .f64 a1, .float .f64 b0, .float .f64 b1, .float .f64 c0, .float .f64 c1, .float .f64 d0, .float .f64 d1], .agg #[.int .i64 m0, .int .i64 m1, .int .i64 m2, .int .i64 m3, .int .i64 m4, .int .i64 m5, .int .i64 m6, .int .i64 m7, .int .i64 m8, .int .i64 m9, .int .i64 m10, .int .i64 m11, .int .i64 m12, .int .i64 m13, .int .i64 m14, .int .i64 m15, .int .i64 n0, .int .i64 n1, .int .i64 n2, .int .i64 n3, .int .i64 n4, .int .i64 n5, .int .i64 n6, .int .i64 n7, .int .i64 n8, .int .i64 n9, .int .i64 n10, .int .i64 n11, .int .i64 n12, .int .i64 n13, .int .i64 n14, .int .i64 n15], .agg #[.int .i64 s0, .int .i64 s1, .int .i64 s2, .int .i64 s3]] w fun e w' => e = .returned (.bool true) ∧ Below w.heap.size w w' := by
  obtain ⟨c, cv, CP, CR, sc1, sc2⟩ := cm_any r8 r9 r10 r11 r12 r13 r14 r15 r16 r17 r18 r19 r20 r21 r22 r23
  obtain ⟨d, dv, DP, DR, sd1, sd2⟩ := cm_any r24 r25 r26 r27 r28 r29 r30 r31 r32 r33 r34 r35 r36 r37 r38 r39
  obtain ⟨f, FP, FR, sf1⟩ := cs_any r40 r41 r42 r43
  obtain ⟨o0, o1, o2, o3, tc, TP, TR, T1, T2⟩ := th_any r8 r9 r10 r11 r12 r13 r14 r15 r16 r17 r18 r19 r20 r21 r22 r23 r40 r41 r42 r43 CP FP sc1 sf1
  obtain ⟨j0, j1, j2, j3, j4, j5, j6, j7, j8, j9, j10, j11, j12, j13, j14, j15, jc, JP, JR, J1, J2⟩ := jo_any r8 r9 r10 r11 r12 r13 r14 r15 r16 r17 r18 r19 r20 r21 r22 r23 r24 r25 r26 r27 r28 r29 r30 r31 r32 r33 r34 r35 r36 r37 r38 r39 CP DP sc1 sd1
  by_cases hm : maC a0 a1 b0 b1 c0 c1 d0 d1 = 0
  · obtain ⟨A0, A1, B0, B1, C0, C1, D0, D1, X0, X1, X2, X3, X4, X5, X6, X7, X8, X9, X10, X11, X12, X13, X14, X15, MU, RM, MR⟩ := mu_good u0 u1 u2 u3 u4 u5 u6 u7 hm
    refine one_val (ml r8 r9 r10 r11 r12 r13 r14 r15 r16 r17 r18 r19 r20 r21 r22 r23 r24 r25 r26 r27 r28 r29 r30 r31 r32 r33 r34 r35 r36 r37 r38 r39 r40 r41 r42 r43 (Q := (· = _)) ⟨awake, X0, X1, X2, X3, X4, X5, X6, X7, X8, X9, X10, X11, X12, X13, X14, X15, 0, MU, A0, A1, B0, B1, C0, C1, D0, D1, 0, RM, ?_⟩) w
    refine ⟨fun _ => ⟨fun _ => ⟨X0, X1, X2, X3, X4, X5, X6, X7, X8, X9, X10, X11, X12, X13, X14, X15, MR, ?_⟩, fun g => absurd rfl (bne0 g)⟩, fun g => absurd rfl (bne0 g)⟩
    refine ⟨fun _ => ?_, fun g => absurd (beq_self_eq_true X0) (by rw [g]; decide)⟩
    refine ⟨fun _ => ?_, fun g => absurd (beq_self_eq_true X1) (by rw [g]; decide)⟩
    refine ⟨fun _ => ?_, fun g => absurd (beq_self_eq_true X2) (by rw [g]; decide)⟩
    refine ⟨fun _ => ?_, fun g => absurd (beq_self_eq_true X3) (by rw [g]; decide)⟩
    refine ⟨fun _ => ?_, fun g => absurd (beq_self_eq_true X4) (by rw [g]; decide)⟩
    refine ⟨fun _ => ?_, fun g => absurd (beq_self_eq_true X5) (by rw [g]; decide)⟩
    refine ⟨fun _ => ?_, fun g => absurd (beq_self_eq_true X6) (by rw [g]; decide)⟩
    refine ⟨fun _ => ?_, fun g => absurd (beq_self_eq_true X7) (by rw [g]; decide)⟩
    refine ⟨fun _ => ?_, fun g => absurd (beq_self_eq_true X8) (by rw [g]; decide)⟩
    refine ⟨fun _ => ?_, fun g => absurd (beq_self_eq_true X9) (by rw [g]; decide)⟩
    refine ⟨fun _ => ?_, fun g => absurd (beq_self_eq_true X10) (by rw [g]; decide)⟩
    refine ⟨fun _ => ?_, fun g => absurd (beq_self_eq_true X11) (by rw [g]; decide)⟩
    refine ⟨fun _ => ?_, fun g => absurd (beq_self_eq_true X12) (by rw [g]; decide)⟩
    refine ⟨fun _ => ?_, fun g => absurd (beq_self_eq_true X13) (by rw [g]; decide)⟩
    refine ⟨fun _ => ?_, fun g => absurd (beq_self_eq_true X14) (by rw [g]; decide)⟩
    refine ⟨fun _ => ?_, fun g => absurd (beq_self_eq_true X15) (by rw [g]; decide)⟩
    refine ⟨o0, o1, o2, o3, tc, TP, j0, j1, j2, j3, j4, j5, j6, j7, j8, j9, j10, j11, j12, j13, j14, j15, jc, JP, c, CR, c, CP, ?_⟩
    refine ⟨fun _ => ⟨fun g => ?_, fun g => ?_⟩, fun g => absurd (beq_self_eq_true c) (by rw [g]; decide)⟩
    · have zc := beq0 g
      refine ⟨f, FR, fun g2 => ?_, fun g2 => ?_⟩
      · have zf := beq0 g2; have TT := TR zc zf
        refine ⟨o0, o1, o2, o3, tc, TT, d, DR, fun g3 => ?_, fun g3 => ?_⟩
        · have zd := beq0 g3; have JJ := JR zc zd
          refine ⟨j0, j1, j2, j3, j4, j5, j6, j7, j8, j9, j10, j11, j12, j13, j14, j15, jc, JJ, ?_⟩
          (repeat' (first | exact rfl | (simp only [beq_self_eq_true, Bool.and_self]; done) | (simp only [beq_self_eq_true, Bool.and_self, Bool.and_true]; exact rfl) | apply And.intro | intro _ | fail)); all_goals (rename_i h; rw [beq_self_eq_true] at h; cases h)
        · obtain ⟨⟨rfl, rfl, rfl, rfl, rfl, rfl, rfl, rfl, rfl, rfl, rfl, rfl, rfl, rfl, rfl, rfl⟩, rfl⟩ := J2 zc (bne0 g3)
          (repeat' (first | exact rfl | (simp only [beq_self_eq_true, Bool.and_self]; done) | (simp only [beq_self_eq_true, Bool.and_self, Bool.and_true]; exact rfl) | apply And.intro | intro _ | fail)); all_goals (rename_i h; rw [beq_self_eq_true] at h; cases h)
      · obtain ⟨⟨rfl, rfl, rfl, rfl⟩, rfl⟩ := T2 zc (bne0 g2)
        refine ⟨d, DR, fun g3 => ?_, fun g3 => ?_⟩
        · have zd := beq0 g3; have JJ := JR zc zd
          refine ⟨j0, j1, j2, j3, j4, j5, j6, j7, j8, j9, j10, j11, j12, j13, j14, j15, jc, JJ, ?_⟩
          (repeat' (first | exact rfl | (simp only [beq_self_eq_true, Bool.and_self]; done) | (simp only [beq_self_eq_true, Bool.and_self, Bool.and_true]; exact rfl) | apply And.intro | intro _ | fail)); all_goals (rename_i h; rw [beq_self_eq_true] at h; cases h)
        · obtain ⟨⟨rfl, rfl, rfl, rfl, rfl, rfl, rfl, rfl, rfl, rfl, rfl, rfl, rfl, rfl, rfl, rfl⟩, rfl⟩ := J2 zc (bne0 g3)
          (repeat' (first | exact rfl | (simp only [beq_self_eq_true, Bool.and_self]; done) | (simp only [beq_self_eq_true, Bool.and_self, Bool.and_true]; exact rfl) | apply And.intro | intro _ | fail)); all_goals (rename_i h; rw [beq_self_eq_true] at h; cases h)
    · obtain ⟨⟨rfl, rfl, rfl, rfl⟩, rfl⟩ := T1 (bne0 g)
      obtain ⟨⟨rfl, rfl, rfl, rfl, rfl, rfl, rfl, rfl, rfl, rfl, rfl, rfl, rfl, rfl, rfl, rfl⟩, eq⟩ := J1 (bne0 g)
      subst eq
      (repeat' (first | exact rfl | (simp only [beq_self_eq_true, Bool.and_self]; done) | (simp only [beq_self_eq_true, Bool.and_self, Bool.and_true]; exact rfl) | apply And.intro | intro _ | fail)); all_goals (rename_i h; rw [beq_self_eq_true] at h; cases h)
  · have MU : (∀ w, Calls Try.prog 53 #[.agg #[.complex .f64 a0 a1, .complex .f64 b0 b1, .complex .f64 c0 c1, .complex .f64 d0 d1]] w fun e w' => e = .returned (.tuple #[.agg #[.int .i64 0, .int .i64 0, .int .i64 0, .int .i64 0, .int .i64 0, .int .i64 0, .int .i64 0, .int .i64 0, .int .i64 0, .int .i64 0, .int .i64 0, .int .i64 0, .int .i64 0, .int .i64 0, .int .i64 0, .int .i64 0], .int .i64 (maC a0 a1 b0 b1 c0 c1 d0 d1)]) ∧ Below w.heap.size w w') := fun w => one_val (mb (Q := (· = _)) ⟨_, fun w => jon_raw u0 u1 u2 u3 u4 u5 u6 u7 w, rng_ma hm, rfl⟩) w
    have RM := fun w => matrix_bad u0 u1 u2 u3 u4 u5 u6 u7 hm w
    generalize maC a0 a1 b0 b1 c0 c1 d0 d1 = mc at *
    refine one_val (ml r8 r9 r10 r11 r12 r13 r14 r15 r16 r17 r18 r19 r20 r21 r22 r23 r24 r25 r26 r27 r28 r29 r30 r31 r32 r33 r34 r35 r36 r37 r38 r39 r40 r41 r42 r43 (Q := (· = _)) ⟨awake, 0, 0, 0, 0, 0, 0, 0, 0, 0, 0, 0, 0, 0, 0, 0, 0, mc, MU, 0, 0, 0, 0, 0, 0, 0, 0, mc, RM, ?_⟩) w
    refine ⟨fun g => absurd (beq0 g) hm, fun _ => ⟨fun _ => ?_, fun g => absurd (beq_self_eq_true mc) (by rw [g]; decide)⟩⟩
    refine ⟨fun _ => ?_, fun g => absurd rfl (bne0 g)⟩
    refine ⟨fun _ => ?_, fun g => absurd rfl (bne0 g)⟩
    refine ⟨fun _ => ?_, fun g => absurd rfl (bne0 g)⟩
    refine ⟨fun _ => ?_, fun g => absurd rfl (bne0 g)⟩
    refine ⟨fun _ => ?_, fun g => absurd rfl (bne0 g)⟩
    refine ⟨fun _ => ?_, fun g => absurd rfl (bne0 g)⟩
    refine ⟨fun _ => ?_, fun g => absurd rfl (bne0 g)⟩
    refine ⟨fun _ => ?_, fun g => absurd rfl (bne0 g)⟩
    refine ⟨fun _ => ?_, fun g => absurd rfl (bne0 g)⟩
    refine ⟨fun _ => ?_, fun g => absurd rfl (bne0 g)⟩
    refine ⟨fun _ => ?_, fun g => absurd rfl (bne0 g)⟩
    refine ⟨fun _ => ?_, fun g => absurd rfl (bne0 g)⟩
    refine ⟨fun _ => ?_, fun g => absurd rfl (bne0 g)⟩
    refine ⟨fun _ => ?_, fun g => absurd rfl (bne0 g)⟩
    refine ⟨fun _ => ?_, fun g => absurd rfl (bne0 g)⟩
    refine ⟨fun _ => ?_, fun g => absurd rfl (bne0 g)⟩
    refine ⟨o0, o1, o2, o3, tc, TP, j0, j1, j2, j3, j4, j5, j6, j7, j8, j9, j10, j11, j12, j13, j14, j15, jc, JP, c, CR, c, CP, ?_⟩
    refine ⟨fun _ => ⟨fun g => ?_, fun g => ?_⟩, fun g => absurd (beq_self_eq_true c) (by rw [g]; decide)⟩
    · have zc := beq0 g
      refine ⟨f, FR, fun g2 => ?_, fun g2 => ?_⟩
      · have zf := beq0 g2; have TT := TR zc zf
        refine ⟨o0, o1, o2, o3, tc, TT, d, DR, fun g3 => ?_, fun g3 => ?_⟩
        · have zd := beq0 g3; have JJ := JR zc zd
          refine ⟨j0, j1, j2, j3, j4, j5, j6, j7, j8, j9, j10, j11, j12, j13, j14, j15, jc, JJ, ?_⟩
          (repeat' (first | exact rfl | (simp only [beq_self_eq_true, Bool.and_self]; done) | (simp only [beq_self_eq_true, Bool.and_self, Bool.and_true]; exact rfl) | apply And.intro | intro _ | fail)); all_goals (rename_i h; rw [beq_self_eq_true] at h; cases h)
        · obtain ⟨⟨rfl, rfl, rfl, rfl, rfl, rfl, rfl, rfl, rfl, rfl, rfl, rfl, rfl, rfl, rfl, rfl⟩, rfl⟩ := J2 zc (bne0 g3)
          (repeat' (first | exact rfl | (simp only [beq_self_eq_true, Bool.and_self]; done) | (simp only [beq_self_eq_true, Bool.and_self, Bool.and_true]; exact rfl) | apply And.intro | intro _ | fail)); all_goals (rename_i h; rw [beq_self_eq_true] at h; cases h)
      · obtain ⟨⟨rfl, rfl, rfl, rfl⟩, rfl⟩ := T2 zc (bne0 g2)
        refine ⟨d, DR, fun g3 => ?_, fun g3 => ?_⟩
        · have zd := beq0 g3; have JJ := JR zc zd
          refine ⟨j0, j1, j2, j3, j4, j5, j6, j7, j8, j9, j10, j11, j12, j13, j14, j15, jc, JJ, ?_⟩
          (repeat' (first | exact rfl | (simp only [beq_self_eq_true, Bool.and_self]; done) | (simp only [beq_self_eq_true, Bool.and_self, Bool.and_true]; exact rfl) | apply And.intro | intro _ | fail)); all_goals (rename_i h; rw [beq_self_eq_true] at h; cases h)
        · obtain ⟨⟨rfl, rfl, rfl, rfl, rfl, rfl, rfl, rfl, rfl, rfl, rfl, rfl, rfl, rfl, rfl, rfl⟩, rfl⟩ := J2 zc (bne0 g3)
          (repeat' (first | exact rfl | (simp only [beq_self_eq_true, Bool.and_self]; done) | (simp only [beq_self_eq_true, Bool.and_self, Bool.and_true]; exact rfl) | apply And.intro | intro _ | fail)); all_goals (rename_i h; rw [beq_self_eq_true] at h; cases h)
    · obtain ⟨⟨rfl, rfl, rfl, rfl⟩, rfl⟩ := T1 (bne0 g)
      obtain ⟨⟨rfl, rfl, rfl, rfl, rfl, rfl, rfl, rfl, rfl, rfl, rfl, rfl, rfl, rfl, rfl, rfl⟩, eq⟩ := J1 (bne0 g)
      subst eq
      (repeat' (first | exact rfl | (simp only [beq_self_eq_true, Bool.and_self]; done) | (simp only [beq_self_eq_true, Bool.and_self, Bool.and_true]; exact rfl) | apply And.intro | intro _ | fail)); all_goals (rename_i h; rw [beq_self_eq_true] at h; cases h)
end Go.Proofs.Ytlondnchmfhenaa.Ev
