/- PolarBothWays, the sense of its walk -/
import Derived.Test.YtlondnchmfhenaaPbw
import Derived.Test.YtlondnchmfhenaaPbd
namespace Go.Proofs.Ytlondnchmfhenaa.Ev
set_option linter.unusedSimpArgs false
set_option linter.unusedVariables false
open Go Go.RowKit
set_option maxRecDepth 100000
theorem sq_nn (a : Int) : 0 ≤ a * a := by
  rcases Int.le_total 0 a with h | h
  · exact Int.mul_nonneg h h
  · exact Int.mul_nonneg_of_nonpos_of_nonpos h h
theorem through_c {m0 m1 m2 m3 m4 m5 m6 m7 m8 m9 m10 m11 m12 m13 m14 m15 s0 s1 s2 s3 : Int} (gm0 : (-800) ≤ m0 ∧ m0 ≤ 800) (gm1 : (-800) ≤ m1 ∧ m1 ≤ 800) (gm2 : (-800) ≤ m2 ∧ m2 ≤ 800) (gm3 : (-800) ≤ m3 ∧ m3 ≤ 800) (gm4 : (-800) ≤ m4 ∧ m4 ≤ 800) (gm5 : (-800) ≤ m5 ∧ m5 ≤ 800) (gm6 : (-800) ≤ m6 ∧ m6 ≤ 800) (gm7 : (-800) ≤ m7 ∧ m7 ≤ 800) (gm8 : (-800) ≤ m8 ∧ m8 ≤ 800) (gm9 : (-800) ≤ m9 ∧ m9 ≤ 800) (gm10 : (-800) ≤ m10 ∧ m10 ≤ 800) (gm11 : (-800) ≤ m11 ∧ m11 ≤ 800) (gm12 : (-800) ≤ m12 ∧ m12 ≤ 800) (gm13 : (-800) ≤ m13 ∧ m13 ≤ 800) (gm14 : (-800) ≤ m14 ∧ m14 ≤ 800) (gm15 : (-800) ≤ m15 ∧ m15 ≤ 800) (gs0 : (-400) ≤ s0 ∧ s0 ≤ 400) (gs1 : (-400) ≤ s1 ∧ s1 ≤ 400) (gs2 : (-400) ≤ s2 ∧ s2 ≤ 400) (gs3 : (-400) ≤ s3 ∧ s3 ≤ 400) (h0 : 0 ≤ s0) (h1 : s1 * s1 + s2 * s2 + s3 * s3 = s0 * s0) (w : World) : Calls Try.prog 55 #[.agg #[.int .i64 m0, .int .i64 m1, .int .i64 m2, .int .i64 m3, .int .i64 m4, .int .i64 m5, .int .i64 m6, .int .i64 m7, .int .i64 m8, .int .i64 m9, .int .i64 m10, .int .i64 m11, .int .i64 m12, .int .i64 m13, .int .i64 m14, .int .i64 m15], .agg #[.int .i64 s0, .int .i64 s1, .int .i64 s2, .int .i64 s3]] w fun e w' => e = .returned (.tuple #[.agg #[.int .i64 ((((m0 * s0) + (m1 * s1)) + (m2 * s2)) + (m3 * s3)), .int .i64 ((((m4 * s0) + (m5 * s1)) + (m6 * s2)) + (m7 * s3)), .int .i64 ((((m8 * s0) + (m9 * s1)) + (m10 * s2)) + (m11 * s3)), .int .i64 ((((m12 * s0) + (m13 * s1)) + (m14 * s2)) + (m15 * s3))], .int .i64 0]) ∧ Below w.heap.size w w' := by
  refine one_val (th gm0 gm1 gm2 gm3 gm4 gm5 gm6 gm7 gm8 gm9 gm10 gm11 gm12 gm13 gm14 gm15 gs0 gs1 gs2 gs3 (Q := (· = _)) ⟨fun _ => ⟨fun _ => rfl, fun h => ?_⟩, fun h => ?_⟩) w
  · have h := of_decide_eq_false h; omega
  · have h := of_decide_eq_false h; omega
theorem degree_c {s0 s1 s2 s3 : Int} (gs0 : (-400) ≤ s0 ∧ s0 ≤ 400) (gs1 : (-400) ≤ s1 ∧ s1 ≤ 400) (gs2 : (-400) ≤ s2 ∧ s2 ≤ 400) (gs3 : (-400) ≤ s3 ∧ s3 ≤ 400) (h0 : 0 ≤ s0) (h1 : s1 * s1 + s2 * s2 + s3 * s3 = s0 * s0) : ∃ d0 d1 c : Int, (s0 = 0 → c = 9) ∧ (s0 ≠ 0 → d0 = 1 ∧ d1 = 1 ∧ c = 0) ∧ ∀ w, Calls Try.prog 48 #[.agg #[.int .i64 s0, .int .i64 s1, .int .i64 s2, .int .i64 s3]] w fun e w' => e = .returned (.tuple #[.agg #[.int .i64 d0, .int .i64 d1], .int .i64 c]) ∧ Below w.heap.size w w' := by
  by_cases hz : s0 = 0
  · refine ⟨0, 0, 9, fun _ => rfl, fun h => absurd hz h, fun w => ?_⟩
    refine one_val (dg gs0 gs1 gs2 gs3 (Q := (· = _)) ⟨fun _ => ⟨fun _ => ⟨fun _ => rfl, fun h => ?_⟩, fun h => ?_⟩, fun h => ?_⟩) w
    · simp [hz] at h
    · have h := of_decide_eq_false h; omega
    · have h := of_decide_eq_false h; omega
  · refine ⟨1, 1, 0, fun h => absurd h hz, fun _ => ⟨rfl, rfl, rfl⟩, fun w => ?_⟩
    have hp : 1 ≤ s0 * s0 := Int.mul_pos (show 0 < s0 by omega) (show 0 < s0 by omega)
    have hb := (pr_bd (K := 400) gs0 gs0).2
    have F := fun w => frac_lowest (n := s0 * s0) (d := s0 * s0) ⟨by omega, by omega⟩ ⟨by omega, by omega⟩ w
    have e1 : s0 * s0 / ((Int.gcd (s0 * s0) (s0 * s0) : Nat) : Int) = 1 := by
      rw [Int.gcd_self, Int.natAbs_of_nonneg (by omega)]; exact Int.ediv_self (by omega)
    rw [e1] at F
    refine one_val (dg gs0 gs1 gs2 gs3 (Q := (· = _)) ⟨fun _ => ⟨fun _ => ⟨fun h => ?_, fun _ => ⟨1, 1, ?_, fun _ => ⟨fun _ => ⟨fun _ => ⟨fun _ => rfl, fun h => ?_⟩, fun h => ?_⟩, fun h => ?_⟩, fun h => ?_⟩⟩, fun h => ?_⟩, fun h => ?_⟩) w
    · simp at h; exact absurd h hz
    · rw [h1]; exact F
    all_goals first | (have h := of_decide_eq_false h; omega) | (simp at h; done)
set_option maxHeartbeats 8000000 in
theorem both {a0 a1 a2 a3 a4 a5 a6 a7 b0 b1 b2 b3 b4 b5 b6 b7 v0 v1 v2 v3 : Int} (ra0 : (-9223372036854775808) ≤ a0 ∧ a0 ≤ 9223372036854775807) (ra1 : (-9223372036854775808) ≤ a1 ∧ a1 ≤ 9223372036854775807) (ra2 : (-9223372036854775808) ≤ a2 ∧ a2 ≤ 9223372036854775807) (ra3 : (-9223372036854775808) ≤ a3 ∧ a3 ≤ 9223372036854775807) (ra4 : (-9223372036854775808) ≤ a4 ∧ a4 ≤ 9223372036854775807) (ra5 : (-9223372036854775808) ≤ a5 ∧ a5 ≤ 9223372036854775807) (ra6 : (-9223372036854775808) ≤ a6 ∧ a6 ≤ 9223372036854775807) (ra7 : (-9223372036854775808) ≤ a7 ∧ a7 ≤ 9223372036854775807) (rb0 : (-9223372036854775808) ≤ b0 ∧ b0 ≤ 9223372036854775807) (rb1 : (-9223372036854775808) ≤ b1 ∧ b1 ≤ 9223372036854775807) (rb2 : (-9223372036854775808) ≤ b2 ∧ b2 ≤ 9223372036854775807) (rb3 : (-9223372036854775808) ≤ b3 ∧ b3 ≤ 9223372036854775807) (rb4 : (-9223372036854775808) ≤ b4 ∧ b4 ≤ 9223372036854775807) (rb5 : (-9223372036854775808) ≤ b5 ∧ b5 ≤ 9223372036854775807) (rb6 : (-9223372036854775808) ≤ b6 ∧ b6 ≤ 9223372036854775807) (rb7 : (-9223372036854775808) ≤ b7 ∧ b7 ≤ 9223372036854775807) (rv0 : (-9223372036854775808) ≤ v0 ∧ v0 ≤ 9223372036854775807) (rv1 : (-9223372036854775808) ≤ v1 ∧ v1 ≤ 9223372036854775807) (rv2 : (-9223372036854775808) ≤ v2 ∧ v2 ≤ 9223372036854775807) (rv3 : (-9223372036854775808) ≤ v3 ∧ v3 ≤ 9223372036854775807) (w : World) :
    Calls Try.prog 9 #[.agg #[.int .i64 a0, .int .i64 a1, .int .i64 a2, .int .i64 a3, .int .i64 a4, .int .i64 a5, .int .i64 a6, .int .i64 a7], .agg #[.int .i64 b0, .int .i64 b1, .int .i64 b2, .int .i64 b3, .int .i64 b4, .int .i64 b5, .int .i64 b6, .int .i64 b7], .agg #[.int .i64 v0, .int .i64 v1, .int .i64 v2, .int .i64 v3]] w fun e w' => e = .returned (.bool true) ∧ Below w.heap.size w w' := by
  by_cases hs : ((-10) ≤ a0 ∧ a0 ≤ 10) ∧ ((-10) ≤ a1 ∧ a1 ≤ 10) ∧ ((-10) ≤ a2 ∧ a2 ≤ 10) ∧ ((-10) ≤ a3 ∧ a3 ≤ 10) ∧ ((-10) ≤ a4 ∧ a4 ≤ 10) ∧ ((-10) ≤ a5 ∧ a5 ≤ 10) ∧ ((-10) ≤ a6 ∧ a6 ≤ 10) ∧ ((-10) ≤ a7 ∧ a7 ≤ 10) ∧ ((-10) ≤ b0 ∧ b0 ≤ 10) ∧ ((-10) ≤ b1 ∧ b1 ≤ 10) ∧ ((-10) ≤ b2 ∧ b2 ≤ 10) ∧ ((-10) ≤ b3 ∧ b3 ≤ 10) ∧ ((-10) ≤ b4 ∧ b4 ≤ 10) ∧ ((-10) ≤ b5 ∧ b5 ≤ 10) ∧ ((-10) ≤ b6 ∧ b6 ≤ 10) ∧ ((-10) ≤ b7 ∧ b7 ≤ 10) ∧ ((-10) ≤ v0 ∧ v0 ≤ 10) ∧ ((-10) ≤ v1 ∧ v1 ≤ 10) ∧ ((-10) ≤ v2 ∧ v2 ≤ 10) ∧ ((-10) ≤ v3 ∧ v3 ≤ 10)
  · obtain ⟨ha0, ha1, ha2, ha3, ha4, ha5, ha6, ha7, hb0, hb1, hb2, hb3, hb4, hb5, hb6, hb7, hv0, hv1, hv2, hv3⟩ := hs
    obtain ⟨x0, x1, x2, x3, ⟨ex0, ex1, ex2, ex3⟩, ⟨lx0, kx0, lx1, kx1, lx2, kx2, lx3, kx3⟩, P⟩ := pass_c ha0 ha1 ha2 ha3 ha4 ha5 ha6 ha7 hv0 hv1 hv2 hv3
    obtain ⟨s0, s1, s2, s3, ⟨es0, es1, es2, es3⟩, ⟨ls0, ks0, ls1, ks1, ls2, ks2, ls3, ks3⟩, S⟩ := stokes_c hv0 hv1 hv2 hv3
    obtain ⟨t0, t1, t2, t3, ⟨et0, et1, et2, et3⟩, ⟨lt0, kt0, lt1, kt1, lt2, kt2, lt3, kt3⟩, T⟩ := stokes_d ⟨lx0, kx0⟩ ⟨lx1, kx1⟩ ⟨lx2, kx2⟩ ⟨lx3, kx3⟩
    obtain ⟨m0, m1, m2, m3, m4, m5, m6, m7, m8, m9, m10, m11, m12, m13, m14, m15, ⟨em0, em1, em2, em3, em4, em5, em6, em7, em8, em9, em10, em11, em12, em13, em14, em15⟩, ⟨lm0, km0, lm1, km1, lm2, km2, lm3, km3, lm4, km4, lm5, km5, lm6, km6, lm7, km7, lm8, km8, lm9, km9, lm10, km10, lm11, km11, lm12, km12, lm13, km13, lm14, km14, lm15, km15⟩, M⟩ := mueller_c ha0 ha1 ha2 ha3 ha4 ha5 ha6 ha7
    obtain ⟨n0, n1, n2, n3, n4, n5, n6, n7, n8, n9, n10, n11, n12, n13, n14, n15, ⟨en0, en1, en2, en3, en4, en5, en6, en7, en8, en9, en10, en11, en12, en13, en14, en15⟩, ⟨ln0, kn0, ln1, kn1, ln2, kn2, ln3, kn3, ln4, kn4, ln5, kn5, ln6, kn6, ln7, kn7, ln8, kn8, ln9, kn9, ln10, kn10, ln11, kn11, ln12, kn12, ln13, kn13, ln14, kn14, ln15, kn15⟩, N⟩ := mueller_c hb0 hb1 hb2 hb3 hb4 hb5 hb6 hb7
    obtain ⟨p0, p1, p2, p3, p4, p5, p6, p7, ⟨ep0, ep1, ep2, ep3, ep4, ep5, ep6, ep7⟩, ⟨lp0, kp0, lp1, kp1, lp2, kp2, lp3, kp3, lp4, kp4, lp5, kp5, lp6, kp6, lp7, kp7⟩, C⟩ := chain_c ha0 ha1 ha2 ha3 ha4 ha5 ha6 ha7 hb0 hb1 hb2 hb3 hb4 hb5 hb6 hb7
    obtain ⟨q0, q1, q2, q3, q4, q5, q6, q7, q8, q9, q10, q11, q12, q13, q14, q15, ⟨eq0, eq1, eq2, eq3, eq4, eq5, eq6, eq7, eq8, eq9, eq10, eq11, eq12, eq13, eq14, eq15⟩, ⟨lq0, kq0, lq1, kq1, lq2, kq2, lq3, kq3, lq4, kq4, lq5, kq5, lq6, kq6, lq7, kq7, lq8, kq8, lq9, kq9, lq10, kq10, lq11, kq11, lq12, kq12, lq13, kq13, lq14, kq14, lq15, kq15⟩, K⟩ := mueller_d ⟨lp0, kp0⟩ ⟨lp1, kp1⟩ ⟨lp2, kp2⟩ ⟨lp3, kp3⟩ ⟨lp4, kp4⟩ ⟨lp5, kp5⟩ ⟨lp6, kp6⟩ ⟨lp7, kp7⟩
    have c0 : 0 ≤ s0 := by have := sq_nn v0; have := sq_nn v1; have := sq_nn v2; have := sq_nn v3; omega
    have c1 : s1 * s1 + s2 * s2 + s3 * s3 = s0 * s0 := by rw [es0, es1, es2, es3]; grind
    have U := fun w => through_c ⟨lm0, km0⟩ ⟨lm1, km1⟩ ⟨lm2, km2⟩ ⟨lm3, km3⟩ ⟨lm4, km4⟩ ⟨lm5, km5⟩ ⟨lm6, km6⟩ ⟨lm7, km7⟩ ⟨lm8, km8⟩ ⟨lm9, km9⟩ ⟨lm10, km10⟩ ⟨lm11, km11⟩ ⟨lm12, km12⟩ ⟨lm13, km13⟩ ⟨lm14, km14⟩ ⟨lm15, km15⟩ ⟨ls0, ks0⟩ ⟨ls1, ks1⟩ ⟨ls2, ks2⟩ ⟨ls3, ks3⟩ c0 c1 w
    have J := fun w => one_val (jo ⟨lm0, km0⟩ ⟨lm1, km1⟩ ⟨lm2, km2⟩ ⟨lm3, km3⟩ ⟨lm4, km4⟩ ⟨lm5, km5⟩ ⟨lm6, km6⟩ ⟨lm7, km7⟩ ⟨lm8, km8⟩ ⟨lm9, km9⟩ ⟨lm10, km10⟩ ⟨lm11, km11⟩ ⟨lm12, km12⟩ ⟨lm13, km13⟩ ⟨lm14, km14⟩ ⟨lm15, km15⟩ ⟨ln0, kn0⟩ ⟨ln1, kn1⟩ ⟨ln2, kn2⟩ ⟨ln3, kn3⟩ ⟨ln4, kn4⟩ ⟨ln5, kn5⟩ ⟨ln6, kn6⟩ ⟨ln7, kn7⟩ ⟨ln8, kn8⟩ ⟨ln9, kn9⟩ ⟨ln10, kn10⟩ ⟨ln11, kn11⟩ ⟨ln12, kn12⟩ ⟨ln13, kn13⟩ ⟨ln14, kn14⟩ ⟨ln15, kn15⟩ (Q := (· = _)) rfl) w
    obtain ⟨d0, d1, c, dz, dn, D⟩ := degree_c ⟨ls0, ks0⟩ ⟨ls1, ks1⟩ ⟨ls2, ks2⟩ ⟨ls3, ks3⟩ c0 c1
    have E0 : ((((((m0 * s0) + (m1 * s1)) + (m2 * s2)) + (m3 * s3)) : Int) == IntKind.i64.wrap (2 * t0)) = true := by
      rw [IntWalk.i64_in _ (by omega), beq_iff_eq, et0, em0, em1, em2, em3, es0, es1, es2, es3, ex0, ex1, ex2, ex3]; grind
    have E1 : ((((((m4 * s0) + (m5 * s1)) + (m6 * s2)) + (m7 * s3)) : Int) == IntKind.i64.wrap (2 * t1)) = true := by
      rw [IntWalk.i64_in _ (by omega), beq_iff_eq, et1, em4, em5, em6, em7, es0, es1, es2, es3, ex0, ex1, ex2, ex3]; grind
    have E2 : ((((((m8 * s0) + (m9 * s1)) + (m10 * s2)) + (m11 * s3)) : Int) == IntKind.i64.wrap (2 * t2)) = true := by
      rw [IntWalk.i64_in _ (by omega), beq_iff_eq, et2, em8, em9, em10, em11, es0, es1, es2, es3, ex0, ex1, ex2, ex3]; grind
    have E3 : ((((((m12 * s0) + (m13 * s1)) + (m14 * s2)) + (m15 * s3)) : Int) == IntKind.i64.wrap (2 * t3)) = true := by
      rw [IntWalk.i64_in _ (by omega), beq_iff_eq, et3, em12, em13, em14, em15, es0, es1, es2, es3, ex0, ex1, ex2, ex3]; grind
    have F0 : ((((((m0 * n0) + (m1 * n4)) + (m2 * n8)) + (m3 * n12)) : Int) == IntKind.i64.wrap (2 * q0)) = true := by
      rw [IntWalk.i64_in _ (by omega), beq_iff_eq, eq0, em0, em1, em2, em3, en0, en4, en8, en12, ep0, ep1, ep2, ep3, ep4, ep5, ep6, ep7]; grind
    have F1 : ((((((m0 * n1) + (m1 * n5)) + (m2 * n9)) + (m3 * n13)) : Int) == IntKind.i64.wrap (2 * q1)) = true := by
      rw [IntWalk.i64_in _ (by omega), beq_iff_eq, eq1, em0, em1, em2, em3, en1, en5, en9, en13, ep0, ep1, ep2, ep3, ep4, ep5, ep6, ep7]; grind
    have F2 : ((((((m0 * n2) + (m1 * n6)) + (m2 * n10)) + (m3 * n14)) : Int) == IntKind.i64.wrap (2 * q2)) = true := by
      rw [IntWalk.i64_in _ (by omega), beq_iff_eq, eq2, em0, em1, em2, em3, en2, en6, en10, en14, ep0, ep1, ep2, ep3, ep4, ep5, ep6, ep7]; grind
    have F3 : ((((((m0 * n3) + (m1 * n7)) + (m2 * n11)) + (m3 * n15)) : Int) == IntKind.i64.wrap (2 * q3)) = true := by
      rw [IntWalk.i64_in _ (by omega), beq_iff_eq, eq3, em0, em1, em2, em3, en3, en7, en11, en15, ep0, ep1, ep2, ep3, ep4, ep5, ep6, ep7]; grind
    have F4 : ((((((m4 * n0) + (m5 * n4)) + (m6 * n8)) + (m7 * n12)) : Int) == IntKind.i64.wrap (2 * q4)) = true := by
      rw [IntWalk.i64_in _ (by omega), beq_iff_eq, eq4, em4, em5, em6, em7, en0, en4, en8, en12, ep0, ep1, ep2, ep3, ep4, ep5, ep6, ep7]; grind
    have F5 : ((((((m4 * n1) + (m5 * n5)) + (m6 * n9)) + (m7 * n13)) : Int) == IntKind.i64.wrap (2 * q5)) = true := by
      rw [IntWalk.i64_in _ (by omega), beq_iff_eq, eq5, em4, em5, em6, em7, en1, en5, en9, en13, ep0, ep1, ep2, ep3, ep4, ep5, ep6, ep7]; grind
    have F6 : ((((((m4 * n2) + (m5 * n6)) + (m6 * n10)) + (m7 * n14)) : Int) == IntKind.i64.wrap (2 * q6)) = true := by
      rw [IntWalk.i64_in _ (by omega), beq_iff_eq, eq6, em4, em5, em6, em7, en2, en6, en10, en14, ep0, ep1, ep2, ep3, ep4, ep5, ep6, ep7]; grind
    have F7 : ((((((m4 * n3) + (m5 * n7)) + (m6 * n11)) + (m7 * n15)) : Int) == IntKind.i64.wrap (2 * q7)) = true := by
      rw [IntWalk.i64_in _ (by omega), beq_iff_eq, eq7, em4, em5, em6, em7, en3, en7, en11, en15, ep0, ep1, ep2, ep3, ep4, ep5, ep6, ep7]; grind
    have F8 : ((((((m8 * n0) + (m9 * n4)) + (m10 * n8)) + (m11 * n12)) : Int) == IntKind.i64.wrap (2 * q8)) = true := by
      rw [IntWalk.i64_in _ (by omega), beq_iff_eq, eq8, em8, em9, em10, em11, en0, en4, en8, en12, ep0, ep1, ep2, ep3, ep4, ep5, ep6, ep7]; grind
    have F9 : ((((((m8 * n1) + (m9 * n5)) + (m10 * n9)) + (m11 * n13)) : Int) == IntKind.i64.wrap (2 * q9)) = true := by
      rw [IntWalk.i64_in _ (by omega), beq_iff_eq, eq9, em8, em9, em10, em11, en1, en5, en9, en13, ep0, ep1, ep2, ep3, ep4, ep5, ep6, ep7]; grind
    have F10 : ((((((m8 * n2) + (m9 * n6)) + (m10 * n10)) + (m11 * n14)) : Int) == IntKind.i64.wrap (2 * q10)) = true := by
      rw [IntWalk.i64_in _ (by omega), beq_iff_eq, eq10, em8, em9, em10, em11, en2, en6, en10, en14, ep0, ep1, ep2, ep3, ep4, ep5, ep6, ep7]; grind
    have F11 : ((((((m8 * n3) + (m9 * n7)) + (m10 * n11)) + (m11 * n15)) : Int) == IntKind.i64.wrap (2 * q11)) = true := by
      rw [IntWalk.i64_in _ (by omega), beq_iff_eq, eq11, em8, em9, em10, em11, en3, en7, en11, en15, ep0, ep1, ep2, ep3, ep4, ep5, ep6, ep7]; grind
    have F12 : ((((((m12 * n0) + (m13 * n4)) + (m14 * n8)) + (m15 * n12)) : Int) == IntKind.i64.wrap (2 * q12)) = true := by
      rw [IntWalk.i64_in _ (by omega), beq_iff_eq, eq12, em12, em13, em14, em15, en0, en4, en8, en12, ep0, ep1, ep2, ep3, ep4, ep5, ep6, ep7]; grind
    have F13 : ((((((m12 * n1) + (m13 * n5)) + (m14 * n9)) + (m15 * n13)) : Int) == IntKind.i64.wrap (2 * q13)) = true := by
      rw [IntWalk.i64_in _ (by omega), beq_iff_eq, eq13, em12, em13, em14, em15, en1, en5, en9, en13, ep0, ep1, ep2, ep3, ep4, ep5, ep6, ep7]; grind
    have F14 : ((((((m12 * n2) + (m13 * n6)) + (m14 * n10)) + (m15 * n14)) : Int) == IntKind.i64.wrap (2 * q14)) = true := by
      rw [IntWalk.i64_in _ (by omega), beq_iff_eq, eq14, em12, em13, em14, em15, en2, en6, en10, en14, ep0, ep1, ep2, ep3, ep4, ep5, ep6, ep7]; grind
    have F15 : ((((((m12 * n3) + (m13 * n7)) + (m14 * n11)) + (m15 * n15)) : Int) == IntKind.i64.wrap (2 * q15)) = true := by
      rw [IntWalk.i64_in _ (by omega), beq_iff_eq, eq15, em12, em13, em14, em15, en3, en7, en11, en15, ep0, ep1, ep2, ep3, ep4, ep5, ep6, ep7]; grind
    clear ex0 ex1 ex2 ex3 es0 es1 es2 es3 et0 et1 et2 et3 em0 em1 em2 em3 em4 em5 em6 em7 em8 em9 em10 em11 em12 em13 em14 em15 en0 en1 en2 en3 en4 en5 en6 en7 en8 en9 en10 en11 en12 en13 en14 en15 ep0 ep1 ep2 ep3 ep4 ep5 ep6 ep7 eq0 eq1 eq2 eq3 eq4 eq5 eq6 eq7 eq8 eq9 eq10 eq11 eq12 eq13 eq14 eq15 lx0 kx0 lx1 kx1 lx2 kx2 lx3 kx3 ls0 ks0 ls1 ks1 ls2 ks2 ls3 ks3 lt0 kt0 lt1 kt1 lt2 kt2 lt3 kt3 lm0 km0 lm1 km1 lm2 km2 lm3 km3 lm4 km4 lm5 km5 lm6 km6 lm7 km7 lm8 km8 lm9 km9 lm10 km10 lm11 km11 lm12 km12 lm13 km13 lm14 km14 lm15 km15 ln0 kn0 ln1 kn1 ln2 kn2 ln3 kn3 ln4 kn4 ln5 kn5 ln6 kn6 ln7 kn7 ln8 kn8 ln9 kn9 ln10 kn10 ln11 kn11 ln12 kn12 ln13 kn13 ln14 kn14 ln15 kn15 lp0 kp0 lp1 kp1 lp2 kp2 lp3 kp3 lp4 kp4 lp5 kp5 lp6 kp6 lp7 kp7 lq0 kq0 lq1 kq1 lq2 kq2 lq3 kq3 lq4 kq4 lq5 kq5 lq6 kq6 lq7 kq7 lq8 kq8 lq9 kq9 lq10 kq10 lq11 kq11 lq12 kq12 lq13 kq13 lq14 kq14 lq15 kq15
    refine one_val (pb ha0 ha1 ha2 ha3 ha4 ha5 ha6 ha7 hb0 hb1 hb2 hb3 hb4 hb5 hb6 hb7 hv0 hv1 hv2 hv3 (Q := (· = _)) ⟨awake, (((FloatKind.f64.nearest x0 : Nat)) : Int), (((FloatKind.f64.nearest x1 : Nat)) : Int), (((FloatKind.f64.nearest x2 : Nat)) : Int), (((FloatKind.f64.nearest x3 : Nat)) : Int), 0, P, ⟨by omega, by omega⟩, s0, s1, s2, s3, 0, S, ⟨by omega, by omega⟩, t0, t1, t2, t3, 0, T, ⟨by omega, by omega⟩, m0, m1, m2, m3, m4, m5, m6, m7, m8, m9, m10, m11, m12, m13, m14, m15, 0, M, ⟨by omega, by omega⟩, n0, n1, n2, n3, n4, n5, n6, n7, n8, n9, n10, n11, n12, n13, n14, n15, 0, N, ⟨by omega, by omega⟩, _, _, _, _, 0, U, ⟨by omega, by omega⟩, (((FloatKind.f64.nearest p0 : Nat)) : Int), (((FloatKind.f64.nearest p1 : Nat)) : Int), (((FloatKind.f64.nearest p2 : Nat)) : Int), (((FloatKind.f64.nearest p3 : Nat)) : Int), (((FloatKind.f64.nearest p4 : Nat)) : Int), (((FloatKind.f64.nearest p5 : Nat)) : Int), (((FloatKind.f64.nearest p6 : Nat)) : Int), (((FloatKind.f64.nearest p7 : Nat)) : Int), 0, C, ⟨by omega, by omega⟩, q0, q1, q2, q3, q4, q5, q6, q7, q8, q9, q10, q11, q12, q13, q14, q15, 0, K, ⟨by omega, by omega⟩, _, _, _, _, _, _, _, _, _, _, _, _, _, _, _, _, 0, J, ⟨by omega, by omega⟩, ?_⟩) w
    repeat' (first | exact rfl | refine ⟨d0, d1, c, D, ?_⟩ | apply And.intro | intro _ | fail)
    all_goals (rename_i h)
    all_goals first | (rw [E0] at h; cases h; done) | (rw [E1] at h; cases h; done) | (rw [E2] at h; cases h; done) | (rw [E3] at h; cases h; done) | (rw [F0] at h; cases h; done) | (rw [F1] at h; cases h; done) | (rw [F2] at h; cases h; done) | (rw [F3] at h; cases h; done) | (rw [F4] at h; cases h; done) | (rw [F5] at h; cases h; done) | (rw [F6] at h; cases h; done) | (rw [F7] at h; cases h; done) | (rw [F8] at h; cases h; done) | (rw [F9] at h; cases h; done) | (rw [F10] at h; cases h; done) | (rw [F11] at h; cases h; done) | (rw [F12] at h; cases h; done) | (rw [F13] at h; cases h; done) | (rw [F14] at h; cases h; done) | (rw [F15] at h; cases h; done) | (exfalso; revert h; decide) | skip
    all_goals (by_cases hz : s0 = 0
               · have := dz hz; simp_all
               · obtain ⟨rfl, rfl, rfl⟩ := dn hz; simp_all)
  · refine one_val (pc ra0 ra1 ra2 ra3 ra4 ra5 ra6 ra7 rb0 rb1 rb2 rb3 rb4 rb5 rb6 rb7 rv0 rv1 rv2 rv3 (Q := (· = _)) ⟨awake, ?_⟩) w
    repeat' (first | exact rfl | apply And.intro | intro _ | fail)
    all_goals simp only [decide_eq_true_eq] at *
    all_goals (apply hs; refine ⟨⟨by omega, by omega⟩, ⟨by omega, by omega⟩, ⟨by omega, by omega⟩, ⟨by omega, by omega⟩, ⟨by omega, by omega⟩, ⟨by omega, by omega⟩, ⟨by omega, by omega⟩, ⟨by omega, by omega⟩, ⟨by omega, by omega⟩, ⟨by omega, by omega⟩, ⟨by omega, by omega⟩, ⟨by omega, by omega⟩, ⟨by omega, by omega⟩, ⟨by omega, by omega⟩, ⟨by omega, by omega⟩, ⟨by omega, by omega⟩, ⟨by omega, by omega⟩, ⟨by omega, by omega⟩, ⟨by omega, by omega⟩, ⟨by omega, by omega⟩⟩)
end Go.Proofs.Ytlondnchmfhenaa.Ev
