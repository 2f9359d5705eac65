/- Products of calibrations: program and reference. -/
import Derived.Test.YtpjcjdhidfnbbaaGreatFlw
import Derived.Test.YtpjcjdhidfnbbaaGreatFsf
namespace Go.Proofs.YtpjcjdhidfnbbaaGreat.Ev
set_option linter.unusedSimpArgs false
open Go Go.RowKit
set_option linter.unusedVariables false
set_option maxRecDepth 100000

/-- What Chained returns of right calibrations, and of any. -/

def chV (x0 x1 x2 x3 x4 x5 x6 x7 x8 x9 e : Int) (v0 v1 v2 v3 v4 v5 v6 v7 v8 v9 v10 : Int) : Prop := if ckE x0 x1 x2 x3 x4 x5 x6 x7 x8 x9 = 0 then v0 = x0 ∧ v1 = x1 ∧ v2 = x2 ∧ v3 = x3 ∧ v4 = x4 ∧ v5 = x5 ∧ v6 = x6 ∧ v7 = x7 ∧ v8 = x8 ∧ v9 = x9 ∧ v10 = 0 else v0 = 0 ∧ v1 = 0 ∧ v2 = 0 ∧ v3 = 0 ∧ v4 = 0 ∧ v5 = 0 ∧ v6 = 0 ∧ v7 = 0 ∧ v8 = 0 ∧ v9 = 0 ∧ v10 = e

def chR (x0 x1 x2 x3 x4 x5 x6 x7 x8 x9 x10 x11 x12 x13 x14 x15 x16 x17 x18 x19 v0 v1 v2 v3 v4 v5 v6 v7 v8 v9 v10 : Int) : Prop := chV ((x0 * x10 + x1 * x13 + x2 * x16).tdiv ((g10 (x0 * x10 + x1 * x13 + x2 * x16) (x0 * x11 + x1 * x14 + x2 * x17) (x0 * x12 + x1 * x15 + x2 * x18) (x3 * x10 + x4 * x13 + x5 * x16) (x3 * x11 + x4 * x14 + x5 * x17) (x3 * x12 + x4 * x15 + x5 * x18) (x6 * x10 + x7 * x13 + x8 * x16) (x6 * x11 + x7 * x14 + x8 * x17) (x6 * x12 + x7 * x15 + x8 * x18) (x9 * x19)) : Nat)) ((x0 * x11 + x1 * x14 + x2 * x17).tdiv ((g10 (x0 * x10 + x1 * x13 + x2 * x16) (x0 * x11 + x1 * x14 + x2 * x17) (x0 * x12 + x1 * x15 + x2 * x18) (x3 * x10 + x4 * x13 + x5 * x16) (x3 * x11 + x4 * x14 + x5 * x17) (x3 * x12 + x4 * x15 + x5 * x18) (x6 * x10 + x7 * x13 + x8 * x16) (x6 * x11 + x7 * x14 + x8 * x17) (x6 * x12 + x7 * x15 + x8 * x18) (x9 * x19)) : Nat)) ((x0 * x12 + x1 * x15 + x2 * x18).tdiv ((g10 (x0 * x10 + x1 * x13 + x2 * x16) (x0 * x11 + x1 * x14 + x2 * x17) (x0 * x12 + x1 * x15 + x2 * x18) (x3 * x10 + x4 * x13 + x5 * x16) (x3 * x11 + x4 * x14 + x5 * x17) (x3 * x12 + x4 * x15 + x5 * x18) (x6 * x10 + x7 * x13 + x8 * x16) (x6 * x11 + x7 * x14 + x8 * x17) (x6 * x12 + x7 * x15 + x8 * x18) (x9 * x19)) : Nat)) ((x3 * x10 + x4 * x13 + x5 * x16).tdiv ((g10 (x0 * x10 + x1 * x13 + x2 * x16) (x0 * x11 + x1 * x14 + x2 * x17) (x0 * x12 + x1 * x15 + x2 * x18) (x3 * x10 + x4 * x13 + x5 * x16) (x3 * x11 + x4 * x14 + x5 * x17) (x3 * x12 + x4 * x15 + x5 * x18) (x6 * x10 + x7 * x13 + x8 * x16) (x6 * x11 + x7 * x14 + x8 * x17) (x6 * x12 + x7 * x15 + x8 * x18) (x9 * x19)) : Nat)) ((x3 * x11 + x4 * x14 + x5 * x17).tdiv ((g10 (x0 * x10 + x1 * x13 + x2 * x16) (x0 * x11 + x1 * x14 + x2 * x17) (x0 * x12 + x1 * x15 + x2 * x18) (x3 * x10 + x4 * x13 + x5 * x16) (x3 * x11 + x4 * x14 + x5 * x17) (x3 * x12 + x4 * x15 + x5 * x18) (x6 * x10 + x7 * x13 + x8 * x16) (x6 * x11 + x7 * x14 + x8 * x17) (x6 * x12 + x7 * x15 + x8 * x18) (x9 * x19)) : Nat)) ((x3 * x12 + x4 * x15 + x5 * x18).tdiv ((g10 (x0 * x10 + x1 * x13 + x2 * x16) (x0 * x11 + x1 * x14 + x2 * x17) (x0 * x12 + x1 * x15 + x2 * x18) (x3 * x10 + x4 * x13 + x5 * x16) (x3 * x11 + x4 * x14 + x5 * x17) (x3 * x12 + x4 * x15 + x5 * x18) (x6 * x10 + x7 * x13 + x8 * x16) (x6 * x11 + x7 * x14 + x8 * x17) (x6 * x12 + x7 * x15 + x8 * x18) (x9 * x19)) : Nat)) ((x6 * x10 + x7 * x13 + x8 * x16).tdiv ((g10 (x0 * x10 + x1 * x13 + x2 * x16) (x0 * x11 + x1 * x14 + x2 * x17) (x0 * x12 + x1 * x15 + x2 * x18) (x3 * x10 + x4 * x13 + x5 * x16) (x3 * x11 + x4 * x14 + x5 * x17) (x3 * x12 + x4 * x15 + x5 * x18) (x6 * x10 + x7 * x13 + x8 * x16) (x6 * x11 + x7 * x14 + x8 * x17) (x6 * x12 + x7 * x15 + x8 * x18) (x9 * x19)) : Nat)) ((x6 * x11 + x7 * x14 + x8 * x17).tdiv ((g10 (x0 * x10 + x1 * x13 + x2 * x16) (x0 * x11 + x1 * x14 + x2 * x17) (x0 * x12 + x1 * x15 + x2 * x18) (x3 * x10 + x4 * x13 + x5 * x16) (x3 * x11 + x4 * x14 + x5 * x17) (x3 * x12 + x4 * x15 + x5 * x18) (x6 * x10 + x7 * x13 + x8 * x16) (x6 * x11 + x7 * x14 + x8 * x17) (x6 * x12 + x7 * x15 + x8 * x18) (x9 * x19)) : Nat)) ((x6 * x12 + x7 * x15 + x8 * x18).tdiv ((g10 (x0 * x10 + x1 * x13 + x2 * x16) (x0 * x11 + x1 * x14 + x2 * x17) (x0 * x12 + x1 * x15 + x2 * x18) (x3 * x10 + x4 * x13 + x5 * x16) (x3 * x11 + x4 * x14 + x5 * x17) (x3 * x12 + x4 * x15 + x5 * x18) (x6 * x10 + x7 * x13 + x8 * x16) (x6 * x11 + x7 * x14 + x8 * x17) (x6 * x12 + x7 * x15 + x8 * x18) (x9 * x19)) : Nat)) ((x9 * x19).tdiv ((g10 (x0 * x10 + x1 * x13 + x2 * x16) (x0 * x11 + x1 * x14 + x2 * x17) (x0 * x12 + x1 * x15 + x2 * x18) (x3 * x10 + x4 * x13 + x5 * x16) (x3 * x11 + x4 * x14 + x5 * x17) (x3 * x12 + x4 * x15 + x5 * x18) (x6 * x10 + x7 * x13 + x8 * x16) (x6 * x11 + x7 * x14 + x8 * x17) (x6 * x12 + x7 * x15 + x8 * x18) (x9 * x19)) : Nat)) 8 v0 v1 v2 v3 v4 v5 v6 v7 v8 v9 v10

def chF (x0 x1 x2 x3 x4 x5 x6 x7 x8 x9 x10 x11 x12 x13 x14 x15 x16 x17 x18 x19 v0 v1 v2 v3 v4 v5 v6 v7 v8 v9 v10 : Int) : Prop := if ckE x0 x1 x2 x3 x4 x5 x6 x7 x8 x9 = 0 ∧ ckE x10 x11 x12 x13 x14 x15 x16 x17 x18 x19 = 0 then chR x0 x1 x2 x3 x4 x5 x6 x7 x8 x9 x10 x11 x12 x13 x14 x15 x16 x17 x18 x19 v0 v1 v2 v3 v4 v5 v6 v7 v8 v9 v10 else v0 = 0 ∧ v1 = 0 ∧ v2 = 0 ∧ v3 = 0 ∧ v4 = 0 ∧ v5 = 0 ∧ v6 = 0 ∧ v7 = 0 ∧ v8 = 0 ∧ v9 = 0 ∧ v10 = fe (ckE x0 x1 x2 x3 x4 x5 x6 x7 x8 x9) (ckE x10 x11 x12 x13 x14 x15 x16 x17 x18 x19)

theorem three {a b c d e f : Int} (ha : (-1000) ≤ a ∧ a ≤ 1000) (hb : (-1000) ≤ b ∧ b ≤ 1000) (hc : (-1000) ≤ c ∧ c ≤ 1000) (hd : (-1000) ≤ d ∧ d ≤ 1000) (he : (-1000) ≤ e ∧ e ≤ 1000) (hf : (-1000) ≤ f ∧ f ≤ 1000) : (-3000000) ≤ a * b + c * d + e * f ∧ a * b + c * d + e * f ≤ 3000000 := by

  have h1 := mulB ha hb

  have h2 := mulB hc hd

  have h3 := mulB he hf

  omega

theorem tdiv_rng {x : Int} {k : Nat} (h : (-3000000) ≤ x ∧ x ≤ 3000000) : I64 (x.tdiv (k : Int)) := by

  have h1 : (x.tdiv (k : Int)).natAbs ≤ x.natAbs := Int.natAbs_tdiv_le_natAbs x _

  omega

set_option maxHeartbeats 4000000 in

theorem chained_p {x0 x1 x2 x3 x4 x5 x6 x7 x8 x9 x10 x11 x12 x13 x14 x15 x16 x17 x18 x19 : Int} (r0 : I64 x0) (r1 : I64 x1) (r2 : I64 x2) (r3 : I64 x3) (r4 : I64 x4) (r5 : I64 x5) (r6 : I64 x6) (r7 : I64 x7) (r8 : I64 x8) (r9 : I64 x9) (r10 : I64 x10) (r11 : I64 x11) (r12 : I64 x12) (r13 : I64 x13) (r14 : I64 x14) (r15 : I64 x15) (r16 : I64 x16) (r17 : I64 x17) (r18 : I64 x18) (r19 : I64 x19) : ∃ v0 v1 v2 v3 v4 v5 v6 v7 v8 v9 v10 : Int, chF x0 x1 x2 x3 x4 x5 x6 x7 x8 x9 x10 x11 x12 x13 x14 x15 x16 x17 x18 x19 v0 v1 v2 v3 v4 v5 v6 v7 v8 v9 v10 ∧ Spec Tryz.prog meter_Chained_s ⟨[x0, x1, x2, x3, x4, x5, x6, x7, x8, x9, x10, x11, x12, x13, x14, x15, x16, x17, x18, x19], [], []⟩ [v0, v1, v2, v3, v4, v5, v6, v7, v8, v9, v10] [] [] := by

  have ka := checkMatrix_p r0 r1 r2 r3 r4 r5 r6 r7 r8 r9

  have kb := checkMatrix_p r10 r11 r12 r13 r14 r15 r16 r17 r18 r19

  by_cases h : ckE x0 x1 x2 x3 x4 x5 x6 x7 x8 x9 = 0 ∧ ckE x10 x11 x12 x13 x14 x15 x16 x17 x18 x19 = 0

  · obtain ⟨m9, m0, m1, m2, m3, m4, m5, m6, m7, m8⟩ := ckE_ok h.1

    obtain ⟨n9, n0, n1, n2, n3, n4, n5, n6, n7, n8⟩ := ckE_ok h.2

    have p9 := mulB (n := x9) (a := x19) (N := 1000) (A := 1000) (by omega) (by omega)

    have p9' : 1 ≤ x9 * x19 := Int.mul_pos (by omega) (by omega)

    have t0 := three m0 n0 m1 n3 m2 n6

    have t1 := three m0 n1 m1 n4 m2 n7

    have t2 := three m0 n2 m1 n5 m2 n8

    have t3 := three m3 n0 m4 n3 m5 n6

    have t4 := three m3 n1 m4 n4 m5 n7

    have t5 := three m3 n2 m4 n5 m5 n8

    have t6 := three m6 n0 m7 n3 m8 n6

    have t7 := three m6 n1 m7 n4 m8 n7

    have t8 := three m6 n2 m7 n5 m8 n8

    have hl := lowest_p t0 t1 t2 t3 t4 t5 t6 t7 t8 (x9 := x9 * x19) (by omega)

    have kc := checkMatrix_p (tdiv_rng (k := (g10 (x0 * x10 + x1 * x13 + x2 * x16) (x0 * x11 + x1 * x14 + x2 * x17) (x0 * x12 + x1 * x15 + x2 * x18) (x3 * x10 + x4 * x13 + x5 * x16) (x3 * x11 + x4 * x14 + x5 * x17) (x3 * x12 + x4 * x15 + x5 * x18) (x6 * x10 + x7 * x13 + x8 * x16) (x6 * x11 + x7 * x14 + x8 * x17) (x6 * x12 + x7 * x15 + x8 * x18) (x9 * x19))) t0) (tdiv_rng (k := (g10 (x0 * x10 + x1 * x13 + x2 * x16) (x0 * x11 + x1 * x14 + x2 * x17) (x0 * x12 + x1 * x15 + x2 * x18) (x3 * x10 + x4 * x13 + x5 * x16) (x3 * x11 + x4 * x14 + x5 * x17) (x3 * x12 + x4 * x15 + x5 * x18) (x6 * x10 + x7 * x13 + x8 * x16) (x6 * x11 + x7 * x14 + x8 * x17) (x6 * x12 + x7 * x15 + x8 * x18) (x9 * x19))) t1) (tdiv_rng (k := (g10 (x0 * x10 + x1 * x13 + x2 * x16) (x0 * x11 + x1 * x14 + x2 * x17) (x0 * x12 + x1 * x15 + x2 * x18) (x3 * x10 + x4 * x13 + x5 * x16) (x3 * x11 + x4 * x14 + x5 * x17) (x3 * x12 + x4 * x15 + x5 * x18) (x6 * x10 + x7 * x13 + x8 * x16) (x6 * x11 + x7 * x14 + x8 * x17) (x6 * x12 + x7 * x15 + x8 * x18) (x9 * x19))) t2) (tdiv_rng (k := (g10 (x0 * x10 + x1 * x13 + x2 * x16) (x0 * x11 + x1 * x14 + x2 * x17) (x0 * x12 + x1 * x15 + x2 * x18) (x3 * x10 + x4 * x13 + x5 * x16) (x3 * x11 + x4 * x14 + x5 * x17) (x3 * x12 + x4 * x15 + x5 * x18) (x6 * x10 + x7 * x13 + x8 * x16) (x6 * x11 + x7 * x14 + x8 * x17) (x6 * x12 + x7 * x15 + x8 * x18) (x9 * x19))) t3) (tdiv_rng (k := (g10 (x0 * x10 + x1 * x13 + x2 * x16) (x0 * x11 + x1 * x14 + x2 * x17) (x0 * x12 + x1 * x15 + x2 * x18) (x3 * x10 + x4 * x13 + x5 * x16) (x3 * x11 + x4 * x14 + x5 * x17) (x3 * x12 + x4 * x15 + x5 * x18) (x6 * x10 + x7 * x13 + x8 * x16) (x6 * x11 + x7 * x14 + x8 * x17) (x6 * x12 + x7 * x15 + x8 * x18) (x9 * x19))) t4) (tdiv_rng (k := (g10 (x0 * x10 + x1 * x13 + x2 * x16) (x0 * x11 + x1 * x14 + x2 * x17) (x0 * x12 + x1 * x15 + x2 * x18) (x3 * x10 + x4 * x13 + x5 * x16) (x3 * x11 + x4 * x14 + x5 * x17) (x3 * x12 + x4 * x15 + x5 * x18) (x6 * x10 + x7 * x13 + x8 * x16) (x6 * x11 + x7 * x14 + x8 * x17) (x6 * x12 + x7 * x15 + x8 * x18) (x9 * x19))) t5) (tdiv_rng (k := (g10 (x0 * x10 + x1 * x13 + x2 * x16) (x0 * x11 + x1 * x14 + x2 * x17) (x0 * x12 + x1 * x15 + x2 * x18) (x3 * x10 + x4 * x13 + x5 * x16) (x3 * x11 + x4 * x14 + x5 * x17) (x3 * x12 + x4 * x15 + x5 * x18) (x6 * x10 + x7 * x13 + x8 * x16) (x6 * x11 + x7 * x14 + x8 * x17) (x6 * x12 + x7 * x15 + x8 * x18) (x9 * x19))) t6) (tdiv_rng (k := (g10 (x0 * x10 + x1 * x13 + x2 * x16) (x0 * x11 + x1 * x14 + x2 * x17) (x0 * x12 + x1 * x15 + x2 * x18) (x3 * x10 + x4 * x13 + x5 * x16) (x3 * x11 + x4 * x14 + x5 * x17) (x3 * x12 + x4 * x15 + x5 * x18) (x6 * x10 + x7 * x13 + x8 * x16) (x6 * x11 + x7 * x14 + x8 * x17) (x6 * x12 + x7 * x15 + x8 * x18) (x9 * x19))) t7) (tdiv_rng (k := (g10 (x0 * x10 + x1 * x13 + x2 * x16) (x0 * x11 + x1 * x14 + x2 * x17) (x0 * x12 + x1 * x15 + x2 * x18) (x3 * x10 + x4 * x13 + x5 * x16) (x3 * x11 + x4 * x14 + x5 * x17) (x3 * x12 + x4 * x15 + x5 * x18) (x6 * x10 + x7 * x13 + x8 * x16) (x6 * x11 + x7 * x14 + x8 * x17) (x6 * x12 + x7 * x15 + x8 * x18) (x9 * x19))) t8) (tdiv_rng (k := (g10 (x0 * x10 + x1 * x13 + x2 * x16) (x0 * x11 + x1 * x14 + x2 * x17) (x0 * x12 + x1 * x15 + x2 * x18) (x3 * x10 + x4 * x13 + x5 * x16) (x3 * x11 + x4 * x14 + x5 * x17) (x3 * x12 + x4 * x15 + x5 * x18) (x6 * x10 + x7 * x13 + x8 * x16) (x6 * x11 + x7 * x14 + x8 * x17) (x6 * x12 + x7 * x15 + x8 * x18) (x9 * x19))) (x := x9 * x19) (by omega))

    refine chp m0 m1 m2 m3 m4 m5 m6 m7 m8 m9 n0 n1 n2 n3 n4 n5 n6 n7 n8 n9 (R := chF x0 x1 x2 x3 x4 x5 x6 x7 x8 x9 x10 x11 x12 x13 x14 x15 x16 x17 x18 x19) ⟨_, ka, _, kb, fun _ => ⟨fun _ => ⟨_, _, _, _, _, _, _, _, _, _, hl, _, kc, fun g => ?_, fun g => ?_⟩, fun g => absurd h.2 (ne_dec g)⟩, fun g => absurd h.1 (ne_dec g)⟩

    · unfold chF; rw [if_pos h]; unfold chR chV; rw [if_pos (eq_of_beq g)]; exact ⟨rfl, rfl, rfl, rfl, rfl, rfl, rfl, rfl, rfl, rfl, rfl⟩

    · unfold chF; rw [if_pos h]; unfold chR chV; rw [if_neg (ne_dec g)]; exact ⟨rfl, rfl, rfl, rfl, rfl, rfl, rfl, rfl, rfl, rfl, rfl⟩

  · refine chb r0 r1 r2 r3 r4 r5 r6 r7 r8 r9 r10 r11 r12 r13 r14 r15 r16 r17 r18 r19 (R := chF x0 x1 x2 x3 x4 x5 x6 x7 x8 x9 x10 x11 x12 x13 x14 x15 x16 x17 x18 x19) ⟨_, ka, _, kb, fun g => ⟨fun g' => absurd ⟨eq_of_beq g, eq_of_beq g'⟩ h, fun g' => ?_⟩, fun g => ?_⟩

    · have e : fe (ckE x0 x1 x2 x3 x4 x5 x6 x7 x8 x9) (ckE x10 x11 x12 x13 x14 x15 x16 x17 x18 x19) = ckE x10 x11 x12 x13 x14 x15 x16 x17 x18 x19 := by unfold fe; rw [if_pos (eq_of_beq g)]

      unfold chF; rw [if_neg h, e]; exact ⟨rfl, rfl, rfl, rfl, rfl, rfl, rfl, rfl, rfl, rfl, rfl⟩

    · have e : fe (ckE x0 x1 x2 x3 x4 x5 x6 x7 x8 x9) (ckE x10 x11 x12 x13 x14 x15 x16 x17 x18 x19) = ckE x0 x1 x2 x3 x4 x5 x6 x7 x8 x9 := by unfold fe; rw [if_neg (ne_dec g)]

      unfold chF; rw [if_neg h, e]; exact ⟨rfl, rfl, rfl, rfl, rfl, rfl, rfl, rfl, rfl, rfl, rfl⟩

theorem gcd_order (a0 a1 a2 a3 a4 a5 a6 a7 a8 a9 : Int) : Nat.gcd (Nat.gcd (Nat.gcd (Nat.gcd (Nat.gcd (Nat.gcd (Nat.gcd (Nat.gcd (Nat.gcd a9.natAbs a0.natAbs) a1.natAbs) a2.natAbs) a3.natAbs) a4.natAbs) a5.natAbs) a6.natAbs) a7.natAbs) a8.natAbs = g10 a0 a1 a2 a3 a4 a5 a6 a7 a8 a9 := by

  unfold g10 g9

  rw [Nat.gcd_comm _ a9.natAbs]

  simp only [Nat.gcd_zero_left, ← Nat.gcd_assoc]

set_option maxHeartbeats 4000000 in

theorem chained_r {x0 x1 x2 x3 x4 x5 x6 x7 x8 x9 x10 x11 x12 x13 x14 x15 x16 x17 x18 x19 : Int} (h : ckE x0 x1 x2 x3 x4 x5 x6 x7 x8 x9 = 0) (h' : ckE x10 x11 x12 x13 x14 x15 x16 x17 x18 x19 = 0) : ∃ v0 v1 v2 v3 v4 v5 v6 v7 v8 v9 v10 : Int, chR x0 x1 x2 x3 x4 x5 x6 x7 x8 x9 x10 x11 x12 x13 x14 x15 x16 x17 x18 x19 v0 v1 v2 v3 v4 v5 v6 v7 v8 v9 v10 ∧ Spec Tryz.prog etalonref06_Chained_s ⟨[x0, x1, x2, x3, x4, x5, x6, x7, x8, x9, x10, x11, x12, x13, x14, x15, x16, x17, x18, x19], [], []⟩ [v0, v1, v2, v3, v4, v5, v6, v7, v8, v9, v10] [] [] := by

  obtain ⟨m9, m0, m1, m2, m3, m4, m5, m6, m7, m8⟩ := ckE_ok h

  obtain ⟨n9, n0, n1, n2, n3, n4, n5, n6, n7, n8⟩ := ckE_ok h'

  have p9 := mulB (n := x9) (a := x19) (N := 1000) (A := 1000) (by omega) (by omega)

  have p9' : 1 ≤ x9 * x19 := Int.mul_pos (by omega) (by omega)

  have t0 := three m0 n0 m1 n3 m2 n6

  have t1 := three m0 n1 m1 n4 m2 n7

  have t2 := three m0 n2 m1 n5 m2 n8

  have t3 := three m3 n0 m4 n3 m5 n6

  have t4 := three m3 n1 m4 n4 m5 n7

  have t5 := three m3 n2 m4 n5 m5 n8

  have t6 := three m6 n0 m7 n3 m8 n6

  have t7 := three m6 n1 m7 n4 m8 n7

  have t8 := three m6 n2 m7 n5 m8 n8

  have kc := checkMatrix_r (tdiv_rng (k := (g10 (x0 * x10 + x1 * x13 + x2 * x16) (x0 * x11 + x1 * x14 + x2 * x17) (x0 * x12 + x1 * x15 + x2 * x18) (x3 * x10 + x4 * x13 + x5 * x16) (x3 * x11 + x4 * x14 + x5 * x17) (x3 * x12 + x4 * x15 + x5 * x18) (x6 * x10 + x7 * x13 + x8 * x16) (x6 * x11 + x7 * x14 + x8 * x17) (x6 * x12 + x7 * x15 + x8 * x18) (x9 * x19))) t0) (tdiv_rng (k := (g10 (x0 * x10 + x1 * x13 + x2 * x16) (x0 * x11 + x1 * x14 + x2 * x17) (x0 * x12 + x1 * x15 + x2 * x18) (x3 * x10 + x4 * x13 + x5 * x16) (x3 * x11 + x4 * x14 + x5 * x17) (x3 * x12 + x4 * x15 + x5 * x18) (x6 * x10 + x7 * x13 + x8 * x16) (x6 * x11 + x7 * x14 + x8 * x17) (x6 * x12 + x7 * x15 + x8 * x18) (x9 * x19))) t1) (tdiv_rng (k := (g10 (x0 * x10 + x1 * x13 + x2 * x16) (x0 * x11 + x1 * x14 + x2 * x17) (x0 * x12 + x1 * x15 + x2 * x18) (x3 * x10 + x4 * x13 + x5 * x16) (x3 * x11 + x4 * x14 + x5 * x17) (x3 * x12 + x4 * x15 + x5 * x18) (x6 * x10 + x7 * x13 + x8 * x16) (x6 * x11 + x7 * x14 + x8 * x17) (x6 * x12 + x7 * x15 + x8 * x18) (x9 * x19))) t2) (tdiv_rng (k := (g10 (x0 * x10 + x1 * x13 + x2 * x16) (x0 * x11 + x1 * x14 + x2 * x17) (x0 * x12 + x1 * x15 + x2 * x18) (x3 * x10 + x4 * x13 + x5 * x16) (x3 * x11 + x4 * x14 + x5 * x17) (x3 * x12 + x4 * x15 + x5 * x18) (x6 * x10 + x7 * x13 + x8 * x16) (x6 * x11 + x7 * x14 + x8 * x17) (x6 * x12 + x7 * x15 + x8 * x18) (x9 * x19))) t3) (tdiv_rng (k := (g10 (x0 * x10 + x1 * x13 + x2 * x16) (x0 * x11 + x1 * x14 + x2 * x17) (x0 * x12 + x1 * x15 + x2 * x18) (x3 * x10 + x4 * x13 + x5 * x16) (x3 * x11 + x4 * x14 + x5 * x17) (x3 * x12 + x4 * x15 + x5 * x18) (x6 * x10 + x7 * x13 + x8 * x16) (x6 * x11 + x7 * x14 + x8 * x17) (x6 * x12 + x7 * x15 + x8 * x18) (x9 * x19))) t4) (tdiv_rng (k := (g10 (x0 * x10 + x1 * x13 + x2 * x16) (x0 * x11 + x1 * x14 + x2 * x17) (x0 * x12 + x1 * x15 + x2 * x18) (x3 * x10 + x4 * x13 + x5 * x16) (x3 * x11 + x4 * x14 + x5 * x17) (x3 * x12 + x4 * x15 + x5 * x18) (x6 * x10 + x7 * x13 + x8 * x16) (x6 * x11 + x7 * x14 + x8 * x17) (x6 * x12 + x7 * x15 + x8 * x18) (x9 * x19))) t5) (tdiv_rng (k := (g10 (x0 * x10 + x1 * x13 + x2 * x16) (x0 * x11 + x1 * x14 + x2 * x17) (x0 * x12 + x1 * x15 + x2 * x18) (x3 * x10 + x4 * x13 + x5 * x16) (x3 * x11 + x4 * x14 + x5 * x17) (x3 * x12 + x4 * x15 + x5 * x18) (x6 * x10 + x7 * x13 + x8 * x16) (x6 * x11 + x7 * x14 + x8 * x17) (x6 * x12 + x7 * x15 + x8 * x18) (x9 * x19))) t6) (tdiv_rng (k := (g10 (x0 * x10 + x1 * x13 + x2 * x16) (x0 * x11 + x1 * x14 + x2 * x17) (x0 * x12 + x1 * x15 + x2 * x18) (x3 * x10 + x4 * x13 + x5 * x16) (x3 * x11 + x4 * x14 + x5 * x17) (x3 * x12 + x4 * x15 + x5 * x18) (x6 * x10 + x7 * x13 + x8 * x16) (x6 * x11 + x7 * x14 + x8 * x17) (x6 * x12 + x7 * x15 + x8 * x18) (x9 * x19))) t7) (tdiv_rng (k := (g10 (x0 * x10 + x1 * x13 + x2 * x16) (x0 * x11 + x1 * x14 + x2 * x17) (x0 * x12 + x1 * x15 + x2 * x18) (x3 * x10 + x4 * x13 + x5 * x16) (x3 * x11 + x4 * x14 + x5 * x17) (x3 * x12 + x4 * x15 + x5 * x18) (x6 * x10 + x7 * x13 + x8 * x16) (x6 * x11 + x7 * x14 + x8 * x17) (x6 * x12 + x7 * x15 + x8 * x18) (x9 * x19))) t8) (tdiv_rng (k := (g10 (x0 * x10 + x1 * x13 + x2 * x16) (x0 * x11 + x1 * x14 + x2 * x17) (x0 * x12 + x1 * x15 + x2 * x18) (x3 * x10 + x4 * x13 + x5 * x16) (x3 * x11 + x4 * x14 + x5 * x17) (x3 * x12 + x4 * x15 + x5 * x18) (x6 * x10 + x7 * x13 + x8 * x16) (x6 * x11 + x7 * x14 + x8 * x17) (x6 * x12 + x7 * x15 + x8 * x18) (x9 * x19))) (x := x9 * x19) (by omega))

  have go := gcd_order (x0 * x10 + x1 * x13 + x2 * x16) (x0 * x11 + x1 * x14 + x2 * x17) (x0 * x12 + x1 * x15 + x2 * x18) (x3 * x10 + x4 * x13 + x5 * x16) (x3 * x11 + x4 * x14 + x5 * x17) (x3 * x12 + x4 * x15 + x5 * x18) (x6 * x10 + x7 * x13 + x8 * x16) (x6 * x11 + x7 * x14 + x8 * x17) (x6 * x12 + x7 * x15 + x8 * x18) (x9 * x19)

  have step : ∀ (n : Nat) (y : Int), 1 ≤ n ∧ n ≤ 1000000 → ((-3000000) ≤ y ∧ y ≤ 3000000) → (1 ≤ Nat.gcd n y.natAbs ∧ Nat.gcd n y.natAbs ≤ 1000000) ∧ Spec Tryz.prog etalonbase_Gcd_s ⟨[(n : Int), y], [], []⟩ [((Nat.gcd n y.natAbs : Nat) : Int)] [] [] := fun n y hn hy =>

    ⟨⟨Nat.gcd_pos_of_pos_left _ (by omega), Nat.le_trans (Nat.le_of_dvd (by omega) (Nat.gcd_dvd_left _ _)) hn.2⟩, by

      have := gcd_r (a := (n : Int)) (b := y) (by omega) (by omega)

      rwa [Int.natAbs_natCast] at this⟩

  have s0 := step (x9 * x19).natAbs _ (by omega) t0

  rw [show (((x9 * x19).natAbs : Nat) : Int) = x9 * x19 by omega] at s0

  have s1 := step _ _ s0.1 t1

  have s2 := step _ _ s1.1 t2

  have s3 := step _ _ s2.1 t3

  have s4 := step _ _ s3.1 t4

  have s5 := step _ _ s4.1 t5

  have s6 := step _ _ s5.1 t6

  have s7 := step _ _ s6.1 t7

  have s8 := step _ _ s7.1 t8

  rw [go] at s8

  refine chr m0 m1 m2 m3 m4 m5 m6 m7 m8 m9 n0 n1 n2 n3 n4 n5 n6 n7 n8 n9 (R := chR x0 x1 x2 x3 x4 x5 x6 x7 x8 x9 x10 x11 x12 x13 x14 x15 x16 x17 x18 x19) ⟨_, s0.2, by omega, _, s1.2, by omega, _, s2.2, by omega, _, s3.2, by omega, _, s4.2, by omega, _, s5.2, by omega, _, s6.2, by omega, _, s7.2, by omega, _, s8.2, by omega, _, kc, fun g => ?_, fun g => ?_⟩

  · unfold chR chV; rw [if_pos (eq_of_beq g)]; exact ⟨rfl, rfl, rfl, rfl, rfl, rfl, rfl, rfl, rfl, rfl, rfl⟩

  · unfold chR chV; rw [if_neg (ne_dec g)]; exact ⟨rfl, rfl, rfl, rfl, rfl, rfl, rfl, rfl, rfl, rfl, rfl⟩

theorem chV_uniq {x0 x1 x2 x3 x4 x5 x6 x7 x8 x9 e v0 v1 v2 v3 v4 v5 v6 v7 v8 v9 v10 w0 w1 w2 w3 w4 w5 w6 w7 w8 w9 w10 : Int} (h : chV x0 x1 x2 x3 x4 x5 x6 x7 x8 x9 e v0 v1 v2 v3 v4 v5 v6 v7 v8 v9 v10) (g : chV x0 x1 x2 x3 x4 x5 x6 x7 x8 x9 e w0 w1 w2 w3 w4 w5 w6 w7 w8 w9 w10) : v0 = w0 ∧ v1 = w1 ∧ v2 = w2 ∧ v3 = w3 ∧ v4 = w4 ∧ v5 = w5 ∧ v6 = w6 ∧ v7 = w7 ∧ v8 = w8 ∧ v9 = w9 ∧ v10 = w10 := by

  unfold chV at h g

  split at h

  · rename_i hp; rw [if_pos hp] at g; omega

  · rename_i hp; rw [if_neg hp] at g; omega

end Go.Proofs.YtpjcjdhidfnbbaaGreat.Ev
