/- Seen and Corrected: program and reference. -/
import Derived.Test.YtpjcjdhidfnbbaaGreatFse
namespace Go.Proofs.YtpjcjdhidfnbbaaGreat.Ev
set_option linter.unusedSimpArgs false
open Go Go.RowKit
set_option linter.unusedVariables false
set_option maxRecDepth 100000
theorem ne_dec {a : Int} (h : ((a : Int) == 0) = false) : a ≠ 0 := by simpa using h

/-- What Seen returns. -/

def seR (x0 x1 x2 x3 x4 x5 x6 x7 x8 x9 x10 x11 x12 x13 x14 x15 v0 v1 v2 v3 v4 v5 v6 : Int) : Prop := if ckE x0 x1 x2 x3 x4 x5 x6 x7 x8 x9 = 0 ∧ smE x10 x11 x12 x13 x14 x15 = 0 then lgR (sL0 x0 x1 x2 x3 x4 x5 x6 x7 x8 x9 x10 x11 x12 x13 x14 x15) (sH0 x0 x1 x2 x3 x4 x5 x6 x7 x8 x9 x10 x11 x12 x13 x14 x15) (sL1 x0 x1 x2 x3 x4 x5 x6 x7 x8 x9 x10 x11 x12 x13 x14 x15) (sH1 x0 x1 x2 x3 x4 x5 x6 x7 x8 x9 x10 x11 x12 x13 x14 x15) (sL2 x0 x1 x2 x3 x4 x5 x6 x7 x8 x9 x10 x11 x12 x13 x14 x15) (sH2 x0 x1 x2 x3 x4 x5 x6 x7 x8 x9 x10 x11 x12 x13 x14 x15) v0 v1 v2 v3 v4 v5 v6 else v0 = 0 ∧ v1 = 0 ∧ v2 = 0 ∧ v3 = 0 ∧ v4 = 0 ∧ v5 = 0 ∧ v6 = fe (ckE x0 x1 x2 x3 x4 x5 x6 x7 x8 x9) (smE x10 x11 x12 x13 x14 x15)

theorem seen_full {x0 x1 x2 x3 x4 x5 x6 x7 x8 x9 x10 x11 x12 x13 x14 x15 : Int} (r0 : I64 x0) (r1 : I64 x1) (r2 : I64 x2) (r3 : I64 x3) (r4 : I64 x4) (r5 : I64 x5) (r6 : I64 x6) (r7 : I64 x7) (r8 : I64 x8) (r9 : I64 x9) (r10 : I64 x10) (r11 : I64 x11) (r12 : I64 x12) (r13 : I64 x13) (r14 : I64 x14) (r15 : I64 x15) : ∃ v0 v1 v2 v3 v4 v5 v6 : Int, seR x0 x1 x2 x3 x4 x5 x6 x7 x8 x9 x10 x11 x12 x13 x14 x15 v0 v1 v2 v3 v4 v5 v6 ∧ Spec Tryz.prog meter_Seen_s ⟨[x0, x1, x2, x3, x4, x5, x6, x7, x8, x9, x10, x11, x12, x13, x14, x15], [], []⟩ [v0, v1, v2, v3, v4, v5, v6] [] [] := by

  refine se_ r0 r1 r2 r3 r4 r5 r6 r7 r8 r9 r10 r11 r12 r13 r14 r15 (R := seR x0 x1 x2 x3 x4 x5 x6 x7 x8 x9 x10 x11 x12 x13 x14 x15) ⟨_, checkMatrix_p r0 r1 r2 r3 r4 r5 r6 r7 r8 r9, _, checkSums_p r10 r11 r12 r13 r14 r15, fun h => ⟨fun g => ?_, fun g => ?_⟩, fun h => ?_⟩

  · have h' : ckE x0 x1 x2 x3 x4 x5 x6 x7 x8 x9 = 0 := by simpa using h

    have g' : smE x10 x11 x12 x13 x14 x15 = 0 := by simpa using g

    obtain ⟨m9, m0, m1, m2, m3, m4, m5, m6, m7, m8⟩ := ckE_ok h'

    obtain ⟨⟨a1, a2, a3⟩, ⟨b1, b2, b3⟩, ⟨c1, c2, c3⟩⟩ := smE_ok g'

    refine ⟨_, _, _, _, _, _, seen_p (by omega) (by omega) (by omega) (by omega) (by omega) (by omega) (by omega) (by omega) (by omega) (by omega) (by omega) a1 a2 b1 b2 c1 c2, _, _, _, _, _, _, _, seenR_p (by omega) (by omega) (by omega) (by omega) (by omega) (by omega) (by omega) (by omega) (by omega) (by omega) (by omega) a1 a2 b1 b2 c1 c2, ?_⟩

    unfold seR; rw [if_pos ⟨h', g'⟩]; exact ⟨rfl, rfl, rfl, rfl, rfl, rfl, rfl⟩

  · have h' : ckE x0 x1 x2 x3 x4 x5 x6 x7 x8 x9 = 0 := by simpa using h

    unfold seR; rw [if_neg (fun q => ne_dec g q.2)]; unfold fe; rw [if_pos h']; exact ⟨rfl, rfl, rfl, rfl, rfl, rfl, rfl⟩

  · unfold seR; rw [if_neg (fun q => ne_dec h q.1)]; unfold fe; rw [if_neg (ne_dec h)]; exact ⟨rfl, rfl, rfl, rfl, rfl, rfl, rfl⟩

theorem seen_ref {x0 x1 x2 x3 x4 x5 x6 x7 x8 x9 x10 x11 x12 x13 x14 x15 : Int} (h : ckE x0 x1 x2 x3 x4 x5 x6 x7 x8 x9 = 0) (g : smE x10 x11 x12 x13 x14 x15 = 0) : ∃ v0 v1 v2 v3 v4 v5 v6 : Int, lgR (sL0 x0 x1 x2 x3 x4 x5 x6 x7 x8 x9 x10 x11 x12 x13 x14 x15) (sH0 x0 x1 x2 x3 x4 x5 x6 x7 x8 x9 x10 x11 x12 x13 x14 x15) (sL1 x0 x1 x2 x3 x4 x5 x6 x7 x8 x9 x10 x11 x12 x13 x14 x15) (sH1 x0 x1 x2 x3 x4 x5 x6 x7 x8 x9 x10 x11 x12 x13 x14 x15) (sL2 x0 x1 x2 x3 x4 x5 x6 x7 x8 x9 x10 x11 x12 x13 x14 x15) (sH2 x0 x1 x2 x3 x4 x5 x6 x7 x8 x9 x10 x11 x12 x13 x14 x15) v0 v1 v2 v3 v4 v5 v6 ∧ Spec Tryz.prog etalonref06_Seen_s ⟨[x0, x1, x2, x3, x4, x5, x6, x7, x8, x9, x10, x11, x12, x13, x14, x15], [], []⟩ [v0, v1, v2, v3, v4, v5, v6] [] [] := by

  obtain ⟨m9, m0, m1, m2, m3, m4, m5, m6, m7, m8⟩ := ckE_ok h

  obtain ⟨⟨a1, a2, a3⟩, ⟨b1, b2, b3⟩, ⟨c1, c2, c3⟩⟩ := smE_ok g

  exact rse (by omega) (by omega) (by omega) (by omega) (by omega) (by omega) (by omega) (by omega) (by omega) (by omega) (by omega) (by omega) (by omega) (by omega) (by omega) (by omega) (R := lgR (sL0 x0 x1 x2 x3 x4 x5 x6 x7 x8 x9 x10 x11 x12 x13 x14 x15) (sH0 x0 x1 x2 x3 x4 x5 x6 x7 x8 x9 x10 x11 x12 x13 x14 x15) (sL1 x0 x1 x2 x3 x4 x5 x6 x7 x8 x9 x10 x11 x12 x13 x14 x15) (sH1 x0 x1 x2 x3 x4 x5 x6 x7 x8 x9 x10 x11 x12 x13 x14 x15) (sL2 x0 x1 x2 x3 x4 x5 x6 x7 x8 x9 x10 x11 x12 x13 x14 x15) (sH2 x0 x1 x2 x3 x4 x5 x6 x7 x8 x9 x10 x11 x12 x13 x14 x15)) ⟨_, _, _, _, _, _, _, applied_r (by omega) (by omega) (by omega) (by omega) (by omega) (by omega) (by omega) (by omega) (by omega) (by omega) a1 a2 b1 b2 c1 c2, rfl, rfl, rfl, rfl, rfl, rfl, rfl⟩

/-- The minors of a calibration, its determinant, and the numbers of its inverse. -/

def mn (a b c d : Int) : Int := a * d - b * c

def dtP (x0 x1 x2 x3 x4 x5 x6 x7 x8 : Int) : Int := x0 * (x4 * x8 - x5 * x7) + x1 * (x5 * x6 - x3 * x8) + x2 * (x3 * x7 - x4 * x6)

theorem prod_rng {a b c d : Int} (ha : (-1000) ≤ a ∧ a ≤ 1000) (hb : (-1000) ≤ b ∧ b ≤ 1000) (hc : (-1000) ≤ c ∧ c ≤ 1000) (hd : (-1000) ≤ d ∧ d ≤ 1000) : (-2000000) ≤ a * b - c * d ∧ a * b - c * d ≤ 2000000 := by

  have h1 := mulB ha hb

  have h2 := mulB hc hd

  omega

theorem inv_rng {x0 x1 x2 x3 x4 x5 x6 x7 x8 x9 : Int} (r9 : 1 ≤ x9 ∧ x9 ≤ 1000) (r0 : (-1000) ≤ x0 ∧ x0 ≤ 1000) (r1 : (-1000) ≤ x1 ∧ x1 ≤ 1000) (r2 : (-1000) ≤ x2 ∧ x2 ≤ 1000) (r3 : (-1000) ≤ x3 ∧ x3 ≤ 1000) (r4 : (-1000) ≤ x4 ∧ x4 ≤ 1000) (r5 : (-1000) ≤ x5 ∧ x5 ≤ 1000) (r6 : (-1000) ≤ x6 ∧ x6 ≤ 1000) (r7 : (-1000) ≤ x7 ∧ x7 ≤ 1000) (r8 : (-1000) ≤ x8 ∧ x8 ≤ 1000) :

    ((-2000000000) ≤ x9 * (x4 * x8 - x5 * x7) ∧ x9 * (x4 * x8 - x5 * x7) ≤ 2000000000) ∧ ((-2000000000) ≤ x9 * (x7 * x2 - x8 * x1) ∧ x9 * (x7 * x2 - x8 * x1) ≤ 2000000000) ∧ ((-2000000000) ≤ x9 * (x1 * x5 - x2 * x4) ∧ x9 * (x1 * x5 - x2 * x4) ≤ 2000000000) ∧ ((-2000000000) ≤ x9 * (x5 * x6 - x3 * x8) ∧ x9 * (x5 * x6 - x3 * x8) ≤ 2000000000) ∧ ((-2000000000) ≤ x9 * (x8 * x0 - x6 * x2) ∧ x9 * (x8 * x0 - x6 * x2) ≤ 2000000000) ∧ ((-2000000000) ≤ x9 * (x2 * x3 - x0 * x5) ∧ x9 * (x2 * x3 - x0 * x5) ≤ 2000000000) ∧ ((-2000000000) ≤ x9 * (x3 * x7 - x4 * x6) ∧ x9 * (x3 * x7 - x4 * x6) ≤ 2000000000) ∧ ((-2000000000) ≤ x9 * (x6 * x1 - x7 * x0) ∧ x9 * (x6 * x1 - x7 * x0) ≤ 2000000000) ∧ ((-2000000000) ≤ x9 * (x0 * x4 - x1 * x3) ∧ x9 * (x0 * x4 - x1 * x3) ≤ 2000000000) ∧ ((-6000000000) ≤ dtP x0 x1 x2 x3 x4 x5 x6 x7 x8 ∧ dtP x0 x1 x2 x3 x4 x5 x6 x7 x8 ≤ 6000000000) := by

  have h9 : (-1000) ≤ x9 ∧ x9 ≤ 1000 := by omega

  have q := fun (n : Int) (h : (-2000000) ≤ n ∧ n ≤ 2000000) => mulB h9 h

  have d0 := mulB r0 (prod_rng r4 r8 r5 r7)

  have d1 := mulB r1 (prod_rng r5 r6 r3 r8)

  have d2 := mulB r2 (prod_rng r3 r7 r4 r6)

  have e0 := q _ (prod_rng r4 r8 r5 r7)

  have e1 := q _ (prod_rng r7 r2 r8 r1)

  have e2 := q _ (prod_rng r1 r5 r2 r4)

  have e3 := q _ (prod_rng r5 r6 r3 r8)

  have e4 := q _ (prod_rng r8 r0 r6 r2)

  have e5 := q _ (prod_rng r2 r3 r0 r5)

  have e6 := q _ (prod_rng r3 r7 r4 r6)

  have e7 := q _ (prod_rng r6 r1 r7 r0)

  have e8 := q _ (prod_rng r0 r4 r1 r3)

  unfold dtP

  exact ⟨e0, e1, e2, e3, e4, e5, e6, e7, e8, by omega⟩

theorem inverse_p {x0 x1 x2 x3 x4 x5 x6 x7 x8 x9 : Int} (r9 : 1 ≤ x9 ∧ x9 ≤ 1000) (r0 : (-1000) ≤ x0 ∧ x0 ≤ 1000) (r1 : (-1000) ≤ x1 ∧ x1 ≤ 1000) (r2 : (-1000) ≤ x2 ∧ x2 ≤ 1000) (r3 : (-1000) ≤ x3 ∧ x3 ≤ 1000) (r4 : (-1000) ≤ x4 ∧ x4 ≤ 1000) (r5 : (-1000) ≤ x5 ∧ x5 ≤ 1000) (r6 : (-1000) ≤ x6 ∧ x6 ≤ 1000) (r7 : (-1000) ≤ x7 ∧ x7 ≤ 1000) (r8 : (-1000) ≤ x8 ∧ x8 ≤ 1000) : Spec Tryz.prog meter_inverse_s ⟨[x0, x1, x2, x3, x4, x5, x6, x7, x8, x9], [], []⟩ [x9 * (x4 * x8 - x5 * x7), x9 * (x7 * x2 - x8 * x1), x9 * (x1 * x5 - x2 * x4), x9 * (x5 * x6 - x3 * x8), x9 * (x8 * x0 - x6 * x2), x9 * (x2 * x3 - x0 * x5), x9 * (x3 * x7 - x4 * x6), x9 * (x6 * x1 - x7 * x0), x9 * (x0 * x4 - x1 * x3), dtP x0 x1 x2 x3 x4 x5 x6 x7 x8] [] [] := by

  obtain ⟨v0, v1, v2, v3, v4, v5, v6, v7, v8, v9, ⟨rfl, rfl, rfl, rfl, rfl, rfl, rfl, rfl, rfl, rfl⟩, hs⟩ := ivw r0 r1 r2 r3 r4 r5 r6 r7 r8 r9 (R := fun v0 v1 v2 v3 v4 v5 v6 v7 v8 v9 => v0 = x9 * (x4 * x8 - x5 * x7) ∧ v1 = x9 * (x7 * x2 - x8 * x1) ∧ v2 = x9 * (x1 * x5 - x2 * x4) ∧ v3 = x9 * (x5 * x6 - x3 * x8) ∧ v4 = x9 * (x8 * x0 - x6 * x2) ∧ v5 = x9 * (x2 * x3 - x0 * x5) ∧ v6 = x9 * (x3 * x7 - x4 * x6) ∧ v7 = x9 * (x6 * x1 - x7 * x0) ∧ v8 = x9 * (x0 * x4 - x1 * x3) ∧ v9 = dtP x0 x1 x2 x3 x4 x5 x6 x7 x8) ⟨rfl, rfl, rfl, rfl, rfl, rfl, rfl, rfl, rfl, rfl⟩

  exact hs

/-- What Corrected returns of right arguments. -/

def coR (x0 x1 x2 x3 x4 x5 x6 x7 x8 x9 x10 x11 x12 x13 x14 x15 v0 v1 v2 v3 v4 v5 v6 : Int) : Prop := if dtP x0 x1 x2 x3 x4 x5 x6 x7 x8 = 0 then v0 = 0 ∧ v1 = 0 ∧ v2 = 0 ∧ v3 = 0 ∧ v4 = 0 ∧ v5 = 0 ∧ v6 = 28 else lgR (sL0 (x9 * (x4 * x8 - x5 * x7)) (x9 * (x7 * x2 - x8 * x1)) (x9 * (x1 * x5 - x2 * x4)) (x9 * (x5 * x6 - x3 * x8)) (x9 * (x8 * x0 - x6 * x2)) (x9 * (x2 * x3 - x0 * x5)) (x9 * (x3 * x7 - x4 * x6)) (x9 * (x6 * x1 - x7 * x0)) (x9 * (x0 * x4 - x1 * x3)) (dtP x0 x1 x2 x3 x4 x5 x6 x7 x8) x10 x11 x12 x13 x14 x15) (sH0 (x9 * (x4 * x8 - x5 * x7)) (x9 * (x7 * x2 - x8 * x1)) (x9 * (x1 * x5 - x2 * x4)) (x9 * (x5 * x6 - x3 * x8)) (x9 * (x8 * x0 - x6 * x2)) (x9 * (x2 * x3 - x0 * x5)) (x9 * (x3 * x7 - x4 * x6)) (x9 * (x6 * x1 - x7 * x0)) (x9 * (x0 * x4 - x1 * x3)) (dtP x0 x1 x2 x3 x4 x5 x6 x7 x8) x10 x11 x12 x13 x14 x15) (sL1 (x9 * (x4 * x8 - x5 * x7)) (x9 * (x7 * x2 - x8 * x1)) (x9 * (x1 * x5 - x2 * x4)) (x9 * (x5 * x6 - x3 * x8)) (x9 * (x8 * x0 - x6 * x2)) (x9 * (x2 * x3 - x0 * x5)) (x9 * (x3 * x7 - x4 * x6)) (x9 * (x6 * x1 - x7 * x0)) (x9 * (x0 * x4 - x1 * x3)) (dtP x0 x1 x2 x3 x4 x5 x6 x7 x8) x10 x11 x12 x13 x14 x15) (sH1 (x9 * (x4 * x8 - x5 * x7)) (x9 * (x7 * x2 - x8 * x1)) (x9 * (x1 * x5 - x2 * x4)) (x9 * (x5 * x6 - x3 * x8)) (x9 * (x8 * x0 - x6 * x2)) (x9 * (x2 * x3 - x0 * x5)) (x9 * (x3 * x7 - x4 * x6)) (x9 * (x6 * x1 - x7 * x0)) (x9 * (x0 * x4 - x1 * x3)) (dtP x0 x1 x2 x3 x4 x5 x6 x7 x8) x10 x11 x12 x13 x14 x15) (sL2 (x9 * (x4 * x8 - x5 * x7)) (x9 * (x7 * x2 - x8 * x1)) (x9 * (x1 * x5 - x2 * x4)) (x9 * (x5 * x6 - x3 * x8)) (x9 * (x8 * x0 - x6 * x2)) (x9 * (x2 * x3 - x0 * x5)) (x9 * (x3 * x7 - x4 * x6)) (x9 * (x6 * x1 - x7 * x0)) (x9 * (x0 * x4 - x1 * x3)) (dtP x0 x1 x2 x3 x4 x5 x6 x7 x8) x10 x11 x12 x13 x14 x15) (sH2 (x9 * (x4 * x8 - x5 * x7)) (x9 * (x7 * x2 - x8 * x1)) (x9 * (x1 * x5 - x2 * x4)) (x9 * (x5 * x6 - x3 * x8)) (x9 * (x8 * x0 - x6 * x2)) (x9 * (x2 * x3 - x0 * x5)) (x9 * (x3 * x7 - x4 * x6)) (x9 * (x6 * x1 - x7 * x0)) (x9 * (x0 * x4 - x1 * x3)) (dtP x0 x1 x2 x3 x4 x5 x6 x7 x8) x10 x11 x12 x13 x14 x15) v0 v1 v2 v3 v4 v5 v6

def coF (x0 x1 x2 x3 x4 x5 x6 x7 x8 x9 x10 x11 x12 x13 x14 x15 v0 v1 v2 v3 v4 v5 v6 : Int) : Prop := if ckE x0 x1 x2 x3 x4 x5 x6 x7 x8 x9 = 0 ∧ smE x10 x11 x12 x13 x14 x15 = 0 then coR x0 x1 x2 x3 x4 x5 x6 x7 x8 x9 x10 x11 x12 x13 x14 x15 v0 v1 v2 v3 v4 v5 v6 else v0 = 0 ∧ v1 = 0 ∧ v2 = 0 ∧ v3 = 0 ∧ v4 = 0 ∧ v5 = 0 ∧ v6 = fe (ckE x0 x1 x2 x3 x4 x5 x6 x7 x8 x9) (smE x10 x11 x12 x13 x14 x15)

set_option maxHeartbeats 4000000 in

theorem corrected_full {x0 x1 x2 x3 x4 x5 x6 x7 x8 x9 x10 x11 x12 x13 x14 x15 : Int} (r0 : I64 x0) (r1 : I64 x1) (r2 : I64 x2) (r3 : I64 x3) (r4 : I64 x4) (r5 : I64 x5) (r6 : I64 x6) (r7 : I64 x7) (r8 : I64 x8) (r9 : I64 x9) (r10 : I64 x10) (r11 : I64 x11) (r12 : I64 x12) (r13 : I64 x13) (r14 : I64 x14) (r15 : I64 x15) : ∃ v0 v1 v2 v3 v4 v5 v6 : Int, coF x0 x1 x2 x3 x4 x5 x6 x7 x8 x9 x10 x11 x12 x13 x14 x15 v0 v1 v2 v3 v4 v5 v6 ∧ Spec Tryz.prog meter_Corrected_s ⟨[x0, x1, x2, x3, x4, x5, x6, x7, x8, x9, x10, x11, x12, x13, x14, x15], [], []⟩ [v0, v1, v2, v3, v4, v5, v6] [] [] := by

  refine co r0 r1 r2 r3 r4 r5 r6 r7 r8 r9 r10 r11 r12 r13 r14 r15 (R := coF x0 x1 x2 x3 x4 x5 x6 x7 x8 x9 x10 x11 x12 x13 x14 x15) ⟨_, checkMatrix_p r0 r1 r2 r3 r4 r5 r6 r7 r8 r9, _, checkSums_p r10 r11 r12 r13 r14 r15, fun h => ⟨fun g => ?_, fun g => ?_⟩, fun h => ?_⟩

  · have h' : ckE x0 x1 x2 x3 x4 x5 x6 x7 x8 x9 = 0 := by simpa using h

    have g' : smE x10 x11 x12 x13 x14 x15 = 0 := by simpa using g

    obtain ⟨m9, m0, m1, m2, m3, m4, m5, m6, m7, m8⟩ := ckE_ok h'

    obtain ⟨⟨a1, a2, a3⟩, ⟨b1, b2, b3⟩, ⟨c1, c2, c3⟩⟩ := smE_ok g'

    have hi := inverse_p m9 m0 m1 m2 m3 m4 m5 m6 m7 m8

    obtain ⟨i0, i1, i2, i3, i4, i5, i6, i7, i8, id⟩ := inv_rng m9 m0 m1 m2 m3 m4 m5 m6 m7 m8

    refine ⟨_, _, _, _, _, _, _, _, _, _, hi, fun d => ?_, fun d => ?_⟩

    · have d' : dtP x0 x1 x2 x3 x4 x5 x6 x7 x8 = 0 := by simpa using d

      unfold coF; rw [if_pos ⟨h', g'⟩]; unfold coR; rw [if_pos d']; exact ⟨rfl, rfl, rfl, rfl, rfl, rfl, rfl⟩

    · have d' := ne_dec d

      refine ⟨_, _, _, _, _, _, seen_p i0 i1 i2 i3 i4 i5 i6 i7 i8 d' id a1 a2 b1 b2 c1 c2, _, _, _, _, _, _, _, seenR_p i0 i1 i2 i3 i4 i5 i6 i7 i8 d' id a1 a2 b1 b2 c1 c2, ?_⟩

      unfold coF; rw [if_pos ⟨h', g'⟩]; unfold coR; rw [if_neg d']; exact ⟨rfl, rfl, rfl, rfl, rfl, rfl, rfl⟩

  · have h' : ckE x0 x1 x2 x3 x4 x5 x6 x7 x8 x9 = 0 := by simpa using h

    unfold coF; rw [if_neg (fun q => ne_dec g q.2)]; unfold fe; rw [if_pos h']; exact ⟨rfl, rfl, rfl, rfl, rfl, rfl, rfl⟩

  · unfold coF; rw [if_neg (fun q => ne_dec h q.1)]; unfold fe; rw [if_neg (ne_dec h)]; exact ⟨rfl, rfl, rfl, rfl, rfl, rfl, rfl⟩

theorem o_neg {d lo hi : Int} (hd : d < 0) : oL (0 - d) (0 - hi) (0 - lo) = oL d lo hi ∧ oH (0 - d) (0 - hi) (0 - lo) = oH d lo hi := by

  unfold oL oH

  rw [if_pos (by omega), if_neg (by omega), if_pos (by omega), if_neg (by omega)]

  exact ⟨rfl, rfl⟩

theorem r_neg (n0 n1 n2 x10 x11 x12 x13 x14 x15 : Int) : rL (0 - n0) (0 - n1) (0 - n2) x10 x11 x12 x13 x14 x15 = 0 - rH n0 n1 n2 x10 x11 x12 x13 x14 x15 ∧ rH (0 - n0) (0 - n1) (0 - n2) x10 x11 x12 x13 x14 x15 = 0 - rL n0 n1 n2 x10 x11 x12 x13 x14 x15 := by

  unfold rL rH

  simp only [Int.sub_mul, Int.zero_mul]

  omega

theorem s_neg (x0 x1 x2 x3 x4 x5 x6 x7 x8 x9 x10 x11 x12 x13 x14 x15 : Int) (hd : x9 < 0) : sL0 (0 - x0) (0 - x1) (0 - x2) (0 - x3) (0 - x4) (0 - x5) (0 - x6) (0 - x7) (0 - x8) (0 - x9) x10 x11 x12 x13 x14 x15 = sL0 x0 x1 x2 x3 x4 x5 x6 x7 x8 x9 x10 x11 x12 x13 x14 x15 ∧ sH0 (0 - x0) (0 - x1) (0 - x2) (0 - x3) (0 - x4) (0 - x5) (0 - x6) (0 - x7) (0 - x8) (0 - x9) x10 x11 x12 x13 x14 x15 = sH0 x0 x1 x2 x3 x4 x5 x6 x7 x8 x9 x10 x11 x12 x13 x14 x15 ∧ sL1 (0 - x0) (0 - x1) (0 - x2) (0 - x3) (0 - x4) (0 - x5) (0 - x6) (0 - x7) (0 - x8) (0 - x9) x10 x11 x12 x13 x14 x15 = sL1 x0 x1 x2 x3 x4 x5 x6 x7 x8 x9 x10 x11 x12 x13 x14 x15 ∧ sH1 (0 - x0) (0 - x1) (0 - x2) (0 - x3) (0 - x4) (0 - x5) (0 - x6) (0 - x7) (0 - x8) (0 - x9) x10 x11 x12 x13 x14 x15 = sH1 x0 x1 x2 x3 x4 x5 x6 x7 x8 x9 x10 x11 x12 x13 x14 x15 ∧ sL2 (0 - x0) (0 - x1) (0 - x2) (0 - x3) (0 - x4) (0 - x5) (0 - x6) (0 - x7) (0 - x8) (0 - x9) x10 x11 x12 x13 x14 x15 = sL2 x0 x1 x2 x3 x4 x5 x6 x7 x8 x9 x10 x11 x12 x13 x14 x15 ∧ sH2 (0 - x0) (0 - x1) (0 - x2) (0 - x3) (0 - x4) (0 - x5) (0 - x6) (0 - x7) (0 - x8) (0 - x9) x10 x11 x12 x13 x14 x15 = sH2 x0 x1 x2 x3 x4 x5 x6 x7 x8 x9 x10 x11 x12 x13 x14 x15 := by

  have a := r_neg x0 x1 x2 x10 x11 x12 x13 x14 x15

  have b := r_neg x3 x4 x5 x10 x11 x12 x13 x14 x15

  have c := r_neg x6 x7 x8 x10 x11 x12 x13 x14 x15

  unfold sL0 sH0 sL1 sH1 sL2 sH2

  rw [a.1, a.2, b.1, b.2, c.1, c.2]

  exact ⟨(o_neg hd).1, (o_neg hd).2, (o_neg hd).1, (o_neg hd).2, (o_neg hd).1, (o_neg hd).2⟩

theorem size_s {d : Int} (h : (-6000000000) ≤ d ∧ d ≤ 6000000000) : Spec Tryz.prog etalonbase_Size_s ⟨[d], [], []⟩ [if 0 ≤ d then d else 0 - d] [] [] := by

  obtain ⟨v, rfl, hs⟩ := szw (x0 := d) (by omega) (R := (· = if 0 ≤ d then d else 0 - d)) (by

    have w : IntKind.i64.wrap (0 - d) = 0 - d := by rw [IntKind.wrap_i64]; omega

    rw [w]; split <;> split <;> omega)

  exact hs

set_option maxHeartbeats 8000000 in

theorem corrected_ref {x0 x1 x2 x3 x4 x5 x6 x7 x8 x9 x10 x11 x12 x13 x14 x15 : Int} (h : ckE x0 x1 x2 x3 x4 x5 x6 x7 x8 x9 = 0) (g : smE x10 x11 x12 x13 x14 x15 = 0) : ∃ v0 v1 v2 v3 v4 v5 v6 : Int, coR x0 x1 x2 x3 x4 x5 x6 x7 x8 x9 x10 x11 x12 x13 x14 x15 v0 v1 v2 v3 v4 v5 v6 ∧ Spec Tryz.prog etalonref06_Corrected_s ⟨[x0, x1, x2, x3, x4, x5, x6, x7, x8, x9, x10, x11, x12, x13, x14, x15], [], []⟩ [v0, v1, v2, v3, v4, v5, v6] [] [] := by

  obtain ⟨m9, m0, m1, m2, m3, m4, m5, m6, m7, m8⟩ := ckE_ok h

  obtain ⟨⟨a1, a2, a3⟩, ⟨b1, b2, b3⟩, ⟨c1, c2, c3⟩⟩ := smE_ok g

  obtain ⟨i0, i1, i2, i3, i4, i5, i6, i7, i8, id⟩ := inv_rng m9 m0 m1 m2 m3 m4 m5 m6 m7 m8

  have sz := size_s id

  refine rco m0 m1 m2 m3 m4 m5 m6 m7 m8 m9 a1 a2 b1 b2 c1 c2 (R := coR x0 x1 x2 x3 x4 x5 x6 x7 x8 x9 x10 x11 x12 x13 x14 x15) ⟨fun d => ?_, fun d => ⟨fun p => ?_, fun p => ?_⟩⟩

  · have d' : dtP x0 x1 x2 x3 x4 x5 x6 x7 x8 = 0 := eq_of_beq d

    unfold coR; rw [if_pos d']; exact ⟨rfl, rfl, rfl, rfl, rfl, rfl, rfl⟩

  · have d' : dtP x0 x1 x2 x3 x4 x5 x6 x7 x8 ≠ 0 := ne_dec d

    have p' : 0 ≤ dtP x0 x1 x2 x3 x4 x5 x6 x7 x8 := of_decide_eq_true p

    rw [if_pos p'] at sz

    have ha : Spec Tryz.prog etalonref06_applied_s ⟨[(x4 * x8 - x5 * x7) * x9, (x7 * x2 - x8 * x1) * x9, (x1 * x5 - x2 * x4) * x9, (x5 * x6 - x3 * x8) * x9, (x8 * x0 - x6 * x2) * x9, (x2 * x3 - x0 * x5) * x9, (x3 * x7 - x4 * x6) * x9, (x6 * x1 - x7 * x0) * x9, (x0 * x4 - x1 * x3) * x9, dtP x0 x1 x2 x3 x4 x5 x6 x7 x8, x10, x11, x12, x13, x14, x15], [], []⟩ [lgV (sL0 (x9 * (x4 * x8 - x5 * x7)) (x9 * (x7 * x2 - x8 * x1)) (x9 * (x1 * x5 - x2 * x4)) (x9 * (x5 * x6 - x3 * x8)) (x9 * (x8 * x0 - x6 * x2)) (x9 * (x2 * x3 - x0 * x5)) (x9 * (x3 * x7 - x4 * x6)) (x9 * (x6 * x1 - x7 * x0)) (x9 * (x0 * x4 - x1 * x3)) (dtP x0 x1 x2 x3 x4 x5 x6 x7 x8) x10 x11 x12 x13 x14 x15) (sH0 (x9 * (x4 * x8 - x5 * x7)) (x9 * (x7 * x2 - x8 * x1)) (x9 * (x1 * x5 - x2 * x4)) (x9 * (x5 * x6 - x3 * x8)) (x9 * (x8 * x0 - x6 * x2)) (x9 * (x2 * x3 - x0 * x5)) (x9 * (x3 * x7 - x4 * x6)) (x9 * (x6 * x1 - x7 * x0)) (x9 * (x0 * x4 - x1 * x3)) (dtP x0 x1 x2 x3 x4 x5 x6 x7 x8) x10 x11 x12 x13 x14 x15) (sL1 (x9 * (x4 * x8 - x5 * x7)) (x9 * (x7 * x2 - x8 * x1)) (x9 * (x1 * x5 - x2 * x4)) (x9 * (x5 * x6 - x3 * x8)) (x9 * (x8 * x0 - x6 * x2)) (x9 * (x2 * x3 - x0 * x5)) (x9 * (x3 * x7 - x4 * x6)) (x9 * (x6 * x1 - x7 * x0)) (x9 * (x0 * x4 - x1 * x3)) (dtP x0 x1 x2 x3 x4 x5 x6 x7 x8) x10 x11 x12 x13 x14 x15) (sH1 (x9 * (x4 * x8 - x5 * x7)) (x9 * (x7 * x2 - x8 * x1)) (x9 * (x1 * x5 - x2 * x4)) (x9 * (x5 * x6 - x3 * x8)) (x9 * (x8 * x0 - x6 * x2)) (x9 * (x2 * x3 - x0 * x5)) (x9 * (x3 * x7 - x4 * x6)) (x9 * (x6 * x1 - x7 * x0)) (x9 * (x0 * x4 - x1 * x3)) (dtP x0 x1 x2 x3 x4 x5 x6 x7 x8) x10 x11 x12 x13 x14 x15) (sL2 (x9 * (x4 * x8 - x5 * x7)) (x9 * (x7 * x2 - x8 * x1)) (x9 * (x1 * x5 - x2 * x4)) (x9 * (x5 * x6 - x3 * x8)) (x9 * (x8 * x0 - x6 * x2)) (x9 * (x2 * x3 - x0 * x5)) (x9 * (x3 * x7 - x4 * x6)) (x9 * (x6 * x1 - x7 * x0)) (x9 * (x0 * x4 - x1 * x3)) (dtP x0 x1 x2 x3 x4 x5 x6 x7 x8) x10 x11 x12 x13 x14 x15) (sH2 (x9 * (x4 * x8 - x5 * x7)) (x9 * (x7 * x2 - x8 * x1)) (x9 * (x1 * x5 - x2 * x4)) (x9 * (x5 * x6 - x3 * x8)) (x9 * (x8 * x0 - x6 * x2)) (x9 * (x2 * x3 - x0 * x5)) (x9 * (x3 * x7 - x4 * x6)) (x9 * (x6 * x1 - x7 * x0)) (x9 * (x0 * x4 - x1 * x3)) (dtP x0 x1 x2 x3 x4 x5 x6 x7 x8) x10 x11 x12 x13 x14 x15) (sL0 (x9 * (x4 * x8 - x5 * x7)) (x9 * (x7 * x2 - x8 * x1)) (x9 * (x1 * x5 - x2 * x4)) (x9 * (x5 * x6 - x3 * x8)) (x9 * (x8 * x0 - x6 * x2)) (x9 * (x2 * x3 - x0 * x5)) (x9 * (x3 * x7 - x4 * x6)) (x9 * (x6 * x1 - x7 * x0)) (x9 * (x0 * x4 - x1 * x3)) (dtP x0 x1 x2 x3 x4 x5 x6 x7 x8) x10 x11 x12 x13 x14 x15), lgV (sL0 (x9 * (x4 * x8 - x5 * x7)) (x9 * (x7 * x2 - x8 * x1)) (x9 * (x1 * x5 - x2 * x4)) (x9 * (x5 * x6 - x3 * x8)) (x9 * (x8 * x0 - x6 * x2)) (x9 * (x2 * x3 - x0 * x5)) (x9 * (x3 * x7 - x4 * x6)) (x9 * (x6 * x1 - x7 * x0)) (x9 * (x0 * x4 - x1 * x3)) (dtP x0 x1 x2 x3 x4 x5 x6 x7 x8) x10 x11 x12 x13 x14 x15) (sH0 (x9 * (x4 * x8 - x5 * x7)) (x9 * (x7 * x2 - x8 * x1)) (x9 * (x1 * x5 - x2 * x4)) (x9 * (x5 * x6 - x3 * x8)) (x9 * (x8 * x0 - x6 * x2)) (x9 * (x2 * x3 - x0 * x5)) (x9 * (x3 * x7 - x4 * x6)) (x9 * (x6 * x1 - x7 * x0)) (x9 * (x0 * x4 - x1 * x3)) (dtP x0 x1 x2 x3 x4 x5 x6 x7 x8) x10 x11 x12 x13 x14 x15) (sL1 (x9 * (x4 * x8 - x5 * x7)) (x9 * (x7 * x2 - x8 * x1)) (x9 * (x1 * x5 - x2 * x4)) (x9 * (x5 * x6 - x3 * x8)) (x9 * (x8 * x0 - x6 * x2)) (x9 * (x2 * x3 - x0 * x5)) (x9 * (x3 * x7 - x4 * x6)) (x9 * (x6 * x1 - x7 * x0)) (x9 * (x0 * x4 - x1 * x3)) (dtP x0 x1 x2 x3 x4 x5 x6 x7 x8) x10 x11 x12 x13 x14 x15) (sH1 (x9 * (x4 * x8 - x5 * x7)) (x9 * (x7 * x2 - x8 * x1)) (x9 * (x1 * x5 - x2 * x4)) (x9 * (x5 * x6 - x3 * x8)) (x9 * (x8 * x0 - x6 * x2)) (x9 * (x2 * x3 - x0 * x5)) (x9 * (x3 * x7 - x4 * x6)) (x9 * (x6 * x1 - x7 * x0)) (x9 * (x0 * x4 - x1 * x3)) (dtP x0 x1 x2 x3 x4 x5 x6 x7 x8) x10 x11 x12 x13 x14 x15) (sL2 (x9 * (x4 * x8 - x5 * x7)) (x9 * (x7 * x2 - x8 * x1)) (x9 * (x1 * x5 - x2 * x4)) (x9 * (x5 * x6 - x3 * x8)) (x9 * (x8 * x0 - x6 * x2)) (x9 * (x2 * x3 - x0 * x5)) (x9 * (x3 * x7 - x4 * x6)) (x9 * (x6 * x1 - x7 * x0)) (x9 * (x0 * x4 - x1 * x3)) (dtP x0 x1 x2 x3 x4 x5 x6 x7 x8) x10 x11 x12 x13 x14 x15) (sH2 (x9 * (x4 * x8 - x5 * x7)) (x9 * (x7 * x2 - x8 * x1)) (x9 * (x1 * x5 - x2 * x4)) (x9 * (x5 * x6 - x3 * x8)) (x9 * (x8 * x0 - x6 * x2)) (x9 * (x2 * x3 - x0 * x5)) (x9 * (x3 * x7 - x4 * x6)) (x9 * (x6 * x1 - x7 * x0)) (x9 * (x0 * x4 - x1 * x3)) (dtP x0 x1 x2 x3 x4 x5 x6 x7 x8) x10 x11 x12 x13 x14 x15) (sH0 (x9 * (x4 * x8 - x5 * x7)) (x9 * (x7 * x2 - x8 * x1)) (x9 * (x1 * x5 - x2 * x4)) (x9 * (x5 * x6 - x3 * x8)) (x9 * (x8 * x0 - x6 * x2)) (x9 * (x2 * x3 - x0 * x5)) (x9 * (x3 * x7 - x4 * x6)) (x9 * (x6 * x1 - x7 * x0)) (x9 * (x0 * x4 - x1 * x3)) (dtP x0 x1 x2 x3 x4 x5 x6 x7 x8) x10 x11 x12 x13 x14 x15), lgV (sL0 (x9 * (x4 * x8 - x5 * x7)) (x9 * (x7 * x2 - x8 * x1)) (x9 * (x1 * x5 - x2 * x4)) (x9 * (x5 * x6 - x3 * x8)) (x9 * (x8 * x0 - x6 * x2)) (x9 * (x2 * x3 - x0 * x5)) (x9 * (x3 * x7 - x4 * x6)) (x9 * (x6 * x1 - x7 * x0)) (x9 * (x0 * x4 - x1 * x3)) (dtP x0 x1 x2 x3 x4 x5 x6 x7 x8) x10 x11 x12 x13 x14 x15) (sH0 (x9 * (x4 * x8 - x5 * x7)) (x9 * (x7 * x2 - x8 * x1)) (x9 * (x1 * x5 - x2 * x4)) (x9 * (x5 * x6 - x3 * x8)) (x9 * (x8 * x0 - x6 * x2)) (x9 * (x2 * x3 - x0 * x5)) (x9 * (x3 * x7 - x4 * x6)) (x9 * (x6 * x1 - x7 * x0)) (x9 * (x0 * x4 - x1 * x3)) (dtP x0 x1 x2 x3 x4 x5 x6 x7 x8) x10 x11 x12 x13 x14 x15) (sL1 (x9 * (x4 * x8 - x5 * x7)) (x9 * (x7 * x2 - x8 * x1)) (x9 * (x1 * x5 - x2 * x4)) (x9 * (x5 * x6 - x3 * x8)) (x9 * (x8 * x0 - x6 * x2)) (x9 * (x2 * x3 - x0 * x5)) (x9 * (x3 * x7 - x4 * x6)) (x9 * (x6 * x1 - x7 * x0)) (x9 * (x0 * x4 - x1 * x3)) (dtP x0 x1 x2 x3 x4 x5 x6 x7 x8) x10 x11 x12 x13 x14 x15) (sH1 (x9 * (x4 * x8 - x5 * x7)) (x9 * (x7 * x2 - x8 * x1)) (x9 * (x1 * x5 - x2 * x4)) (x9 * (x5 * x6 - x3 * x8)) (x9 * (x8 * x0 - x6 * x2)) (x9 * (x2 * x3 - x0 * x5)) (x9 * (x3 * x7 - x4 * x6)) (x9 * (x6 * x1 - x7 * x0)) (x9 * (x0 * x4 - x1 * x3)) (dtP x0 x1 x2 x3 x4 x5 x6 x7 x8) x10 x11 x12 x13 x14 x15) (sL2 (x9 * (x4 * x8 - x5 * x7)) (x9 * (x7 * x2 - x8 * x1)) (x9 * (x1 * x5 - x2 * x4)) (x9 * (x5 * x6 - x3 * x8)) (x9 * (x8 * x0 - x6 * x2)) (x9 * (x2 * x3 - x0 * x5)) (x9 * (x3 * x7 - x4 * x6)) (x9 * (x6 * x1 - x7 * x0)) (x9 * (x0 * x4 - x1 * x3)) (dtP x0 x1 x2 x3 x4 x5 x6 x7 x8) x10 x11 x12 x13 x14 x15) (sH2 (x9 * (x4 * x8 - x5 * x7)) (x9 * (x7 * x2 - x8 * x1)) (x9 * (x1 * x5 - x2 * x4)) (x9 * (x5 * x6 - x3 * x8)) (x9 * (x8 * x0 - x6 * x2)) (x9 * (x2 * x3 - x0 * x5)) (x9 * (x3 * x7 - x4 * x6)) (x9 * (x6 * x1 - x7 * x0)) (x9 * (x0 * x4 - x1 * x3)) (dtP x0 x1 x2 x3 x4 x5 x6 x7 x8) x10 x11 x12 x13 x14 x15) (sL1 (x9 * (x4 * x8 - x5 * x7)) (x9 * (x7 * x2 - x8 * x1)) (x9 * (x1 * x5 - x2 * x4)) (x9 * (x5 * x6 - x3 * x8)) (x9 * (x8 * x0 - x6 * x2)) (x9 * (x2 * x3 - x0 * x5)) (x9 * (x3 * x7 - x4 * x6)) (x9 * (x6 * x1 - x7 * x0)) (x9 * (x0 * x4 - x1 * x3)) (dtP x0 x1 x2 x3 x4 x5 x6 x7 x8) x10 x11 x12 x13 x14 x15), lgV (sL0 (x9 * (x4 * x8 - x5 * x7)) (x9 * (x7 * x2 - x8 * x1)) (x9 * (x1 * x5 - x2 * x4)) (x9 * (x5 * x6 - x3 * x8)) (x9 * (x8 * x0 - x6 * x2)) (x9 * (x2 * x3 - x0 * x5)) (x9 * (x3 * x7 - x4 * x6)) (x9 * (x6 * x1 - x7 * x0)) (x9 * (x0 * x4 - x1 * x3)) (dtP x0 x1 x2 x3 x4 x5 x6 x7 x8) x10 x11 x12 x13 x14 x15) (sH0 (x9 * (x4 * x8 - x5 * x7)) (x9 * (x7 * x2 - x8 * x1)) (x9 * (x1 * x5 - x2 * x4)) (x9 * (x5 * x6 - x3 * x8)) (x9 * (x8 * x0 - x6 * x2)) (x9 * (x2 * x3 - x0 * x5)) (x9 * (x3 * x7 - x4 * x6)) (x9 * (x6 * x1 - x7 * x0)) (x9 * (x0 * x4 - x1 * x3)) (dtP x0 x1 x2 x3 x4 x5 x6 x7 x8) x10 x11 x12 x13 x14 x15) (sL1 (x9 * (x4 * x8 - x5 * x7)) (x9 * (x7 * x2 - x8 * x1)) (x9 * (x1 * x5 - x2 * x4)) (x9 * (x5 * x6 - x3 * x8)) (x9 * (x8 * x0 - x6 * x2)) (x9 * (x2 * x3 - x0 * x5)) (x9 * (x3 * x7 - x4 * x6)) (x9 * (x6 * x1 - x7 * x0)) (x9 * (x0 * x4 - x1 * x3)) (dtP x0 x1 x2 x3 x4 x5 x6 x7 x8) x10 x11 x12 x13 x14 x15) (sH1 (x9 * (x4 * x8 - x5 * x7)) (x9 * (x7 * x2 - x8 * x1)) (x9 * (x1 * x5 - x2 * x4)) (x9 * (x5 * x6 - x3 * x8)) (x9 * (x8 * x0 - x6 * x2)) (x9 * (x2 * x3 - x0 * x5)) (x9 * (x3 * x7 - x4 * x6)) (x9 * (x6 * x1 - x7 * x0)) (x9 * (x0 * x4 - x1 * x3)) (dtP x0 x1 x2 x3 x4 x5 x6 x7 x8) x10 x11 x12 x13 x14 x15) (sL2 (x9 * (x4 * x8 - x5 * x7)) (x9 * (x7 * x2 - x8 * x1)) (x9 * (x1 * x5 - x2 * x4)) (x9 * (x5 * x6 - x3 * x8)) (x9 * (x8 * x0 - x6 * x2)) (x9 * (x2 * x3 - x0 * x5)) (x9 * (x3 * x7 - x4 * x6)) (x9 * (x6 * x1 - x7 * x0)) (x9 * (x0 * x4 - x1 * x3)) (dtP x0 x1 x2 x3 x4 x5 x6 x7 x8) x10 x11 x12 x13 x14 x15) (sH2 (x9 * (x4 * x8 - x5 * x7)) (x9 * (x7 * x2 - x8 * x1)) (x9 * (x1 * x5 - x2 * x4)) (x9 * (x5 * x6 - x3 * x8)) (x9 * (x8 * x0 - x6 * x2)) (x9 * (x2 * x3 - x0 * x5)) (x9 * (x3 * x7 - x4 * x6)) (x9 * (x6 * x1 - x7 * x0)) (x9 * (x0 * x4 - x1 * x3)) (dtP x0 x1 x2 x3 x4 x5 x6 x7 x8) x10 x11 x12 x13 x14 x15) (sH1 (x9 * (x4 * x8 - x5 * x7)) (x9 * (x7 * x2 - x8 * x1)) (x9 * (x1 * x5 - x2 * x4)) (x9 * (x5 * x6 - x3 * x8)) (x9 * (x8 * x0 - x6 * x2)) (x9 * (x2 * x3 - x0 * x5)) (x9 * (x3 * x7 - x4 * x6)) (x9 * (x6 * x1 - x7 * x0)) (x9 * (x0 * x4 - x1 * x3)) (dtP x0 x1 x2 x3 x4 x5 x6 x7 x8) x10 x11 x12 x13 x14 x15), lgV (sL0 (x9 * (x4 * x8 - x5 * x7)) (x9 * (x7 * x2 - x8 * x1)) (x9 * (x1 * x5 - x2 * x4)) (x9 * (x5 * x6 - x3 * x8)) (x9 * (x8 * x0 - x6 * x2)) (x9 * (x2 * x3 - x0 * x5)) (x9 * (x3 * x7 - x4 * x6)) (x9 * (x6 * x1 - x7 * x0)) (x9 * (x0 * x4 - x1 * x3)) (dtP x0 x1 x2 x3 x4 x5 x6 x7 x8) x10 x11 x12 x13 x14 x15) (sH0 (x9 * (x4 * x8 - x5 * x7)) (x9 * (x7 * x2 - x8 * x1)) (x9 * (x1 * x5 - x2 * x4)) (x9 * (x5 * x6 - x3 * x8)) (x9 * (x8 * x0 - x6 * x2)) (x9 * (x2 * x3 - x0 * x5)) (x9 * (x3 * x7 - x4 * x6)) (x9 * (x6 * x1 - x7 * x0)) (x9 * (x0 * x4 - x1 * x3)) (dtP x0 x1 x2 x3 x4 x5 x6 x7 x8) x10 x11 x12 x13 x14 x15) (sL1 (x9 * (x4 * x8 - x5 * x7)) (x9 * (x7 * x2 - x8 * x1)) (x9 * (x1 * x5 - x2 * x4)) (x9 * (x5 * x6 - x3 * x8)) (x9 * (x8 * x0 - x6 * x2)) (x9 * (x2 * x3 - x0 * x5)) (x9 * (x3 * x7 - x4 * x6)) (x9 * (x6 * x1 - x7 * x0)) (x9 * (x0 * x4 - x1 * x3)) (dtP x0 x1 x2 x3 x4 x5 x6 x7 x8) x10 x11 x12 x13 x14 x15) (sH1 (x9 * (x4 * x8 - x5 * x7)) (x9 * (x7 * x2 - x8 * x1)) (x9 * (x1 * x5 - x2 * x4)) (x9 * (x5 * x6 - x3 * x8)) (x9 * (x8 * x0 - x6 * x2)) (x9 * (x2 * x3 - x0 * x5)) (x9 * (x3 * x7 - x4 * x6)) (x9 * (x6 * x1 - x7 * x0)) (x9 * (x0 * x4 - x1 * x3)) (dtP x0 x1 x2 x3 x4 x5 x6 x7 x8) x10 x11 x12 x13 x14 x15) (sL2 (x9 * (x4 * x8 - x5 * x7)) (x9 * (x7 * x2 - x8 * x1)) (x9 * (x1 * x5 - x2 * x4)) (x9 * (x5 * x6 - x3 * x8)) (x9 * (x8 * x0 - x6 * x2)) (x9 * (x2 * x3 - x0 * x5)) (x9 * (x3 * x7 - x4 * x6)) (x9 * (x6 * x1 - x7 * x0)) (x9 * (x0 * x4 - x1 * x3)) (dtP x0 x1 x2 x3 x4 x5 x6 x7 x8) x10 x11 x12 x13 x14 x15) (sH2 (x9 * (x4 * x8 - x5 * x7)) (x9 * (x7 * x2 - x8 * x1)) (x9 * (x1 * x5 - x2 * x4)) (x9 * (x5 * x6 - x3 * x8)) (x9 * (x8 * x0 - x6 * x2)) (x9 * (x2 * x3 - x0 * x5)) (x9 * (x3 * x7 - x4 * x6)) (x9 * (x6 * x1 - x7 * x0)) (x9 * (x0 * x4 - x1 * x3)) (dtP x0 x1 x2 x3 x4 x5 x6 x7 x8) x10 x11 x12 x13 x14 x15) (sL2 (x9 * (x4 * x8 - x5 * x7)) (x9 * (x7 * x2 - x8 * x1)) (x9 * (x1 * x5 - x2 * x4)) (x9 * (x5 * x6 - x3 * x8)) (x9 * (x8 * x0 - x6 * x2)) (x9 * (x2 * x3 - x0 * x5)) (x9 * (x3 * x7 - x4 * x6)) (x9 * (x6 * x1 - x7 * x0)) (x9 * (x0 * x4 - x1 * x3)) (dtP x0 x1 x2 x3 x4 x5 x6 x7 x8) x10 x11 x12 x13 x14 x15), lgV (sL0 (x9 * (x4 * x8 - x5 * x7)) (x9 * (x7 * x2 - x8 * x1)) (x9 * (x1 * x5 - x2 * x4)) (x9 * (x5 * x6 - x3 * x8)) (x9 * (x8 * x0 - x6 * x2)) (x9 * (x2 * x3 - x0 * x5)) (x9 * (x3 * x7 - x4 * x6)) (x9 * (x6 * x1 - x7 * x0)) (x9 * (x0 * x4 - x1 * x3)) (dtP x0 x1 x2 x3 x4 x5 x6 x7 x8) x10 x11 x12 x13 x14 x15) (sH0 (x9 * (x4 * x8 - x5 * x7)) (x9 * (x7 * x2 - x8 * x1)) (x9 * (x1 * x5 - x2 * x4)) (x9 * (x5 * x6 - x3 * x8)) (x9 * (x8 * x0 - x6 * x2)) (x9 * (x2 * x3 - x0 * x5)) (x9 * (x3 * x7 - x4 * x6)) (x9 * (x6 * x1 - x7 * x0)) (x9 * (x0 * x4 - x1 * x3)) (dtP x0 x1 x2 x3 x4 x5 x6 x7 x8) x10 x11 x12 x13 x14 x15) (sL1 (x9 * (x4 * x8 - x5 * x7)) (x9 * (x7 * x2 - x8 * x1)) (x9 * (x1 * x5 - x2 * x4)) (x9 * (x5 * x6 - x3 * x8)) (x9 * (x8 * x0 - x6 * x2)) (x9 * (x2 * x3 - x0 * x5)) (x9 * (x3 * x7 - x4 * x6)) (x9 * (x6 * x1 - x7 * x0)) (x9 * (x0 * x4 - x1 * x3)) (dtP x0 x1 x2 x3 x4 x5 x6 x7 x8) x10 x11 x12 x13 x14 x15) (sH1 (x9 * (x4 * x8 - x5 * x7)) (x9 * (x7 * x2 - x8 * x1)) (x9 * (x1 * x5 - x2 * x4)) (x9 * (x5 * x6 - x3 * x8)) (x9 * (x8 * x0 - x6 * x2)) (x9 * (x2 * x3 - x0 * x5)) (x9 * (x3 * x7 - x4 * x6)) (x9 * (x6 * x1 - x7 * x0)) (x9 * (x0 * x4 - x1 * x3)) (dtP x0 x1 x2 x3 x4 x5 x6 x7 x8) x10 x11 x12 x13 x14 x15) (sL2 (x9 * (x4 * x8 - x5 * x7)) (x9 * (x7 * x2 - x8 * x1)) (x9 * (x1 * x5 - x2 * x4)) (x9 * (x5 * x6 - x3 * x8)) (x9 * (x8 * x0 - x6 * x2)) (x9 * (x2 * x3 - x0 * x5)) (x9 * (x3 * x7 - x4 * x6)) (x9 * (x6 * x1 - x7 * x0)) (x9 * (x0 * x4 - x1 * x3)) (dtP x0 x1 x2 x3 x4 x5 x6 x7 x8) x10 x11 x12 x13 x14 x15) (sH2 (x9 * (x4 * x8 - x5 * x7)) (x9 * (x7 * x2 - x8 * x1)) (x9 * (x1 * x5 - x2 * x4)) (x9 * (x5 * x6 - x3 * x8)) (x9 * (x8 * x0 - x6 * x2)) (x9 * (x2 * x3 - x0 * x5)) (x9 * (x3 * x7 - x4 * x6)) (x9 * (x6 * x1 - x7 * x0)) (x9 * (x0 * x4 - x1 * x3)) (dtP x0 x1 x2 x3 x4 x5 x6 x7 x8) x10 x11 x12 x13 x14 x15) (sH2 (x9 * (x4 * x8 - x5 * x7)) (x9 * (x7 * x2 - x8 * x1)) (x9 * (x1 * x5 - x2 * x4)) (x9 * (x5 * x6 - x3 * x8)) (x9 * (x8 * x0 - x6 * x2)) (x9 * (x2 * x3 - x0 * x5)) (x9 * (x3 * x7 - x4 * x6)) (x9 * (x6 * x1 - x7 * x0)) (x9 * (x0 * x4 - x1 * x3)) (dtP x0 x1 x2 x3 x4 x5 x6 x7 x8) x10 x11 x12 x13 x14 x15), lgE (sL0 (x9 * (x4 * x8 - x5 * x7)) (x9 * (x7 * x2 - x8 * x1)) (x9 * (x1 * x5 - x2 * x4)) (x9 * (x5 * x6 - x3 * x8)) (x9 * (x8 * x0 - x6 * x2)) (x9 * (x2 * x3 - x0 * x5)) (x9 * (x3 * x7 - x4 * x6)) (x9 * (x6 * x1 - x7 * x0)) (x9 * (x0 * x4 - x1 * x3)) (dtP x0 x1 x2 x3 x4 x5 x6 x7 x8) x10 x11 x12 x13 x14 x15) (sH0 (x9 * (x4 * x8 - x5 * x7)) (x9 * (x7 * x2 - x8 * x1)) (x9 * (x1 * x5 - x2 * x4)) (x9 * (x5 * x6 - x3 * x8)) (x9 * (x8 * x0 - x6 * x2)) (x9 * (x2 * x3 - x0 * x5)) (x9 * (x3 * x7 - x4 * x6)) (x9 * (x6 * x1 - x7 * x0)) (x9 * (x0 * x4 - x1 * x3)) (dtP x0 x1 x2 x3 x4 x5 x6 x7 x8) x10 x11 x12 x13 x14 x15) (sL1 (x9 * (x4 * x8 - x5 * x7)) (x9 * (x7 * x2 - x8 * x1)) (x9 * (x1 * x5 - x2 * x4)) (x9 * (x5 * x6 - x3 * x8)) (x9 * (x8 * x0 - x6 * x2)) (x9 * (x2 * x3 - x0 * x5)) (x9 * (x3 * x7 - x4 * x6)) (x9 * (x6 * x1 - x7 * x0)) (x9 * (x0 * x4 - x1 * x3)) (dtP x0 x1 x2 x3 x4 x5 x6 x7 x8) x10 x11 x12 x13 x14 x15) (sH1 (x9 * (x4 * x8 - x5 * x7)) (x9 * (x7 * x2 - x8 * x1)) (x9 * (x1 * x5 - x2 * x4)) (x9 * (x5 * x6 - x3 * x8)) (x9 * (x8 * x0 - x6 * x2)) (x9 * (x2 * x3 - x0 * x5)) (x9 * (x3 * x7 - x4 * x6)) (x9 * (x6 * x1 - x7 * x0)) (x9 * (x0 * x4 - x1 * x3)) (dtP x0 x1 x2 x3 x4 x5 x6 x7 x8) x10 x11 x12 x13 x14 x15) (sL2 (x9 * (x4 * x8 - x5 * x7)) (x9 * (x7 * x2 - x8 * x1)) (x9 * (x1 * x5 - x2 * x4)) (x9 * (x5 * x6 - x3 * x8)) (x9 * (x8 * x0 - x6 * x2)) (x9 * (x2 * x3 - x0 * x5)) (x9 * (x3 * x7 - x4 * x6)) (x9 * (x6 * x1 - x7 * x0)) (x9 * (x0 * x4 - x1 * x3)) (dtP x0 x1 x2 x3 x4 x5 x6 x7 x8) x10 x11 x12 x13 x14 x15) (sH2 (x9 * (x4 * x8 - x5 * x7)) (x9 * (x7 * x2 - x8 * x1)) (x9 * (x1 * x5 - x2 * x4)) (x9 * (x5 * x6 - x3 * x8)) (x9 * (x8 * x0 - x6 * x2)) (x9 * (x2 * x3 - x0 * x5)) (x9 * (x3 * x7 - x4 * x6)) (x9 * (x6 * x1 - x7 * x0)) (x9 * (x0 * x4 - x1 * x3)) (dtP x0 x1 x2 x3 x4 x5 x6 x7 x8) x10 x11 x12 x13 x14 x15)] [] [] := by

      rw [Int.mul_comm (x4 * x8 - x5 * x7) x9, Int.mul_comm (x7 * x2 - x8 * x1) x9, Int.mul_comm (x1 * x5 - x2 * x4) x9, Int.mul_comm (x5 * x6 - x3 * x8) x9, Int.mul_comm (x8 * x0 - x6 * x2) x9, Int.mul_comm (x2 * x3 - x0 * x5) x9, Int.mul_comm (x3 * x7 - x4 * x6) x9, Int.mul_comm (x6 * x1 - x7 * x0) x9, Int.mul_comm (x0 * x4 - x1 * x3) x9]

      exact applied_r i0 i1 i2 i3 i4 i5 i6 i7 i8 (by omega) a1 a2 b1 b2 c1 c2

    refine ⟨_, sz, _, _, _, _, _, _, _, ha, ?_⟩

    unfold coR; rw [if_neg d']; exact ⟨rfl, rfl, rfl, rfl, rfl, rfl, rfl⟩

  · have d' : dtP x0 x1 x2 x3 x4 x5 x6 x7 x8 ≠ 0 := ne_dec d

    have p' : ¬ 0 ≤ dtP x0 x1 x2 x3 x4 x5 x6 x7 x8 := of_decide_eq_false p

    rw [if_neg p'] at sz

    have ha : Spec Tryz.prog etalonref06_applied_s ⟨[0 - (x4 * x8 - x5 * x7) * x9, 0 - (x7 * x2 - x8 * x1) * x9, 0 - (x1 * x5 - x2 * x4) * x9, 0 - (x5 * x6 - x3 * x8) * x9, 0 - (x8 * x0 - x6 * x2) * x9, 0 - (x2 * x3 - x0 * x5) * x9, 0 - (x3 * x7 - x4 * x6) * x9, 0 - (x6 * x1 - x7 * x0) * x9, 0 - (x0 * x4 - x1 * x3) * x9, 0 - dtP x0 x1 x2 x3 x4 x5 x6 x7 x8, x10, x11, x12, x13, x14, x15], [], []⟩ [lgV (sL0 (x9 * (x4 * x8 - x5 * x7)) (x9 * (x7 * x2 - x8 * x1)) (x9 * (x1 * x5 - x2 * x4)) (x9 * (x5 * x6 - x3 * x8)) (x9 * (x8 * x0 - x6 * x2)) (x9 * (x2 * x3 - x0 * x5)) (x9 * (x3 * x7 - x4 * x6)) (x9 * (x6 * x1 - x7 * x0)) (x9 * (x0 * x4 - x1 * x3)) (dtP x0 x1 x2 x3 x4 x5 x6 x7 x8) x10 x11 x12 x13 x14 x15) (sH0 (x9 * (x4 * x8 - x5 * x7)) (x9 * (x7 * x2 - x8 * x1)) (x9 * (x1 * x5 - x2 * x4)) (x9 * (x5 * x6 - x3 * x8)) (x9 * (x8 * x0 - x6 * x2)) (x9 * (x2 * x3 - x0 * x5)) (x9 * (x3 * x7 - x4 * x6)) (x9 * (x6 * x1 - x7 * x0)) (x9 * (x0 * x4 - x1 * x3)) (dtP x0 x1 x2 x3 x4 x5 x6 x7 x8) x10 x11 x12 x13 x14 x15) (sL1 (x9 * (x4 * x8 - x5 * x7)) (x9 * (x7 * x2 - x8 * x1)) (x9 * (x1 * x5 - x2 * x4)) (x9 * (x5 * x6 - x3 * x8)) (x9 * (x8 * x0 - x6 * x2)) (x9 * (x2 * x3 - x0 * x5)) (x9 * (x3 * x7 - x4 * x6)) (x9 * (x6 * x1 - x7 * x0)) (x9 * (x0 * x4 - x1 * x3)) (dtP x0 x1 x2 x3 x4 x5 x6 x7 x8) x10 x11 x12 x13 x14 x15) (sH1 (x9 * (x4 * x8 - x5 * x7)) (x9 * (x7 * x2 - x8 * x1)) (x9 * (x1 * x5 - x2 * x4)) (x9 * (x5 * x6 - x3 * x8)) (x9 * (x8 * x0 - x6 * x2)) (x9 * (x2 * x3 - x0 * x5)) (x9 * (x3 * x7 - x4 * x6)) (x9 * (x6 * x1 - x7 * x0)) (x9 * (x0 * x4 - x1 * x3)) (dtP x0 x1 x2 x3 x4 x5 x6 x7 x8) x10 x11 x12 x13 x14 x15) (sL2 (x9 * (x4 * x8 - x5 * x7)) (x9 * (x7 * x2 - x8 * x1)) (x9 * (x1 * x5 - x2 * x4)) (x9 * (x5 * x6 - x3 * x8)) (x9 * (x8 * x0 - x6 * x2)) (x9 * (x2 * x3 - x0 * x5)) (x9 * (x3 * x7 - x4 * x6)) (x9 * (x6 * x1 - x7 * x0)) (x9 * (x0 * x4 - x1 * x3)) (dtP x0 x1 x2 x3 x4 x5 x6 x7 x8) x10 x11 x12 x13 x14 x15) (sH2 (x9 * (x4 * x8 - x5 * x7)) (x9 * (x7 * x2 - x8 * x1)) (x9 * (x1 * x5 - x2 * x4)) (x9 * (x5 * x6 - x3 * x8)) (x9 * (x8 * x0 - x6 * x2)) (x9 * (x2 * x3 - x0 * x5)) (x9 * (x3 * x7 - x4 * x6)) (x9 * (x6 * x1 - x7 * x0)) (x9 * (x0 * x4 - x1 * x3)) (dtP x0 x1 x2 x3 x4 x5 x6 x7 x8) x10 x11 x12 x13 x14 x15) (sL0 (x9 * (x4 * x8 - x5 * x7)) (x9 * (x7 * x2 - x8 * x1)) (x9 * (x1 * x5 - x2 * x4)) (x9 * (x5 * x6 - x3 * x8)) (x9 * (x8 * x0 - x6 * x2)) (x9 * (x2 * x3 - x0 * x5)) (x9 * (x3 * x7 - x4 * x6)) (x9 * (x6 * x1 - x7 * x0)) (x9 * (x0 * x4 - x1 * x3)) (dtP x0 x1 x2 x3 x4 x5 x6 x7 x8) x10 x11 x12 x13 x14 x15), lgV (sL0 (x9 * (x4 * x8 - x5 * x7)) (x9 * (x7 * x2 - x8 * x1)) (x9 * (x1 * x5 - x2 * x4)) (x9 * (x5 * x6 - x3 * x8)) (x9 * (x8 * x0 - x6 * x2)) (x9 * (x2 * x3 - x0 * x5)) (x9 * (x3 * x7 - x4 * x6)) (x9 * (x6 * x1 - x7 * x0)) (x9 * (x0 * x4 - x1 * x3)) (dtP x0 x1 x2 x3 x4 x5 x6 x7 x8) x10 x11 x12 x13 x14 x15) (sH0 (x9 * (x4 * x8 - x5 * x7)) (x9 * (x7 * x2 - x8 * x1)) (x9 * (x1 * x5 - x2 * x4)) (x9 * (x5 * x6 - x3 * x8)) (x9 * (x8 * x0 - x6 * x2)) (x9 * (x2 * x3 - x0 * x5)) (x9 * (x3 * x7 - x4 * x6)) (x9 * (x6 * x1 - x7 * x0)) (x9 * (x0 * x4 - x1 * x3)) (dtP x0 x1 x2 x3 x4 x5 x6 x7 x8) x10 x11 x12 x13 x14 x15) (sL1 (x9 * (x4 * x8 - x5 * x7)) (x9 * (x7 * x2 - x8 * x1)) (x9 * (x1 * x5 - x2 * x4)) (x9 * (x5 * x6 - x3 * x8)) (x9 * (x8 * x0 - x6 * x2)) (x9 * (x2 * x3 - x0 * x5)) (x9 * (x3 * x7 - x4 * x6)) (x9 * (x6 * x1 - x7 * x0)) (x9 * (x0 * x4 - x1 * x3)) (dtP x0 x1 x2 x3 x4 x5 x6 x7 x8) x10 x11 x12 x13 x14 x15) (sH1 (x9 * (x4 * x8 - x5 * x7)) (x9 * (x7 * x2 - x8 * x1)) (x9 * (x1 * x5 - x2 * x4)) (x9 * (x5 * x6 - x3 * x8)) (x9 * (x8 * x0 - x6 * x2)) (x9 * (x2 * x3 - x0 * x5)) (x9 * (x3 * x7 - x4 * x6)) (x9 * (x6 * x1 - x7 * x0)) (x9 * (x0 * x4 - x1 * x3)) (dtP x0 x1 x2 x3 x4 x5 x6 x7 x8) x10 x11 x12 x13 x14 x15) (sL2 (x9 * (x4 * x8 - x5 * x7)) (x9 * (x7 * x2 - x8 * x1)) (x9 * (x1 * x5 - x2 * x4)) (x9 * (x5 * x6 - x3 * x8)) (x9 * (x8 * x0 - x6 * x2)) (x9 * (x2 * x3 - x0 * x5)) (x9 * (x3 * x7 - x4 * x6)) (x9 * (x6 * x1 - x7 * x0)) (x9 * (x0 * x4 - x1 * x3)) (dtP x0 x1 x2 x3 x4 x5 x6 x7 x8) x10 x11 x12 x13 x14 x15) (sH2 (x9 * (x4 * x8 - x5 * x7)) (x9 * (x7 * x2 - x8 * x1)) (x9 * (x1 * x5 - x2 * x4)) (x9 * (x5 * x6 - x3 * x8)) (x9 * (x8 * x0 - x6 * x2)) (x9 * (x2 * x3 - x0 * x5)) (x9 * (x3 * x7 - x4 * x6)) (x9 * (x6 * x1 - x7 * x0)) (x9 * (x0 * x4 - x1 * x3)) (dtP x0 x1 x2 x3 x4 x5 x6 x7 x8) x10 x11 x12 x13 x14 x15) (sH0 (x9 * (x4 * x8 - x5 * x7)) (x9 * (x7 * x2 - x8 * x1)) (x9 * (x1 * x5 - x2 * x4)) (x9 * (x5 * x6 - x3 * x8)) (x9 * (x8 * x0 - x6 * x2)) (x9 * (x2 * x3 - x0 * x5)) (x9 * (x3 * x7 - x4 * x6)) (x9 * (x6 * x1 - x7 * x0)) (x9 * (x0 * x4 - x1 * x3)) (dtP x0 x1 x2 x3 x4 x5 x6 x7 x8) x10 x11 x12 x13 x14 x15), lgV (sL0 (x9 * (x4 * x8 - x5 * x7)) (x9 * (x7 * x2 - x8 * x1)) (x9 * (x1 * x5 - x2 * x4)) (x9 * (x5 * x6 - x3 * x8)) (x9 * (x8 * x0 - x6 * x2)) (x9 * (x2 * x3 - x0 * x5)) (x9 * (x3 * x7 - x4 * x6)) (x9 * (x6 * x1 - x7 * x0)) (x9 * (x0 * x4 - x1 * x3)) (dtP x0 x1 x2 x3 x4 x5 x6 x7 x8) x10 x11 x12 x13 x14 x15) (sH0 (x9 * (x4 * x8 - x5 * x7)) (x9 * (x7 * x2 - x8 * x1)) (x9 * (x1 * x5 - x2 * x4)) (x9 * (x5 * x6 - x3 * x8)) (x9 * (x8 * x0 - x6 * x2)) (x9 * (x2 * x3 - x0 * x5)) (x9 * (x3 * x7 - x4 * x6)) (x9 * (x6 * x1 - x7 * x0)) (x9 * (x0 * x4 - x1 * x3)) (dtP x0 x1 x2 x3 x4 x5 x6 x7 x8) x10 x11 x12 x13 x14 x15) (sL1 (x9 * (x4 * x8 - x5 * x7)) (x9 * (x7 * x2 - x8 * x1)) (x9 * (x1 * x5 - x2 * x4)) (x9 * (x5 * x6 - x3 * x8)) (x9 * (x8 * x0 - x6 * x2)) (x9 * (x2 * x3 - x0 * x5)) (x9 * (x3 * x7 - x4 * x6)) (x9 * (x6 * x1 - x7 * x0)) (x9 * (x0 * x4 - x1 * x3)) (dtP x0 x1 x2 x3 x4 x5 x6 x7 x8) x10 x11 x12 x13 x14 x15) (sH1 (x9 * (x4 * x8 - x5 * x7)) (x9 * (x7 * x2 - x8 * x1)) (x9 * (x1 * x5 - x2 * x4)) (x9 * (x5 * x6 - x3 * x8)) (x9 * (x8 * x0 - x6 * x2)) (x9 * (x2 * x3 - x0 * x5)) (x9 * (x3 * x7 - x4 * x6)) (x9 * (x6 * x1 - x7 * x0)) (x9 * (x0 * x4 - x1 * x3)) (dtP x0 x1 x2 x3 x4 x5 x6 x7 x8) x10 x11 x12 x13 x14 x15) (sL2 (x9 * (x4 * x8 - x5 * x7)) (x9 * (x7 * x2 - x8 * x1)) (x9 * (x1 * x5 - x2 * x4)) (x9 * (x5 * x6 - x3 * x8)) (x9 * (x8 * x0 - x6 * x2)) (x9 * (x2 * x3 - x0 * x5)) (x9 * (x3 * x7 - x4 * x6)) (x9 * (x6 * x1 - x7 * x0)) (x9 * (x0 * x4 - x1 * x3)) (dtP x0 x1 x2 x3 x4 x5 x6 x7 x8) x10 x11 x12 x13 x14 x15) (sH2 (x9 * (x4 * x8 - x5 * x7)) (x9 * (x7 * x2 - x8 * x1)) (x9 * (x1 * x5 - x2 * x4)) (x9 * (x5 * x6 - x3 * x8)) (x9 * (x8 * x0 - x6 * x2)) (x9 * (x2 * x3 - x0 * x5)) (x9 * (x3 * x7 - x4 * x6)) (x9 * (x6 * x1 - x7 * x0)) (x9 * (x0 * x4 - x1 * x3)) (dtP x0 x1 x2 x3 x4 x5 x6 x7 x8) x10 x11 x12 x13 x14 x15) (sL1 (x9 * (x4 * x8 - x5 * x7)) (x9 * (x7 * x2 - x8 * x1)) (x9 * (x1 * x5 - x2 * x4)) (x9 * (x5 * x6 - x3 * x8)) (x9 * (x8 * x0 - x6 * x2)) (x9 * (x2 * x3 - x0 * x5)) (x9 * (x3 * x7 - x4 * x6)) (x9 * (x6 * x1 - x7 * x0)) (x9 * (x0 * x4 - x1 * x3)) (dtP x0 x1 x2 x3 x4 x5 x6 x7 x8) x10 x11 x12 x13 x14 x15), lgV (sL0 (x9 * (x4 * x8 - x5 * x7)) (x9 * (x7 * x2 - x8 * x1)) (x9 * (x1 * x5 - x2 * x4)) (x9 * (x5 * x6 - x3 * x8)) (x9 * (x8 * x0 - x6 * x2)) (x9 * (x2 * x3 - x0 * x5)) (x9 * (x3 * x7 - x4 * x6)) (x9 * (x6 * x1 - x7 * x0)) (x9 * (x0 * x4 - x1 * x3)) (dtP x0 x1 x2 x3 x4 x5 x6 x7 x8) x10 x11 x12 x13 x14 x15) (sH0 (x9 * (x4 * x8 - x5 * x7)) (x9 * (x7 * x2 - x8 * x1)) (x9 * (x1 * x5 - x2 * x4)) (x9 * (x5 * x6 - x3 * x8)) (x9 * (x8 * x0 - x6 * x2)) (x9 * (x2 * x3 - x0 * x5)) (x9 * (x3 * x7 - x4 * x6)) (x9 * (x6 * x1 - x7 * x0)) (x9 * (x0 * x4 - x1 * x3)) (dtP x0 x1 x2 x3 x4 x5 x6 x7 x8) x10 x11 x12 x13 x14 x15) (sL1 (x9 * (x4 * x8 - x5 * x7)) (x9 * (x7 * x2 - x8 * x1)) (x9 * (x1 * x5 - x2 * x4)) (x9 * (x5 * x6 - x3 * x8)) (x9 * (x8 * x0 - x6 * x2)) (x9 * (x2 * x3 - x0 * x5)) (x9 * (x3 * x7 - x4 * x6)) (x9 * (x6 * x1 - x7 * x0)) (x9 * (x0 * x4 - x1 * x3)) (dtP x0 x1 x2 x3 x4 x5 x6 x7 x8) x10 x11 x12 x13 x14 x15) (sH1 (x9 * (x4 * x8 - x5 * x7)) (x9 * (x7 * x2 - x8 * x1)) (x9 * (x1 * x5 - x2 * x4)) (x9 * (x5 * x6 - x3 * x8)) (x9 * (x8 * x0 - x6 * x2)) (x9 * (x2 * x3 - x0 * x5)) (x9 * (x3 * x7 - x4 * x6)) (x9 * (x6 * x1 - x7 * x0)) (x9 * (x0 * x4 - x1 * x3)) (dtP x0 x1 x2 x3 x4 x5 x6 x7 x8) x10 x11 x12 x13 x14 x15) (sL2 (x9 * (x4 * x8 - x5 * x7)) (x9 * (x7 * x2 - x8 * x1)) (x9 * (x1 * x5 - x2 * x4)) (x9 * (x5 * x6 - x3 * x8)) (x9 * (x8 * x0 - x6 * x2)) (x9 * (x2 * x3 - x0 * x5)) (x9 * (x3 * x7 - x4 * x6)) (x9 * (x6 * x1 - x7 * x0)) (x9 * (x0 * x4 - x1 * x3)) (dtP x0 x1 x2 x3 x4 x5 x6 x7 x8) x10 x11 x12 x13 x14 x15) (sH2 (x9 * (x4 * x8 - x5 * x7)) (x9 * (x7 * x2 - x8 * x1)) (x9 * (x1 * x5 - x2 * x4)) (x9 * (x5 * x6 - x3 * x8)) (x9 * (x8 * x0 - x6 * x2)) (x9 * (x2 * x3 - x0 * x5)) (x9 * (x3 * x7 - x4 * x6)) (x9 * (x6 * x1 - x7 * x0)) (x9 * (x0 * x4 - x1 * x3)) (dtP x0 x1 x2 x3 x4 x5 x6 x7 x8) x10 x11 x12 x13 x14 x15) (sH1 (x9 * (x4 * x8 - x5 * x7)) (x9 * (x7 * x2 - x8 * x1)) (x9 * (x1 * x5 - x2 * x4)) (x9 * (x5 * x6 - x3 * x8)) (x9 * (x8 * x0 - x6 * x2)) (x9 * (x2 * x3 - x0 * x5)) (x9 * (x3 * x7 - x4 * x6)) (x9 * (x6 * x1 - x7 * x0)) (x9 * (x0 * x4 - x1 * x3)) (dtP x0 x1 x2 x3 x4 x5 x6 x7 x8) x10 x11 x12 x13 x14 x15), lgV (sL0 (x9 * (x4 * x8 - x5 * x7)) (x9 * (x7 * x2 - x8 * x1)) (x9 * (x1 * x5 - x2 * x4)) (x9 * (x5 * x6 - x3 * x8)) (x9 * (x8 * x0 - x6 * x2)) (x9 * (x2 * x3 - x0 * x5)) (x9 * (x3 * x7 - x4 * x6)) (x9 * (x6 * x1 - x7 * x0)) (x9 * (x0 * x4 - x1 * x3)) (dtP x0 x1 x2 x3 x4 x5 x6 x7 x8) x10 x11 x12 x13 x14 x15) (sH0 (x9 * (x4 * x8 - x5 * x7)) (x9 * (x7 * x2 - x8 * x1)) (x9 * (x1 * x5 - x2 * x4)) (x9 * (x5 * x6 - x3 * x8)) (x9 * (x8 * x0 - x6 * x2)) (x9 * (x2 * x3 - x0 * x5)) (x9 * (x3 * x7 - x4 * x6)) (x9 * (x6 * x1 - x7 * x0)) (x9 * (x0 * x4 - x1 * x3)) (dtP x0 x1 x2 x3 x4 x5 x6 x7 x8) x10 x11 x12 x13 x14 x15) (sL1 (x9 * (x4 * x8 - x5 * x7)) (x9 * (x7 * x2 - x8 * x1)) (x9 * (x1 * x5 - x2 * x4)) (x9 * (x5 * x6 - x3 * x8)) (x9 * (x8 * x0 - x6 * x2)) (x9 * (x2 * x3 - x0 * x5)) (x9 * (x3 * x7 - x4 * x6)) (x9 * (x6 * x1 - x7 * x0)) (x9 * (x0 * x4 - x1 * x3)) (dtP x0 x1 x2 x3 x4 x5 x6 x7 x8) x10 x11 x12 x13 x14 x15) (sH1 (x9 * (x4 * x8 - x5 * x7)) (x9 * (x7 * x2 - x8 * x1)) (x9 * (x1 * x5 - x2 * x4)) (x9 * (x5 * x6 - x3 * x8)) (x9 * (x8 * x0 - x6 * x2)) (x9 * (x2 * x3 - x0 * x5)) (x9 * (x3 * x7 - x4 * x6)) (x9 * (x6 * x1 - x7 * x0)) (x9 * (x0 * x4 - x1 * x3)) (dtP x0 x1 x2 x3 x4 x5 x6 x7 x8) x10 x11 x12 x13 x14 x15) (sL2 (x9 * (x4 * x8 - x5 * x7)) (x9 * (x7 * x2 - x8 * x1)) (x9 * (x1 * x5 - x2 * x4)) (x9 * (x5 * x6 - x3 * x8)) (x9 * (x8 * x0 - x6 * x2)) (x9 * (x2 * x3 - x0 * x5)) (x9 * (x3 * x7 - x4 * x6)) (x9 * (x6 * x1 - x7 * x0)) (x9 * (x0 * x4 - x1 * x3)) (dtP x0 x1 x2 x3 x4 x5 x6 x7 x8) x10 x11 x12 x13 x14 x15) (sH2 (x9 * (x4 * x8 - x5 * x7)) (x9 * (x7 * x2 - x8 * x1)) (x9 * (x1 * x5 - x2 * x4)) (x9 * (x5 * x6 - x3 * x8)) (x9 * (x8 * x0 - x6 * x2)) (x9 * (x2 * x3 - x0 * x5)) (x9 * (x3 * x7 - x4 * x6)) (x9 * (x6 * x1 - x7 * x0)) (x9 * (x0 * x4 - x1 * x3)) (dtP x0 x1 x2 x3 x4 x5 x6 x7 x8) x10 x11 x12 x13 x14 x15) (sL2 (x9 * (x4 * x8 - x5 * x7)) (x9 * (x7 * x2 - x8 * x1)) (x9 * (x1 * x5 - x2 * x4)) (x9 * (x5 * x6 - x3 * x8)) (x9 * (x8 * x0 - x6 * x2)) (x9 * (x2 * x3 - x0 * x5)) (x9 * (x3 * x7 - x4 * x6)) (x9 * (x6 * x1 - x7 * x0)) (x9 * (x0 * x4 - x1 * x3)) (dtP x0 x1 x2 x3 x4 x5 x6 x7 x8) x10 x11 x12 x13 x14 x15), lgV (sL0 (x9 * (x4 * x8 - x5 * x7)) (x9 * (x7 * x2 - x8 * x1)) (x9 * (x1 * x5 - x2 * x4)) (x9 * (x5 * x6 - x3 * x8)) (x9 * (x8 * x0 - x6 * x2)) (x9 * (x2 * x3 - x0 * x5)) (x9 * (x3 * x7 - x4 * x6)) (x9 * (x6 * x1 - x7 * x0)) (x9 * (x0 * x4 - x1 * x3)) (dtP x0 x1 x2 x3 x4 x5 x6 x7 x8) x10 x11 x12 x13 x14 x15) (sH0 (x9 * (x4 * x8 - x5 * x7)) (x9 * (x7 * x2 - x8 * x1)) (x9 * (x1 * x5 - x2 * x4)) (x9 * (x5 * x6 - x3 * x8)) (x9 * (x8 * x0 - x6 * x2)) (x9 * (x2 * x3 - x0 * x5)) (x9 * (x3 * x7 - x4 * x6)) (x9 * (x6 * x1 - x7 * x0)) (x9 * (x0 * x4 - x1 * x3)) (dtP x0 x1 x2 x3 x4 x5 x6 x7 x8) x10 x11 x12 x13 x14 x15) (sL1 (x9 * (x4 * x8 - x5 * x7)) (x9 * (x7 * x2 - x8 * x1)) (x9 * (x1 * x5 - x2 * x4)) (x9 * (x5 * x6 - x3 * x8)) (x9 * (x8 * x0 - x6 * x2)) (x9 * (x2 * x3 - x0 * x5)) (x9 * (x3 * x7 - x4 * x6)) (x9 * (x6 * x1 - x7 * x0)) (x9 * (x0 * x4 - x1 * x3)) (dtP x0 x1 x2 x3 x4 x5 x6 x7 x8) x10 x11 x12 x13 x14 x15) (sH1 (x9 * (x4 * x8 - x5 * x7)) (x9 * (x7 * x2 - x8 * x1)) (x9 * (x1 * x5 - x2 * x4)) (x9 * (x5 * x6 - x3 * x8)) (x9 * (x8 * x0 - x6 * x2)) (x9 * (x2 * x3 - x0 * x5)) (x9 * (x3 * x7 - x4 * x6)) (x9 * (x6 * x1 - x7 * x0)) (x9 * (x0 * x4 - x1 * x3)) (dtP x0 x1 x2 x3 x4 x5 x6 x7 x8) x10 x11 x12 x13 x14 x15) (sL2 (x9 * (x4 * x8 - x5 * x7)) (x9 * (x7 * x2 - x8 * x1)) (x9 * (x1 * x5 - x2 * x4)) (x9 * (x5 * x6 - x3 * x8)) (x9 * (x8 * x0 - x6 * x2)) (x9 * (x2 * x3 - x0 * x5)) (x9 * (x3 * x7 - x4 * x6)) (x9 * (x6 * x1 - x7 * x0)) (x9 * (x0 * x4 - x1 * x3)) (dtP x0 x1 x2 x3 x4 x5 x6 x7 x8) x10 x11 x12 x13 x14 x15) (sH2 (x9 * (x4 * x8 - x5 * x7)) (x9 * (x7 * x2 - x8 * x1)) (x9 * (x1 * x5 - x2 * x4)) (x9 * (x5 * x6 - x3 * x8)) (x9 * (x8 * x0 - x6 * x2)) (x9 * (x2 * x3 - x0 * x5)) (x9 * (x3 * x7 - x4 * x6)) (x9 * (x6 * x1 - x7 * x0)) (x9 * (x0 * x4 - x1 * x3)) (dtP x0 x1 x2 x3 x4 x5 x6 x7 x8) x10 x11 x12 x13 x14 x15) (sH2 (x9 * (x4 * x8 - x5 * x7)) (x9 * (x7 * x2 - x8 * x1)) (x9 * (x1 * x5 - x2 * x4)) (x9 * (x5 * x6 - x3 * x8)) (x9 * (x8 * x0 - x6 * x2)) (x9 * (x2 * x3 - x0 * x5)) (x9 * (x3 * x7 - x4 * x6)) (x9 * (x6 * x1 - x7 * x0)) (x9 * (x0 * x4 - x1 * x3)) (dtP x0 x1 x2 x3 x4 x5 x6 x7 x8) x10 x11 x12 x13 x14 x15), lgE (sL0 (x9 * (x4 * x8 - x5 * x7)) (x9 * (x7 * x2 - x8 * x1)) (x9 * (x1 * x5 - x2 * x4)) (x9 * (x5 * x6 - x3 * x8)) (x9 * (x8 * x0 - x6 * x2)) (x9 * (x2 * x3 - x0 * x5)) (x9 * (x3 * x7 - x4 * x6)) (x9 * (x6 * x1 - x7 * x0)) (x9 * (x0 * x4 - x1 * x3)) (dtP x0 x1 x2 x3 x4 x5 x6 x7 x8) x10 x11 x12 x13 x14 x15) (sH0 (x9 * (x4 * x8 - x5 * x7)) (x9 * (x7 * x2 - x8 * x1)) (x9 * (x1 * x5 - x2 * x4)) (x9 * (x5 * x6 - x3 * x8)) (x9 * (x8 * x0 - x6 * x2)) (x9 * (x2 * x3 - x0 * x5)) (x9 * (x3 * x7 - x4 * x6)) (x9 * (x6 * x1 - x7 * x0)) (x9 * (x0 * x4 - x1 * x3)) (dtP x0 x1 x2 x3 x4 x5 x6 x7 x8) x10 x11 x12 x13 x14 x15) (sL1 (x9 * (x4 * x8 - x5 * x7)) (x9 * (x7 * x2 - x8 * x1)) (x9 * (x1 * x5 - x2 * x4)) (x9 * (x5 * x6 - x3 * x8)) (x9 * (x8 * x0 - x6 * x2)) (x9 * (x2 * x3 - x0 * x5)) (x9 * (x3 * x7 - x4 * x6)) (x9 * (x6 * x1 - x7 * x0)) (x9 * (x0 * x4 - x1 * x3)) (dtP x0 x1 x2 x3 x4 x5 x6 x7 x8) x10 x11 x12 x13 x14 x15) (sH1 (x9 * (x4 * x8 - x5 * x7)) (x9 * (x7 * x2 - x8 * x1)) (x9 * (x1 * x5 - x2 * x4)) (x9 * (x5 * x6 - x3 * x8)) (x9 * (x8 * x0 - x6 * x2)) (x9 * (x2 * x3 - x0 * x5)) (x9 * (x3 * x7 - x4 * x6)) (x9 * (x6 * x1 - x7 * x0)) (x9 * (x0 * x4 - x1 * x3)) (dtP x0 x1 x2 x3 x4 x5 x6 x7 x8) x10 x11 x12 x13 x14 x15) (sL2 (x9 * (x4 * x8 - x5 * x7)) (x9 * (x7 * x2 - x8 * x1)) (x9 * (x1 * x5 - x2 * x4)) (x9 * (x5 * x6 - x3 * x8)) (x9 * (x8 * x0 - x6 * x2)) (x9 * (x2 * x3 - x0 * x5)) (x9 * (x3 * x7 - x4 * x6)) (x9 * (x6 * x1 - x7 * x0)) (x9 * (x0 * x4 - x1 * x3)) (dtP x0 x1 x2 x3 x4 x5 x6 x7 x8) x10 x11 x12 x13 x14 x15) (sH2 (x9 * (x4 * x8 - x5 * x7)) (x9 * (x7 * x2 - x8 * x1)) (x9 * (x1 * x5 - x2 * x4)) (x9 * (x5 * x6 - x3 * x8)) (x9 * (x8 * x0 - x6 * x2)) (x9 * (x2 * x3 - x0 * x5)) (x9 * (x3 * x7 - x4 * x6)) (x9 * (x6 * x1 - x7 * x0)) (x9 * (x0 * x4 - x1 * x3)) (dtP x0 x1 x2 x3 x4 x5 x6 x7 x8) x10 x11 x12 x13 x14 x15)] [] [] := by

      rw [Int.mul_comm (x4 * x8 - x5 * x7) x9, Int.mul_comm (x7 * x2 - x8 * x1) x9, Int.mul_comm (x1 * x5 - x2 * x4) x9, Int.mul_comm (x5 * x6 - x3 * x8) x9, Int.mul_comm (x8 * x0 - x6 * x2) x9, Int.mul_comm (x2 * x3 - x0 * x5) x9, Int.mul_comm (x3 * x7 - x4 * x6) x9, Int.mul_comm (x6 * x1 - x7 * x0) x9, Int.mul_comm (x0 * x4 - x1 * x3) x9]

      have q := applied_r (x0 := 0 - x9 * (x4 * x8 - x5 * x7)) (x1 := 0 - x9 * (x7 * x2 - x8 * x1)) (x2 := 0 - x9 * (x1 * x5 - x2 * x4)) (x3 := 0 - x9 * (x5 * x6 - x3 * x8)) (x4 := 0 - x9 * (x8 * x0 - x6 * x2)) (x5 := 0 - x9 * (x2 * x3 - x0 * x5)) (x6 := 0 - x9 * (x3 * x7 - x4 * x6)) (x7 := 0 - x9 * (x6 * x1 - x7 * x0)) (x8 := 0 - x9 * (x0 * x4 - x1 * x3)) (x9 := 0 - dtP x0 x1 x2 x3 x4 x5 x6 x7 x8) (by omega) (by omega) (by omega) (by omega) (by omega) (by omega) (by omega) (by omega) (by omega) (by omega) a1 a2 b1 b2 c1 c2

      obtain ⟨n0, n1, n2, n3, n4, n5⟩ := s_neg (x9 * (x4 * x8 - x5 * x7)) (x9 * (x7 * x2 - x8 * x1)) (x9 * (x1 * x5 - x2 * x4)) (x9 * (x5 * x6 - x3 * x8)) (x9 * (x8 * x0 - x6 * x2)) (x9 * (x2 * x3 - x0 * x5)) (x9 * (x3 * x7 - x4 * x6)) (x9 * (x6 * x1 - x7 * x0)) (x9 * (x0 * x4 - x1 * x3)) (dtP x0 x1 x2 x3 x4 x5 x6 x7 x8) x10 x11 x12 x13 x14 x15 (by omega)

      rw [n0, n1, n2, n3, n4, n5] at q

      exact q

    refine ⟨_, sz, _, _, _, _, _, _, _, ha, ?_⟩

    unfold coR; rw [if_neg d']; exact ⟨rfl, rfl, rfl, rfl, rfl, rfl, rfl⟩

theorem lgR_uniq {a b c d e f v0 v1 v2 v3 v4 v5 v6 w0 w1 w2 w3 w4 w5 w6 : Int} (h : lgR a b c d e f v0 v1 v2 v3 v4 v5 v6) (g : lgR a b c d e f w0 w1 w2 w3 w4 w5 w6) : v0 = w0 ∧ v1 = w1 ∧ v2 = w2 ∧ v3 = w3 ∧ v4 = w4 ∧ v5 = w5 ∧ v6 = w6 := by

  obtain ⟨h0, h1, h2, h3, h4, h5, h6⟩ := h

  obtain ⟨g0, g1, g2, g3, g4, g5, g6⟩ := g

  exact ⟨h0.trans g0.symm, h1.trans g1.symm, h2.trans g2.symm, h3.trans g3.symm, h4.trans g4.symm, h5.trans g5.symm, h6.trans g6.symm⟩

theorem coR_uniq {x0 x1 x2 x3 x4 x5 x6 x7 x8 x9 x10 x11 x12 x13 x14 x15 v0 v1 v2 v3 v4 v5 v6 w0 w1 w2 w3 w4 w5 w6 : Int} (h : coR x0 x1 x2 x3 x4 x5 x6 x7 x8 x9 x10 x11 x12 x13 x14 x15 v0 v1 v2 v3 v4 v5 v6) (g : coR x0 x1 x2 x3 x4 x5 x6 x7 x8 x9 x10 x11 x12 x13 x14 x15 w0 w1 w2 w3 w4 w5 w6) : v0 = w0 ∧ v1 = w1 ∧ v2 = w2 ∧ v3 = w3 ∧ v4 = w4 ∧ v5 = w5 ∧ v6 = w6 := by

  unfold coR at h g

  split at h

  · rename_i hp; rw [if_pos hp] at g; omega

  · rename_i hp; rw [if_neg hp] at g; exact lgR_uniq h g

end Go.Proofs.YtpjcjdhidfnbbaaGreat.Ev
