/- What a right material tells at a wavelength. -/
import Derived.Test.YtfgdockgdbdoiaaGreatFgo
namespace Go.Proofs.YtfgdockgdbdoiaaGreat.Ev
set_option linter.unusedSimpArgs false
open Go Go.RowKit
set_option linter.unusedVariables false
set_option maxRecDepth 100000
open Gp

/-- The numbers of a column of floats. -/

def nOf (f : Int → Int) (i : Int) : Int := NOp.den .f2iV (f i) 0

/-- What a right table says, in numbers. -/

structure Tab (n : Int) (f0 f1 f2 : Int → Int) : Prop where

  one : 1 ≤ n

  few : n ≤ 64

  up : Rises n f0

  wave : ∀ i, 0 ≤ i → i < n → 1000 ≤ f0 i ∧ f0 i ≤ 200000

  iO : ∀ i, 0 ≤ i → i < n → NOp.den .f2iO (f1 i) 0 = 1

  lO : ∀ i, 0 ≤ i → i < n → NOp.den .f2iO (f2 i) 0 = 1

  iV : ∀ i, 0 ≤ i → i < n → 5000 ≤ nOf f1 i ∧ nOf f1 i ≤ 80000

  lV : ∀ i, 0 ≤ i → i < n → 0 ≤ nOf f2 i ∧ nOf f2 i ≤ 80000

theorem cutN {x n : Int} (h : cutF32 x.toNat = some n) : NOp.den .f2iO x 0 = 1 ∧ NOp.den .f2iV x 0 = n := by

  refine ⟨?_, ?_⟩

  · show (if (cutF32 x.toNat).isSome then (1 : Int) else 0) = 1

    rw [h]; rfl

  · show (cutF32 x.toNat).getD 0 = n

    rw [h]; rfl

theorem tab_ok {u : Bool} {x2 x3 x4 x5 x6 : Int} {f0 f1 f2 : Int → Int} (h0 : 0 ≤ x2) (h : (glE u 1 x2 x3 x4 x5 x6 f0 f1 f2).2 = 0) : x3 = x2 ∧ x4 = x2 ∧ Tab x2 f0 f1 f2 := by

  obtain ⟨-, -, ⟨a, b, c⟩, d, g⟩ := table_ok h

  refine ⟨b, c, by omega, d, fun i p q => (g i (by omega) q).up p, fun i p q => (g i p q).wave, fun i p q => ?_, fun i p q => ?_, fun i p q => ?_, fun i p q => ?_⟩

  · obtain ⟨x, hx, _⟩ := (g i p q).index; exact (cutN hx).1

  · obtain ⟨x, hx, _⟩ := (g i p q).loss; exact (cutN hx).1

  · obtain ⟨x, hx, hb⟩ := (g i p q).index; unfold nOf; rw [(cutN hx).2]; exact hb

  · obtain ⟨x, hx, hb⟩ := (g i p q).loss; unfold nOf; rw [(cutN hx).2]; exact hb

theorem form_ok {u : Bool} {x2 x3 x4 x5 x6 : Int} {f0 f1 f2 : Int → Int} (h : (glE u 2 x2 x3 x4 x5 x6 f0 f1 f2).2 = 0) : x2 ≤ 0 ∧ (5000 ≤ x5 ∧ x5 ≤ 60000) ∧ (0 ≤ x6 ∧ x6 ≤ 20000) := by

  unfold glE at h

  split at h

  · rw [if_neg (by decide), if_pos rfl] at h

    split at h

    · cases h

    split at h

    · omega

    · cases h

  · cases h

theorem kind_ok {u : Bool} {x1 x2 x3 x4 x5 x6 : Int} {f0 f1 f2 : Int → Int} (h : (glE u x1 x2 x3 x4 x5 x6 f0 f1 f2).2 = 0) : x1 = 1 ∨ x1 = 2 := by

  unfold glE at h

  split at h

  · split at h

    · omega

    · split at h

      · omega

      · cases h

  · cases h

section

variable {x0 x1 x2 x3 x4 x5 x6 x7 : Int} {f0 f1 f2 : Int → Int}

theorem gap_s (r1 : (-9223372036854775808) ≤ x1 ∧ x1 ≤ 9223372036854775807) (r2 : 2 ≤ x2 ∧ x2 ≤ 64) (r3 : 0 ≤ x3 ∧ x3 ≤ 140737488355328) (r4 : 0 ≤ x4 ∧ x4 ≤ 140737488355328) (r5 : (-9223372036854775808) ≤ x5 ∧ x5 ≤ 9223372036854775807) (r6 : (-9223372036854775808) ≤ x6 ∧ x6 ≤ 9223372036854775807) (r7 : (-9223372036854775808) ≤ x7 ∧ x7 ≤ 9223372036854775807) (s0 : ∀ q, (-9223372036854775808) ≤ f0 q ∧ f0 q ≤ 9223372036854775807) :

    ∃ r, IsGap x2 f0 x7 r ∧ Spec Tryz.prog _glass_table__gap_s ⟨[x0, x1, x2, x3, x4, x5, x6, x7], [], [f0, f1, f2]⟩ [r] [] [] := by

  refine gap0 (x0 := x0) (f1 := f1) (f2 := f2) r1 r2 r3 r4 r5 r6 r7 s0 (R := fun r => IsGap x2 f0 x7 r) ?_

  simp only [decide_eq_true_eq, decide_eq_false_iff_not]

  refine ⟨fun i => 0 ≤ i ∧ i + 1 < x2 ∧ (i = 0 ∨ f0 i ≤ x7), fun i => (x2 - i).toNat, ⟨by omega, by omega, by omega⟩, ?_⟩

  rintro i ⟨g0, g1, g2⟩

  refine ⟨by omega, fun h => ⟨by omega, g0, g1, g2, Or.inl (by omega)⟩, fun h => ⟨fun h' => by omega, fun _ => ⟨fun h' => ⟨⟨by omega, by omega, Or.inr h'⟩, by show (x2 - (i + 1)).toNat < (x2 - i).toNat; omega⟩, fun h' => ⟨by omega, g0, g1, g2, Or.inr (by omega)⟩⟩⟩⟩

theorem row_s (r1 : (-9223372036854775808) ≤ x1 ∧ x1 ≤ 9223372036854775807) (r2 : 1 ≤ x2 ∧ x2 ≤ 64) (r3 : 0 ≤ x3 ∧ x3 ≤ 140737488355328) (r4 : 0 ≤ x4 ∧ x4 ≤ 140737488355328) (r5 : (-9223372036854775808) ≤ x5 ∧ x5 ≤ 9223372036854775807) (r6 : (-9223372036854775808) ≤ x6 ∧ x6 ≤ 9223372036854775807) (r7 : (-9223372036854775808) ≤ x7 ∧ x7 ≤ 9223372036854775807) (s0 : ∀ q, (-9223372036854775808) ≤ f0 q ∧ f0 q ≤ 9223372036854775807) :

    ∃ r, IsRow x2 f0 x7 r ∧ Spec Tryz.prog etalonref02_row_s ⟨[x0, x1, x2, x3, x4, x5, x6, x7], [], [f0, f1, f2]⟩ [r] [] [] := by

  refine row0 (x0 := x0) (f1 := f1) (f2 := f2) r1 r2 r3 r4 r5 r6 r7 s0 (R := fun r => IsRow x2 f0 x7 r) ?_

  simp only [decide_eq_true_eq, decide_eq_false_iff_not]

  refine ⟨fun i => 0 ≤ i ∧ i < x2 ∧ (i = 0 ∨ f0 i ≤ x7), fun i => (x2 - i).toNat, ⟨by omega, by omega, by omega⟩, ?_⟩

  rintro i ⟨g0, g1, g2⟩

  refine ⟨by omega, fun h => ⟨by omega, g0, g1, g2, Or.inl (by omega)⟩, fun h => ⟨fun h' => ⟨⟨by omega, by omega, Or.inr h'⟩, by show (x2 - (i + 1)).toNat < (x2 - i).toNat; omega⟩, fun h' => ⟨by omega, g0, g1, g2, Or.inr (by omega)⟩⟩⟩

theorem wsm {x : Int} (h : -9223372036854775808 ≤ x ∧ x ≤ 9223372036854775807) : IntKind.i64.wrap x = x := by

  rw [IntKind.wrap_i64]; omega

theorem ws {n : Int} (h : -9223372036854775808 ≤ n) (h' : n ≤ 9223372036854775807) : IntKind.i64.wrap n = n := wsm ⟨h, h'⟩

/-- What both say between two rows, the wraps away. -/

theorem tol_wrap {c f : Int → Int} {r w : Int} (h0 : 0 ≤ nOf c r ∧ nOf c r ≤ 80000) (h1 : 0 ≤ nOf c (r + 1) ∧ nOf c (r + 1) ≤ 80000) (w0 : 1000 ≤ f r ∧ f r ≤ 200000) (w1 : 1000 ≤ f (r + 1) ∧ f (r + 1) ≤ 200000) (hw : 1000 ≤ w ∧ w ≤ 200000) :

    IntKind.i64.wrap (IntKind.i64.wrap (NOp.den .f2iV (c r) 0 * IntKind.i64.wrap (IntKind.i64.wrap (f (r + 1) - f r) - IntKind.i64.wrap (w - f r))) + IntKind.i64.wrap (NOp.den .f2iV (c (r + 1)) 0 * IntKind.i64.wrap (w - f r))) = tol (nOf c) f w r := by

  have b0 := mulB (n := nOf c r) (a := f (r + 1) - w) (N := 80000) (A := 200000) (by omega) (by omega)

  have b1 := mulB (n := nOf c (r + 1)) (a := w - f r) (N := 80000) (A := 200000) (by omega) (by omega)

  rw [ws (n := f (r + 1) - f r) (by omega) (by omega), ws (n := w - f r) (by omega) (by omega), ws (n := f (r + 1) - f r - (w - f r)) (by omega) (by omega), show f (r + 1) - f r - (w - f r) = f (r + 1) - w by omega]

  show IntKind.i64.wrap (IntKind.i64.wrap (nOf c r * (f (r + 1) - w)) + IntKind.i64.wrap (nOf c (r + 1) * (w - f r))) = tol (nOf c) f w r

  rw [ws (n := nOf c r * (f (r + 1) - w)) (by omega) (by omega), ws (n := nOf c (r + 1) * (w - f r)) (by omega) (by omega), ws (by omega) (by omega)]

  rfl

theorem told_s (T : Tab x2 f0 f1 f2) (h3 : x3 = x2) (h4 : x4 = x2) (r1 : (-9223372036854775808) ≤ x1 ∧ x1 ≤ 9223372036854775807) (r5 : (-9223372036854775808) ≤ x5 ∧ x5 ≤ 9223372036854775807) (r6 : (-9223372036854775808) ≤ x6 ∧ x6 ≤ 9223372036854775807) (r7 : 1000 ≤ x7 ∧ x7 ≤ 200000) (s0 : ∀ q, (-9223372036854775808) ≤ f0 q ∧ f0 q ≤ 9223372036854775807) :

    ∃ N D M E, (PTold x2 f0 (nOf f1) x7 N D ∧ PTold x2 f0 (nOf f2) x7 M E) ∧ Spec Tryz.prog _glass_table__told_s ⟨[x0, x1, x2, x3, x4, x5, x6, x7], [], [f0, f1, f2]⟩ [N, D, M, E] [] [] := by

  have t1 := T.one; have t2 := T.few

  refine tld0 (x0 := x0) (f1 := f1) (f2 := f2) r1 ⟨t1, t2⟩ (by omega) (by omega) r5 r6 (by omega) s0 (R := fun N D M E => PTold x2 f0 (nOf f1) x7 N D ∧ PTold x2 f0 (nOf f2) x7 M E) ?_

  simp only [decide_eq_true_eq, decide_eq_false_iff_not, beq_iff_eq, beq_eq_false_iff_ne, ne_eq]

  refine ⟨fun h => ⟨fun _ => by omega, fun _ => ⟨fun _ => ⟨fun _ => by omega, fun _ => ⟨fun _ => ⟨Or.inl ⟨h, rfl, rfl⟩, Or.inl ⟨h, rfl, rfl⟩⟩, fun g => g (T.lO 0 (by omega) (by omega))⟩⟩, fun g => g (T.iO 0 (by omega) (by omega))⟩⟩, fun h => ?_⟩

  obtain ⟨r, hg, hs⟩ := gap_s (x0 := x0) (x7 := x7) (f0 := f0) (f1 := f1) (f2 := f2) r1 (show 2 ≤ x2 ∧ x2 ≤ 64 by omega) (show 0 ≤ x3 ∧ x3 ≤ 140737488355328 by omega) (show 0 ≤ x4 ∧ x4 ≤ 140737488355328 by omega) r5 r6 (by omega) s0

  have g0 := hg.1; have g1 := hg.2.1

  refine ⟨r, hs, by omega, fun _ => by omega, fun _ => ⟨fun _ => by omega, fun _ => ⟨fun _ => by omega, fun _ => ⟨fun _ => ⟨fun _ => by omega, fun _ => ⟨fun _ => ⟨fun _ => by omega, fun _ => ⟨fun _ => ⟨fun _ => by omega, fun _ => ⟨fun _ => ?_, fun g => g (T.lO (r + 1) (by omega) (by omega))⟩⟩, fun g => g (T.lO r (by omega) (by omega))⟩⟩, fun g => g (T.iO (r + 1) (by omega) (by omega))⟩⟩, fun g => g (T.iO r (by omega) (by omega))⟩⟩⟩⟩

  have w0 := T.wave r (by omega) (by omega); have w1 := T.wave (r + 1) (by omega) (by omega)

  have a0 := T.iV r (by omega) (by omega); have a1 := T.iV (r + 1) (by omega) (by omega)

  have l0 := T.lV r (by omega) (by omega); have l1 := T.lV (r + 1) (by omega) (by omega)

  rw [tol_wrap (c := f1) (by omega) (by omega) w0 w1 r7, tol_wrap (c := f2) l0 l1 w0 w1 r7, ws (by omega) (by omega)]

  exact ⟨Or.inr ⟨h, r, hg, rfl, rfl⟩, Or.inr ⟨h, r, hg, rfl, rfl⟩⟩

theorem exact_t (T : Tab x2 f0 f1 f2) (h1 : x1 = 1) (h3 : x3 = x2) (h4 : x4 = x2) (r5 : (-9223372036854775808) ≤ x5 ∧ x5 ≤ 9223372036854775807) (r6 : (-9223372036854775808) ≤ x6 ∧ x6 ≤ 9223372036854775807) (r7 : 1000 ≤ x7 ∧ x7 ≤ 200000) (hl : f0 0 ≤ x7) (hh : x7 ≤ f0 (x2 - 1)) (s0 : ∀ q, (-9223372036854775808) ≤ f0 q ∧ f0 q ≤ 9223372036854775807) :

    ∃ N D M E, (RTold x2 f0 (nOf f1) x7 N D ∧ RTold x2 f0 (nOf f2) x7 M E) ∧ Spec Tryz.prog etalonref02_exact_s ⟨[x0, x1, x2, x3, x4, x5, x6, x7], [], [f0, f1, f2]⟩ [N, D, M, E] [] [] := by

  have t1 := T.one; have t2 := T.few

  refine exa0 (x0 := x0) (f1 := f1) (f2 := f2) (by omega) (by omega) (by omega) (by omega) r5 r6 (by omega) s0 (R := fun N D M E => RTold x2 f0 (nOf f1) x7 N D ∧ RTold x2 f0 (nOf f2) x7 M E) ?_

  simp only [decide_eq_true_eq, decide_eq_false_iff_not, beq_iff_eq, beq_eq_false_iff_ne, ne_eq]

  refine ⟨fun _ => by omega, fun _ => ?_⟩

  obtain ⟨i, hi, hs⟩ := row_s (x0 := x0) (x1 := x1) (x7 := x7) (f0 := f0) (f1 := f1) (f2 := f2) (by omega) ⟨t1, t2⟩ (show 0 ≤ x3 ∧ x3 ≤ 140737488355328 by omega) (show 0 ≤ x4 ∧ x4 ≤ 140737488355328 by omega) r5 r6 (by omega) s0

  have g0 := hi.1; have g1 := hi.2.1

  refine ⟨i, hs, by omega, fun _ => by omega, fun _ => ⟨fun h => ⟨fun _ => by omega, fun _ => ⟨fun _ => ⟨fun _ => by omega, fun _ => ⟨fun _ => ⟨⟨i, hi, Or.inl ⟨h, rfl, rfl⟩⟩, ⟨i, hi, Or.inl ⟨h, rfl, rfl⟩⟩⟩, fun g => g (T.lO i g0 g1)⟩⟩, fun g => g (T.iO i g0 g1)⟩⟩, fun h => ?_⟩⟩

  have hn : i + 1 < x2 := by

    rcases Int.lt_or_eq_of_le (show i + 1 ≤ x2 by omega) with g | g

    · exact g

    · exfalso

      rw [show x2 - 1 = i by omega] at hh

      rcases hi.2.2.1 with e | e

      · rw [e] at hh h; omega

      · omega

  refine ⟨fun _ => by omega, fun _ => ⟨fun _ => by omega, fun _ => ⟨fun _ => ⟨fun _ => by omega, fun _ => ⟨fun _ => ⟨fun _ => by omega, fun _ => ⟨fun _ => ⟨fun _ => by omega, fun _ => ⟨fun _ => ?_, fun g => g (T.lO (i + 1) (by omega) (by omega))⟩⟩, fun g => g (T.lO i (by omega) (by omega))⟩⟩, fun g => g (T.iO (i + 1) (by omega) (by omega))⟩⟩, fun g => g (T.iO i (by omega) (by omega))⟩⟩⟩

  have w0 := T.wave i (by omega) (by omega); have w1 := T.wave (i + 1) (by omega) (by omega)

  have a0 := T.iV i (by omega) (by omega); have a1 := T.iV (i + 1) (by omega) (by omega)

  have l0 := T.lV i (by omega) (by omega); have l1 := T.lV (i + 1) (by omega) (by omega)

  rw [tol_wrap (c := f1) (by omega) (by omega) w0 w1 r7, tol_wrap (c := f2) l0 l1 w0 w1 r7, ws (by omega) (by omega)]

  exact ⟨⟨i, hi, Or.inr ⟨h, rfl, rfl⟩⟩, ⟨i, hi, Or.inr ⟨h, rfl, rfl⟩⟩⟩

/-- The numbers of a formula. -/

def frN (m a b w : Int) : Int := a * (w * w) + m * b * 1000000

theorem frm_bd {m : Int} (hm : 0 ≤ m ∧ m ≤ 3) (r5 : 5000 ≤ x5 ∧ x5 ≤ 60000) (r6 : 0 ≤ x6 ∧ x6 ≤ 20000) (r7 : 1000 ≤ x7 ∧ x7 ≤ 200000) : 0 < x7 * x7 ∧ x7 * x7 ≤ 40000000000 ∧ 0 ≤ frN m x5 x6 x7 ∧ frN m x5 x6 x7 ≤ 3000000000000000 ∧ frN m x5 x6 x7 ≤ 120000 * (x7 * x7) ∧ (m = 1 → frN m x5 x6 x7 ≤ 80000 * (x7 * x7)) ∧ 0 ≤ x5 * x7 ∧ x5 * x7 ≤ 12000000000 ∧ 0 ≤ m * x6 ∧ m * x6 ≤ 60000 := by

  have a1 : 1000000 ≤ x7 * x7 := Int.mul_le_mul (a := 1000) (b := 1000) (c := x7) (d := x7) r7.1 r7.1 (by decide) (by omega)

  have a2 := mulB (n := x7) (a := x7) (N := 200000) (A := 200000) (by omega) (by omega)

  have b1 : 0 ≤ x5 * (x7 * x7) := Int.mul_nonneg (by omega) (by omega)

  have b2 : x5 * (x7 * x7) ≤ 60000 * (x7 * x7) := Int.mul_le_mul_of_nonneg_right r5.2 (by omega)

  have c1 : 0 ≤ m * x6 := Int.mul_nonneg hm.1 r6.1

  have c2 := mulB (n := m) (a := x6) (N := 3) (A := 20000) (by omega) (by omega)

  have d1 : 0 ≤ x5 * x7 := Int.mul_nonneg (by omega) (by omega)

  have d2 := mulB (n := x5) (a := x7) (N := 60000) (A := 200000) (by omega) (by omega)

  unfold frN

  refine ⟨by omega, by omega, by omega, by omega, by omega, fun h => ?_, d1, by omega, c1, by omega⟩

  subst h; omega

theorem exact_f (h1 : x1 = 2) (r2 : 0 ≤ x2 ∧ x2 ≤ 64) (r3 : 0 ≤ x3 ∧ x3 ≤ 140737488355328) (r4 : 0 ≤ x4 ∧ x4 ≤ 140737488355328) (r5 : 5000 ≤ x5 ∧ x5 ≤ 60000) (r6 : 0 ≤ x6 ∧ x6 ≤ 20000) (r7 : 1000 ≤ x7 ∧ x7 ≤ 200000) (s0 : ∀ q, (-9223372036854775808) ≤ f0 q ∧ f0 q ≤ 9223372036854775807) :

    Spec Tryz.prog etalonref02_exact_s ⟨[x0, x1, x2, x3, x4, x5, x6, x7], [], [f0, f1, f2]⟩ [frN 1 x5 x6 x7, x7 * x7, 0, 1] [] [] := by

  have b := frm_bd (m := 1) (by decide) r5 r6 r7

  obtain ⟨N, D, M, E, ⟨rfl, rfl, rfl, rfl⟩, hs⟩ := exa0 (x0 := x0) (x1 := x1) (x5 := x5) (x6 := x6) (x7 := x7) (f1 := f1) (f2 := f2) (by omega) r2 r3 r4 (by omega) (by omega) (by omega) s0 (R := fun N D M E => N = frN 1 x5 x6 x7 ∧ D = x7 * x7 ∧ M = 0 ∧ E = 1) (by

    simp only [beq_iff_eq, beq_eq_false_iff_ne, ne_eq]

    refine ⟨fun _ => ?_, fun h => absurd h1 h⟩

    rw [ws (n := x5 * x7) (by omega) (by omega), Int.mul_assoc x5 x7 x7, ws (n := x7 * x7) (by omega) (by omega), ws (n := x6 * 1000000) (by omega) (by omega)]

    unfold frN at b

    rw [ws (n := x5 * (x7 * x7)) (by omega) (by omega), ws (by omega) (by omega)]

    unfold frN

    exact ⟨by rw [Int.one_mul], by trivial, by trivial, by trivial⟩)

  exact hs

theorem frm_s (r1 : (-9223372036854775808) ≤ x1 ∧ x1 ≤ 9223372036854775807) (r2 : 0 ≤ x2 ∧ x2 ≤ 140737488355328) (r3 : 0 ≤ x3 ∧ x3 ≤ 140737488355328) (r4 : 0 ≤ x4 ∧ x4 ≤ 140737488355328) (r5 : 5000 ≤ x5 ∧ x5 ≤ 60000) (r6 : 0 ≤ x6 ∧ x6 ≤ 20000) (r7 : 1000 ≤ x7 ∧ x7 ≤ 200000) (s0 : ∀ q, (-9223372036854775808) ≤ f0 q ∧ f0 q ≤ 9223372036854775807) :

    Spec Tryz.prog _glass_formula__told_s ⟨[x0, x1, x2, x3, x4, x5, x6, x7], [], [f0, f1, f2]⟩ [frN 1 x5 x6 x7, x7 * x7, 0, 1] [] [] := by

  obtain ⟨N, D, M, E, ⟨rfl, rfl, rfl, rfl⟩, hs⟩ := frm0 (x0 := x0) (x1 := x1) (f1 := f1) (f2 := f2) r1 r2 r3 r4 r5 r6 r7 s0 (R := fun N D M E => N = frN 1 x5 x6 x7 ∧ D = x7 * x7 ∧ M = 0 ∧ E = 1) ⟨by unfold frN; rw [Int.one_mul], rfl, rfl, rfl⟩

  exact hs

/-- The error of a wavelength. -/

def wvE (x1 x2 : Int) (f0 : Int → Int) (w : Int) : Int := if ¬ (1000 ≤ w ∧ w ≤ 200000) then 2 else if x1 = 1 ∧ ¬ (f0 0 ≤ w ∧ w ≤ f0 (x2 - 1)) then 17 else 0

theorem wvE_0 {w : Int} (h : wvE x1 x2 f0 w = 0) : (1000 ≤ w ∧ w ≤ 200000) ∧ (x1 = 1 → f0 0 ≤ w ∧ w ≤ f0 (x2 - 1)) := by

  unfold wvE at h

  split at h

  · cases h

  · split at h

    · cases h

    · omega

theorem wv_s (hk : x1 = 1 → 1 ≤ x2) (r1 : (-9223372036854775808) ≤ x1 ∧ x1 ≤ 9223372036854775807) (r2 : 0 ≤ x2 ∧ x2 ≤ 64) (r3 : 0 ≤ x3 ∧ x3 ≤ 140737488355328) (r4 : 0 ≤ x4 ∧ x4 ≤ 140737488355328) (r5 : (-9223372036854775808) ≤ x5 ∧ x5 ≤ 9223372036854775807) (r6 : (-9223372036854775808) ≤ x6 ∧ x6 ≤ 9223372036854775807) (r7 : (-9223372036854775808) ≤ x7 ∧ x7 ≤ 9223372036854775807) (s0 : ∀ q, (-9223372036854775808) ≤ f0 q ∧ f0 q ≤ 9223372036854775807) :

    Spec Tryz.prog etalonref02_WaveErr_s ⟨[x0, x1, x2, x3, x4, x5, x6, x7], [], [f0, f1, f2]⟩ [wvE x1 x2 f0 x7] [] [] := by

  obtain ⟨v, rfl, hs⟩ := wer0 (x0 := x0) (f1 := f1) (f2 := f2) r1 r2 r3 r4 r5 r6 r7 s0 (R := (· = wvE x1 x2 f0 x7)) (by

    simp only [decide_eq_true_eq, decide_eq_false_iff_not, beq_iff_eq, beq_eq_false_iff_ne, ne_eq]

    unfold wvE

    repeat' (first | (refine ⟨fun _ => ?_, fun _ => ?_⟩) | (refine ⟨?_, fun _ => ?_, fun _ => ?_⟩) | fail)

    all_goals first

      | omega

      | (repeat (first | rw [if_pos (by omega)] | rw [if_neg (by omega)])))

  exact hs

/-- Index and loss of a right material at a wavelength that it covers. -/

theorem at_s {u : Bool} (hu : Spec Tryz.prog text_IsName_s ⟨[x0], [], []⟩ [] [u] []) (hE : (glE u x1 x2 x3 x4 x5 x6 f0 f1 f2).2 = 0) (hW : wvE x1 x2 f0 x7 = 0) (r1 : (-9223372036854775808) ≤ x1 ∧ x1 ≤ 9223372036854775807) (r2 : 0 ≤ x2 ∧ x2 ≤ 140737488355328) (r3 : 0 ≤ x3 ∧ x3 ≤ 140737488355328) (r4 : 0 ≤ x4 ∧ x4 ≤ 140737488355328) (r5 : (-9223372036854775808) ≤ x5 ∧ x5 ≤ 9223372036854775807) (r6 : (-9223372036854775808) ≤ x6 ∧ x6 ≤ 9223372036854775807) (s0 : ∀ q, (-9223372036854775808) ≤ f0 q ∧ f0 q ≤ 9223372036854775807) :

    ∃ a l, (0 ≤ a ∧ a ≤ 80000) ∧ (0 ≤ l ∧ l ≤ 80000) ∧ Spec Tryz.prog glass_At_s ⟨[x0, x1, x2, x3, x4, x5, x6, x7], [], [f0, f1, f2]⟩ [a, l, 0] [] [] ∧ Spec Tryz.prog etalonref02_At_s ⟨[x0, x1, x2, x3, x4, x5, x6, x7], [], [f0, f1, f2]⟩ [a, l] [] [] := by

  have hc := checkGlass_p (f1 := f1) (f2 := f2) hu r1 r2 r3 r4 r5 r6 s0

  obtain ⟨hw, hcv⟩ := wvE_0 hW

  have rd {N D : Int} (h : Tells 80000 N D) : 0 ≤ rdiv N D ∧ rdiv N D ≤ 80000 := by

    unfold rdiv

    have := h.pos; have := h.low; have := h.hig

    exact ⟨Int.ediv_nonneg (by omega) (by omega), by rw [Int.ediv_le_iff_le_mul (by omega)]; omega⟩

  have nr {N D : Int} (h : 0 < D ∧ D ≤ 40000000000 ∧ 0 ≤ N ∧ N ≤ 80000 * D) := nearest_s (x := N) (y := 1) (d := D) (DvIn_by (X := 4000000000000000) (Y := 1) (by omega) (by omega) (by decide) (by decide) (by omega) (by omega) (by decide) (by decide) (by decide))

  rcases kind_ok hE with rfl | rfl

  · obtain ⟨h3, h4, T⟩ := tab_ok r2.1 hE

    obtain ⟨N, D, M, E, ⟨p1, p2⟩, ht⟩ := told_s (x0 := x0) (x1 := 1) (x5 := x5) (x6 := x6) T h3 h4 (by decide) r5 r6 hw s0

    obtain ⟨N', D', M', E', ⟨q1, q2⟩, hx⟩ := exact_t (x0 := x0) (x1 := 1) (x5 := x5) (x6 := x6) T rfl h3 h4 r5 r6 hw (hcv rfl).1 (hcv rfl).2 s0

    obtain ⟨c1, b1, b1'⟩ := told_same T.up T.one T.wave (fun i a b => ⟨by have := (T.iV i a b).1; omega, (T.iV i a b).2⟩) (hcv rfl).1 (hcv rfl).2 p1 q1

    obtain ⟨c2, b2, b2'⟩ := told_same T.up T.one T.wave T.lV (hcv rfl).1 (hcv rfl).2 p2 q2

    have k1 := b1.pos; have k2 := b1.les; have k3 := b1.low; have k4 := b1.hig

    have l1 := b2.pos; have l2 := b2.les; have l3 := b2.low; have l4 := b2.hig

    have k1' := b1'.pos; have k2' := b1'.les; have k3' := b1'.low; have k4' := b1'.hig

    have l1' := b2'.pos; have l2' := b2'.les; have l3' := b2'.low; have l4' := b2'.hig

    have t2 := T.few

    have n1 := nr (N := N) (D := D) (by omega)

    have n2 := nr (N := M) (D := E) (by omega)

    have o1 := floor_s (n := 2 * N' + D') (d := 2 * D') (by omega) (by omega)

    have o2 := floor_s (n := 2 * M' + E') (d := 2 * E') (by omega) (by omega)

    have s1 : (2 * N' + D') / (2 * D') = rdiv N D := (rdiv_cross k1 k1' c1).symm

    have s2 : (2 * M' + E') / (2 * E') = rdiv M E := (rdiv_cross l1 l1' c2).symm

    rw [s1] at o1; rw [s2] at o2; rw [Int.mul_one] at n1 n2

    refine ⟨rdiv N D, rdiv M E, rd b1, rd b2, ?_, ?_⟩

    · obtain ⟨a, l, d, ⟨rfl, rfl, rfl⟩, hs⟩ := at0 (x0 := x0) (x1 := 1) (x2 := x2) (x3 := x3) (x4 := x4) (x5 := x5) (x6 := x6) (x7 := x7) (f1 := f1) (f2 := f2) r1 r2 r3 r4 r5 r6 (by omega) s0 (R := fun a l d => a = rdiv N D ∧ l = rdiv M E ∧ d = 0) (by

        refine ⟨_, _, hc, ?_⟩

        simp only [decide_eq_true_eq, decide_eq_false_iff_not, beq_iff_eq, beq_eq_false_iff_ne, ne_eq]

        have hl := (hcv rfl).1; have hh := (hcv rfl).2; have one := T.one

        refine ⟨fun _ => ⟨fun _ => ⟨fun _ => ⟨fun _ => ⟨fun _ => by omega, fun _ => ⟨by omega, ⟨fun _ => ⟨fun _ => ⟨N, D, M, E, ht, _, _, n1, _, _, n2, by trivial, by trivial, by trivial⟩, fun _ => by omega⟩, fun _ => by omega⟩⟩⟩, fun _ => by omega⟩, fun _ => by omega⟩, fun g => absurd (by trivial) g⟩, fun g => absurd hE g⟩)

      exact hs

    · obtain ⟨a, l, ⟨rfl, rfl⟩, hs⟩ := rat0 (x0 := x0) (x1 := 1) (x2 := x2) (x3 := x3) (x4 := x4) (x5 := x5) (x6 := x6) (x7 := x7) (f1 := f1) (f2 := f2) r1 (by omega) r3 r4 r5 r6 (by omega) s0 (R := fun a l => a = rdiv N D ∧ l = rdiv M E) (by

        refine ⟨_, _, _, _, hx, ?_⟩

        rw [ws (n := 2 * N') (by omega) (by omega), ws (n := 2 * N' + D') (by omega) (by omega), ws (n := 2 * D') (by omega) (by omega), ws (n := 2 * M') (by omega) (by omega), ws (n := 2 * M' + E') (by omega) (by omega), ws (n := 2 * E') (by omega) (by omega)]

        exact ⟨_, o1, _, o2, by trivial, by trivial⟩)

      exact hs

  · obtain ⟨h2, h5, h6⟩ := form_ok hE

    have b := frm_bd (m := 1) (by decide) h5 h6 hw

    have ht := frm_s (x0 := x0) (x1 := 2) (x2 := x2) (x3 := x3) (x4 := x4) (f0 := f0) (f1 := f1) (f2 := f2) (by decide) r2 r3 r4 h5 h6 hw s0

    have hx := exact_f (x0 := x0) (x1 := 2) (x2 := x2) (x3 := x3) (x4 := x4) (f0 := f0) (f1 := f1) (f2 := f2) rfl (by omega) r3 r4 h5 h6 hw s0

    generalize frN 1 x5 x6 x7 = N at *

    generalize x7 * x7 = D at *

    have n1 := nr (N := N) (D := D) (by omega)

    have n2 := nr (N := 0) (D := 1) (by omega)

    have o1 := floor_s (n := 2 * N + D) (d := 2 * D) (by omega) (by omega)

    have o2 := floor_s (n := 2 * 0 + 1) (d := 2 * 1) (by omega) (by omega)

    rw [Int.mul_one] at n1 n2

    have e2 : rdiv 0 1 = 0 := by decide

    have rb : 0 ≤ rdiv N D ∧ rdiv N D ≤ 80000 := by

      unfold rdiv

      exact ⟨Int.ediv_nonneg (by omega) (by omega), by rw [Int.ediv_le_iff_le_mul (by omega)]; omega⟩

    refine ⟨rdiv N D, rdiv 0 1, rb, by rw [e2]; decide, ?_, ?_⟩

    · obtain ⟨a, l, d, ⟨rfl, rfl, rfl⟩, hs⟩ := at0 (x0 := x0) (x1 := 2) (x2 := x2) (x3 := x3) (x4 := x4) (x5 := x5) (x6 := x6) (x7 := x7) (f1 := f1) (f2 := f2) r1 r2 r3 r4 r5 r6 (by omega) s0 (R := fun a l d => a = rdiv N D ∧ l = rdiv 0 1 ∧ d = 0) (by

        refine ⟨_, _, hc, ?_⟩

        simp only [decide_eq_true_eq, decide_eq_false_iff_not, beq_iff_eq, beq_eq_false_iff_ne, ne_eq]

        refine ⟨fun _ => ⟨fun g => absurd g (by decide), fun _ => ⟨fun _ => ⟨fun _ => ⟨fun _ => ⟨N, D, 0, 1, ht, _, _, n1, _, _, n2, by trivial, by trivial, by trivial⟩, fun _ => by omega⟩, fun _ => by omega⟩, fun g => absurd (by trivial) g⟩⟩, fun g => absurd hE g⟩)

      exact hs

    · obtain ⟨a, l, ⟨rfl, rfl⟩, hs⟩ := rat0 (x0 := x0) (x1 := 2) (x2 := x2) (x3 := x3) (x4 := x4) (x5 := x5) (x6 := x6) (x7 := x7) (f1 := f1) (f2 := f2) r1 (by omega) r3 r4 r5 r6 (by omega) s0 (R := fun a l => a = rdiv N D ∧ l = rdiv 0 1) (by

        refine ⟨_, _, _, _, hx, ?_⟩

        rw [ws (n := 2 * N) (by omega) (by omega), ws (n := 2 * N + D) (by omega) (by omega), ws (n := 2 * D) (by omega) (by omega), ws (n := 2 * 0) (by omega) (by omega), ws (n := 2 * 0 + 1) (by omega) (by omega), ws (n := 2 * 1) (by omega) (by omega)]

        exact ⟨_, o1, _, o2, by trivial, by trivial⟩)

      exact hs

/-- The error of a material, or of a wavelength. -/

def gwE (e w : Int) : Int := if e = 0 then w else e

theorem at_bad {u : Bool} (hu : Spec Tryz.prog text_IsName_s ⟨[x0], [], []⟩ [] [u] []) (hE : gwE (glE u x1 x2 x3 x4 x5 x6 f0 f1 f2).2 (wvE x1 x2 f0 x7) ≠ 0) (r1 : (-9223372036854775808) ≤ x1 ∧ x1 ≤ 9223372036854775807) (r2 : 0 ≤ x2 ∧ x2 ≤ 140737488355328) (r3 : 0 ≤ x3 ∧ x3 ≤ 140737488355328) (r4 : 0 ≤ x4 ∧ x4 ≤ 140737488355328) (r5 : (-9223372036854775808) ≤ x5 ∧ x5 ≤ 9223372036854775807) (r6 : (-9223372036854775808) ≤ x6 ∧ x6 ≤ 9223372036854775807) (r7 : (-9223372036854775808) ≤ x7 ∧ x7 ≤ 9223372036854775807) (s0 : ∀ q, (-9223372036854775808) ≤ f0 q ∧ f0 q ≤ 9223372036854775807) :

    Spec Tryz.prog glass_At_s ⟨[x0, x1, x2, x3, x4, x5, x6, x7], [], [f0, f1, f2]⟩ [0, 0, gwE (glE u x1 x2 x3 x4 x5 x6 f0 f1 f2).2 (wvE x1 x2 f0 x7)] [] [] := by

  have hc := checkGlass_p (f1 := f1) (f2 := f2) hu r1 r2 r3 r4 r5 r6 s0

  have hk : (glE u x1 x2 x3 x4 x5 x6 f0 f1 f2).2 = 0 → (x1 = 1 ∨ x1 = 2) ∧ (x1 = 1 → 1 ≤ x2) := fun h => ⟨kind_ok h, fun g => by subst g; exact (tab_ok r2.1 h).2.2.one⟩

  obtain ⟨v, hv⟩ : ∃ v, v = (glE u x1 x2 x3 x4 x5 x6 f0 f1 f2).2 := ⟨_, rfl⟩

  rw [← hv] at hc hE hk ⊢

  obtain ⟨a, l, d, ⟨rfl, rfl, rfl⟩, hs⟩ := at0 (x0 := x0) (x1 := x1) (x2 := x2) (x3 := x3) (x4 := x4) (x5 := x5) (x6 := x6) (x7 := x7) (f1 := f1) (f2 := f2) r1 r2 r3 r4 r5 r6 r7 s0 (R := fun a l d => a = 0 ∧ l = 0 ∧ d = gwE v (wvE x1 x2 f0 x7)) (by

    refine ⟨_, _, hc, ?_⟩

    simp only [decide_eq_true_eq, decide_eq_false_iff_not, beq_iff_eq, beq_eq_false_iff_ne, ne_eq]

    have key (h : v = 0) : wvE x1 x2 f0 x7 ≠ 0 := fun g => hE (by unfold gwE; rw [if_pos h, g])

    unfold gwE

    refine ⟨fun hv0 => ?_, fun hv0 => by rw [if_neg hv0]; exact ⟨by trivial, by trivial, by trivial⟩⟩

    obtain ⟨k1, k2⟩ := hk hv0

    rw [if_pos hv0]

    have key := key hv0

    unfold wvE at key ⊢

    repeat' (first | (refine ⟨fun _ => ?_, fun _ => ?_⟩) | (refine ⟨?_, fun _ => ?_, fun _ => ?_⟩) | fail)

    all_goals first

      | omega

      | (exfalso; apply key; (repeat (first | rw [if_pos (by omega)] | rw [if_neg (by omega)])); done)

      | ((repeat (first | rw [if_pos (by omega)] | rw [if_neg (by omega)])); exact ⟨by trivial, by trivial, by trivial⟩))

  exact hs

end

end Go.Proofs.YtfgdockgdbdoiaaGreat.Ev
