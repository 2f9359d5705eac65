/- Group index and permittivity of both. -/
import Derived.Test.YtfgdockgdbdoiaaGreatFgr
namespace Go.Proofs.YtfgdockgdbdoiaaGreat.Ev
set_option linter.unusedSimpArgs false
open Go Go.RowKit
set_option linter.unusedVariables false
set_option maxRecDepth 100000
open Gp

section

variable {x0 x1 x2 x3 x4 x5 x6 x7 : Int} {f0 f1 f2 : Int → Int}

theorem quo_s {n d : Int} (h0 : -4000000000000000 ≤ n ∧ n ≤ 4000000000000000) (h1 : 1 ≤ d ∧ d ≤ 40000000000) : Spec Tryz.prog span_Quotient_s ⟨[n, d], [], []⟩ [n / d, cdiv n d] [] [] := by

  have hd : DvIn n 1 d := DvIn_by (X := 4000000000000000) (Y := 1) (by omega) (by omega) (by decide) (by decide) (by omega) (by omega) (by decide) (by decide) (by decide)

  obtain ⟨a, b, ⟨rfl, rfl⟩, hs⟩ := quo0 (x0 := n) (x1 := d) (by omega) (by omega) (R := fun a b => a = n / d ∧ b = cdiv n d) ⟨_, lower_s hd, _, upper_s hd, by rw [Int.mul_one], by rw [Int.mul_one]⟩

  exact hs

theorem mod_s {n d : Int} (h0 : -20000000000000000 ≤ n ∧ n ≤ 20000000000000000) (h1 : 1 ≤ d ∧ d ≤ 200000000) : Spec Tryz.prog etalonbase_Mod_s ⟨[n, d], [], []⟩ [n % d] [] [] := by

  have e1 := Int.mul_tdiv_add_tmod n d

  have e2 := Int.tmod_lt_of_pos n (b := d) (by omega)

  have e3 := Int.lt_tmod_of_pos n (b := d) (by omega)

  obtain ⟨v, rfl, hs⟩ := rmo0 h0 h1 (R := (· = n % d)) (by

    simp only [decide_eq_true_eq, decide_eq_false_iff_not]

    refine ⟨fun h => ?_, fun h => ?_⟩

    · exact ((Int.ediv_emod_unique (b := d) (q := n.tdiv d) (by omega)).2 ⟨by omega, h, e2⟩).2.symm

    · exact ((Int.ediv_emod_unique (b := d) (q := n.tdiv d - 1) (by omega)).2 ⟨by rw [Int.mul_sub]; omega, by omega, by omega⟩).2.symm)

  exact hs

/-- The group index between two rows, many times their distance. -/

def gpN (c f : Int → Int) (r : Int) : Int := c r * (f (r + 1) - f r) - (c (r + 1) - c r) * f r

theorem group_t (T : Tab x2 f0 f1 f2) (h3 : x3 = x2) (h4 : x4 = x2) (h2 : x2 ≠ 1) (r1 : (-9223372036854775808) ≤ x1 ∧ x1 ≤ 9223372036854775807) (r5 : (-9223372036854775808) ≤ x5 ∧ x5 ≤ 9223372036854775807) (r6 : (-9223372036854775808) ≤ x6 ∧ x6 ≤ 9223372036854775807) (r7 : 1000 ≤ x7 ∧ x7 ≤ 200000) (s0 : ∀ q, (-9223372036854775808) ≤ f0 q ∧ f0 q ≤ 9223372036854775807) :

    ∃ r, IsGap x2 f0 x7 r ∧ Spec Tryz.prog _glass_table__group_s ⟨[x0, x1, x2, x3, x4, x5, x6, x7], [], [f0, f1, f2]⟩ [gpN (nOf f1) f0 r, f0 (r + 1) - f0 r, 0] [] [] := by

  have t1 := T.one; have t2 := T.few

  obtain ⟨r, hg, hs⟩ := gap_s (x0 := x0) (x7 := x7) (f0 := f0) (f1 := f1) (f2 := f2) r1 (show 2 ≤ x2 ∧ x2 ≤ 64 by omega) (show 0 ≤ x3 ∧ x3 ≤ 140737488355328 by omega) (show 0 ≤ x4 ∧ x4 ≤ 140737488355328 by omega) r5 r6 (by omega) s0

  have g0 := hg.1; have g1 := hg.2.1

  refine ⟨r, hg, ?_⟩

  obtain ⟨a, b, c, ⟨rfl, rfl, rfl⟩, ht⟩ := grp0 (x0 := x0) (x1 := x1) (x2 := x2) (x3 := x3) (x4 := x4) (x5 := x5) (x6 := x6) (x7 := x7) (f1 := f1) (f2 := f2) r1 ⟨t1, t2⟩ (by omega) (by omega) r5 r6 (by omega) s0 (R := fun a b c => a = gpN (nOf f1) f0 r ∧ b = f0 (r + 1) - f0 r ∧ c = 0) (by

    simp only [decide_eq_true_eq, decide_eq_false_iff_not, beq_iff_eq, beq_eq_false_iff_ne, ne_eq]

    refine ⟨fun g => absurd g h2, fun _ => ⟨r, hs, by omega, fun _ => by omega, fun _ => ⟨fun _ => ⟨fun _ => by omega, fun _ => ⟨fun _ => ⟨fun _ => by omega, fun _ => ⟨fun _ => by omega, fun _ => ?_⟩⟩, fun g => g (T.iO (r + 1) (by omega) (by omega))⟩⟩, fun g => g (T.iO r (by omega) (by omega))⟩⟩⟩

    have w0 := T.wave r (by omega) (by omega); have w1 := T.wave (r + 1) (by omega) (by omega)

    have a0 := T.iV r (by omega) (by omega); have a1 := T.iV (r + 1) (by omega) (by omega)

    have b0 := mulB (n := nOf f1 r) (a := f0 (r + 1) - f0 r) (N := 80000) (A := 200000) (by omega) (by omega)

    have b1 := mulB (n := nOf f1 (r + 1) - nOf f1 r) (a := f0 r) (N := 80000) (A := 200000) (by omega) (by omega)

    show IntKind.i64.wrap (IntKind.i64.wrap (nOf f1 r * IntKind.i64.wrap (f0 (r + 1) - f0 r)) - IntKind.i64.wrap (IntKind.i64.wrap (nOf f1 (r + 1) - nOf f1 r) * f0 r)) = _ ∧ _

    rw [ws (n := f0 (r + 1) - f0 r) (by omega) (by omega), ws (n := nOf f1 (r + 1) - nOf f1 r) (by omega) (by omega), ws (n := nOf f1 r * (f0 (r + 1) - f0 r)) (by omega) (by omega), ws (n := (nOf f1 (r + 1) - nOf f1 r) * f0 r) (by omega) (by omega), ws (by omega) (by omega)]

    exact ⟨rfl, by trivial, by trivial⟩)

  exact ht

set_option maxHeartbeats 1000000 in

theorem group_s {u : Bool} (hu : Spec Tryz.prog text_IsName_s ⟨[x0], [], []⟩ [] [u] []) (hE : (glE u x1 x2 x3 x4 x5 x6 f0 f1 f2).2 = 0) (hW : wvE x1 x2 f0 x7 = 0) (r1 : (-9223372036854775808) ≤ x1 ∧ x1 ≤ 9223372036854775807) (r2 : 0 ≤ x2 ∧ x2 ≤ 140737488355328) (r3 : 0 ≤ x3 ∧ x3 ≤ 140737488355328) (r4 : 0 ≤ x4 ∧ x4 ≤ 140737488355328) (r5 : (-9223372036854775808) ≤ x5 ∧ x5 ≤ 9223372036854775807) (r6 : (-9223372036854775808) ≤ x6 ∧ x6 ≤ 9223372036854775807) (s0 : ∀ q, (-9223372036854775808) ≤ f0 q ∧ f0 q ≤ 9223372036854775807) :

    ∃ a b e, Spec Tryz.prog glass_GroupIndex_s ⟨[x0, x1, x2, x3, x4, x5, x6, x7], [], [f0, f1, f2]⟩ [a, b, e] [] [] ∧ Spec Tryz.prog etalonref02_GroupIndex_s ⟨[x0, x1, x2, x3, x4, x5, x6, x7], [], [f0, f1, f2]⟩ [a, b, e] [] [] := by

  have hc := checkGlass_p (f1 := f1) (f2 := f2) hu r1 r2 r3 r4 r5 r6 s0

  rw [hE] at hc

  obtain ⟨hw, hcv⟩ := wvE_0 hW

  have go {A B C : Int} (hp : ∃ v0 v1 v2, (v0 = A ∧ v1 = B ∧ v2 = C) ∧ Spec Tryz.prog glass_GroupIndex_s ⟨[x0, x1, x2, x3, x4, x5, x6, x7], [], [f0, f1, f2]⟩ [v0, v1, v2] [] []) (hq : ∃ v0 v1 v2, (v0 = A ∧ v1 = B ∧ v2 = C) ∧ Spec Tryz.prog etalonref02_GroupIndex_s ⟨[x0, x1, x2, x3, x4, x5, x6, x7], [], [f0, f1, f2]⟩ [v0, v1, v2] [] []) :

      ∃ n d e, Spec Tryz.prog glass_GroupIndex_s ⟨[x0, x1, x2, x3, x4, x5, x6, x7], [], [f0, f1, f2]⟩ [n, d, e] [] [] ∧ Spec Tryz.prog etalonref02_GroupIndex_s ⟨[x0, x1, x2, x3, x4, x5, x6, x7], [], [f0, f1, f2]⟩ [n, d, e] [] [] := by

    obtain ⟨_, _, _, ⟨rfl, rfl, rfl⟩, hs⟩ := hp

    obtain ⟨_, _, _, ⟨rfl, rfl, rfl⟩, ht⟩ := hq

    exact ⟨_, _, _, hs, ht⟩

  have P {A B C : Int} (H : _) := gin0 (x0 := x0) (x7 := x7) (f1 := f1) (f2 := f2) r1 r2 r3 r4 r5 r6 (by omega) s0 (R := fun a b c => a = A ∧ b = B ∧ c = C) H

  have few : x2 ≤ 64 := by

    rcases kind_ok hE with rfl | rfl

    · exact (tab_ok r2.1 hE).2.2.few

    · have := (form_ok hE).1; omega

  have Q {A B C : Int} (H : _) := rgi0 (x0 := x0) (x7 := x7) (f1 := f1) (f2 := f2) r1 ⟨r2.1, few⟩ r3 r4 r5 r6 (by omega) s0 (R := fun a b c => a = A ∧ b = B ∧ c = C) H

  simp only [decide_eq_true_eq, decide_eq_false_iff_not, beq_iff_eq, beq_eq_false_iff_ne, ne_eq] at P Q

  rcases kind_ok hE with h1 | h1

  · have hE' := hE

    rw [h1] at hE'

    obtain ⟨h3, h4, T⟩ := tab_ok r2.1 hE'

    obtain ⟨hl, hh⟩ := hcv h1

    have one := T.one

    by_cases h2 : x2 = 1

    · have hg : Spec Tryz.prog _glass_table__group_s ⟨[x0, x1, x2, x3, x4, x5, x6, x7], [], [f0, f1, f2]⟩ [0, 0, 12] [] [] := by

        obtain ⟨a, b, c, ⟨rfl, rfl, rfl⟩, ht⟩ := grp0 (x0 := x0) (x1 := x1) (x2 := x2) (x3 := x3) (x4 := x4) (x5 := x5) (x6 := x6) (x7 := x7) (f1 := f1) (f2 := f2) r1 ⟨one, few⟩ r3 r4 r5 r6 (by omega) s0 (R := fun a b c => a = 0 ∧ b = 0 ∧ c = 12) (by

          simp only [beq_iff_eq, beq_eq_false_iff_ne, ne_eq]

          exact ⟨fun _ => ⟨by trivial, by trivial, by trivial⟩, fun g => absurd h2 g⟩)

        exact ht

      refine go (A := 0) (B := 0) (C := 12) (P ?_) (Q ?_)

      · exact ⟨_, _, hc, fun _ => ⟨fun _ => ⟨fun _ => ⟨fun _ => ⟨fun _ => by omega, fun _ => ⟨by omega, ⟨fun _ => ⟨fun _ => ⟨_, _, _, hg, fun g => by omega, fun _ => ⟨rfl, rfl, rfl⟩⟩, fun _ => by omega⟩, fun _ => by omega⟩⟩⟩, fun _ => by omega⟩, fun _ => by omega⟩, fun g => absurd h1 g⟩, fun g => absurd rfl g⟩

      · exact ⟨fun _ => by omega, fun _ => ⟨fun _ => ⟨rfl, rfl, rfl⟩, fun g => absurd h2 g⟩⟩

    · obtain ⟨r, hg, hs⟩ := group_t (x0 := x0) (x1 := x1) (x5 := x5) (x6 := x6) T h3 h4 h2 r1 r5 r6 hw s0

      obtain ⟨i, hi, ht⟩ := row_s (x0 := x0) (x1 := x1) (x7 := x7) (f0 := f0) (f1 := f1) (f2 := f2) r1 ⟨one, few⟩ r3 r4 r5 r6 (by omega) s0

      have gr := gap_row T.up hg hi hl

      have g0 := hg.1; have g1 := hg.2.1; have i0 := hi.1; have i1 := hi.2.1

      have er : (if x2 - 2 < i then x2 - 2 else i) = r := by

        by_cases g : i ≤ x2 - 2

        · rw [if_neg (by omega)]; exact gr.1 g

        · rw [if_pos (by omega)]; exact (gr.2 (by omega)).1.symm

      have w0 := T.wave r (by omega) (by omega); have w1 := T.wave (r + 1) (by omega) (by omega)

      have a0 := T.iV r (by omega) (by omega); have a1 := T.iV (r + 1) (by omega) (by omega)

      have up := T.up (r + 1) (by omega) (by omega)

      rw [show r + 1 - 1 = r by omega] at up

      have b0 := mulB (n := nOf f1 r) (a := f0 (r + 1) - f0 r) (N := 80000) (A := 200000) (by omega) (by omega)

      have b1 := mulB (n := nOf f1 (r + 1) - nOf f1 r) (a := f0 r) (N := 80000) (A := 200000) (by omega) (by omega)

      have b2 := mulB (n := nOf f1 r) (a := f0 (r + 1) - f0 r - (x7 - f0 r)) (N := 80000) (A := 200000) (by omega) (by omega)

      have b3 := mulB (n := nOf f1 (r + 1)) (a := x7 - f0 r) (N := 80000) (A := 200000) (by omega) (by omega)

      have b4 := mulB (n := x7) (a := nOf f1 (r + 1) - nOf f1 r) (N := 200000) (A := 80000) (by omega) (by omega)

      have q := quo_s (n := gpN (nOf f1) f0 r) (d := f0 (r + 1) - f0 r) (by unfold gpN; omega) (by omega)

      have fl := floor_s (n := gpN (nOf f1) f0 r) (d := f0 (r + 1) - f0 r) (by unfold gpN; omega) (by omega)

      have ce := ceil_s (n := gpN (nOf f1) f0 r) (d := f0 (r + 1) - f0 r) (by unfold gpN; omega) (by omega)

      refine go (A := gpN (nOf f1) f0 r / (f0 (r + 1) - f0 r)) (B := cdiv (gpN (nOf f1) f0 r) (f0 (r + 1) - f0 r)) (C := 0) (P ?_) (Q ?_)

      · exact ⟨_, _, hc, fun _ => ⟨fun _ => ⟨fun _ => ⟨fun _ => ⟨fun _ => by omega, fun _ => ⟨by omega, ⟨fun _ => ⟨fun _ => ⟨_, _, _, hs, fun _ => ⟨_, _, q, rfl, rfl, rfl⟩, fun g => absurd rfl g⟩, fun _ => by omega⟩, fun _ => by omega⟩⟩⟩, fun _ => by omega⟩, fun _ => by omega⟩, fun g => absurd h1 g⟩, fun g => absurd rfl g⟩

      · refine ⟨fun _ => by omega, fun _ => ⟨fun g => absurd g h2, fun _ => ⟨i, ht, by omega, ?_⟩⟩⟩

        rw [er]

        refine ⟨fun _ => ⟨fun _ => by omega, fun _ => ⟨fun _ => ⟨fun _ => ⟨fun _ => by omega, fun _ => ⟨fun _ => ⟨fun _ => by omega, fun _ => ⟨fun _ => by omega, fun _ => ?_⟩⟩, fun g => g (T.iO (r + 1) (by omega) (by omega))⟩⟩, fun _ => by omega⟩, fun g => g (T.iO r (by omega) (by omega))⟩⟩, fun _ => by omega⟩

        have e : IntKind.i64.wrap (IntKind.i64.wrap (IntKind.i64.wrap (NOp.den .f2iV (f1 r) 0 * IntKind.i64.wrap (IntKind.i64.wrap (f0 (r + 1) - f0 r) - IntKind.i64.wrap (x7 - f0 r))) + IntKind.i64.wrap (NOp.den .f2iV (f1 (r + 1)) 0 * IntKind.i64.wrap (x7 - f0 r))) - IntKind.i64.wrap (x7 * IntKind.i64.wrap (NOp.den .f2iV (f1 (r + 1)) 0 - NOp.den .f2iV (f1 r) 0))) = gpN (nOf f1) f0 r := by

          show IntKind.i64.wrap (IntKind.i64.wrap (IntKind.i64.wrap (nOf f1 r * IntKind.i64.wrap (IntKind.i64.wrap (f0 (r + 1) - f0 r) - IntKind.i64.wrap (x7 - f0 r))) + IntKind.i64.wrap (nOf f1 (r + 1) * IntKind.i64.wrap (x7 - f0 r))) - IntKind.i64.wrap (x7 * IntKind.i64.wrap (nOf f1 (r + 1) - nOf f1 r))) = gpN (nOf f1) f0 r

          rw [ws (n := f0 (r + 1) - f0 r) (by omega) (by omega), ws (n := x7 - f0 r) (by omega) (by omega), ws (n := nOf f1 (r + 1) - nOf f1 r) (by omega) (by omega), ws (n := f0 (r + 1) - f0 r - (x7 - f0 r)) (by omega) (by omega), ws (n := nOf f1 r * (f0 (r + 1) - f0 r - (x7 - f0 r))) (by omega) (by omega), ws (n := nOf f1 (r + 1) * (x7 - f0 r)) (by omega) (by omega), ws (n := x7 * (nOf f1 (r + 1) - nOf f1 r)) (by omega) (by omega), ws (n := nOf f1 r * (f0 (r + 1) - f0 r - (x7 - f0 r)) + nOf f1 (r + 1) * (x7 - f0 r)) (by omega) (by omega), ws (by omega) (by omega)]

          exact group_same

        rw [e, ws (n := f0 (r + 1) - f0 r) (by omega) (by omega)]

        exact ⟨_, fl, _, ce, rfl, rfl, rfl⟩

  · have hE' := hE

    rw [h1] at hE'

    obtain ⟨h2, h5, h6⟩ := form_ok hE'

    have b := frm_bd (m := 3) (by decide) h5 h6 hw

    have hg : Spec Tryz.prog _glass_formula__group_s ⟨[x0, x1, x2, x3, x4, x5, x6, x7], [], [f0, f1, f2]⟩ [frN 3 x5 x6 x7, x7 * x7, 0] [] [] := by

      obtain ⟨N, D, M, ⟨rfl, rfl, rfl⟩, hs⟩ := frg0 (x0 := x0) (x1 := x1) (f1 := f1) (f2 := f2) r1 r2 r3 r4 h5 h6 hw s0 (R := fun N D M => N = frN 3 x5 x6 x7 ∧ D = x7 * x7 ∧ M = 0) ⟨rfl, rfl, rfl⟩

      exact hs

    have q := quo_s (n := frN 3 x5 x6 x7) (d := x7 * x7) (by omega) (by omega)

    have fl := floor_s (n := frN 3 x5 x6 x7) (d := x7 * x7) (by omega) (by omega)

    have ce := ceil_s (n := frN 3 x5 x6 x7) (d := x7 * x7) (by omega) (by omega)

    refine go (A := frN 3 x5 x6 x7 / (x7 * x7)) (B := cdiv (frN 3 x5 x6 x7) (x7 * x7)) (C := 0) (P ?_) (Q ?_)

    · exact ⟨_, _, hc, fun _ => ⟨fun g => by omega, fun _ => ⟨fun _ => ⟨fun _ => ⟨fun _ => ⟨_, _, _, hg, fun _ => ⟨_, _, q, rfl, rfl, rfl⟩, fun g => absurd rfl g⟩, fun _ => by omega⟩, fun _ => by omega⟩, fun g => absurd h1 g⟩⟩, fun g => absurd rfl g⟩

    · refine ⟨fun _ => ?_, fun g => absurd h1 g⟩

      have e : IntKind.i64.wrap (IntKind.i64.wrap (IntKind.i64.wrap (x5 * x7) * x7) + IntKind.i64.wrap (IntKind.i64.wrap (3 * x6) * 1000000)) = frN 3 x5 x6 x7 := by

        unfold frN at b

        have c1 : 0 ≤ x5 * (x7 * x7) := Int.mul_nonneg (by omega) (by omega)

        rw [ws (n := x5 * x7) (by omega) (by omega), Int.mul_assoc x5 x7 x7, ws (n := 3 * x6) (by omega) (by omega), ws (n := 3 * x6 * 1000000) (by omega) (by omega), ws (n := x5 * (x7 * x7)) (by omega) (by omega), ws (by omega) (by omega)]

        rfl

      rw [e, ws (n := x7 * x7) (by omega) (by omega)]

      exact ⟨_, fl, _, ce, rfl, rfl, rfl⟩

theorem ckb_s {X Y r : Int} (hX : -100000000 ≤ X ∧ X ≤ 1000000000) (hY : -100000000 ≤ Y ∧ Y ≤ 1000000000) (hr : 0 ≤ r ∧ r ≤ 1) : Spec Tryz.prog ball_CheckBall_s ⟨[((FloatKind.f64.nearest X : Nat) : Int), ((FloatKind.f64.nearest Y : Nat) : Int), r], [], []⟩ [if ((-67108864) ≤ X ∧ X ≤ 67108864) ∧ ((-67108864) ≤ Y ∧ Y ≤ 67108864) then 0 else 2] [] [] := by

  obtain ⟨a, rfl, hs⟩ := ckb0 (x0 := ((FloatKind.f64.nearest X : Nat) : Int)) (x1 := ((FloatKind.f64.nearest Y : Nat) : Int)) hr (R := fun a => a = if ((-67108864) ≤ X ∧ X ≤ 67108864) ∧ ((-67108864) ≤ Y ∧ Y ≤ 67108864) then 0 else 2) (by

    refine ⟨X, ⟨by rw [Int.toNat_natCast]; exact Rp_fi X, by omega⟩, by omega, Y, ⟨by rw [Int.toNat_natCast]; exact Rp_fi Y, by omega⟩, by omega, ?_⟩

    simp only [decide_eq_true_eq, decide_eq_false_iff_not]

    refine ⟨fun h => ⟨fun g => ?_, fun g => ?_⟩, fun h => ?_⟩

    · rw [if_pos]; split at h <;> split at g <;> omega

    · rw [if_neg]; split at g <;> omega

    · rw [if_neg]; split at h <;> omega)

  exact hs

theorem rck_s {X Y r : Int} (hX : -100000000 ≤ X ∧ X ≤ 1000000000) (hY : -100000000 ≤ Y ∧ Y ≤ 1000000000) (hr : 0 ≤ r ∧ r ≤ 1) : ∃ a b c d, Spec Tryz.prog _etalonref01_B__Checked_s ⟨[X, Y, r], [], []⟩ [a, b, c, d] [] [] ∧ ((((-67108864) ≤ X ∧ X ≤ 67108864) ∧ ((-67108864) ≤ Y ∧ Y ≤ 67108864)) → a = X ∧ b = Y ∧ c = r ∧ d = 0) ∧ (¬ (((-67108864) ≤ X ∧ X ≤ 67108864) ∧ ((-67108864) ≤ Y ∧ Y ≤ 67108864)) → a = 0 ∧ b = 0 ∧ c = 0 ∧ d = 8) := by

  obtain ⟨a, b, c, d, hR, hs⟩ := rck0 (x0 := X) (x1 := Y) (by omega) (by omega) hr (R := fun a b c d => ((((-67108864) ≤ X ∧ X ≤ 67108864) ∧ ((-67108864) ≤ Y ∧ Y ≤ 67108864)) → a = X ∧ b = Y ∧ c = r ∧ d = 0) ∧ (¬ (((-67108864) ≤ X ∧ X ≤ 67108864) ∧ ((-67108864) ≤ Y ∧ Y ≤ 67108864)) → a = 0 ∧ b = 0 ∧ c = 0 ∧ d = 8)) (by

    simp only [decide_eq_true_eq, decide_eq_false_iff_not]

    refine ⟨fun h1 => ⟨fun h2 => ⟨fun h3 => ⟨fun h4 => ⟨fun _ => by simp, fun g => by omega⟩, fun h4 => ⟨fun g => by omega, fun _ => by simp⟩⟩, fun h3 => ⟨fun g => by omega, fun _ => by simp⟩⟩, fun h2 => ⟨fun g => by omega, fun _ => by simp⟩⟩, fun h1 => ⟨fun g => by omega, fun _ => by simp⟩⟩)

  exact ⟨a, b, c, d, hs, hR⟩

theorem fi_0 : ((FloatKind.f64.nearest 0 : Nat) : Int) = 0 := by decide +kernel

/-- The permittivity of an index and a loss. -/

theorem perm_s {a l : Int} (ha : 0 ≤ a ∧ a ≤ 80000) (hl : 0 ≤ l ∧ l ≤ 80000) (hat : Spec Tryz.prog glass_At_s ⟨[x0, x1, x2, x3, x4, x5, x6, x7], [], [f0, f1, f2]⟩ [a, l, 0] [] []) (r1 : (-9223372036854775808) ≤ x1 ∧ x1 ≤ 9223372036854775807) (r2 : 0 ≤ x2 ∧ x2 ≤ 140737488355328) (r3 : 0 ≤ x3 ∧ x3 ≤ 140737488355328) (r4 : 0 ≤ x4 ∧ x4 ≤ 140737488355328) (r5 : (-9223372036854775808) ≤ x5 ∧ x5 ≤ 9223372036854775807) (r6 : (-9223372036854775808) ≤ x6 ∧ x6 ≤ 9223372036854775807) (r7 : (-9223372036854775808) ≤ x7 ∧ x7 ≤ 9223372036854775807) (s0 : ∀ q, (-9223372036854775808) ≤ f0 q ∧ f0 q ≤ 9223372036854775807) :

    ∃ X Y r e, Spec Tryz.prog glass_Permittivity_s ⟨[x0, x1, x2, x3, x4, x5, x6, x7], [], [f0, f1, f2]⟩ [((FloatKind.f64.nearest X : Nat) : Int), ((FloatKind.f64.nearest Y : Nat) : Int), r, e] [] [] ∧ Spec Tryz.prog etalonref02_Permittivity_s ⟨[a, l], [], []⟩ [X, Y, r, e] [] [] := by

  have m1 := mulB (n := a) (a := a) (N := 80000) (A := 80000) (by omega) (by omega)

  have m2 := mulB (n := l) (a := l) (N := 80000) (A := 80000) (by omega) (by omega)

  have m3 := mulB (n := a) (a := l) (N := 80000) (A := 80000) (by omega) (by omega)

  have p1 : 0 ≤ a * a := Int.mul_nonneg ha.1 ha.1

  have p2 : 0 ≤ l * l := Int.mul_nonneg hl.1 hl.1

  have p3 : 0 ≤ a * l := Int.mul_nonneg ha.1 hl.1

  obtain ⟨p, hp⟩ : ∃ p, p = a * a - l * l := ⟨_, rfl⟩

  obtain ⟨q, hq⟩ : ∃ q, q = 2 * a * l := ⟨_, rfl⟩

  have bp : -6400000000 ≤ p ∧ p ≤ 6400000000 := by omega

  have bq : 0 ≤ q ∧ q ≤ 12800000000 := by rw [hq, Int.mul_assoc]; omega

  have near {n : Int} (h : -6400000000 ≤ n ∧ n ≤ 12800000000) := nearest_s (x := n) (y := 1048576) (d := 100000000) (DvIn_by (X := 12800000000) (Y := 1048576) (by omega) (by omega) (by decide) (by decide) (by decide) (by decide) (by decide) (by decide) (by decide))

  have n1 := near (n := p) (by omega)

  have n2 := near (n := q) (by omega)

  have rb {n : Int} (h : -6400000000 ≤ n ∧ n ≤ 12800000000) : -100000000 ≤ rdiv (n * 1048576) 100000000 ∧ rdiv (n * 1048576) 100000000 ≤ 1000000000 := by unfold rdiv; omega

  have b1 := rb (n := p) (by omega)

  have b2 := rb (n := q) (by omega)

  have fl {n : Int} (h : -6400000000 ≤ n ∧ n ≤ 12800000000) : Spec Tryz.prog etalonbase_Floor_s ⟨[2 * (n * 1048576) + 100000000, 200000000], [], []⟩ [rdiv (n * 1048576) 100000000] [] [] := floor_s (n := 2 * (n * 1048576) + 100000000) (d := 200000000) (by omega) (by decide)

  have mo {n : Int} (h : -6400000000 ≤ n ∧ n ≤ 12800000000) := mod_s (n := n * 1048576) (d := 100000000) (by omega) (by decide)

  have f1' := fl (n := p) (by omega)

  have f2' := fl (n := q) (by omega)

  have o1 := mo (n := p) (by omega)

  have o2 := mo (n := q) (by omega)

  generalize rdiv (p * 1048576) 100000000 = X at *

  generalize rdiv (q * 1048576) 100000000 = Y at *

  obtain ⟨r, hr⟩ : ∃ r : Int, r = if p * 1048576 % 100000000 = 0 ∧ q * 1048576 % 100000000 = 0 then 0 else 1 := ⟨_, rfl⟩

  have br : 0 ≤ r ∧ r ≤ 1 := by rw [hr]; split <;> decide

  obtain ⟨A, B, C, D, hch, hin, hout⟩ := rck_s b1 b2 br

  have hb := ckb_s b1 b2 br

  have wp : wholeB (p * 1048576) 100000000 = true ↔ p * 1048576 % 100000000 = 0 := by unfold wholeB; exact beq_iff_eq

  have wq : wholeB (q * 1048576) 100000000 = true ↔ q * 1048576 % 100000000 = 0 := by unfold wholeB; exact beq_iff_eq

  refine ⟨A, B, C, D, ?_, ?_⟩

  · obtain ⟨_, _, _, _, ⟨rfl, rfl, rfl, rfl⟩, hs⟩ := per0 (x0 := x0) (x7 := x7) (f1 := f1) (f2 := f2) r1 r2 r3 r4 r5 r6 r7 s0 (R := fun v0 v1 v2 v3 => v0 = ((FloatKind.f64.nearest A : Nat) : Int) ∧ v1 = ((FloatKind.f64.nearest B : Nat) : Int) ∧ v2 = C ∧ v3 = D) (by

      refine ⟨_, _, _, hat, ha, hl, ?_⟩

      rw [← hp, ← hq]

      have fin (s : Int) (hs : s = r) : ∃ v13 : Int, Spec Tryz.prog ball_CheckBall_s ⟨[((FloatKind.f64.nearest X : Nat) : Int), ((FloatKind.f64.nearest Y : Nat) : Int), s], [], []⟩ [v13] [] [] ∧ (((v13 == 0) = true → ((FloatKind.f64.nearest X : Nat) : Int) = ((FloatKind.f64.nearest A : Nat) : Int) ∧ ((FloatKind.f64.nearest Y : Nat) : Int) = ((FloatKind.f64.nearest B : Nat) : Int) ∧ s = C ∧ 0 = D) ∧ ((v13 == 0) = false → 0 = ((FloatKind.f64.nearest A : Nat) : Int) ∧ 0 = ((FloatKind.f64.nearest B : Nat) : Int) ∧ 0 = C ∧ 8 = D)) := by

        subst hs

        refine ⟨_, hb, fun g => ?_, fun g => ?_⟩

        · by_cases h : ((-67108864) ≤ X ∧ X ≤ 67108864) ∧ ((-67108864) ≤ Y ∧ Y ≤ 67108864)

          · obtain ⟨rfl, rfl, rfl, rfl⟩ := hin h

            exact ⟨rfl, rfl, rfl, rfl⟩

          · rw [if_neg h] at g; cases g

        · by_cases h : ((-67108864) ≤ X ∧ X ≤ 67108864) ∧ ((-67108864) ≤ Y ∧ Y ≤ 67108864)

          · rw [if_pos h] at g; cases g

          · obtain ⟨rfl, rfl, rfl, rfl⟩ := hout h

            exact ⟨fi_0.symm, fi_0.symm, rfl, rfl⟩

      refine ⟨fun _ => ⟨_, _, n1, b1, _, _, n2, b2, fun u => ⟨fun v => ?_, fun v => ?_⟩, fun u => ?_⟩, fun g => by cases g⟩

      · exact fin 0 (by rw [hr, if_pos ⟨wp.1 u, wq.1 v⟩])

      · exact fin 1 (by rw [hr, if_neg]; intro g; rw [wq.2 g.2] at v; cases v)

      · exact fin 1 (by rw [hr, if_neg]; intro g; rw [wp.2 g.1] at u; cases u))

    exact hs

  · obtain ⟨_, _, _, _, ⟨rfl, rfl, rfl, rfl⟩, hs⟩ := rpe0 ha hl (R := fun v0 v1 v2 v3 => v0 = A ∧ v1 = B ∧ v2 = C ∧ v3 = D) (by

      simp only [beq_iff_eq, beq_eq_false_iff_ne, ne_eq]

      rw [← hp, ← hq]

      have fin (s : Int) (hs : s = r) : ∃ v6 v7 v8 v9 : Int, Spec Tryz.prog _etalonref01_B__Checked_s ⟨[X, Y, s], [], []⟩ [v6, v7, v8, v9] [] [] ∧ (v6 = A ∧ v7 = B ∧ v8 = C ∧ v9 = D) := by

        subst hs

        exact ⟨_, _, _, _, hch, rfl, rfl, rfl, rfl⟩

      refine ⟨_, f1', b1, _, o1, _, f2', b2, _, o2, fun u => ⟨fun v => ?_, fun v => ?_⟩, fun u => ?_⟩

      · exact fin 0 (by rw [hr, if_pos ⟨u, v⟩])

      · exact fin 1 (by rw [hr, if_neg]; intro g; exact v g.2)

      · exact fin 1 (by rw [hr, if_neg]; intro g; exact u g.1))

    exact hs

end

end Go.Proofs.YtfgdockgdbdoiaaGreat.Ev
