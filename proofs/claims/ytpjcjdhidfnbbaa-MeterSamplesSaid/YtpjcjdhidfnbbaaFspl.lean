/- MeterSamples. -/
import Derived.Test.YtpjcjdhidfnbbaaFsp
import Derived.Test.YtpjcjdhidfnbbaaFaw6
namespace Go.Proofs.Ytpjcjdhidfnbbaa.Ev
set_option linter.unusedSimpArgs false
open Go Go.RowKit
set_option linter.unusedVariables false
set_option maxRecDepth 100000
def etalonlaw06_MeterSamples_s : Sig := ⟨6, ⟨8, 0, 0⟩, ⟨0, 1, 0⟩, [(.agg [(.float .f64 (.var 0)), (.float .f64 (.var 1)), (.float .f64 (.var 2)), (.float .f64 (.var 3))]), (.agg [(.float .f64 (.var 4)), (.float .f64 (.var 5)), (.float .f64 (.var 6)), (.float .f64 (.var 7))])], [], (.bool (.var 0)), []⟩

def msw_t : Tr :=
  (.call etalonlaw06_awake_s ⟨[], [], []⟩ ⟨[], [(.var 0)], []⟩ ⟨12, [], [], [none, none], (.bool (.var 0)), []⟩
  (.ite (.var 0)
  (.call meter_SamplesOf_s ⟨[(.var 0), (.var 4), (.var 1), (.var 5), (.var 2), (.var 6), (.var 3), (.var 7)], [], []⟩ ⟨[(.var 0), (.var 4), (.var 1), (.var 5), (.var 2), (.var 6), (.var 3), (.var 7), (.var 8), (.var 9), (.var 10), (.var 11), (.var 12)], [], []⟩ ⟨25, [(.agg [(.complex .f64 (.var 0) (.var 4)), (.complex .f64 (.var 1) (.var 5)), (.complex .f64 (.var 2) (.var 6)), (.complex .f64 (.var 3) (.var 7))])], [], [none, none, none], (.tuple [(.agg [(.int .i64 (.var 8)), (.int .i64 (.var 9)), (.int .i64 (.var 10)), (.int .i64 (.var 11))]), (.int .i64 (.var 12))]), []⟩
   (.call etalonref06_SamplesOf_s ⟨[(.var 0), (.var 4), (.var 1), (.var 5), (.var 2), (.var 6), (.var 3), (.var 7)], [], []⟩ ⟨[(.var 0), (.var 4), (.var 1), (.var 5), (.var 2), (.var 6), (.var 3), (.var 7), (.var 13), (.var 14), (.var 15), (.var 16), (.var 17)], [], []⟩ ⟨26, [(.agg [(.complex .f64 (.var 0) (.var 4)), (.complex .f64 (.var 1) (.var 5)), (.complex .f64 (.var 2) (.var 6)), (.complex .f64 (.var 3) (.var 7))])], [], [none, none, none, none], (.tuple [(.agg [(.int .i64 (.var 13)), (.int .i64 (.var 14)), (.int .i64 (.var 15)), (.int .i64 (.var 16))]), (.int .i64 (.var 17))]), []⟩
   (.ite (.icmp .eql (.var 12) (.var 17))
   (.ret ⟨[], [(.and (.icmp .eql (.var 8) (.var 13)) (.and (.icmp .eql (.var 9) (.var 14)) (.and (.icmp .eql (.var 10) (.var 15)) (.icmp .eql (.var 11) (.var 16)))))], []⟩ [])
   (.ret ⟨[], [(.lit false)], []⟩ []))))
  (.ret ⟨[], [(.lit false)], []⟩ [])))
theorem msw {x0 x1 x2 x3 x4 x5 x6 x7 : Int} {R : Bool → Prop}
  (H : (∃ u0 : Bool, Spec Try.prog etalonlaw06_awake_s ⟨[], [], []⟩ [] [u0] [] ∧
   ((u0 = true → (∃ v8 : Int, ∃ v9 : Int, ∃ v10 : Int, ∃ v11 : Int, ∃ v12 : Int, Spec Try.prog meter_SamplesOf_s ⟨[x0, x4, x1, x5, x2, x6, x3, x7], [], []⟩ [v8, v9, v10, v11, v12] [] [] ∧
    (∃ v13 : Int, ∃ v14 : Int, ∃ v15 : Int, ∃ v16 : Int, ∃ v17 : Int, Spec Try.prog etalonref06_SamplesOf_s ⟨[x0, x4, x1, x5, x2, x6, x3, x7], [], []⟩ [v13, v14, v15, v16, v17] [] [] ∧
    ((((v12 : Int) == v17) = true → R ((((v8 : Int) == v13) && (((v9 : Int) == v14) && (((v10 : Int) == v15) && ((v11 : Int) == v16)))))) ∧
    (((v12 : Int) == v17) = false → R (false)))))) ∧
   (u0 = false → R (false))))) :
    ∃ u0 : Bool, R u0 ∧ Spec Try.prog etalonlaw06_MeterSamples_s ⟨[x0, x1, x2, x3, x4, x5, x6, x7], [], []⟩ [] [u0] [] :=
  Eq.mp (by kernel_rfl) (exV_of (K := fun d => app3 etalonlaw06_MeterSamples_s.out R d ∧ Spec Try.prog etalonlaw06_MeterSamples_s ⟨[x0, x1, x2, x3, x4, x5, x6, x7], [], []⟩ d.1 d.2.1 d.2.2) (tree_at mixed names S1_ok (S := S1 Try.prog) (lf := 100000) (d := 60) etalonlaw06_MeterSamples_s msw_t { ivs := [], aivs := [] } ⟨[x0, x1, x2, x3, x4, x5, x6, x7], [], []⟩ rfl (by kernel_rfl) (by kernel_rfl) (by kernel_rfl) ⟨fz, fz, fz, fz⟩ (R := fun d => app3 etalonlaw06_MeterSamples_s.out R d) (Eq.mp (by kernel_rfl) H)))

set_option maxHeartbeats 8000000 in

theorem good_r {a0 b0 a1 b1 a2 b2 a3 b3 : Nat} {A0 B0 A1 B1 A2 B2 A3 B3 : Int}

    (i0 : (-10000000) ≤ A0 ∧ A0 ≤ 10000000) (j0 : (-10000000) ≤ B0 ∧ B0 ≤ 10000000) (i1 : (-10000000) ≤ A1 ∧ A1 ≤ 10000000) (j1 : (-10000000) ≤ B1 ∧ B1 ≤ 10000000) (i2 : (-10000000) ≤ A2 ∧ A2 ≤ 10000000) (j2 : (-10000000) ≤ B2 ∧ B2 ≤ 10000000) (i3 : (-10000000) ≤ A3 ∧ A3 ≤ 10000000) (j3 : (-10000000) ≤ B3 ∧ B3 ≤ 10000000)

    (k0 : Spec Try.prog etalonref06_parts_s ⟨[(a0 : Int), (b0 : Int), 10000000], [], []⟩ [A0, B0, 0] [] []) (k1 : Spec Try.prog etalonref06_parts_s ⟨[(a1 : Int), (b1 : Int), 10000000], [], []⟩ [A1, B1, 0] [] []) (k2 : Spec Try.prog etalonref06_parts_s ⟨[(a2 : Int), (b2 : Int), 10000000], [], []⟩ [A2, B2, 0] [] []) (k3 : Spec Try.prog etalonref06_parts_s ⟨[(a3 : Int), (b3 : Int), 10000000], [], []⟩ [A3, B3, 0] [] []) :

    ∃ v0 v1 v2 v3 v4 : Int, smR A0 B0 A1 B1 A2 B2 A3 B3 v0 v1 v2 v3 v4 ∧ Spec Try.prog etalonref06_SamplesOf_s ⟨[(a0 : Int), (b0 : Int), (a1 : Int), (b1 : Int), (a2 : Int), (b2 : Int), (a3 : Int), (b3 : Int)], [], []⟩ [v0, v1, v2, v3, v4] [] [] := by

  refine rsg (R := smR A0 B0 A1 B1 A2 B2 A3 B3) ⟨_, _, _, k0, i0, j0, fun _ => ⟨_, _, _, k1, i1, j1, fun _ => ⟨_, _, _, k2, i2, j2, fun _ => ⟨_, _, _, k3, i3, j3, fun _ => ?_, fun h => absurd h (by decide)⟩, fun h => absurd h (by decide)⟩, fun h => absurd h (by decide)⟩, fun h => absurd h (by decide)⟩

  simp only [decide_eq_true_eq, decide_eq_false_iff_not, beq_iff_eq, beq_eq_false_iff_ne, ne_eq, tm, tm2]

  clear k0 k1 k2 k3

  repeat' (first

    | (refine Or.inl ⟨?_, (t4 (by assumption)).trans (by omega), (t4 (by assumption)).trans (by omega), (t4 (by assumption)).trans (by omega), (t4 (by assumption)).trans (by omega), rfl⟩; unfold smC; omega)

    | (refine Or.inr ⟨?_, rfl, rfl, rfl, rfl, rfl⟩; unfold smC; omega)

    | apply And.intro

    | intro _

    | fail)

/-- Both return the same samples, or the same error. -/

theorem samples {a0 b0 a1 b1 a2 b2 a3 b3 : Nat} (u0 : U a0) (w0 : U b0) (u1 : U a1) (w1 : U b1) (u2 : U a2) (w2 : U b2) (u3 : U a3) (w3 : U b3) :

    ∃ v0 v1 v2 v3 v4 : Int, Spec Try.prog meter_SamplesOf_s ⟨[(a0 : Int), (b0 : Int), (a1 : Int), (b1 : Int), (a2 : Int), (b2 : Int), (a3 : Int), (b3 : Int)], [], []⟩ [v0, v1, v2, v3, v4] [] [] ∧ Spec Try.prog etalonref06_SamplesOf_s ⟨[(a0 : Int), (b0 : Int), (a1 : Int), (b1 : Int), (a2 : Int), (b2 : Int), (a3 : Int), (b3 : Int)], [], []⟩ [v0, v1, v2, v3, v4] [] [] := by

  obtain ⟨A0, B0, e0, i0, j0, k0⟩ := parts_r u0 w0

  obtain ⟨A1, B1, e1, i1, j1, k1⟩ := parts_r u1 w1

  obtain ⟨A2, B2, e2, i2, j2, k2⟩ := parts_r u2 w2

  obtain ⟨A3, B3, e3, i3, j3, k3⟩ := parts_r u3 w3

  have p0 := parts_rs (M := 10000000) u0 w0

  have p1 := parts_rs (M := 10000000) u1 w1

  have p2 := parts_rs (M := 10000000) u2 w2

  have p3 := parts_rs (M := 10000000) u3 w3

  have of : ∀ {e : Int} {P : Int → Int → Int → Int → Int → Prop}, (∃ v0 v1 v2 v3 v4 : Int, (v0 = 0 ∧ v1 = 0 ∧ v2 = 0 ∧ v3 = 0 ∧ v4 = e) ∧ P v0 v1 v2 v3 v4) → P 0 0 0 0 e := fun h => by

    obtain ⟨_, _, _, _, _, ⟨rfl, rfl, rfl, rfl, rfl⟩, h⟩ := h; exact h

  have no : ∀ {a : Int}, ((a : Int) == 0) = true → a ≠ 0 → False := fun h g => g (eq_of_beq h)

  have ne : ∀ {a : Int}, ((a : Int) == 0) = false → a = 0 → False := fun h g => by rw [g] at h; cases h

  have z5 : ∀ e : Int, ((0 : Int) = 0 ∧ (0 : Int) = 0 ∧ (0 : Int) = 0 ∧ (0 : Int) = 0 ∧ e = e) := fun e => ⟨rfl, rfl, rfl, rfl, rfl⟩

  by_cases c0 : ckC a0 b0 10000000 = 0

  case neg =>

    exact ⟨0, 0, 0, 0, ckC a0 b0 10000000, of (sob (R := fun v0 v1 v2 v3 v4 => v0 = 0 ∧ v1 = 0 ∧ v2 = 0 ∧ v3 = 0 ∧ v4 = ckC a0 b0 10000000) ⟨_, p0, fun h => (no h c0).elim, fun _ => z5 _⟩),

      of (rsg (R := fun v0 v1 v2 v3 v4 => v0 = 0 ∧ v1 = 0 ∧ v2 = 0 ∧ v3 = 0 ∧ v4 = ckC a0 b0 10000000) ⟨_, _, _, k0, i0, j0, fun h => (no h c0).elim, fun _ => z5 _⟩)⟩

  by_cases c1 : ckC a1 b1 10000000 = 0

  case neg =>

    exact ⟨0, 0, 0, 0, ckC a1 b1 10000000, of (sob (R := fun v0 v1 v2 v3 v4 => v0 = 0 ∧ v1 = 0 ∧ v2 = 0 ∧ v3 = 0 ∧ v4 = ckC a1 b1 10000000) ⟨_, p0, fun _ => ⟨_, p1, fun h => (no h c1).elim, fun _ => z5 _⟩, fun h => (ne h c0).elim⟩),

      of (rsg (R := fun v0 v1 v2 v3 v4 => v0 = 0 ∧ v1 = 0 ∧ v2 = 0 ∧ v3 = 0 ∧ v4 = ckC a1 b1 10000000) ⟨_, _, _, k0, i0, j0, fun _ => ⟨_, _, _, k1, i1, j1, fun h => (no h c1).elim, fun _ => z5 _⟩, fun h => (ne h c0).elim⟩)⟩

  by_cases c2 : ckC a2 b2 10000000 = 0

  case neg =>

    exact ⟨0, 0, 0, 0, ckC a2 b2 10000000, of (sob (R := fun v0 v1 v2 v3 v4 => v0 = 0 ∧ v1 = 0 ∧ v2 = 0 ∧ v3 = 0 ∧ v4 = ckC a2 b2 10000000) ⟨_, p0, fun _ => ⟨_, p1, fun _ => ⟨_, p2, fun h => (no h c2).elim, fun _ => z5 _⟩, fun h => (ne h c1).elim⟩, fun h => (ne h c0).elim⟩),

      of (rsg (R := fun v0 v1 v2 v3 v4 => v0 = 0 ∧ v1 = 0 ∧ v2 = 0 ∧ v3 = 0 ∧ v4 = ckC a2 b2 10000000) ⟨_, _, _, k0, i0, j0, fun _ => ⟨_, _, _, k1, i1, j1, fun _ => ⟨_, _, _, k2, i2, j2, fun h => (no h c2).elim, fun _ => z5 _⟩, fun h => (ne h c1).elim⟩, fun h => (ne h c0).elim⟩)⟩

  by_cases c3 : ckC a3 b3 10000000 = 0

  case neg =>

    exact ⟨0, 0, 0, 0, ckC a3 b3 10000000, of (sob (R := fun v0 v1 v2 v3 v4 => v0 = 0 ∧ v1 = 0 ∧ v2 = 0 ∧ v3 = 0 ∧ v4 = ckC a3 b3 10000000) ⟨_, p0, fun _ => ⟨_, p1, fun _ => ⟨_, p2, fun _ => ⟨_, p3, fun h => (no h c3).elim, fun _ => z5 _⟩, fun h => (ne h c2).elim⟩, fun h => (ne h c1).elim⟩, fun h => (ne h c0).elim⟩),

      of (rsg (R := fun v0 v1 v2 v3 v4 => v0 = 0 ∧ v1 = 0 ∧ v2 = 0 ∧ v3 = 0 ∧ v4 = ckC a3 b3 10000000) ⟨_, _, _, k0, i0, j0, fun _ => ⟨_, _, _, k1, i1, j1, fun _ => ⟨_, _, _, k2, i2, j2, fun _ => ⟨_, _, _, k3, i3, j3, fun h => (no h c3).elim, fun _ => z5 _⟩, fun h => (ne h c2).elim⟩, fun h => (ne h c1).elim⟩, fun h => (ne h c0).elim⟩)⟩

  obtain ⟨v0, v1, v2, v3, v4, hv, hp⟩ := good_p u0 w0 u1 w1 u2 w2 u3 w3 (e0 c0).1 (e0 c0).2 (e1 c1).1 (e1 c1).2 (e2 c2).1 (e2 c2).2 (e3 c3).1 (e3 c3).2 i0 j0 i1 j1 i2 j2 i3 j3 c0 c1 c2 c3

  rw [c0] at k0; rw [c1] at k1; rw [c2] at k2; rw [c3] at k3

  obtain ⟨t0, t1, t2, t3, t4, ht, hr⟩ := good_r i0 j0 i1 j1 i2 j2 i3 j3 k0 k1 k2 k3

  obtain ⟨rfl, rfl, rfl, rfl, rfl⟩ := smR_uniq hv ht

  exact ⟨_, _, _, _, _, hp, hr⟩

theorem meterSamples {x0 x1 x2 x3 x4 x5 x6 x7 : Nat} (r0 : U x0) (r1 : U x1) (r2 : U x2) (r3 : U x3) (r4 : U x4) (r5 : U x5) (r6 : U x6) (r7 : U x7) : Spec Try.prog etalonlaw06_MeterSamples_s ⟨[(x0 : Int), (x1 : Int), (x2 : Int), (x3 : Int), (x4 : Int), (x5 : Int), (x6 : Int), (x7 : Int)], [], []⟩ [] [true] [] := by

  obtain ⟨u, rfl, ha⟩ := awake

  obtain ⟨v0, v1, v2, v3, v4, hp, hr⟩ := samples r0 r4 r1 r5 r2 r6 r3 r7

  obtain ⟨u, rfl, hs⟩ := msw (R := (· = true)) ⟨true, ha, fun _ => ⟨_, _, _, _, _, hp, _, _, _, _, _, hr, fun _ => by simp, fun h => absurd h (by simp)⟩, fun h => by cases h⟩

  exact hs

end Go.Proofs.Ytpjcjdhidfnbbaa.Ev
