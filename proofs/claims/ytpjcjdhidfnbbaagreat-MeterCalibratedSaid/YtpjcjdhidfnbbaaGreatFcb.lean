/- Calibrated and back, in plain numbers. -/
import Derived.Test.YtpjcjdhidfnbbaaGreatFsf
namespace Go.Proofs.YtpjcjdhidfnbbaaGreat.Ev
set_option linter.unusedSimpArgs false
open Go Go.RowKit
set_option linter.unusedVariables false
set_option maxRecDepth 100000

theorem term_in {n a b t D : Int} (hD : 0 ≤ D) (h0 : D * a ≤ t) (h1 : t ≤ D * b) : D * min (n * a) (n * b) ≤ n * t ∧ n * t ≤ D * max (n * a) (n * b) := by

  have ea : D * (n * a) = n * (D * a) := by grind

  have eb : D * (n * b) = n * (D * b) := by grind

  have m1 : D * min (n * a) (n * b) ≤ D * (n * a) := Int.mul_le_mul_of_nonneg_left (by omega) hD

  have m2 : D * min (n * a) (n * b) ≤ D * (n * b) := Int.mul_le_mul_of_nonneg_left (by omega) hD

  have m3 : D * (n * a) ≤ D * max (n * a) (n * b) := Int.mul_le_mul_of_nonneg_left (by omega) hD

  have m4 : D * (n * b) ≤ D * max (n * a) (n * b) := Int.mul_le_mul_of_nonneg_left (by omega) hD

  rcases Int.lt_or_le n 0 with hn | hn

  · have q1 := Int.mul_le_mul_of_nonpos_left (show n ≤ 0 by omega) h0

    have q2 := Int.mul_le_mul_of_nonpos_left (show n ≤ 0 by omega) h1

    omega

  · have q1 := Int.mul_le_mul_of_nonneg_left h0 hn

    have q2 := Int.mul_le_mul_of_nonneg_left h1 hn

    omega

theorem row_in {n0 n1 n2 a0 b0 a1 b1 a2 b2 t0 t1 t2 D : Int} (hD : 0 ≤ D) (h0 : D * a0 ≤ t0 ∧ t0 ≤ D * b0) (h1 : D * a1 ≤ t1 ∧ t1 ≤ D * b1) (h2 : D * a2 ≤ t2 ∧ t2 ≤ D * b2) :

    D * rL n0 n1 n2 a0 b0 a1 b1 a2 b2 ≤ n0 * t0 + n1 * t1 + n2 * t2 ∧ n0 * t0 + n1 * t1 + n2 * t2 ≤ D * rH n0 n1 n2 a0 b0 a1 b1 a2 b2 := by

  have p0 := term_in (n := n0) hD h0.1 h0.2

  have p1 := term_in (n := n1) hD h1.1 h1.2

  have p2 := term_in (n := n2) hD h2.1 h2.2

  unfold rL rH

  rw [Int.mul_add, Int.mul_add, Int.mul_add, Int.mul_add]

  omega

theorem o_in {d V lo hi : Int} (hd : d ≠ 0) (h0 : lo ≤ d * V) (h1 : d * V ≤ hi) : oL d lo hi ≤ V ∧ V ≤ oH d lo hi := by

  unfold oL oH cdiv

  split

  · have a := Int.ediv_le_of_le_mul (a := lo) (b := V) (c := d) (by omega) (by rw [Int.mul_comm]; exact h0)

    have b := Int.ediv_le_of_le_mul (a := -hi) (b := -V) (c := d) (by omega) (by rw [Int.neg_mul, Int.mul_comm V d]; omega)

    omega

  · have e : V * (0 - d) = 0 - d * V := by rw [Int.mul_sub, Int.mul_comm V d]; omega

    have a := Int.ediv_le_of_le_mul (a := 0 - hi) (b := V) (c := 0 - d) (by omega) (by rw [e]; omega)

    have b := Int.ediv_le_of_le_mul (a := -(0 - lo)) (b := -V) (c := 0 - d) (by omega) (by rw [Int.neg_mul, e]; omega)

    omega

/-- A point within the ranges is seen within the enclosures. -/

theorem y_in {n0 n1 n2 x10 x11 x12 x13 x14 x15 e0 e1 e2 D : Int} (hD : 1 ≤ D) (h0 : x10 ≤ e0 ∧ e0 ≤ x11) (h1 : x12 ≤ e1 ∧ e1 ≤ x13) (h2 : x14 ≤ e2 ∧ e2 ≤ x15) :

    D * oL D (rL n0 n1 n2 x10 x11 x12 x13 x14 x15) (rH n0 n1 n2 x10 x11 x12 x13 x14 x15) ≤ n0 * e0 + n1 * e1 + n2 * e2 ∧ n0 * e0 + n1 * e1 + n2 * e2 ≤ D * oH D (rL n0 n1 n2 x10 x11 x12 x13 x14 x15) (rH n0 n1 n2 x10 x11 x12 x13 x14 x15) := by

  have p := row_in (n0 := n0) (n1 := n1) (n2 := n2) (D := 1) (by omega) (a0 := x10) (b0 := x11) (t0 := e0) (by omega) (a1 := x12) (b1 := x13) (t1 := e1) (by omega) (a2 := x14) (b2 := x15) (t2 := e2) (by omega)

  rw [Int.one_mul, Int.one_mul] at p

  have a := Int.mul_ediv_self_le (x := rL n0 n1 n2 x10 x11 x12 x13 x14 x15) (k := D) (by omega)

  have b := (cdiv_spec' (rH n0 n1 n2 x10 x11 x12 x13 x14 x15) (d := D) (by omega)).1

  unfold oL oH

  rw [if_pos (by omega), if_pos (by omega)]

  omega

theorem min_att (n a b : Int) (h : a ≤ b) : ∃ e, (a ≤ e ∧ e ≤ b) ∧ min (n * a) (n * b) = n * e := by

  rcases Int.le_total (n * a) (n * b) with g | g

  · exact ⟨a, by omega, by omega⟩

  · exact ⟨b, by omega, by omega⟩

theorem max_att (n a b : Int) (h : a ≤ b) : ∃ e, (a ≤ e ∧ e ≤ b) ∧ max (n * a) (n * b) = n * e := by

  rcases Int.le_total (n * a) (n * b) with g | g

  · exact ⟨b, by omega, by omega⟩

  · exact ⟨a, by omega, by omega⟩

/-- What is seen of sums and corrected has them. -/

theorem back_point {x0 x1 x2 x3 x4 x5 x6 x7 x8 x9 x10 x11 x12 x13 x14 x15 e0 e1 e2 : Int} (hD : 1 ≤ x9) (hd : dtP x0 x1 x2 x3 x4 x5 x6 x7 x8 ≠ 0) (h0 : x10 ≤ e0 ∧ e0 ≤ x11) (h1 : x12 ≤ e1 ∧ e1 ≤ x13) (h2 : x14 ≤ e2 ∧ e2 ≤ x15) :

    (sL0 (x9 * (x4 * x8 - x5 * x7)) (x9 * (x7 * x2 - x8 * x1)) (x9 * (x1 * x5 - x2 * x4)) (x9 * (x5 * x6 - x3 * x8)) (x9 * (x8 * x0 - x6 * x2)) (x9 * (x2 * x3 - x0 * x5)) (x9 * (x3 * x7 - x4 * x6)) (x9 * (x6 * x1 - x7 * x0)) (x9 * (x0 * x4 - x1 * x3)) (dtP x0 x1 x2 x3 x4 x5 x6 x7 x8) (sL0 x0 x1 x2 x3 x4 x5 x6 x7 x8 x9 x10 x11 x12 x13 x14 x15) (sH0 x0 x1 x2 x3 x4 x5 x6 x7 x8 x9 x10 x11 x12 x13 x14 x15) (sL1 x0 x1 x2 x3 x4 x5 x6 x7 x8 x9 x10 x11 x12 x13 x14 x15) (sH1 x0 x1 x2 x3 x4 x5 x6 x7 x8 x9 x10 x11 x12 x13 x14 x15) (sL2 x0 x1 x2 x3 x4 x5 x6 x7 x8 x9 x10 x11 x12 x13 x14 x15) (sH2 x0 x1 x2 x3 x4 x5 x6 x7 x8 x9 x10 x11 x12 x13 x14 x15) ≤ e0 ∧ e0 ≤ sH0 (x9 * (x4 * x8 - x5 * x7)) (x9 * (x7 * x2 - x8 * x1)) (x9 * (x1 * x5 - x2 * x4)) (x9 * (x5 * x6 - x3 * x8)) (x9 * (x8 * x0 - x6 * x2)) (x9 * (x2 * x3 - x0 * x5)) (x9 * (x3 * x7 - x4 * x6)) (x9 * (x6 * x1 - x7 * x0)) (x9 * (x0 * x4 - x1 * x3)) (dtP x0 x1 x2 x3 x4 x5 x6 x7 x8) (sL0 x0 x1 x2 x3 x4 x5 x6 x7 x8 x9 x10 x11 x12 x13 x14 x15) (sH0 x0 x1 x2 x3 x4 x5 x6 x7 x8 x9 x10 x11 x12 x13 x14 x15) (sL1 x0 x1 x2 x3 x4 x5 x6 x7 x8 x9 x10 x11 x12 x13 x14 x15) (sH1 x0 x1 x2 x3 x4 x5 x6 x7 x8 x9 x10 x11 x12 x13 x14 x15) (sL2 x0 x1 x2 x3 x4 x5 x6 x7 x8 x9 x10 x11 x12 x13 x14 x15) (sH2 x0 x1 x2 x3 x4 x5 x6 x7 x8 x9 x10 x11 x12 x13 x14 x15)) ∧ (sL1 (x9 * (x4 * x8 - x5 * x7)) (x9 * (x7 * x2 - x8 * x1)) (x9 * (x1 * x5 - x2 * x4)) (x9 * (x5 * x6 - x3 * x8)) (x9 * (x8 * x0 - x6 * x2)) (x9 * (x2 * x3 - x0 * x5)) (x9 * (x3 * x7 - x4 * x6)) (x9 * (x6 * x1 - x7 * x0)) (x9 * (x0 * x4 - x1 * x3)) (dtP x0 x1 x2 x3 x4 x5 x6 x7 x8) (sL0 x0 x1 x2 x3 x4 x5 x6 x7 x8 x9 x10 x11 x12 x13 x14 x15) (sH0 x0 x1 x2 x3 x4 x5 x6 x7 x8 x9 x10 x11 x12 x13 x14 x15) (sL1 x0 x1 x2 x3 x4 x5 x6 x7 x8 x9 x10 x11 x12 x13 x14 x15) (sH1 x0 x1 x2 x3 x4 x5 x6 x7 x8 x9 x10 x11 x12 x13 x14 x15) (sL2 x0 x1 x2 x3 x4 x5 x6 x7 x8 x9 x10 x11 x12 x13 x14 x15) (sH2 x0 x1 x2 x3 x4 x5 x6 x7 x8 x9 x10 x11 x12 x13 x14 x15) ≤ e1 ∧ e1 ≤ sH1 (x9 * (x4 * x8 - x5 * x7)) (x9 * (x7 * x2 - x8 * x1)) (x9 * (x1 * x5 - x2 * x4)) (x9 * (x5 * x6 - x3 * x8)) (x9 * (x8 * x0 - x6 * x2)) (x9 * (x2 * x3 - x0 * x5)) (x9 * (x3 * x7 - x4 * x6)) (x9 * (x6 * x1 - x7 * x0)) (x9 * (x0 * x4 - x1 * x3)) (dtP x0 x1 x2 x3 x4 x5 x6 x7 x8) (sL0 x0 x1 x2 x3 x4 x5 x6 x7 x8 x9 x10 x11 x12 x13 x14 x15) (sH0 x0 x1 x2 x3 x4 x5 x6 x7 x8 x9 x10 x11 x12 x13 x14 x15) (sL1 x0 x1 x2 x3 x4 x5 x6 x7 x8 x9 x10 x11 x12 x13 x14 x15) (sH1 x0 x1 x2 x3 x4 x5 x6 x7 x8 x9 x10 x11 x12 x13 x14 x15) (sL2 x0 x1 x2 x3 x4 x5 x6 x7 x8 x9 x10 x11 x12 x13 x14 x15) (sH2 x0 x1 x2 x3 x4 x5 x6 x7 x8 x9 x10 x11 x12 x13 x14 x15)) ∧ (sL2 (x9 * (x4 * x8 - x5 * x7)) (x9 * (x7 * x2 - x8 * x1)) (x9 * (x1 * x5 - x2 * x4)) (x9 * (x5 * x6 - x3 * x8)) (x9 * (x8 * x0 - x6 * x2)) (x9 * (x2 * x3 - x0 * x5)) (x9 * (x3 * x7 - x4 * x6)) (x9 * (x6 * x1 - x7 * x0)) (x9 * (x0 * x4 - x1 * x3)) (dtP x0 x1 x2 x3 x4 x5 x6 x7 x8) (sL0 x0 x1 x2 x3 x4 x5 x6 x7 x8 x9 x10 x11 x12 x13 x14 x15) (sH0 x0 x1 x2 x3 x4 x5 x6 x7 x8 x9 x10 x11 x12 x13 x14 x15) (sL1 x0 x1 x2 x3 x4 x5 x6 x7 x8 x9 x10 x11 x12 x13 x14 x15) (sH1 x0 x1 x2 x3 x4 x5 x6 x7 x8 x9 x10 x11 x12 x13 x14 x15) (sL2 x0 x1 x2 x3 x4 x5 x6 x7 x8 x9 x10 x11 x12 x13 x14 x15) (sH2 x0 x1 x2 x3 x4 x5 x6 x7 x8 x9 x10 x11 x12 x13 x14 x15) ≤ e2 ∧ e2 ≤ sH2 (x9 * (x4 * x8 - x5 * x7)) (x9 * (x7 * x2 - x8 * x1)) (x9 * (x1 * x5 - x2 * x4)) (x9 * (x5 * x6 - x3 * x8)) (x9 * (x8 * x0 - x6 * x2)) (x9 * (x2 * x3 - x0 * x5)) (x9 * (x3 * x7 - x4 * x6)) (x9 * (x6 * x1 - x7 * x0)) (x9 * (x0 * x4 - x1 * x3)) (dtP x0 x1 x2 x3 x4 x5 x6 x7 x8) (sL0 x0 x1 x2 x3 x4 x5 x6 x7 x8 x9 x10 x11 x12 x13 x14 x15) (sH0 x0 x1 x2 x3 x4 x5 x6 x7 x8 x9 x10 x11 x12 x13 x14 x15) (sL1 x0 x1 x2 x3 x4 x5 x6 x7 x8 x9 x10 x11 x12 x13 x14 x15) (sH1 x0 x1 x2 x3 x4 x5 x6 x7 x8 x9 x10 x11 x12 x13 x14 x15) (sL2 x0 x1 x2 x3 x4 x5 x6 x7 x8 x9 x10 x11 x12 x13 x14 x15) (sH2 x0 x1 x2 x3 x4 x5 x6 x7 x8 x9 x10 x11 x12 x13 x14 x15)) := by

  have t0 := y_in (n0 := x0) (n1 := x1) (n2 := x2) hD h0 h1 h2

  have t1 := y_in (n0 := x3) (n1 := x4) (n2 := x5) hD h0 h1 h2

  have t2 := y_in (n0 := x6) (n1 := x7) (n2 := x8) hD h0 h1 h2

  have key : ∀ lo hi s V : Int, x9 * lo ≤ s ∧ s ≤ x9 * hi → s = x9 * (dtP x0 x1 x2 x3 x4 x5 x6 x7 x8 * V) → oL (dtP x0 x1 x2 x3 x4 x5 x6 x7 x8) lo hi ≤ V ∧ V ≤ oH (dtP x0 x1 x2 x3 x4 x5 x6 x7 x8) lo hi := fun lo hi s V h e => by

    rw [e] at h

    exact o_in hd (Int.le_of_mul_le_mul_left h.1 (by omega)) (Int.le_of_mul_le_mul_left h.2 (by omega))

  refine ⟨?_, ?_, ?_⟩

  · refine key _ _ _ e0 (row_in (n0 := x9 * (x4 * x8 - x5 * x7)) (n1 := x9 * (x7 * x2 - x8 * x1)) (n2 := x9 * (x1 * x5 - x2 * x4)) (by omega) t0 t1 t2) ?_

    unfold dtP; grind

  · refine key _ _ _ e1 (row_in (n0 := x9 * (x5 * x6 - x3 * x8)) (n1 := x9 * (x8 * x0 - x6 * x2)) (n2 := x9 * (x2 * x3 - x0 * x5)) (by omega) t0 t1 t2) ?_

    unfold dtP; grind

  · refine key _ _ _ e2 (row_in (n0 := x9 * (x3 * x7 - x4 * x6)) (n1 := x9 * (x6 * x1 - x7 * x0)) (n2 := x9 * (x0 * x4 - x1 * x3)) (by omega) t0 t1 t2) ?_

    unfold dtP; grind

/-- What two calibrations see, one after the other, contains what their product sees: a row. -/

theorem chain_row {a0 a1 a2 A x0 x1 x2 x3 x4 x5 x6 x7 x8 x9 x10 x11 x12 x13 x14 x15 m0 m1 m2 M k : Int} (hA : 1 ≤ A) (hD : 1 ≤ x9) (hM : 1 ≤ M) (hk : 1 ≤ k) (o0 : x10 ≤ x11) (o1 : x12 ≤ x13) (o2 : x14 ≤ x15)

    (p0 : k * m0 = a0 * x0 + a1 * x3 + a2 * x6) (p1 : k * m1 = a0 * x1 + a1 * x4 + a2 * x7) (p2 : k * m2 = a0 * x2 + a1 * x5 + a2 * x8) (pM : k * M = A * x9) :

    oL A (rL a0 a1 a2 (sL0 x0 x1 x2 x3 x4 x5 x6 x7 x8 x9 x10 x11 x12 x13 x14 x15) (sH0 x0 x1 x2 x3 x4 x5 x6 x7 x8 x9 x10 x11 x12 x13 x14 x15) (sL1 x0 x1 x2 x3 x4 x5 x6 x7 x8 x9 x10 x11 x12 x13 x14 x15) (sH1 x0 x1 x2 x3 x4 x5 x6 x7 x8 x9 x10 x11 x12 x13 x14 x15) (sL2 x0 x1 x2 x3 x4 x5 x6 x7 x8 x9 x10 x11 x12 x13 x14 x15) (sH2 x0 x1 x2 x3 x4 x5 x6 x7 x8 x9 x10 x11 x12 x13 x14 x15)) (rH a0 a1 a2 (sL0 x0 x1 x2 x3 x4 x5 x6 x7 x8 x9 x10 x11 x12 x13 x14 x15) (sH0 x0 x1 x2 x3 x4 x5 x6 x7 x8 x9 x10 x11 x12 x13 x14 x15) (sL1 x0 x1 x2 x3 x4 x5 x6 x7 x8 x9 x10 x11 x12 x13 x14 x15) (sH1 x0 x1 x2 x3 x4 x5 x6 x7 x8 x9 x10 x11 x12 x13 x14 x15) (sL2 x0 x1 x2 x3 x4 x5 x6 x7 x8 x9 x10 x11 x12 x13 x14 x15) (sH2 x0 x1 x2 x3 x4 x5 x6 x7 x8 x9 x10 x11 x12 x13 x14 x15)) ≤ oL M (rL m0 m1 m2 x10 x11 x12 x13 x14 x15) (rH m0 m1 m2 x10 x11 x12 x13 x14 x15) ∧ oH M (rL m0 m1 m2 x10 x11 x12 x13 x14 x15) (rH m0 m1 m2 x10 x11 x12 x13 x14 x15) ≤ oH A (rL a0 a1 a2 (sL0 x0 x1 x2 x3 x4 x5 x6 x7 x8 x9 x10 x11 x12 x13 x14 x15) (sH0 x0 x1 x2 x3 x4 x5 x6 x7 x8 x9 x10 x11 x12 x13 x14 x15) (sL1 x0 x1 x2 x3 x4 x5 x6 x7 x8 x9 x10 x11 x12 x13 x14 x15) (sH1 x0 x1 x2 x3 x4 x5 x6 x7 x8 x9 x10 x11 x12 x13 x14 x15) (sL2 x0 x1 x2 x3 x4 x5 x6 x7 x8 x9 x10 x11 x12 x13 x14 x15) (sH2 x0 x1 x2 x3 x4 x5 x6 x7 x8 x9 x10 x11 x12 x13 x14 x15)) (rH a0 a1 a2 (sL0 x0 x1 x2 x3 x4 x5 x6 x7 x8 x9 x10 x11 x12 x13 x14 x15) (sH0 x0 x1 x2 x3 x4 x5 x6 x7 x8 x9 x10 x11 x12 x13 x14 x15) (sL1 x0 x1 x2 x3 x4 x5 x6 x7 x8 x9 x10 x11 x12 x13 x14 x15) (sH1 x0 x1 x2 x3 x4 x5 x6 x7 x8 x9 x10 x11 x12 x13 x14 x15) (sL2 x0 x1 x2 x3 x4 x5 x6 x7 x8 x9 x10 x11 x12 x13 x14 x15) (sH2 x0 x1 x2 x3 x4 x5 x6 x7 x8 x9 x10 x11 x12 x13 x14 x15)) := by

  have pts : ∀ e0 e1 e2 : Int, (x10 ≤ e0 ∧ e0 ≤ x11) → (x12 ≤ e1 ∧ e1 ≤ x13) → (x14 ≤ e2 ∧ e2 ≤ x15) → x9 * rL a0 a1 a2 (sL0 x0 x1 x2 x3 x4 x5 x6 x7 x8 x9 x10 x11 x12 x13 x14 x15) (sH0 x0 x1 x2 x3 x4 x5 x6 x7 x8 x9 x10 x11 x12 x13 x14 x15) (sL1 x0 x1 x2 x3 x4 x5 x6 x7 x8 x9 x10 x11 x12 x13 x14 x15) (sH1 x0 x1 x2 x3 x4 x5 x6 x7 x8 x9 x10 x11 x12 x13 x14 x15) (sL2 x0 x1 x2 x3 x4 x5 x6 x7 x8 x9 x10 x11 x12 x13 x14 x15) (sH2 x0 x1 x2 x3 x4 x5 x6 x7 x8 x9 x10 x11 x12 x13 x14 x15) ≤ k * (m0 * e0 + m1 * e1 + m2 * e2) ∧ k * (m0 * e0 + m1 * e1 + m2 * e2) ≤ x9 * rH a0 a1 a2 (sL0 x0 x1 x2 x3 x4 x5 x6 x7 x8 x9 x10 x11 x12 x13 x14 x15) (sH0 x0 x1 x2 x3 x4 x5 x6 x7 x8 x9 x10 x11 x12 x13 x14 x15) (sL1 x0 x1 x2 x3 x4 x5 x6 x7 x8 x9 x10 x11 x12 x13 x14 x15) (sH1 x0 x1 x2 x3 x4 x5 x6 x7 x8 x9 x10 x11 x12 x13 x14 x15) (sL2 x0 x1 x2 x3 x4 x5 x6 x7 x8 x9 x10 x11 x12 x13 x14 x15) (sH2 x0 x1 x2 x3 x4 x5 x6 x7 x8 x9 x10 x11 x12 x13 x14 x15) := fun e0 e1 e2 h0 h1 h2 => by

    have t0 := y_in (n0 := x0) (n1 := x1) (n2 := x2) hD h0 h1 h2

    have t1 := y_in (n0 := x3) (n1 := x4) (n2 := x5) hD h0 h1 h2

    have t2 := y_in (n0 := x6) (n1 := x7) (n2 := x8) hD h0 h1 h2

    have r := row_in (n0 := a0) (n1 := a1) (n2 := a2) (by omega) t0 t1 t2

    have e : a0 * (x0 * e0 + x1 * e1 + x2 * e2) + a1 * (x3 * e0 + x4 * e1 + x5 * e2) + a2 * (x6 * e0 + x7 * e1 + x8 * e2) = k * (m0 * e0 + m1 * e1 + m2 * e2) := by

      have : k * (m0 * e0 + m1 * e1 + m2 * e2) = (k * m0) * e0 + (k * m1) * e1 + (k * m2) * e2 := by grind

      rw [this, p0, p1, p2]; grind

    rw [e] at r

    exact r

  have sw : ∀ V : Int, V * A * x9 = k * (V * M) := fun V => by

    have : k * (V * M) = V * (k * M) := by grind

    rw [this, pM]; grind

  obtain ⟨e0, q0, f0⟩ := min_att m0 x10 x11 o0

  obtain ⟨e1, q1, f1⟩ := min_att m1 x12 x13 o1

  obtain ⟨e2, q2, f2⟩ := min_att m2 x14 x15 o2

  obtain ⟨d0, w0, g0⟩ := max_att m0 x10 x11 o0

  obtain ⟨d1, w1, g1⟩ := max_att m1 x12 x13 o1

  obtain ⟨d2, w2, g2⟩ := max_att m2 x14 x15 o2

  have lo := (pts e0 e1 e2 q0 q1 q2).1

  have hi := (pts d0 d1 d2 w0 w1 w2).2

  have el : rL m0 m1 m2 x10 x11 x12 x13 x14 x15 = m0 * e0 + m1 * e1 + m2 * e2 := by unfold rL; rw [f0, f1, f2]

  have eh : rH m0 m1 m2 x10 x11 x12 x13 x14 x15 = m0 * d0 + m1 * d1 + m2 * d2 := by unfold rH; rw [g0, g1, g2]

  rw [← el] at lo

  rw [← eh] at hi

  clear pts el eh f0 f1 f2 g0 g1 g2

  generalize rL a0 a1 a2 (sL0 x0 x1 x2 x3 x4 x5 x6 x7 x8 x9 x10 x11 x12 x13 x14 x15) (sH0 x0 x1 x2 x3 x4 x5 x6 x7 x8 x9 x10 x11 x12 x13 x14 x15) (sL1 x0 x1 x2 x3 x4 x5 x6 x7 x8 x9 x10 x11 x12 x13 x14 x15) (sH1 x0 x1 x2 x3 x4 x5 x6 x7 x8 x9 x10 x11 x12 x13 x14 x15) (sL2 x0 x1 x2 x3 x4 x5 x6 x7 x8 x9 x10 x11 x12 x13 x14 x15) (sH2 x0 x1 x2 x3 x4 x5 x6 x7 x8 x9 x10 x11 x12 x13 x14 x15) = P at *

  generalize rH a0 a1 a2 (sL0 x0 x1 x2 x3 x4 x5 x6 x7 x8 x9 x10 x11 x12 x13 x14 x15) (sH0 x0 x1 x2 x3 x4 x5 x6 x7 x8 x9 x10 x11 x12 x13 x14 x15) (sL1 x0 x1 x2 x3 x4 x5 x6 x7 x8 x9 x10 x11 x12 x13 x14 x15) (sH1 x0 x1 x2 x3 x4 x5 x6 x7 x8 x9 x10 x11 x12 x13 x14 x15) (sL2 x0 x1 x2 x3 x4 x5 x6 x7 x8 x9 x10 x11 x12 x13 x14 x15) (sH2 x0 x1 x2 x3 x4 x5 x6 x7 x8 x9 x10 x11 x12 x13 x14 x15) = Q at *

  generalize rL m0 m1 m2 x10 x11 x12 x13 x14 x15 = U at *

  generalize rH m0 m1 m2 x10 x11 x12 x13 x14 x15 = W at *

  unfold oL oH

  rw [if_pos (by omega), if_pos (by omega), if_pos (by omega), if_pos (by omega)]

  constructor

  · rw [Int.le_ediv_iff_mul_le (by omega)]

    have a := Int.mul_ediv_self_le (x := P) (k := A) (by omega)

    have s := sw (P / A)

    have b : P / A * A * x9 ≤ x9 * P := by

      rw [Int.mul_comm x9 P, Int.mul_comm (P / A) A]

      exact Int.mul_le_mul_of_nonneg_right a (by omega)

    refine Int.le_of_mul_le_mul_left (a := k) ?_ (by omega)

    omega

  · have a := (cdiv_spec' Q (d := A) (by omega)).1

    have s := sw (cdiv Q A)

    have b : x9 * Q ≤ cdiv Q A * A * x9 := by

      rw [Int.mul_comm x9 Q, Int.mul_comm (cdiv Q A) A]

      exact Int.mul_le_mul_of_nonneg_right a (by omega)

    have c : W ≤ cdiv Q A * M := Int.le_of_mul_le_mul_left (a := k) (by omega) (by omega)

    have d := Int.ediv_le_of_le_mul (a := -(cdiv Q A * M)) (b := -cdiv Q A) (c := M) (by omega) (by rw [Int.neg_mul]; omega)

    have e := cdiv_mono (a := W) (b := cdiv Q A * M) (d := M) (by omega) c

    have f : cdiv (cdiv Q A * M) M = cdiv Q A := by

      show -(-(cdiv Q A * M) / M) = cdiv Q A

      rw [← Int.neg_mul, Int.mul_ediv_cancel _ (by omega)]; omega

    omega

end Go.Proofs.YtpjcjdhidfnbbaaGreat.Ev
