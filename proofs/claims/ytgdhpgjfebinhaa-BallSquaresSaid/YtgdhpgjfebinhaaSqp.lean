/- The square of a root's ball meets the ball; so does the quotient of a product. -/
import Derived.Test.YtgdhpgjfebinhaaVep
namespace Go.Proofs.Ytgdhpgjfebinhaa
set_option linter.unusedVariables false

theorem Nrm.sum {E p q a b : Int} (h1 : -p ≤ a) (h2 : a ≤ p) (h3 : -q ≤ b) (h4 : b ≤ q) (h : p + q ≤ E) : Nrm E a b := by
  have k1 : Nrm p a 0 := ⟨by omega, by
    rw [Int.mul_zero, Int.add_zero]
    have : (p - a) * (p + a) = p * p - a * a := by grind
    have := Int.mul_nonneg (a := p - a) (b := p + a) (by omega) (by omega)
    omega⟩
  have k2 : Nrm q 0 b := ⟨by omega, by
    rw [Int.mul_zero, Int.zero_add]
    have : (q - b) * (q + b) = q * q - b * b := by grind
    have := Int.mul_nonneg (a := q - b) (b := q + b) (by omega) (by omega)
    omega⟩
  exact ((k1.add k2).cast rfl (by omega) (by omega)).le h

/-- The root's parts: G is the greater one, L the less one, of a number with the parts a (not below 0) and y, whose size is D or less than one more. -/
theorem root_err {a y D G L R T : Int} (hT : T = 1048576) (ha : 0 ≤ a) (hG : 1 ≤ G) (hD0 : 0 ≤ D) (hD1 : D * D ≤ a * a + y * y) (hD2 : a * a + y * y < (D + 1) * (D + 1))
    (g1 : 2 * (G * G) ≤ (D + a) * T) (g2 : (D + a) * T ≤ 2 * (G * G) + 4 * G) (l1 : -(2 * G) ≤ 2 * (y * T - 2 * G * L)) (l2 : 2 * (y * T - 2 * G * L) ≤ 2 * G) (hR : 3 * G + T ≤ G * R) (hR0 : 0 ≤ R) :
    Nrm (2 * G * R + R * R) (G * G - L * L - T * a) (2 * G * L - T * y) := by
  obtain ⟨t, ht⟩ : ∃ t, (D + a) * T - 2 * (G * G) = 2 * t ∨ (D + a) * T - 2 * (G * G) = 2 * t + 1 := ⟨((D + a) * T - 2 * (G * G)) / 2, by omega⟩
  have hpar : (D + a) * T = 2 * ((D + a) * 524288) := by rw [hT]; omega
  have ht : (D + a) * T = 2 * (G * G) + 2 * t := by omega
  obtain ⟨ρ, hρ⟩ : ∃ ρ, y * T - 2 * G * L = ρ := ⟨_, rfl⟩
  have r1 : -G ≤ ρ := by omega
  have r2 : ρ ≤ G := by omega
  have t0 : 0 ≤ t := by omega
  have t1 : t ≤ 2 * G := by omega
  -- the size of y
  have hy1 : y ≤ D + 1 := by
    by_cases h : y ≤ D + 1
    · exact h
    · have h1 : (D + 1) * (D + 1) ≤ y * y := Int.mul_le_mul (by omega) (by omega) (by omega) (by omega)
      have := msn a; omega
  have hy2 : -(D + 1) ≤ y := by
    by_cases h : -(D + 1) ≤ y
    · exact h
    · have h1 : (D + 1) * (D + 1) ≤ (-y) * (-y) := Int.mul_le_mul (by omega) (by omega) (by omega) (by omega)
      rw [Int.neg_mul_neg] at h1
      have := msn a; omega
  have hG2 : 0 < 4 * (G * G) := by have := Int.mul_pos (a := G) (b := G) (by omega) (by omega); omega
  -- four G G times the real part
  obtain ⟨k, hk⟩ : ∃ k, a * a + y * y - D * D = k := ⟨_, rfl⟩
  have k0 : 0 ≤ k := by omega
  have k1 : k ≤ 2 * D := by
    have : (D + 1) * (D + 1) = D * D + 2 * D + 1 := by grind
    omega
  have key : 4 * (G * G) * (G * G - L * L - T * a) = 4 * (t * t) + 2 * (ρ * (y * T)) - k * (T * T) - 4 * (t * (T * D)) - ρ * ρ := by
    have e1 : 2 * G * L = y * T - ρ := by omega
    have e2 : 4 * (G * G) * (L * L) = (2 * G * L) * (2 * G * L) := by grind
    have e3 : 4 * (G * G) * (G * G - L * L - T * a) = (2 * (G * G)) * (2 * (G * G)) - 2 * T * a * (2 * (G * G)) - 4 * (G * G) * (L * L) := by grind
    have e4 : 2 * (G * G) = (D + a) * T - 2 * t := by omega
    rw [e3, e2, e1, e4, ← hk]
    grind
  -- its bounds
  have hDT : T * D ≤ 2 * (G * G) + 4 * G := by
    have : (D + a) * T = T * D + T * a := by grind
    have : 0 ≤ T * a := Int.mul_nonneg (by omega) ha
    omega
  have hDT0 : 0 ≤ T * D := Int.mul_nonneg (by omega) hD0
  have hyT1 : y * T ≤ 2 * (G * G) + 4 * G + T := by
    have : y * T ≤ (D + 1) * T := Int.mul_le_mul_of_nonneg_right hy1 (by omega)
    have : (D + 1) * T = T * D + T := by grind
    omega
  have hyT2 : -(2 * (G * G) + 4 * G + T) ≤ y * T := by
    have : (-(D + 1)) * T ≤ y * T := Int.mul_le_mul_of_nonneg_right hy2 (by omega)
    have : (-(D + 1)) * T = -(T * D + T) := by grind
    omega
  generalize hB : 2 * (G * G) + 4 * G = B at *
  have p1 : t * t ≤ 4 * (G * G) := by
    have := Int.mul_le_mul (a := t) (b := t) (c := 2 * G) (d := 2 * G) t1 t1 t0 (by omega)
    have : 2 * G * (2 * G) = 4 * (G * G) := by grind
    omega
  have p2 : ρ * (y * T) ≤ G * (B + T) ∧ -(G * (B + T)) ≤ ρ * (y * T) := by
    have s1 := Int.mul_nonneg (a := G - ρ) (b := B + T + y * T) (by omega) (by omega)
    have s2 := Int.mul_nonneg (a := G + ρ) (b := B + T - y * T) (by omega) (by omega)
    have s3 := Int.mul_nonneg (a := G - ρ) (b := B + T - y * T) (by omega) (by omega)
    have s4 := Int.mul_nonneg (a := G + ρ) (b := B + T + y * T) (by omega) (by omega)
    have q1 : (G - ρ) * (B + T + y * T) + (G + ρ) * (B + T - y * T) = 2 * (G * (B + T)) - 2 * (ρ * (y * T)) := by grind
    have q2 : (G - ρ) * (B + T - y * T) + (G + ρ) * (B + T + y * T) = 2 * (G * (B + T)) + 2 * (ρ * (y * T)) := by grind
    omega
  have p3 : k * (T * T) ≤ 2 * (T * B) ∧ 0 ≤ k * (T * T) := by
    have s1 : k * (T * T) ≤ 2 * D * (T * T) := Int.mul_le_mul_of_nonneg_right k1 (msn T)
    have s2 : 2 * D * (T * T) = 2 * (T * (T * D)) := by grind
    have s3 : T * (T * D) ≤ T * B := Int.mul_le_mul_of_nonneg_left hDT (by omega)
    have s4 := Int.mul_nonneg k0 (msn T)
    omega
  have p4 : t * (T * D) ≤ 2 * G * B ∧ 0 ≤ t * (T * D) := ⟨Int.mul_le_mul t1 hDT hDT0 (by omega), Int.mul_nonneg t0 hDT0⟩
  have p5 : ρ * ρ ≤ G * G ∧ 0 ≤ ρ * ρ := by
    have := Int.mul_nonneg (a := G - ρ) (b := G + ρ) (by omega) (by omega)
    have : (G - ρ) * (G + ρ) = G * G - ρ * ρ := by grind
    have := msn ρ
    omega
  -- what the radius covers
  have hGR := Int.mul_le_mul hR hR (by omega) (Int.mul_nonneg (by omega) hR0)
  have c1 : 4 * (G * G) * (2 * G * R + R * R - G) = 8 * (G * G) * (G * R) + 4 * (G * R * (G * R)) - 4 * (G * G * G) := by grind
  have c2 : 8 * (G * G) * (3 * G + T) ≤ 8 * (G * G) * (G * R) := Int.mul_le_mul_of_nonneg_left hR (by omega)
  have c3 : 8 * (G * G) * (3 * G + T) = 24 * (G * G * G) + 8 * (T * (G * G)) := by grind
  have c4 : (3 * G + T) * (3 * G + T) = 9 * (G * G) + 6 * (T * G) + T * T := by grind
  have d1 : G * (B + T) = 2 * (G * G * G) + 4 * (G * G) + T * G := by rw [← hB]; grind
  have d2 : T * B = 2 * (T * (G * G)) + 4 * (T * G) := by rw [← hB]; grind
  have d3 : 2 * G * B = 4 * (G * G * G) + 8 * (G * G) := by rw [← hB]; grind
  have d4 : 0 ≤ T * T := msn T
  have d5 : 0 ≤ T * G := Int.mul_nonneg (by omega) (by omega)
  have d6 : T * (G * G) = 1048576 * (G * G) := by rw [hT]
  have fin : ∀ E : Int, 4 * (G * G) * (G * G - L * L - T * a) ≤ 4 * (G * G) * E → G * G - L * L - T * a ≤ E := fun E h => Int.le_of_mul_le_mul_left h hG2
  have fin' : ∀ E : Int, 4 * (G * G) * E ≤ 4 * (G * G) * (G * G - L * L - T * a) → E ≤ G * G - L * L - T * a := fun E h => Int.le_of_mul_le_mul_left h hG2
  have t2 := msn t
  have lo : -(2 * (G * (B + T)) + 2 * (T * B) + 4 * (2 * G * B) + G * G) ≤ 4 * (G * G) * (G * G - L * L - T * a) := by rw [key]; clear c1 c2 c3 c4 d1 d2 d3 d6 hGR; omega
  have hi : 4 * (G * G) * (G * G - L * L - T * a) ≤ 2 * (G * (B + T)) + 16 * (G * G) := by rw [key]; clear c1 c2 c3 c4 d1 d2 d3 d6 hGR; omega
  have E1 : 8 * (G * G) * (3 * G + T) + 4 * ((3 * G + T) * (3 * G + T)) - 4 * (G * G * G) ≤ 4 * (G * G) * (2 * G * R + R * R - G) := by rw [c1]; omega
  have g0 : 0 ≤ G * G := msn G
  have hg3 : 0 ≤ G * G * G := Int.mul_nonneg g0 (by omega)
  generalize 4 * (G * G) * (G * G - L * L - T * a) = M at *
  generalize hE : 2 * G * R + R * R - G = E at *
  clear key c1 c2 hGR p1 p2 p3 p4 p5
  have E2 : 2 * (G * (B + T)) + 2 * (T * B) + 4 * (2 * G * B) + G * G ≤ 4 * (G * G) * E := by
    rw [c3, c4] at E1; rw [d1, d2, d3]; omega
  have E3 : 2 * (G * (B + T)) + 16 * (G * G) ≤ 4 * (G * G) * E := by
    rw [c3, c4] at E1; rw [d1]; omega
  have hm : M ≤ 4 * (G * G) * E := by omega
  have hn : 4 * (G * G) * (-E) ≤ M := by rw [Int.mul_neg]; omega
  refine Nrm.sum (p := E) (q := G) (fin' _ hn) (fin _ hm) ?_ ?_ (by omega)
  · have : T * y = y * T := Int.mul_comm _ _
    omega
  · have : T * y = y * T := Int.mul_comm _ _
    omega
end Go.Proofs.Ytgdhpgjfebinhaa
