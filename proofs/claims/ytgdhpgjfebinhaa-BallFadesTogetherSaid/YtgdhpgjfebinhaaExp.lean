/- What fades, between powers of one number: the bounds of the series. -/
import Derived.Test.YtgdhpgjfebinhaaVec
namespace Go.Proofs.Ytgdhpgjfebinhaa
set_option linter.unusedVariables false

theorem pw_nn {M : Int} (h : 0 ≤ M) (j : Nat) : 0 ≤ M ^ j := Int.pow_nonneg h
theorem nn_pred (j : Nat) : (0 : Int) ≤ (j : Int) * ((j : Int) - 1) := by
  cases j with
  | zero => simp
  | succ j => exact Int.mul_nonneg (by omega) (by omega)
theorem nn_pred2 (j : Nat) : (0 : Int) ≤ (j : Int) * ((j : Int) - 1) * ((j : Int) - 2) := by
  cases j with
  | zero => simp
  | succ j =>
    cases j with
    | zero => simp
    | succ j => exact Int.mul_nonneg (nn_pred _) (by omega)

theorem powU {M : Int} (hM : 1 ≤ M) : ∀ j : Nat, 2 * M * M * (M - 1) ^ j ≤ M ^ j * (2 * M * M - 2 * j * M + j * (j - 1))
  | 0 => by simp
  | j + 1 => by
    have ih := powU hM j
    have n1 := pw_nn (M := M) (by omega) j
    have n2 := Int.mul_nonneg n1 (nn_pred j)
    rw [Int.pow_succ, Int.pow_succ]
    have c : ((j + 1 : Nat) : Int) = (j : Int) + 1 := by omega
    rw [c]
    generalize (j : Int) = J at *
    generalize M ^ j = Y at *
    generalize (M - 1) ^ j = X at *
    have h2 := Int.mul_le_mul_of_nonneg_right ih (show 0 ≤ M - 1 by omega)
    have e1 : 2 * M * M * (X * (M - 1)) = 2 * M * M * X * (M - 1) := by grind
    have e3 : Y * M * (2 * M * M - 2 * (J + 1) * M + (J + 1) * (J + 1 - 1)) = Y * (2 * M * M - 2 * J * M + J * (J - 1)) * (M - 1) + Y * (J * (J - 1)) := by grind
    omega
theorem powD {M : Int} (hM : 1 ≤ M) : ∀ j : Nat, M ^ j * (6 * M * M * M - 6 * j * M * M + 3 * (j * (j - 1)) * M - j * (j - 1) * (j - 2)) ≤ 6 * M * M * M * (M - 1) ^ j
  | 0 => by simp
  | j + 1 => by
    have ih := powD hM j
    have n1 := pw_nn (M := M) (by omega) j
    have n2 := Int.mul_nonneg n1 (nn_pred2 j)
    rw [Int.pow_succ, Int.pow_succ]
    have c : ((j + 1 : Nat) : Int) = (j : Int) + 1 := by omega
    rw [c]
    generalize (j : Int) = J at *
    generalize M ^ j = Y at *
    generalize (M - 1) ^ j = X at *
    have h2 := Int.mul_le_mul_of_nonneg_right ih (show 0 ≤ M - 1 by omega)
    have e1 : 6 * M * M * M * (X * (M - 1)) = 6 * M * M * M * X * (M - 1) := by grind
    have e3 : Y * M * (6 * M * M * M - 6 * (J + 1) * M * M + 3 * ((J + 1) * (J + 1 - 1)) * M - (J + 1) * (J + 1 - 1) * (J + 1 - 2)) = Y * (6 * M * M * M - 6 * J * M * M + 3 * (J * (J - 1)) * M - J * (J - 1) * (J - 2)) * (M - 1) - Y * (J * (J - 1) * (J - 2)) := by grind
    omega

/-- The first step, from above. -/
theorem headU {A κ M u f : Int} {j : Nat} (hM : M = κ * A) (hκ : 0 < κ) (hA : 0 < A) (hu : κ * u ≤ j) (hj : (j : Int) ≤ M) (hf : 2 * A * A - 2 * A * u + u * u ≤ 2 * A * f) : A * (M - 1) ^ j ≤ f * M ^ j := by
  have hM0 : 0 < M := by rw [hM]; exact Int.mul_pos hκ hA
  have h1 := powU (M := M) (by omega) j
  have n1 := pw_nn (M := M) (by omega) j
  generalize M ^ j = Y at *
  generalize (M - 1) ^ j = X at *
  obtain ⟨J, hJ⟩ : ∃ J : Int, J = (j : Int) := ⟨_, rfl⟩
  have hJ0 : 0 ≤ J := by omega
  rw [← hJ] at h1 hu hj
  have k1 := Int.mul_nonneg (a := J - κ * u) (b := 2 * M - J - κ * u) (by omega) (by omega)
  have k2 := Int.mul_le_mul_of_nonneg_left hf (Int.mul_nonneg (Int.mul_nonneg (Int.le_of_lt hκ) (Int.le_of_lt hκ)) (Int.le_of_lt hA))
  have k3 : κ * κ * A * (2 * A * A - 2 * A * u + u * u) = A * (2 * M * M - 2 * J * M + J * J) + A * ((J - κ * u) * (2 * M - J - κ * u)) := by rw [hM]; grind
  have k4 : κ * κ * A * (2 * A * f) = 2 * M * M * f := by rw [hM]; grind
  have k5 := Int.mul_nonneg (Int.le_of_lt hA) k1
  have k6 : A * (2 * M * M - 2 * J * M + J * J) ≤ 2 * M * M * f := by omega
  have k7 := Int.mul_le_mul_of_nonneg_left k6 n1
  have k8 := Int.mul_le_mul_of_nonneg_left h1 (Int.le_of_lt hA)
  have k9 : A * (Y * (2 * M * M - 2 * J * M + J * (J - 1))) = Y * (A * (2 * M * M - 2 * J * M + J * J)) - A * (Y * J) := by grind
  have k10 := Int.mul_nonneg (Int.le_of_lt hA) (Int.mul_nonneg n1 hJ0)
  have e1 : A * (2 * M * M * X) = 2 * M * M * (A * X) := by grind
  have e2 : Y * (2 * M * M * f) = 2 * M * M * (f * Y) := by grind
  have hp : 0 < 2 * M * M := Int.mul_pos (by omega) hM0
  exact Int.le_of_mul_le_mul_left (a := 2 * M * M) (by omega) hp
/-- The first step, from below. -/
theorem headD {A κ M v f : Int} {j : Nat} (hM : M = κ * A) (hκ : 0 < κ) (hA : 0 < A) (hv : j + 1 ≤ κ * v) (hj : 16 * (κ * v) ≤ M) (hf : 6 * A * A * f ≤ 6 * A * A * A - 6 * A * A * v + 3 * A * v * v - v * v * v) : f * M ^ j ≤ A * (M - 1) ^ j := by
  have hM0 : 0 < M := by rw [hM]; exact Int.mul_pos hκ hA
  have h1 := powD (M := M) (by omega) j
  have n1 := pw_nn (M := M) (by omega) j
  generalize M ^ j = Y at *
  generalize (M - 1) ^ j = X at *
  obtain ⟨J, hJ⟩ : ∃ J : Int, J = (j : Int) := ⟨_, rfl⟩
  have hJ0 : 0 ≤ J := by omega
  rw [← hJ] at h1 hv
  obtain ⟨y, hy⟩ : ∃ y, κ * v = y := ⟨_, rfl⟩
  rw [hy] at hv hj
  obtain ⟨d, hd⟩ : ∃ d, y = J + d := ⟨y - J, by omega⟩
  have k2 := Int.mul_le_mul_of_nonneg_left hf (Int.mul_nonneg (Int.mul_nonneg (Int.le_of_lt hκ) (Int.le_of_lt hκ)) (Int.mul_nonneg (Int.le_of_lt hκ) (Int.le_of_lt hA)))
  have k4 : κ * κ * (κ * A) * (6 * A * A * f) = 6 * M * M * M * f := by rw [hM]; grind
  have k3 : κ * κ * (κ * A) * (6 * A * A * A - 6 * A * A * v + 3 * A * v * v - v * v * v) = A * (6 * M * M * M - 6 * M * M * y + 3 * M * y * y - y * y * y) := by rw [hM, ← hy]; grind
  -- the polynomial at y is below that at J
  have g : 6 * M * M * M - 6 * M * M * y + 3 * M * y * y - y * y * y ≤ 6 * M * M * M - 6 * J * M * M + 3 * (J * (J - 1)) * M - J * (J - 1) * (J - 2) := by
    have e : (6 * M * M * M - 6 * J * M * M + 3 * (J * (J - 1)) * M - J * (J - 1) * (J - 2)) - (6 * M * M * M - 6 * M * M * y + 3 * M * y * y - y * y * y) = d * (6 * (M * M) - 6 * (M * J) - 3 * (M * d)) + 3 * (J * (J * d)) + 3 * (J * (d * d)) + d * (d * d) - 3 * (J * M) + 3 * (J * J) - 2 * J := by rw [hd]; grind
    have a1 : 16 * (M * J) ≤ M * M := by
      have := Int.mul_le_mul_of_nonneg_left (show 16 * J ≤ M by omega) (Int.le_of_lt hM0)
      have : M * (16 * J) = 16 * (M * J) := by grind
      omega
    have a2 : 16 * (M * d) ≤ M * M := by
      have := Int.mul_le_mul_of_nonneg_left (show 16 * d ≤ M by omega) (Int.le_of_lt hM0)
      have : M * (16 * d) = 16 * (M * d) := by grind
      omega
    have a3 : 0 ≤ M * J := Int.mul_nonneg (by omega) hJ0
    have a4 : 0 < M * M := Int.mul_pos hM0 hM0
    have a5 : 3 * (M * J) ≤ d * (6 * (M * M) - 6 * (M * J) - 3 * (M * d)) := by
      have b1 : 6 * (M * M) - 6 * (M * J) - 3 * (M * d) ≤ d * (6 * (M * M) - 6 * (M * J) - 3 * (M * d)) := by
        have := Int.mul_le_mul_of_nonneg_right (show 1 ≤ d by omega) (show 0 ≤ 6 * (M * M) - 6 * (M * J) - 3 * (M * d) by omega)
        omega
      omega
    have a6 : J * M = M * J := Int.mul_comm _ _
    have a7 : 0 ≤ J * (J * d) := Int.mul_nonneg hJ0 (Int.mul_nonneg hJ0 (by omega))
    have a8 : 0 ≤ J * (d * d) := Int.mul_nonneg hJ0 (msn d)
    have a9 : 0 ≤ d * (d * d) := Int.mul_nonneg (by omega) (msn d)
    have a10 : J ≤ J * J ∨ J = 0 := by
      by_cases h : J = 0
      · exact .inr h
      · left
        have := Int.mul_le_mul_of_nonneg_right (show 1 ≤ J by omega) hJ0
        omega
    have a11 := msn J
    omega
  have k6 : 6 * M * M * M * f ≤ A * (6 * M * M * M - 6 * J * M * M + 3 * (J * (J - 1)) * M - J * (J - 1) * (J - 2)) := by
    have := Int.mul_le_mul_of_nonneg_left g (Int.le_of_lt hA)
    omega
  have k7 := Int.mul_le_mul_of_nonneg_left k6 n1
  have k8 := Int.mul_le_mul_of_nonneg_left h1 (Int.le_of_lt hA)
  have e1 : A * (6 * M * M * M * X) = 6 * M * M * M * (A * X) := by grind
  have e2 : Y * (6 * M * M * M * f) = 6 * M * M * M * (f * Y) := by grind
  have e3 : Y * (A * (6 * M * M * M - 6 * J * M * M + 3 * (J * (J - 1)) * M - J * (J - 1) * (J - 2))) = A * (Y * (6 * M * M * M - 6 * J * M * M + 3 * (J * (J - 1)) * M - J * (J - 1) * (J - 2))) := by grind
  have hp : 0 < 6 * M * M * M := Int.mul_pos (Int.mul_pos (by omega) hM0) hM0
  exact Int.le_of_mul_le_mul_left (a := 6 * M * M * M) (by omega) hp

theorem stepU_pow {A X Y F F' : Int} (hA : 0 < A) (hX : 0 ≤ X) (hY : 0 ≤ Y) (h : A * X ≤ F * Y) (hF : F * F ≤ A * F') : A * (X * X) ≤ F' * (Y * Y) := by
  have h0 : 0 ≤ A * X := Int.mul_nonneg (by omega) hX
  have h1 := Int.mul_le_mul h h h0 (by omega)
  have h2 := Int.mul_le_mul_of_nonneg_right hF (msn Y)
  have e1 : A * X * (A * X) = A * (A * (X * X)) := by grind
  have e2 : F * Y * (F * Y) = F * F * (Y * Y) := by grind
  have e3 : A * F' * (Y * Y) = A * (F' * (Y * Y)) := by grind
  exact Int.le_of_mul_le_mul_left (a := A) (by omega) hA
theorem stepD_pow {A X Y F F' : Int} (hA : 0 < A) (hX : 0 ≤ X) (hY : 0 ≤ Y) (hF0 : 0 ≤ F) (h : F * Y ≤ A * X) (hF : A * F' ≤ F * F) : F' * (Y * Y) ≤ A * (X * X) := by
  have h1 := Int.mul_le_mul h h (Int.mul_nonneg hF0 hY) (Int.mul_nonneg (by omega) hX)
  have h2 := Int.mul_le_mul_of_nonneg_right hF (msn Y)
  have e1 : A * X * (A * X) = A * (A * (X * X)) := by grind
  have e2 : F * Y * (F * Y) = F * F * (Y * Y) := by grind
  have e3 : A * F' * (Y * Y) = A * (F' * (Y * Y)) := by grind
  exact Int.le_of_mul_le_mul_left (a := A) (by omega) hA
end Go.Proofs.Ytgdhpgjfebinhaa
