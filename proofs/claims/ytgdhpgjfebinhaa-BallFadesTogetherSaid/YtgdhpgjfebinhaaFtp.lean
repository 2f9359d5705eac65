/- What fades, between powers of one number: pure numbers. -/
import Derived.Test.YtgdhpgjfebinhaaExq
namespace Go.Proofs.Ytgdhpgjfebinhaa
set_option linter.unusedVariables false

/-- The ends of what fades, and the power between them. -/
structure Fd (E Y : Int) (L H : Int) : Prop where
  lo0 : 0 ≤ L
  hi1 : H ≤ 1048576
  hi0 : 0 ≤ H
  lo : L * 1024 * Y ≤ 1073741824 * E
  hi : 1073741824 * E ≤ H * 1024 * Y

theorem fd_of {E Y d u : Int} (hY : 0 ≤ Y) (hd : 0 ≤ d) (hu : 0 ≤ u ∧ u ≤ 1073741824) (h1 : 1073741824 * E ≤ u * Y) (h2 : d * Y ≤ 1073741824 * E) : Fd E Y (d / 1024) (cdiv u 1024) := by
  have k1 : d / 1024 * 1024 ≤ d := Int.ediv_mul_le _ (by decide)
  have k2 := cdiv_ge u 1024 (by decide)
  have k3 := cdiv_bd (n := u) (d := 1024) (M := 1048576) (by decide) hu.1 (by omega)
  have k4 := Int.mul_le_mul_of_nonneg_right k1 hY
  have k5 : u * Y ≤ cdiv u 1024 * 1024 * Y := Int.mul_le_mul_of_nonneg_right (by omega) hY
  exact ⟨Int.ediv_nonneg hd (by decide), k3.2, k3.1, by omega, by omega⟩

theorem fd_le {E Y L H : Int} (hY : 0 < Y) (h : Fd E Y L H) : L ≤ H := by
  have := Int.le_trans h.lo h.hi
  have := Int.le_of_mul_le_mul_right this hY
  omega

/-- The three enclosures. -/
theorem fd_three {E F Y Z aL aH bL bH cL cH : Int} (hY : 0 < Y) (hZ : 0 < Z) (hE : 0 ≤ E) (hF : 0 ≤ F) (hEY : E ≤ Y) (hFZ : F ≤ Z) (a : Fd E Y aL aH) (b : Fd F Z bL bH) (c : Fd (E * F) (Y * Z) cL cH) :
    cL * 1048576 ≤ aH * bH ∧ aL * bL ≤ cH * 1048576 ∧ cL ≤ aH ∧ cL ≤ bH := by
  have hYZ := Int.mul_pos hY hZ
  have n1 : 0 ≤ 1073741824 * E := by omega
  have n2 : 0 ≤ 1073741824 * F := by omega
  have u := Int.mul_le_mul a.hi b.hi n2 (Int.le_trans n1 a.hi)
  have l := Int.mul_le_mul a.lo b.lo (Int.mul_nonneg (by have := b.lo0; omega) (Int.le_of_lt hZ)) n1
  have c1 := c.lo
  have c2 := c.hi
  refine ⟨?_, ?_, ?_, ?_⟩
  · have e1 : aH * 1024 * Y * (bH * 1024 * Z) = 1048576 * (aH * bH * (Y * Z)) := by grind
    have e2 : 1073741824 * E * (1073741824 * F) = 1073741824 * (1073741824 * (E * F)) := by grind
    have e3 : cL * 1024 * (Y * Z) = 1024 * (cL * (Y * Z)) := by grind
    have e4 : cL * 1048576 * (Y * Z) = 1048576 * (cL * (Y * Z)) := by grind
    exact Int.le_of_mul_le_mul_right (a := Y * Z) (by omega) hYZ
  · have e1 : aL * 1024 * Y * (bL * 1024 * Z) = 1048576 * (aL * bL * (Y * Z)) := by grind
    have e2 : 1073741824 * E * (1073741824 * F) = 1073741824 * (1073741824 * (E * F)) := by grind
    have e3 : cH * 1024 * (Y * Z) = 1024 * (cH * (Y * Z)) := by grind
    have e4 : cH * 1048576 * (Y * Z) = 1048576 * (cH * (Y * Z)) := by grind
    exact Int.le_of_mul_le_mul_right (a := Y * Z) (by omega) hYZ
  · have k1 := Int.mul_le_mul_of_nonneg_left hFZ n1
    have k2 := Int.mul_le_mul_of_nonneg_right a.hi (Int.le_of_lt hZ)
    have e1 : 1073741824 * E * F = 1073741824 * (E * F) := by grind
    have e2 : aH * 1024 * Y * Z = aH * 1024 * (Y * Z) := by grind
    have := Int.le_of_mul_le_mul_right (a := Y * Z) (b := cL * 1024) (c := aH * 1024) (by omega) hYZ
    omega
  · have k1 := Int.mul_le_mul_of_nonneg_left hEY n2
    have k2 := Int.mul_le_mul_of_nonneg_right b.hi (Int.le_of_lt hY)
    have e1 : 1073741824 * F * E = 1073741824 * (E * F) := by grind
    have e2 : 1073741824 * F * Y = 1073741824 * F * Y := rfl
    have e3 : bH * 1024 * Z * Y = bH * 1024 * (Y * Z) := by grind
    have := Int.le_of_mul_le_mul_right (a := Y * Z) (b := cL * 1024) (c := bH * 1024) (by omega) hYZ
    omega

theorem pw_le {M : Int} (h : 0 ≤ M - 1) (n : Nat) : (M - 1) ^ n ≤ M ^ n := by
  induction n with
  | zero => simp
  | succ r ih =>
    rw [Int.pow_succ, Int.pow_succ]
    exact Int.mul_le_mul ih (by omega) h (pw_nn (by omega) r)

set_option maxRecDepth 100000 in
theorem far_isH {T : Nat} (hT : T = 16777216) : IsH (upX T) 15 := by
  rw [hT]
  exact ⟨by decide +kernel, fun j hj => by
    have : j = 0 ∨ j = 1 ∨ j = 2 ∨ j = 3 ∨ j = 4 ∨ j = 5 ∨ j = 6 ∨ j = 7 ∨ j = 8 ∨ j = 9 ∨ j = 10 ∨ j = 11 ∨ j = 12 ∨ j = 13 ∨ j = 14 := by omega
    rcases this with rfl | rfl | rfl | rfl | rfl | rfl | rfl | rfl | rfl | rfl | rfl | rfl | rfl | rfl | rfl <;> decide +kernel⟩
theorem far_val {T : Nat} (hT : T = 16777216) : fadeU T 15 ≤ 1024 := by rw [hT]; decide +kernel

/-- Far away hardly anything is left. -/
theorem far_pow (M : Int) (m : Nat) (hM : M = 20000000 * 1073741824) (hm : (m : Int) = 32169908992) {S : Nat} (h : 16777216 ≤ S) : 1073741824 * (M - 1) ^ (m * S) ≤ 1024 * M ^ (m * S) := by
  obtain ⟨T, hT⟩ : ∃ T : Nat, T = 16777216 := ⟨_, rfl⟩
  have h1 := fadU_pow M m hM hm (P := T) (k := 15) (by rw [hT]; decide) (far_isH hT)
  have h2 := far_val hT
  generalize fadeU T 15 = u at *
  obtain ⟨R, hR⟩ : ∃ R, S = T + R := ⟨S - T, by omega⟩
  have hM0 : 0 ≤ M - 1 := by rw [hM]; decide
  rw [hR, Nat.mul_add, Int.pow_add, Int.pow_add]
  have n1 := pw_nn hM0 (m * T)
  have n2 := pw_nn (M := M) (by omega) (m * T)
  have n3 := pw_nn hM0 (m * R)
  have p1 := pw_le hM0 (m * R)
  generalize (M - 1) ^ (m * T) = a at *
  generalize M ^ (m * T) = b at *
  generalize (M - 1) ^ (m * R) = c at *
  generalize M ^ (m * R) = d at *
  have k1 : u * b ≤ 1024 * b := Int.mul_le_mul_of_nonneg_right h2 n2
  have k2 := Int.mul_le_mul (Int.le_trans h1 k1) p1 n3 (Int.mul_nonneg (by decide) n2)
  have e1 : 1073741824 * (a * c) = 1073741824 * a * c := by grind
  have e2 : 1024 * (b * d) = 1024 * b * d := by grind
  omega

end Go.Proofs.Ytgdhpgjfebinhaa
