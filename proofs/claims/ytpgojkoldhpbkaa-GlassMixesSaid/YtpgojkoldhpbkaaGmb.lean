/- Mixtures: the shares. -/
import Derived.Test.YtpgojkoldhpbkaaGma
namespace Go.Proofs.Ytpgojkoldhpbkaa.Gm
set_option linter.unusedSimpArgs false
open Go.Proofs.Ytpgojkoldhpbkaa

theorem ediv_le {n d s : Int} (hd : 0 < d) (h : n ≤ s * d) : n / d ≤ s := by
  have e := Int.mul_ediv_add_emod n d
  have r0 := Int.emod_nonneg n (show d ≠ 0 by omega)
  by_cases hc : n / d ≤ s
  · exact hc
  · have h1 : d * (s + 1) ≤ d * (n / d) := Int.mul_le_mul_of_nonneg_left (by omega) (by omega)
    have e1 : d * (s + 1) = s * d + d := by grind
    omega
theorem le_cdiv {n d s : Int} (hd : 0 < d) (h : s * d ≤ n) : s ≤ cdiv n d := by
  have c := cdiv_spec n hd
  by_cases hc : s ≤ cdiv n d
  · exact hc
  · have h1 : d * (cdiv n d + 1) ≤ d * s := Int.mul_le_mul_of_nonneg_left (by omega) (by omega)
    have e1 : d * (cdiv n d + 1) = d * cdiv n d + d := by grind
    have e2 : d * s = s * d := Int.mul_comm _ _
    omega

/-- The place below the upper end. -/
def under (H m : Int) : Int := if m > H - 1 then m else H - 1

/-- a below b. -/
theorem share_lt {a b s : Int} (ha : 5000 ≤ a) (hab : a < b) (hb : b ≤ 80000) (h0 : 0 ≤ s) (h1 : s ≤ 10000) :
    a ≤ mixH a b s ∧ mixH a b s ≤ b ∧ a ≤ under (mixH a b s) a ∧ under (mixH a b s) a ≤ b ∧
    10000 * (b * b - mixH a b s * mixH a b s) / (b * b - a * a) ≤ s ∧ s ≤ cdiv (10000 * (b * b - under (mixH a b s) a * under (mixH a b s) a)) (b * b - a * a) := by
  obtain ⟨m1, m2, m3, m4, m5, _⟩ := mixed ha (Int.le_of_lt hab) hb h0 h1
  obtain ⟨g0, g1, g2, g3, g4, _⟩ := bounds ha (Int.le_of_lt hab) hb h0 h1
  have hD : 0 < b * b - a * a := by have := sq_lt (x := a) (y := b) (by omega) hab; omega
  have hp : s * (b * b - a * a) = 10000 * (b * b) - par a b s := by unfold par; grind
  have u1 : a ≤ under (mixH a b s) a ∧ under (mixH a b s) a ≤ b := by unfold under; split <;> omega
  have u2 : 10000 * (under (mixH a b s) a * under (mixH a b s) a) ≤ par a b s := by
    unfold under; split
    · omega
    · omega
  refine ⟨by omega, m3, u1.1, u1.2, ediv_le hD ?_, le_cdiv hD ?_⟩
  · rw [hp]; omega
  · rw [hp]; omega

/-- a above b. -/
theorem share_gt {a b s : Int} (ha : b < a) (hb : 5000 ≤ b) (hb' : a ≤ 80000) (h0 : 0 ≤ s) (h1 : s ≤ 10000) :
    b ≤ mixH a b s ∧ mixH a b s ≤ a ∧ b ≤ under (mixH a b s) b ∧ under (mixH a b s) b ≤ a ∧
    10000 * (under (mixH a b s) b * under (mixH a b s) b - b * b) / (a * a - b * b) ≤ s ∧ s ≤ cdiv (10000 * (mixH a b s * mixH a b s - b * b)) (a * a - b * b) := by
  obtain ⟨m1, m2, m3, m4, m5, _⟩ := mixed (a := b) (b := a) (s := 10000 - s) hb (Int.le_of_lt ha) hb' (by omega) (by omega)
  obtain ⟨g0, g1, g2, g3, g4, _⟩ := bounds (a := b) (b := a) (s := 10000 - s) hb (Int.le_of_lt ha) hb' (by omega) (by omega)
  have sw : mixH b a (10000 - s) = mixH a b s := mixH_swap a b s
  have sw2 : par b a (10000 - s) = par a b s := par_swap a b s
  have swL : mixL b a (10000 - s) = mixL a b s := mixL_swap a b s
  rw [sw] at m2 m3 m4 m5; rw [sw2] at m4 m5 g3 g4; rw [swL] at m1 m2
  have hD : 0 < a * a - b * b := by have := sq_lt (x := b) (y := a) (by omega) ha; omega
  have hp : s * (a * a - b * b) = par a b s - 10000 * (b * b) := by unfold par; grind
  have u1 : b ≤ under (mixH a b s) b ∧ under (mixH a b s) b ≤ a := by unfold under; split <;> omega
  have u2 : 10000 * (under (mixH a b s) b * under (mixH a b s) b) ≤ par a b s := by
    unfold under; split
    · omega
    · omega
  refine ⟨by omega, m3, u1.1, u1.2, ediv_le hD ?_, le_cdiv hD ?_⟩
  · rw [hp]; omega
  · rw [hp]; omega
end Go.Proofs.Ytpgojkoldhpbkaa.Gm
