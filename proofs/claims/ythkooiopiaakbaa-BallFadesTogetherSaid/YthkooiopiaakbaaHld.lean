/- The balls of sums, products and quotients hold the sums, products and quotients of what their arguments hold. -/
import Derived.Test.YthkooiopiaakbaaVec
import Derived.Test.YthkooiopiaakbaaQuot
namespace Go.Proofs.Ythkooiopiaakbaa
open Go.RowKit Go.Lib
set_option linter.unusedVariables false

theorem upw_sqv {x y : Int} (hx : Sm 134217728 x) (hy : Sm 134217728 y) : Nrm (upw x y) x y := by
  have b1 := sq_bd hx
  have b2 := sq_bd hy
  obtain ⟨r0, r1, r2, r3⟩ := rti_spec (sq2 x y) (by unfold sq2; omega) (by unfold sq2; omega)
  unfold Nrm upw rtu
  change (0 ≤ _ ∧ sq2 x y ≤ _)
  generalize sq2 x y = n at *
  generalize rti n = t at *
  split
  · have : (t + 1) * (t + 1) = t * t + 2 * t + 1 := by rw [Int.mul_add, Int.add_mul]; omega
    omega
  · omega

theorem dn_sqv {x y : Int} (hx : Sm 134217728 x) (hy : Sm 134217728 y) : 0 ≤ dn x y ∧ dn x y * dn x y ≤ x * x + y * y := by
  have b1 := sq_bd hx
  have b2 := sq_bd hy
  obtain ⟨r0, r1, r2, r3⟩ := rti_spec (sq2 x y) (by unfold sq2; omega) (by unfold sq2; omega)
  unfold dn
  exact ⟨r0, r2⟩

/-- How far a rounded number is away. -/
theorem rdiv_near (n d : Int) (hd : 0 < d) : -d ≤ 2 * (n - d * rdiv n d) ∧ 2 * (n - d * rdiv n d) ≤ d := by
  unfold rdiv
  have e := Int.mul_ediv_add_emod (2 * n + d) (2 * d)
  have r0 := Int.emod_nonneg (2 * n + d) (show 2 * d ≠ 0 by omega)
  have r1 := Int.emod_lt_of_pos (2 * n + d) (show 0 < 2 * d by omega)
  generalize (2 * n + d) / (2 * d) = q at *
  have : 2 * d * q = 2 * (d * q) := Int.mul_assoc _ _ _
  omega
theorem rdiv_whole {n d : Int} (hd : 0 < d) (h : wholeB n d = true) : n - d * rdiv n d = 0 := by
  have h' : n % d = 0 := by unfold wholeB at h; simpa using h
  unfold rdiv
  have e := Int.mul_ediv_add_emod n d
  rw [h'] at e
  generalize n / d = k at e
  have : (2 * n + d) / (2 * d) = k := by
    rw [show 2 * n + d = d + 2 * d * k by rw [← e, Int.mul_assoc, Int.add_zero, Int.add_comm], Int.add_mul_ediv_left _ _ (by omega), Int.ediv_eq_zero_of_lt (by omega) (by omega)]
    omega
  rw [this]; omega
theorem rdiv_nrm (a b d : Int) (hd : 0 < d) : Nrm (d * (if wholeB a d && wholeB b d then 0 else 1)) (a - d * rdiv a d) (b - d * rdiv b d) := by
  by_cases h : (wholeB a d && wholeB b d) = true
  · rw [if_pos h]
    simp only [Bool.and_eq_true] at h
    rw [rdiv_whole hd h.1, rdiv_whole hd h.2, Int.mul_zero]
    exact Nrm.zero
  · rw [if_neg h, Int.mul_one]
    have h1 := rdiv_near a d hd
    have h2 := rdiv_near b d hd
    exact Nrm.half (by omega) h1.1 h1.2 h2.1 h2.2
theorem cdiv_ge (n d : Int) (hd : 0 < d) : n ≤ d * cdiv n d := by
  unfold cdiv
  have e := Int.mul_ediv_add_emod (-n) d
  have r0 := Int.emod_nonneg (-n) (show d ≠ 0 by omega)
  rw [Int.mul_neg]; omega

theorem big {x : Int} (h : Sm 67108864 x) : Sm 134217728 x := ⟨by have := h.1; omega, by have := h.2; omega⟩

theorem holds_prod {x y r u v s P Q D P' Q' D' : Int} (hc : ckB x y r = 0) (gc : ckB u v s = 0) (hD : 0 ≤ D) (hD' : 0 ≤ D') (h : Hlds x y r P Q D) (h' : Hlds u v s P' Q' D') :
    Hlds (prodX x y u v) (prodY x y u v) (prodR x y u v r s) (P * P' - Q * Q') (P * Q' + Q * P') (D * D' * 1048576) := by
  obtain ⟨hx, hy, r1, r2⟩ := ckB_ok hc
  obtain ⟨hu, hv, s1, s2⟩ := ckB_ok gc
  have c := cdiv_ge (prodSpread x y u v r s) 1048576 (by decide)
  refine Hlds.times hD hD' h h' (upw_sqv (big hx) (big hy)) (upw_sqv (big hu) (big hv)) (rdiv_nrm (x * u - y * v) (x * v + y * u) 1048576 (by decide)) ?_
  unfold prodR
  unfold prodSpread at c ⊢
  rw [Int.mul_add]
  omega

theorem holds_quo {x y r u v s P Q D P' Q' D' : Int} (hc : ckB x y r = 0) (gc : ckB u v s = 0) (hz : 0 < dn u v - s) (hD : 0 < D) (hD' : 0 < D') (h : Hlds x y r P Q D) (h' : Hlds u v s P' Q' D') :
    Hlds (rdiv (quoN1 x y u v * 1048576) (sq2 u v)) (rdiv (quoN2 x y u v * 1048576) (sq2 u v)) (quoR x y u v r s)
      (1048576 * D' * (P * P' + Q * Q')) (1048576 * D' * (Q * P' - P * Q')) (D * (P' * P' + Q' * Q')) := by
  obtain ⟨hx, hy, r1, r2⟩ := ckB_ok hc
  obtain ⟨hu, hv, s1, s2⟩ := ckB_ok gc
  obtain ⟨k0, k1⟩ := dn_sqv (big hu) (big hv)
  have hk : 0 < dn u v * dn u v := Int.mul_pos (by omega) (by omega)
  have hM : 0 < sq2 u v := by unfold sq2; omega
  have hd : 0 < quoDen u v s := by unfold quoDen; exact Int.mul_pos (by omega) (by omega)
  have c := cdiv_ge (quoSpread x y u v r s * 1048576) (quoDen u v s) hd
  have hr := rdiv_nrm (quoN1 x y u v * 1048576) (quoN2 x y u v * 1048576) (sq2 u v) hM
  refine Hlds.quot (T := 1048576) (t := if quoEx x y u v then 0 else 1) (by decide) hD hD' h h' (upw_sqv (big hx) (big hy)) (upw_sqv (big hu) (big hv)) k0 (by omega) k1 (by split <;> decide) (hr.cast rfl ?_ ?_) ?_
  · unfold quoN1 sq2; grind
  · unfold quoN2 sq2; grind
  · unfold quoR
    have e : dn u v * (dn u v - s) = quoDen u v s := by unfold quoDen; exact Int.mul_comm _ _
    rw [e, Int.mul_add (quoDen u v s)]
    have e2 : 1048576 * (r * upw u v + upw x y * s) = quoSpread x y u v r s * 1048576 := by unfold quoSpread; exact Int.mul_comm _ _
    rw [e2]
    omega
end Go.Proofs.Ythkooiopiaakbaa
