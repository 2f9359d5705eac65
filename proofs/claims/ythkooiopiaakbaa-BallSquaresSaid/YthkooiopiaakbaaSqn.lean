/- The square of a root's ball meets the ball; the quotient of a product meets its factor. -/
import Derived.Test.YthkooiopiaakbaaSqm
import Derived.Test.YthkooiopiaakbaaRes
import Derived.Test.YthkooiopiaakbaaNear
namespace Go.Proofs.Ythkooiopiaakbaa
open Go.RowKit Go.Lib
set_option linter.unusedVariables false

structure RootIn (x y : Int) (a y' : Int) : Prop where
  a0 : 0 ≤ a
  sq : a * a + y' * y' = x * x + y * y
  ea : a = rtA x
  ey : y' = if 0 ≤ x then y else rtA y

theorem rootIn (x y : Int) : RootIn x y (rtA x) (if 0 ≤ x then y else rtA y) := by
  refine ⟨by unfold rtA; split <;> omega, ?_, rfl, rfl⟩
  unfold rtA
  split
  · rfl
  · split
    · rw [Int.neg_mul_neg]
    · rw [Int.neg_mul_neg, Int.neg_mul_neg]

theorem root_parts {x y r : Int} (hc : ckB x y r = 0) (hz : ¬ dn x y ≤ r) :
    Nrm (2 * rtG x y * rtR x y r + rtR x y r * rtR x y r) (rtG x y * rtG x y - rtL x y * rtL x y - 1048576 * rtA x) (2 * rtG x y * rtL x y - 1048576 * (if 0 ≤ x then y else rtA y)) ∧
    0 ≤ rtR x y r ∧ (2 * rtG x y * rtL x y ≤ 2 * (rtG x y * rtG x y) + 5 * rtG x y + 1048576 ∧ -(2 * (rtG x y * rtG x y) + 5 * rtG x y + 1048576) ≤ 2 * rtG x y * rtL x y) := by
  obtain ⟨b1, b2, b3, b4, b5, b6, b7, b8, b9, b10, b11, b12, b13, b14, b15⟩ := rt_bd hc hz
  obtain ⟨hx, hy, hr0, hr⟩ := ckB_ok hc
  have s1 := sq_bd (big hx)
  have s2 := sq_bd (big hy)
  have hD := rti_spec (sq2 x y) (by unfold sq2; omega) (by unfold sq2; omega)
  change 0 ≤ dn x y ∧ dn x y < 268435456 ∧ dn x y * dn x y ≤ x * x + y * y ∧ x * x + y * y < dn x y * dn x y + 2 * dn x y + 1 at hD
  obtain ⟨D0, _, D1, D2⟩ := hD
  have hG := rti_spec ((dn x y + rtA x) * 524288) (by omega) (by omega)
  change 0 ≤ rtG x y ∧ rtG x y < 268435456 ∧ rtG x y * rtG x y ≤ (dn x y + rtA x) * 524288 ∧ (dn x y + rtA x) * 524288 < rtG x y * rtG x y + 2 * rtG x y + 1 at hG
  obtain ⟨G0, _, G1, G2⟩ := hG
  obtain ⟨a0, sq, ea, ey⟩ := rootIn x y
  have hL := rdiv_near ((if 0 ≤ x then y else rtA y) * 1048576) (2 * rtG x y) (by omega)
  change -(2 * rtG x y) ≤ 2 * ((if 0 ≤ x then y else rtA y) * 1048576 - 2 * rtG x y * rtL x y) ∧ 2 * ((if 0 ≤ x then y else rtA y) * 1048576 - 2 * rtG x y * rtL x y) ≤ 2 * rtG x y at hL
  have hR : rtR x y r = cdiv (r * 1048576) (rti (dn x y * 1048576)) + 3 + cdiv 1048576 (rtG x y) := rfl
  have hcd := cdiv_ge 1048576 (rtG x y) (by omega)
  clear ea ey
  generalize (if 0 ≤ x then y else rtA y) = y' at *
  generalize rtA x = a at *
  generalize rtG x y = G at *
  generalize rtL x y = L at *
  generalize dn x y = D at *
  generalize rtR x y r = R at *
  generalize cdiv 1048576 G = c at *
  generalize cdiv (r * 1048576) (rti (D * 1048576)) = e at *
  have e1 : (D + 1) * (D + 1) = D * D + 2 * D + 1 := by grind
  have hGR : 3 * G + 1048576 ≤ G * R := by
    rw [hR]
    have : G * (e + 3 + c) = G * e + 3 * G + G * c := by grind
    have := Int.mul_nonneg G0 b12
    omega
  have hy1 : y' ≤ D + 1 ∧ -(D + 1) ≤ y' := by
    have hA := msn a
    have : Nrm (D + 1) a y' := ⟨by omega, by omega⟩
    have := this.snd
    omega
  refine ⟨root_err rfl a0 (by omega) D0 (by omega) (by omega) (by omega) (by omega) hL.1 hL.2 hGR (by omega), by omega, ?_, ?_⟩
  · omega
  · omega

/-- The square of the root's ball meets the ball. -/
theorem root_meets {x y r : Int} (hc : ckB x y r = 0) (hz : ¬ dn x y ≤ r) (hk : ckB (rtX x y) (rtY x y) (rtR x y r) = 0) :
    meetsB (prodX (rtX x y) (rtY x y) (rtX x y) (rtY x y)) (prodY (rtX x y) (rtY x y) (rtX x y) (rtY x y)) (prodR (rtX x y) (rtY x y) (rtX x y) (rtY x y) (rtR x y r) (rtR x y r)) x y r = true := by
  obtain ⟨hN, hR0, _⟩ := root_parts hc hz
  obtain ⟨b1, b2, b3, b4, b5, b6, b7, b8, b9, b10, b11, b12, b13, b14, b15⟩ := rt_bd hc hz
  obtain ⟨hx, hy, hr0, hr⟩ := ckB_ok hc
  obtain ⟨hX, hY, _, _⟩ := ckB_ok hk
  have hup := upw_sqv (big hX) (big hY)
  have hrn := rdiv_nrm (rtX x y * rtX x y - rtY x y * rtY x y) (rtX x y * rtY x y + rtY x y * rtX x y) 1048576 (by decide)
  -- the error of the square, whichever part is the greater one
  have hE : Nrm (2 * rtG x y * rtR x y r + rtR x y r * rtR x y r) (rtX x y * rtX x y - rtY x y * rtY x y - 1048576 * x) (rtX x y * rtY x y + rtY x y * rtX x y - 1048576 * y) ∧ rtG x y * rtG x y ≤ rtX x y * rtX x y + rtY x y * rtY x y := by
    unfold rtX rtY
    have m1 := msn (rtL x y)
    by_cases h0 : 0 ≤ x
    · have ea : rtA x = x := by unfold rtA; rw [if_pos h0]
      rw [if_pos h0, ea] at hN
      rw [if_pos h0, if_pos h0]
      exact ⟨hN.cast rfl rfl (by grind), by omega⟩
    · have ea : rtA x = -x := by unfold rtA; rw [if_neg h0]
      rw [if_neg h0, ea] at hN
      rw [if_neg h0, if_neg h0]
      by_cases h1 : 0 ≤ y
      · have ey : rtA y = y := by unfold rtA; rw [if_pos h1]
        rw [ey] at hN
        rw [if_pos h1]
        exact ⟨hN.neg.conj.cast rfl (by grind) (by grind), by omega⟩
      · have ey : rtA y = -y := by unfold rtA; rw [if_neg h1]
        rw [ey] at hN
        rw [if_neg h1]
        exact ⟨hN.neg.cast rfl (by grind) (by grind), by rw [Int.neg_mul_neg]; omega⟩
  obtain ⟨hE, hGle⟩ := hE
  have hUG : rtG x y ≤ upw (rtX x y) (rtY x y) := le_of_sqv hup.1 (Int.le_trans hGle hup.2)
  have hc2 := cdiv_ge (prodSpread (rtX x y) (rtY x y) (rtX x y) (rtY x y) (rtR x y r) (rtR x y r)) 1048576 (by decide)
  have hGR : rtG x y * rtR x y r ≤ upw (rtX x y) (rtY x y) * rtR x y r := Int.mul_le_mul_of_nonneg_right hUG hR0
  have hsp : 2 * rtG x y * rtR x y r + rtR x y r * rtR x y r ≤ prodSpread (rtX x y) (rtY x y) (rtX x y) (rtY x y) (rtR x y r) (rtR x y r) := by
    unfold prodSpread
    have : 2 * rtG x y * rtR x y r = 2 * (rtG x y * rtR x y r) := by grind
    omega
  have hpr : prodR (rtX x y) (rtY x y) (rtX x y) (rtY x y) (rtR x y r) (rtR x y r) = cdiv (prodSpread (rtX x y) (rtY x y) (rtX x y) (rtY x y) (rtR x y r) (rtR x y r)) 1048576 + (if wholeB (rtX x y * rtX x y - rtY x y * rtY x y) 1048576 && wholeB (rtX x y * rtY x y + rtY x y * rtX x y) 1048576 then 0 else 1) := rfl
  have hpx : prodX (rtX x y) (rtY x y) (rtX x y) (rtY x y) = rdiv (rtX x y * rtX x y - rtY x y * rtY x y) 1048576 := rfl
  have hpy : prodY (rtX x y) (rtY x y) (rtX x y) (rtY x y) = rdiv (rtX x y * rtY x y + rtY x y * rtX x y) 1048576 := rfl
  rw [← hpx, ← hpy] at hrn
  generalize prodX (rtX x y) (rtY x y) (rtX x y) (rtY x y) = pX at *
  generalize prodY (rtX x y) (rtY x y) (rtX x y) (rtY x y) = pY at *
  generalize prodR (rtX x y) (rtY x y) (rtX x y) (rtY x y) (rtR x y r) (rtR x y r) = pR at *
  generalize (if wholeB (rtX x y * rtX x y - rtY x y * rtY x y) 1048576 && wholeB (rtX x y * rtY x y + rtY x y * rtX x y) 1048576 then (0 : Int) else 1) = δ at *
  generalize cdiv (prodSpread (rtX x y) (rtY x y) (rtX x y) (rtY x y) (rtR x y r) (rtR x y r)) 1048576 = cd at *
  have h1 := hE.sub hrn
  have h2 := h1.le (B := 1048576 * (pR + r)) (by rw [hpr]; omega)
  have h3 : Nrm (pR + r) (pX - x) (pY - y) := Nrm.unscale 1048576 (by decide) (h2.cast rfl (by grind) (by grind))
  unfold meetsB sq2
  exact decide_eq_true h3.2

/-- The quotient of a product by a factor meets the other one. -/
theorem quo_meets {x y r u v s : Int} (hc : ckB x y r = 0) (gc : ckB u v s = 0) (hz : 0 < dn u v - s) (pc : ckB (prodX x y u v) (prodY x y u v) (prodR x y u v r s) = 0) :
    meetsB (rdiv (quoN1 (prodX x y u v) (prodY x y u v) u v * 1048576) (sq2 u v)) (rdiv (quoN2 (prodX x y u v) (prodY x y u v) u v * 1048576) (sq2 u v)) (quoR (prodX x y u v) (prodY x y u v) u v (prodR x y u v r s) s) x y r = true := by
  obtain ⟨hx, hy, r1, r2⟩ := ckB_ok hc
  obtain ⟨hu, hv, s1, s2⟩ := ckB_ok gc
  have hX := Hlds.mid (X := x) (Y := y) (R := r) r1
  have hU := Hlds.mid (X := u) (Y := v) (R := s) s1
  have hP := holds_prod hc gc (by decide) (by decide) hX hU
  have hQ := holds_quo pc gc hz (by decide) (by decide) hP hU
  have hf := far (D := 1) (by decide) hU (dn_sqv (big hu) (big hv)).1 (by omega) (dn_sqv (big hu) (big hv)).2
  have hn : 0 < u * u + v * v := Int.lt_of_lt_of_le (Int.mul_pos (by omega) (by omega)) hf
  unfold meetsB sq2
  exact decide_eq_true (Hlds.meet (by omega) (by decide) hQ hX (by grind) (by grind))
end Go.Proofs.Ythkooiopiaakbaa
