/- Vectors of whole numbers: sizes, and the numbers that balls hold. -/
import Derived.Lib.Hide
namespace Go.Proofs.Ytgdhpgjfebinhaa
set_option linter.unusedVariables false

theorem msn (a : Int) : 0 ≤ a * a := by
  by_cases h : 0 ≤ a
  · exact Int.mul_nonneg h h
  · have := Int.mul_nonneg (a := -a) (b := -a) (by omega) (by omega)
    rwa [Int.neg_mul_neg] at this

/-- A vector's size is at most A. -/
def Nrm (A a b : Int) : Prop := 0 ≤ A ∧ a * a + b * b ≤ A * A

theorem le_of_sqv {x y : Int} (hy : 0 ≤ y) (h : x * x ≤ y * y) : x ≤ y := by
  by_cases hx : x ≤ y
  · exact hx
  · have : y * y < x * x := Int.mul_lt_mul' (by omega) (by omega) hy (by omega)
    omega

theorem vdot_le {A B a b c d : Int} (hA : Nrm A a b) (hB : Nrm B c d) : a * c + b * d ≤ A * B := by
  obtain ⟨A0, h1⟩ := hA
  obtain ⟨B0, h2⟩ := hB
  have hs : (a*c+b*d)*(a*c+b*d) + (a*d-b*c)*(a*d-b*c) = (a*a+b*b)*(c*c+d*d) := by grind
  have h3 : (a*a+b*b)*(c*c+d*d) ≤ (A*A)*(B*B) := Int.mul_le_mul h1 h2 (by have := msn c; have := msn d; omega) (msn A)
  have h4 := msn (a*d-b*c)
  have h5 : (A*A)*(B*B) = (A*B)*(A*B) := by grind
  exact le_of_sqv (Int.mul_nonneg A0 B0) (by omega)

theorem Nrm.add {A B a b c d : Int} (hA : Nrm A a b) (hB : Nrm B c d) : Nrm (A + B) (a + c) (b + d) := by
  have h := vdot_le hA hB
  obtain ⟨A0, h1⟩ := hA
  obtain ⟨B0, h2⟩ := hB
  refine ⟨by omega, ?_⟩
  have e1 : (a + c) * (a + c) + (b + d) * (b + d) = (a*a+b*b) + (c*c+d*d) + 2 * (a*c+b*d) := by grind
  have e2 : (A + B) * (A + B) = A*A + B*B + 2 * (A*B) := by grind
  omega

/-- What is strictly shorter on one side is so in the sum. -/
theorem vadd_lt {A B a b c d : Int} (A0 : 0 ≤ A) (h1 : a*a+b*b < A*A) (hB : Nrm B c d) : (a + c) * (a + c) + (b + d) * (b + d) < (A + B) * (A + B) := by
  have h := vdot_le (A := A) (a := a) (b := b) ⟨A0, by omega⟩ hB
  obtain ⟨B0, h2⟩ := hB
  have e1 : (a + c) * (a + c) + (b + d) * (b + d) = (a*a+b*b) + (c*c+d*d) + 2 * (a*c+b*d) := by grind
  have e2 : (A + B) * (A + B) = A*A + B*B + 2 * (A*B) := by grind
  omega

theorem Nrm.mul {A B a b c d : Int} (hA : Nrm A a b) (hB : Nrm B c d) : Nrm (A * B) (a * c - b * d) (a * d + b * c) := by
  obtain ⟨A0, h1⟩ := hA
  obtain ⟨B0, h2⟩ := hB
  refine ⟨Int.mul_nonneg A0 B0, ?_⟩
  have e : (a * c - b * d) * (a * c - b * d) + (a * d + b * c) * (a * d + b * c) = (a*a+b*b)*(c*c+d*d) := by grind
  have h3 : (a*a+b*b)*(c*c+d*d) ≤ (A*A)*(B*B) := Int.mul_le_mul h1 h2 (by have := msn c; have := msn d; omega) (msn A)
  have h5 : (A*A)*(B*B) = (A*B)*(A*B) := by grind
  omega

theorem Nrm.neg {A a b : Int} (h : Nrm A a b) : Nrm A (-a) (-b) := ⟨h.1, by have := h.2; rw [Int.neg_mul_neg, Int.neg_mul_neg]; exact this⟩
theorem Nrm.conj {A a b : Int} (h : Nrm A a b) : Nrm A a (-b) := ⟨h.1, by have := h.2; rw [Int.neg_mul_neg]; exact this⟩
theorem Nrm.sub {A B a b c d : Int} (hA : Nrm A a b) (hB : Nrm B c d) : Nrm (A + B) (a - c) (b - d) := by
  have := hA.add hB.neg
  rwa [← Int.sub_eq_add_neg, ← Int.sub_eq_add_neg] at this
theorem Nrm.le {A B a b : Int} (h : Nrm A a b) (hAB : A ≤ B) : Nrm B a b := ⟨by have := h.1; omega, Int.le_trans h.2 (Int.mul_le_mul hAB hAB h.1 (by have := h.1; omega))⟩
theorem Nrm.scale {A a b : Int} (k : Int) (hk : 0 ≤ k) (h : Nrm A a b) : Nrm (k * A) (k * a) (k * b) := by
  refine ⟨Int.mul_nonneg hk h.1, ?_⟩
  have e1 : k * a * (k * a) + k * b * (k * b) = k * k * (a * a + b * b) := by grind
  have e2 : k * A * (k * A) = k * k * (A * A) := by grind
  rw [e1, e2]
  exact Int.mul_le_mul_of_nonneg_left h.2 (msn k)
theorem Nrm.unscale {A a b : Int} (k : Int) (hk : 0 < k) (h : Nrm (k * A) (k * a) (k * b)) : Nrm A a b := by
  refine ⟨Int.nonneg_of_mul_nonneg_right h.1 hk, ?_⟩
  have e1 : k * a * (k * a) + k * b * (k * b) = k * k * (a * a + b * b) := by grind
  have e2 : k * A * (k * A) = k * k * (A * A) := by grind
  have := h.2
  rw [e1, e2] at this
  exact Int.le_of_mul_le_mul_left this (Int.mul_pos hk hk)
theorem Nrm.cast {A a b A' a' b' : Int} (h : Nrm A a b) (e1 : A = A') (e2 : a = a') (e3 : b = b') : Nrm A' a' b' := by subst e1 e2 e3; exact h
theorem Nrm.zero : Nrm 0 0 0 := ⟨by decide, by decide⟩
theorem Nrm.fst {A a b : Int} (h : Nrm A a b) : -A ≤ a ∧ a ≤ A := by
  have h0 := msn b
  have h1 : a * a ≤ A * A := by have := h.2; omega
  have h2 := le_of_sqv h.1 h1
  have h3 := le_of_sqv (x := -a) h.1 (by rw [Int.neg_mul_neg]; exact h1)
  omega
theorem Nrm.snd {A a b : Int} (h : Nrm A a b) : -A ≤ b ∧ b ≤ A := by
  have h0 := msn a
  have h1 : b * b ≤ A * A := by have := h.2; omega
  have h2 := le_of_sqv h.1 h1
  have h3 := le_of_sqv (x := -b) h.1 (by rw [Int.neg_mul_neg]; exact h1)
  omega
/-- Both parts at most half of it. -/
theorem Nrm.half {A a b : Int} (hA : 0 ≤ A) (h1 : -A ≤ 2 * a) (h2 : 2 * a ≤ A) (h3 : -A ≤ 2 * b) (h4 : 2 * b ≤ A) : Nrm A a b := by
  refine ⟨hA, ?_⟩
  have sq : ∀ x : Int, -A ≤ x → x ≤ A → x * x ≤ A * A := by
    intro x g1 g2
    by_cases hx : 0 ≤ x
    · exact Int.mul_le_mul g2 g2 hx hA
    · have h := Int.mul_le_mul (a := -x) (c := A) (b := -x) (d := A) (by omega) (by omega) (by omega) hA
      rwa [Int.neg_mul_neg] at h
  have k1 := sq _ h1 h2
  have k2 := sq _ h3 h4
  have e1 : 2 * a * (2 * a) = 4 * (a * a) := by grind
  have e2 : 2 * b * (2 * b) = 4 * (b * b) := by grind
  have := msn A
  omega

/-- The ball (X, Y, R) holds the number (P, Q) / D. -/
def Hlds (X Y R P Q D : Int) : Prop := Nrm (D * R) (P - D * X) (Q - D * Y)

theorem Hlds.scale {X Y R P Q D : Int} (k : Int) (hk : 0 ≤ k) (h : Hlds X Y R P Q D) : Hlds X Y R (k * P) (k * Q) (k * D) :=
  (Nrm.scale k hk h).cast (by grind) (by grind) (by grind)
theorem Hlds.unscale {X Y R P Q D : Int} (k : Int) (hk : 0 < k) (h : Hlds X Y R (k * P) (k * Q) (k * D)) : Hlds X Y R P Q D :=
  Nrm.unscale k hk (Nrm.cast h (by grind) (by grind) (by grind))
theorem Hlds.mid {X Y R : Int} (h : 0 ≤ R) : Hlds X Y R X Y 1 := ⟨by omega, by rw [Int.one_mul, Int.one_mul, Int.one_mul, Int.sub_self, Int.sub_self]; have := msn R; omega⟩

/-- Balls with a number in common meet. -/
theorem Hlds.meet {X Y R U V S P Q D P' Q' D' : Int} (hD : 0 < D) (hD' : 0 < D') (h : Hlds X Y R P Q D) (h' : Hlds U V S P' Q' D') (e1 : D' * P = D * P') (e2 : D' * Q = D * Q') :
    (X - U) * (X - U) + (Y - V) * (Y - V) ≤ (R + S) * (R + S) := by
  have k := (Nrm.scale D (by omega) h').sub (Nrm.scale D' (by omega) h)
  have := Nrm.unscale (A := R + S) (a := X - U) (b := Y - V) (D * D') (Int.mul_pos hD hD') (k.cast (by grind) (by grind) (by grind))
  exact this.2

theorem Hlds.plus {X Y R U V S P Q D P' Q' D' : Int} (hD : 0 ≤ D) (hD' : 0 ≤ D') (h : Hlds X Y R P Q D) (h' : Hlds U V S P' Q' D') :
    Hlds (X + U) (Y + V) (R + S) (D' * P + D * P') (D' * Q + D * Q') (D * D') :=
  ((Nrm.scale D' hD' h).add (Nrm.scale D hD h')).cast (by grind) (by grind) (by grind)
theorem Hlds.minus {X Y R U V S P Q D P' Q' D' : Int} (hD : 0 ≤ D) (hD' : 0 ≤ D') (h : Hlds X Y R P Q D) (h' : Hlds U V S P' Q' D') :
    Hlds (X - U) (Y - V) (R + S) (D' * P - D * P') (D' * Q - D * Q') (D * D') :=
  ((Nrm.scale D' hD' h).sub (Nrm.scale D hD h')).cast (by grind) (by grind) (by grind)
theorem Hlds.conj {X Y R P Q D : Int} (h : Hlds X Y R P Q D) : Hlds X (-Y) R P (-Q) D :=
  (Nrm.conj h).cast rfl rfl (by grind)

/-- The product's ball, from what its rounding keeps: T (pX, pY) is the product of the centres but for a vector of size T t, and T pR is at least the spread and T t. -/
theorem Hlds.times {X Y R U V S P Q D P' Q' D' T pX pY pR m n t : Int} (hD : 0 ≤ D) (hD' : 0 ≤ D') (h : Hlds X Y R P Q D) (h' : Hlds U V S P' Q' D')
    (hm : Nrm m X Y) (hn : Nrm n U V) (ht : Nrm (T * t) (X * U - Y * V - T * pX) (X * V + Y * U - T * pY)) (hR : m * S + n * R + R * S + T * t ≤ T * pR) :
    Hlds pX pY pR (P * P' - Q * Q') (P * Q' + Q * P') (D * D' * T) := by
  have k1 := Nrm.scale (D * D') (Int.mul_nonneg hD hD') ht
  have k2 := Nrm.scale D hD (hm.mul h')
  have k3 := Nrm.scale D' hD' (hn.mul h)
  have k4 := Nrm.mul h h'
  have k := ((k1.add k2).add k3).add k4
  have k := k.cast (A' := D * D' * (m * S + n * R + R * S + T * t)) (a' := P * P' - Q * Q' - D * D' * T * pX) (b' := P * Q' + Q * P' - D * D' * T * pY) (by grind) (by grind) (by grind)
  exact k.le (by rw [Int.mul_assoc (D * D')]; exact Int.mul_le_mul_of_nonneg_left hR (Int.mul_nonneg hD hD'))

/-- Its size is at least: nothing shorter. -/
theorem far {D U V S P Q k : Int} (hD : 0 < D) (h : Hlds U V S P Q D) (hk : 0 ≤ k) (hS : S ≤ k) (hkk : k * k ≤ U * U + V * V) : (D * (k - S)) * (D * (k - S)) ≤ P * P + Q * Q := by
  refine Int.not_lt.1 fun hlt => ?_
  have h0 := vadd_lt (A := D * (k - S)) (a := P) (b := Q) (Int.mul_nonneg (by omega) (by omega)) hlt (Nrm.neg h)
  have e1 : (P + -(P - D * U)) * (P + -(P - D * U)) + (Q + -(Q - D * V)) * (Q + -(Q - D * V)) = (D * D) * (U * U + V * V) := by grind
  have e2 : (D * (k - S) + D * S) * (D * (k - S) + D * S) = (D * D) * (k * k) := by grind
  rw [e1, e2] at h0
  have := Int.lt_of_mul_lt_mul_left h0 (msn D)
  omega

/-- The quotient's ball. -/
theorem Hlds.quot {X Y R U V S P Q D P' Q' D' T qX qY qR m n k t : Int} (hT : 0 ≤ T) (hD : 0 < D) (hD' : 0 < D') (h : Hlds X Y R P Q D) (h' : Hlds U V S P' Q' D')
    (hm : Nrm m X Y) (hn : Nrm n U V) (hk : 0 ≤ k) (hS : S < k) (hkk : k * k ≤ U * U + V * V) (ht0 : 0 ≤ t)
    (ht : Nrm ((U * U + V * V) * t) (T * (X * U + Y * V) - (U * U + V * V) * qX) (T * (Y * U - X * V) - (U * U + V * V) * qY))
    (hR : T * (R * n + m * S) + k * (k - S) * t ≤ k * (k - S) * qR) :
    Hlds qX qY qR (T * D' * (P * P' + Q * Q')) (T * D' * (Q * P' - P * Q')) (D * (P' * P' + Q' * Q')) := by
  have hS0 : 0 ≤ S := Int.nonneg_of_mul_nonneg_right h'.1 hD'
  have hf := far hD' h' hk (by omega) hkk
  obtain ⟨N, hN⟩ : ∃ N, P' * P' + Q' * Q' = N := ⟨_, rfl⟩
  obtain ⟨M, hM⟩ : ∃ M, U * U + V * V = M := ⟨_, rfl⟩
  rw [hN] at hf ⊢
  rw [hM] at hkk ht
  have hks : 0 < k * (k - S) := Int.mul_pos (by omega) (by omega)
  have hkp : 0 < k * k := Int.mul_pos (by omega) (by omega)
  have hN0 : 0 < N := Int.lt_of_lt_of_le (Int.mul_pos (Int.mul_pos hD' (by omega)) (Int.mul_pos hD' (by omega))) hf
  have hM0 : 0 < M := by omega
  -- the numerator of the difference
  have kF := (Nrm.scale D' (by omega) (hn.mul h)).sub (Nrm.scale D (by omega) (hm.mul h'))
  obtain ⟨F1, hF1⟩ : ∃ F1, D' * (U * (P - D * X) - V * (Q - D * Y)) - D * (X * (P' - D' * U) - Y * (Q' - D' * V)) = F1 := ⟨_, rfl⟩
  obtain ⟨F2, hF2⟩ : ∃ F2, D' * (U * (Q - D * Y) + V * (P - D * X)) - D * (X * (Q' - D' * V) + Y * (P' - D' * U)) = F2 := ⟨_, rfl⟩
  rw [hF1, hF2] at kF
  obtain ⟨F0, kF⟩ := kF
  have eA : D' * (n * (D * R)) + D * (m * (D' * S)) = D * D' * (R * n + m * S) := by grind
  rw [eA] at kF F0
  -- times both conjugates: the vector's size is at most M N D (qR - t)
  have hle : T * (R * n + m * S) ≤ k * (k - S) * (qR - t) := by
    have : k * (k - S) * (qR - t) = k * (k - S) * qR - k * (k - S) * t := by grind
    omega
  have hq0 : 0 ≤ qR - t := by
    refine Int.nonneg_of_mul_nonneg_right (Int.le_trans (Int.mul_nonneg hT ?_) hle) hks
    exact Int.nonneg_of_mul_nonneg_right (a := D * D') F0 (Int.mul_pos hD hD')
  have hs0 : 0 ≤ T * (R * n + m * S) := Int.mul_nonneg hT (Int.nonneg_of_mul_nonneg_right (a := D * D') F0 (Int.mul_pos hD hD'))
  have key : Nrm (M * N * D * (qR - t)) (T * ((U * P' - V * Q') * F1 + (U * Q' + V * P') * F2)) (T * ((U * P' - V * Q') * F2 - (U * Q' + V * P') * F1)) := by
    refine ⟨Int.mul_nonneg (Int.mul_nonneg (Int.mul_nonneg (by omega) (by omega)) (by omega)) hq0, ?_⟩
    have e1 : (T * ((U * P' - V * Q') * F1 + (U * Q' + V * P') * F2)) * (T * ((U * P' - V * Q') * F1 + (U * Q' + V * P') * F2)) + (T * ((U * P' - V * Q') * F2 - (U * Q' + V * P') * F1)) * (T * ((U * P' - V * Q') * F2 - (U * Q' + V * P') * F1))
        = (M * N) * (T * T * (F1 * F1 + F2 * F2)) := by rw [← hM, ← hN]; grind
    have e2 : (M * N * D * (qR - t)) * (M * N * D * (qR - t)) = (M * N) * ((M * N) * (D * D * ((qR - t) * (qR - t)))) := by grind
    rw [e1, e2]
    refine Int.mul_le_mul_of_nonneg_left ?_ (Int.mul_nonneg (by omega) (by omega))
    have l1 : T * T * (F1 * F1 + F2 * F2) ≤ T * T * ((D * D' * (R * n + m * S)) * (D * D' * (R * n + m * S))) := Int.mul_le_mul_of_nonneg_left kF (msn T)
    have l2 : T * T * ((D * D' * (R * n + m * S)) * (D * D' * (R * n + m * S))) = D * D * (D' * D') * ((T * (R * n + m * S)) * (T * (R * n + m * S))) := by grind
    have l3 : (T * (R * n + m * S)) * (T * (R * n + m * S)) ≤ (k * (k - S) * (qR - t)) * (k * (k - S) * (qR - t)) := Int.mul_le_mul hle hle hs0 (by omega)
    have l4 : D * D * (D' * D') * ((T * (R * n + m * S)) * (T * (R * n + m * S))) ≤ D * D * (D' * D') * ((k * (k - S) * (qR - t)) * (k * (k - S) * (qR - t))) := Int.mul_le_mul_of_nonneg_left l3 (Int.mul_nonneg (msn D) (msn D'))
    have l5 : D * D * (D' * D') * ((k * (k - S) * (qR - t)) * (k * (k - S) * (qR - t))) = (k * k * ((D' * (k - S)) * (D' * (k - S)))) * (D * D * ((qR - t) * (qR - t))) := by grind
    have l6 : k * k * ((D' * (k - S)) * (D' * (k - S))) ≤ M * N := Int.mul_le_mul hkk hf (msn _) (by omega)
    have l7 := Int.mul_le_mul_of_nonneg_right l6 (Int.mul_nonneg (msn D) (msn (qR - t)))
    omega
  have kr := Nrm.scale (D * N) (Int.mul_nonneg (by omega) (by omega)) ht
  have all := key.add kr
  refine Nrm.unscale M hM0 (all.cast ?_ ?_ ?_)
  · grind
  · rw [← hF1, ← hF2, ← hM, ← hN]; grind
  · rw [← hF1, ← hF2, ← hM, ← hN]; grind
end Go.Proofs.Ytgdhpgjfebinhaa
