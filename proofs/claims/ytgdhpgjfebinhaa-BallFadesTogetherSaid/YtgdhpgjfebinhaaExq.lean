/- What fades, as the program finds it, lies around powers of one number. -/
import Derived.Test.YtgdhpgjfebinhaaExp

import Derived.Test.YtgdhpgjfebinhaaFade
namespace Go.Proofs.Ytgdhpgjfebinhaa
open Go.RowKit Go.Lib

theorem cdiv_ge (n d : Int) (hd : 0 < d) : n ≤ d * cdiv n d := by
  unfold cdiv
  have e := Int.mul_ediv_add_emod (-n) d
  have r0 := Int.emod_nonneg (-n) (show d ≠ 0 by omega)
  rw [Int.mul_neg]; omega
set_option linter.unusedVariables false

theorem pow_dbl (X : Int) (j i : Nat) : X ^ (j * 2 ^ (i + 1)) = X ^ (j * 2 ^ i) * X ^ (j * 2 ^ i) := by
  rw [← Int.pow_add, Nat.pow_succ, ← Nat.mul_assoc, Nat.mul_two]

set_option maxHeartbeats 600000 in
theorem fadU_pow (M : Int) (m : Nat) (hM : M = 20000000 * 1073741824) (hm : (m : Int) = 32169908992) {P k : Nat} (h1 : (P : Int) ≤ 16777216) (h : IsH (upX P) k) : 1073741824 * (M - 1) ^ (m * P) ≤ fadeU P k * M ^ (m * P) := by
  obtain ⟨N, hN⟩ : ∃ N : Nat, N = 2 ^ k := ⟨_, rfl⟩
  have hN1 : 1 ≤ N := by rw [hN]; exact Nat.one_le_two_pow
  have hNi : (2 : Int) ^ k = (N : Int) := by rw [hN]; simp
  obtain ⟨j, hj⟩ : ∃ j : Nat, j = m * P / N := ⟨_, rfl⟩
  have hu0 : upX P = 256 * (P : Int) * 62831853 / 10000000 := rfl
  have hx := h.1
  rw [hNi] at hx
  have hjN : N * j ≤ m * P := by rw [hj]; exact Nat.mul_div_le _ _
  have hjN2 : m * P < N * (j + 1) := by rw [hj]; exact Nat.lt_mul_div_succ _ hN1
  have hmP : ((m * P : Nat) : Int) = 32169908992 * (P : Int) := by rw [Int.natCast_mul, hm]
  obtain ⟨u, hu⟩ : ∃ u : Int, u = upX P / (N : Int) := ⟨_, rfl⟩
  have huN : (N : Int) * u ≤ upX P := by rw [hu]; exact Int.mul_ediv_self_le (by omega)
  have hM0 : 0 ≤ M - 1 := by omega
  have base : 1073741824 * (M - 1) ^ j ≤ firstU u * M ^ j := by
    refine headU (κ := 20000000) (u := u) hM (by decide) (by decide) ?_ ?_ ?_
    · -- 20000000 u <= j
      have a : (N : Int) * (20000000 * u) ≤ ((m * P : Nat) : Int) := by
        have : (N : Int) * (20000000 * u) = 20000000 * ((N : Int) * u) := by grind
        omega
      have b : ((m * P : Nat) : Int) < (N : Int) * ((j : Int) + 1) := by
        have : ((N * (j + 1) : Nat) : Int) = (N : Int) * ((j : Int) + 1) := by simp
        omega
      have c := Int.lt_of_mul_lt_mul_left (Int.lt_of_le_of_lt a b) (by omega)
      omega
    · have a : (N : Int) * (j : Int) ≤ ((m * P : Nat) : Int) := by
        have : ((N * j : Nat) : Int) = (N : Int) * (j : Int) := by simp
        omega
      have b : (N : Int) * (j : Int) ≤ (N : Int) * M := by
        have : (N : Int) * M = 21474836480000000 * (N : Int) := by rw [hM]; grind
        omega
      exact Int.le_of_mul_le_mul_left b (by omega)
    · have := cdiv_ge (u * u) 2147483648 (by decide)
      unfold firstU
      omega
  have all : ∀ i, 1073741824 * (M - 1) ^ (j * 2 ^ i) ≤ itr stepU i (firstU u) * M ^ (j * 2 ^ i) := by
    intro i
    induction i with
    | zero => simpa [itr] using base
    | succ i ih =>
      rw [pow_dbl, pow_dbl]
      exact stepU_pow (by decide) (pw_nn hM0 _) (pw_nn (by omega) _) ih (cdiv_ge _ _ (by decide))
  have hk := all k
  rw [← hN] at hk
  have hf : itr stepU k (firstU u) = fadeU P k := by rw [hu, ← hNi]; rfl
  rw [hf] at hk
  obtain ⟨r, hr⟩ : ∃ r, m * P = j * N + r := ⟨m * P - j * N, by rw [Nat.mul_comm j N]; omega⟩
  rw [hr, Int.pow_add, Int.pow_add]
  have p1 := pw_nn hM0 (j * N)
  have p2 := pw_nn hM0 r
  have p3 : (M - 1) ^ r ≤ M ^ r := by
    clear hr hf hk all base
    induction r with
    | zero => simp
    | succ r ih =>
      rw [Int.pow_succ, Int.pow_succ]
      exact Int.mul_le_mul (ih (pw_nn hM0 r)) (by omega) hM0 (pw_nn (by omega) r)
  have q1 := Int.mul_le_mul_of_nonneg_left p3 (Int.mul_nonneg (show (0 : Int) ≤ 1073741824 by decide) p1)
  have q2 := Int.mul_le_mul_of_nonneg_right hk (pw_nn (M := M) (by omega) r)
  have e1 : 1073741824 * ((M - 1) ^ (j * N) * (M - 1) ^ r) = 1073741824 * (M - 1) ^ (j * N) * (M - 1) ^ r := by rw [Int.mul_assoc]
  have e2 : fadeU P k * (M ^ (j * N) * M ^ r) = fadeU P k * M ^ (j * N) * M ^ r := by rw [Int.mul_assoc]
  rw [e1, e2]
  exact Int.le_trans q1 q2

set_option maxHeartbeats 600000 in
theorem fadD_pow (M : Int) (m : Nat) (hM : M = 20000000 * 1073741824) (hm : (m : Int) = 32169908992) {P k : Nat} (h0 : 1 ≤ P) (h1 : (P : Int) ≤ 16777216) (h : IsH (dnX P) k) (hk15 : k ≤ 15) : fadeD P k * M ^ (m * P) ≤ 1073741824 * (M - 1) ^ (m * P) := by
  obtain ⟨N, hN⟩ : ∃ N : Nat, N = 2 ^ k := ⟨_, rfl⟩
  have hN1 : 1 ≤ N := by rw [hN]; exact Nat.one_le_two_pow
  have hNi : (2 : Int) ^ k = (N : Int) := by rw [hN]; simp
  obtain ⟨j, hj⟩ : ∃ j : Nat, j = (m * P + N - 1) / N := ⟨_, rfl⟩
  have hx := h.1
  rw [hNi] at hx
  have d1 := cdiv_ge (256 * (P : Int) * 62831854) 10000000 (by decide)
  have d2 : dnX P = cdiv (256 * (P : Int) * 62831854) 10000000 := rfl
  have d3 : 10000000 * dnX P ≤ 256 * (P : Int) * 62831854 + 9999999 := by
    rw [d2]; unfold cdiv; clear hNi hx hN hN1 d1 d2 h hM hm; omega
  rw [← d2] at d1
  have hjN : N * j ≤ m * P + N - 1 := by rw [hj]; exact Nat.mul_div_le _ _
  have hjN2 : m * P + N - 1 < N * (j + 1) := by rw [hj]; exact Nat.lt_mul_div_succ _ hN1
  have hjN3 : N * (j + 1) = N * j + N := by rw [Nat.mul_add, Nat.mul_one]
  have hmP : ((m * P : Nat) : Int) = 32169908992 * (P : Int) := by rw [Int.natCast_mul, hm]
  have hNP : (N : Int) ≤ 256 * (P : Int) := by
    cases k with
    | zero => have : N = 1 := by rw [hN, Nat.pow_zero]
              omega
    | succ i =>
      have := h.2 i (by omega)
      have e : (2 : Int) ^ (i + 1) = 2 * 2 ^ i := by rw [Int.pow_succ]; exact Int.mul_comm _ _
      rw [e] at hNi
      clear hjN hjN2 hjN3 hj hN
      generalize (2 : Int) ^ i = q at *
      omega
  have hNH := Lib.hid hNi; have hNN := Lib.hid hN
  have hx0 : 0 ≤ dnX P := (dnX_bd (by omega) h1).1
  have hNp : (0 : Int) < (N : Int) := by omega
  have hM1 : M = 21474836480000000 := by rw [hM]; decide
  clear hNi h d2 hN d3
  obtain ⟨v, hv⟩ : ∃ v : Int, v = cdiv (dnX P) (N : Int) := ⟨_, rfl⟩
  have hvN : dnX P ≤ (N : Int) * v := by rw [hv]; exact cdiv_ge _ _ hNp
  have hv1 : 0 ≤ v ∧ v ≤ 1048576 := by rw [hv]; exact cdiv_bd hNp hx0 hx
  have hM0 : 0 ≤ M - 1 := by omega
  have base : firstD v * M ^ j ≤ 1073741824 * (M - 1) ^ j := by
    refine headD (κ := 20000000) (v := v) hM (by decide) (by decide) ?_ ?_ ?_
    · by_cases hc : (j : Int) + 1 ≤ 20000000 * v
      · exact hc
      · exfalso
        clear hM hM0 hM1
        have a : (N : Int) * (20000000 * v) ≤ (N : Int) * (j : Int) := Int.mul_le_mul_of_nonneg_left (Int.lt_add_one_iff.1 (Int.not_le.1 hc)) (Int.le_of_lt hNp)
        have b : (N : Int) * (20000000 * v) = 20000000 * ((N : Int) * v) := by grind
        have c : ((N * j : Nat) : Int) = (N : Int) * (j : Int) := by simp
        generalize (N : Int) * (j : Int) = q at *
        generalize (N : Int) * v = z at *
        generalize N * (j + 1) = n1 at *
        generalize N * j = n2 at *
        generalize m * P = n3 at *
        rw [b] at a
        generalize dnX (P : Int) = x at *
        clear b hx hNp hx0 hc hm hv hv1
        omega
    · rw [hM1]; clear hjN hjN2 hjN3 hmP d1 hx hvN hm hx0 hv; omega
    · have a1 : 2147483648 * (v * v / 2147483648) ≤ v * v := Int.mul_ediv_self_le (by decide)
      have a2 := cdiv_ge (v * v * v) 6917529027641081856 (by decide)
      unfold firstD
      have e1 : 3 * 1073741824 * v * v = 3221225472 * (v * v) := by grind
      rw [e1]
      clear hjN hjN2 hjN3 hmP d1 hx hvN hM0 hM hM1 hNP hm hx0 hv
      omega
  have b0 := firstD_bd hv1.1 hv1.2
  have all : ∀ i, itr stepD i (firstD v) * M ^ (j * 2 ^ i) ≤ 1073741824 * (M - 1) ^ (j * 2 ^ i) := by
    intro i
    induction i with
    | zero => simpa [itr] using base
    | succ i ih =>
      rw [pow_dbl, pow_dbl]
      exact stepD_pow (by decide) (pw_nn hM0 _) (pw_nn (by omega) _) (itr_bd (f := stepD) (fun x a b => stepD_bd a b) b0.1 b0.2 i).1 ih (Int.mul_ediv_self_le (by decide))
  have hk := all k
  rw [← hNN.out] at hk
  have hf : itr stepD k (firstD v) = fadeD P k := by rw [hv, ← hNH.out]; rfl
  rw [hf] at hk
  obtain ⟨r, hr⟩ : ∃ r, j * N = m * P + r := ⟨j * N - m * P, by rw [Nat.mul_comm j N]; omega⟩
  rw [hr, Int.pow_add, Int.pow_add] at hk
  have p1 := pw_nn hM0 (m * P)
  have p3 : (M - 1) ^ r ≤ M ^ r := by
    clear hr hf hk all base
    induction r with
    | zero => simp
    | succ r ih =>
      rw [Int.pow_succ, Int.pow_succ]
      exact Int.mul_le_mul ih (by omega) hM0 (pw_nn (by omega) r)
  have p4 : 0 < M ^ r := Int.pow_pos (by omega)
  have q1 := Int.mul_le_mul_of_nonneg_left p3 (Int.mul_nonneg (show (0 : Int) ≤ 1073741824 by decide) p1)
  have e1 : 1073741824 * ((M - 1) ^ (m * P) * (M - 1) ^ r) = 1073741824 * (M - 1) ^ (m * P) * (M - 1) ^ r := by rw [Int.mul_assoc]
  have e2 : fadeD P k * (M ^ (m * P) * M ^ r) = fadeD P k * M ^ (m * P) * M ^ r := by rw [Int.mul_assoc]
  rw [e1, e2] at hk
  exact Int.le_of_mul_le_mul_right (Int.le_trans hk q1) p4
end Go.Proofs.Ytgdhpgjfebinhaa
