/- Results that are balls, and their bounds. -/
import Derived.Test.YthkooiopiaakbaaHld
namespace Go.Proofs.Ythkooiopiaakbaa
open Go.RowKit Go.Lib
set_option linter.unusedVariables false

theorem res_split {x y r : Int} (hr : 0 ≤ r) : (resB x y r = balV (fi x) (fi y) r 0 ∧ ckB x y r = 0) ∨ resB x y r = balV 0 0 0 8 := by
  by_cases h : okB x y r = true
  · left
    have h' := h
    unfold okB at h'
    simp only [Bool.and_eq_true, decide_eq_true_eq] at h'
    refine ⟨by unfold resB; rw [h]; rfl, ?_⟩
    unfold ckB; rw [h'.1.1, h'.1.2]; simp; omega
  · right
    have h : okB x y r = false := by simpa using h
    unfold resB; rw [h]; rfl
theorem res_small {x y r : Int} (hx : Sm 67108864 x) (hy : Sm 67108864 y) (h0 : 0 ≤ r) (hr : r ≤ 67108864) : resB x y r = balV (fi x) (fi y) r 0 ∧ ckB x y r = 0 := by
  obtain ⟨x1, x2⟩ := hx
  obtain ⟨y1, y2⟩ := hy
  have h : okB x y r = true := by unfold okB szB; simp; omega
  have h' := h
  unfold okB at h'
  simp only [Bool.and_eq_true, decide_eq_true_eq] at h'
  refine ⟨by unfold resB; rw [h]; rfl, ?_⟩
  unfold ckB; rw [h'.1.1, h'.1.2]; simp; omega
theorem ck_small {x y r : Int} (hx : Sm 67108864 x) (hy : Sm 67108864 y) (h0 : 0 ≤ r) (hr : r ≤ 67108864) : ckB x y r = 0 := (res_small hx hy h0 hr).2

theorem cdiv_nn {n d : Int} (hd : 0 < d) (h : 0 ≤ n) : 0 ≤ cdiv n d := by
  have := cdiv_ge n d hd
  by_cases hc : 0 ≤ cdiv n d
  · exact hc
  · have : d * cdiv n d < 0 := Int.mul_neg_of_pos_of_neg hd (by omega)
    omega
theorem prodR_nn {x y r u v s : Int} (hc : ckB x y r = 0) (gc : ckB u v s = 0) : 0 ≤ prodR x y u v r s := by
  obtain ⟨hx, hy, r1, r2⟩ := ckB_ok hc
  obtain ⟨hu, hv, s1, s2⟩ := ckB_ok gc
  have h1 := upw_bd hx hy
  have h2 := upw_bd hu hv
  have hs : 0 ≤ prodSpread x y u v r s := by
    unfold prodSpread
    have := Int.mul_nonneg h1.1 s1
    have := Int.mul_nonneg h2.1 r1
    have := Int.mul_nonneg r1 s1
    omega
  have := cdiv_nn (d := 1048576) (by decide) hs
  unfold prodR
  split <;> omega
theorem quoR_nn {x y r u v s : Int} (hc : ckB x y r = 0) (gc : ckB u v s = 0) (hz : 0 < dn u v - s) : 0 ≤ quoR x y u v r s := by
  obtain ⟨hx, hy, r1, r2⟩ := ckB_ok hc
  obtain ⟨hu, hv, s1, s2⟩ := ckB_ok gc
  have h1 := upw_bd hx hy
  have h2 := upw_bd hu hv
  have hs : 0 ≤ quoSpread x y u v r s := by
    unfold quoSpread
    have := Int.mul_nonneg h1.1 s1
    have := Int.mul_nonneg r1 h2.1
    omega
  have hd : 0 < quoDen u v s := by unfold quoDen; exact Int.mul_pos hz (by omega)
  have := cdiv_nn hd (Int.mul_nonneg hs (show (0 : Int) ≤ 1048576 by decide))
  unfold quoR
  split <;> omega

theorem rdiv_small {n d M : Int} (hd : 0 < d) (h : Sm (M * d) n) : Sm M (rdiv n d) := by
  obtain ⟨h1, h2⟩ := h
  obtain ⟨n1, n2⟩ := rdiv_near n d hd
  generalize rdiv n d = q at *
  constructor
  · by_cases hq : -M ≤ q
    · exact hq
    · have : d * q ≤ d * (-M - 1) := Int.mul_le_mul_of_nonneg_left (by omega) (by omega)
      rw [Int.mul_sub, Int.mul_neg, Int.mul_one, Int.mul_comm d M] at this
      omega
  · by_cases hq : q ≤ M
    · exact hq
    · have : d * (M + 1) ≤ d * q := Int.mul_le_mul_of_nonneg_left (by omega) (by omega)
      rw [Int.mul_add, Int.mul_one, Int.mul_comm d M] at this
      omega

/-- The product of two balls near to 0 is one. -/
theorem prod_near {x y r u v s : Int} (hx : Sm 4194304 x) (hy : Sm 4194304 y) (hu : Sm 4194304 u) (hv : Sm 4194304 v) (r1 : 0 ≤ r) (r2 : r ≤ 1000) (s1 : 0 ≤ s) (s2 : s ≤ 1000) :
    Sm 33554432 (prodX x y u v) ∧ Sm 33554432 (prodY x y u v) ∧ prodR x y u v r s ≤ 300000 := by
  have a1 := mul_bd hx hu (by decide)
  have a2 := mul_bd hy hv (by decide)
  have a3 := mul_bd hx hv (by decide)
  have a4 := mul_bd hy hu (by decide)
  have h1 := upw_bd (x := x) (y := y) ⟨by have := hx.1; omega, by have := hx.2; omega⟩ ⟨by have := hy.1; omega, by have := hy.2; omega⟩
  have h2 := upw_bd (x := u) (y := v) ⟨by have := hu.1; omega, by have := hu.2; omega⟩ ⟨by have := hv.1; omega, by have := hv.2; omega⟩
  refine ⟨rdiv_small (by decide) ⟨by omega, by omega⟩, rdiv_small (by decide) ⟨by omega, by omega⟩, ?_⟩
  have b1 := mul_bd0 h1.1 h1.2 s1 s2
  have b2 := mul_bd0 h2.1 h2.2 r1 r2
  have b3 := mul_bd0 r1 r2 s1 s2
  have hsp : prodSpread x y u v r s ≤ 268437000000 := by unfold prodSpread; omega
  unfold prodR cdiv
  split <;> omega

/-- The same with greater radii. -/
theorem prod_near2 {x y r u v s : Int} (hx : Sm 8388608 x) (hy : Sm 8388608 y) (hu : Sm 4194304 u) (hv : Sm 4194304 v) (r1 : 0 ≤ r) (r2 : r ≤ 110000) (s1 : 0 ≤ s) (s2 : s ≤ 110000) :
    Sm 67108864 (prodX x y u v) ∧ Sm 67108864 (prodY x y u v) ∧ prodR x y u v r s ≤ 67108864 := by
  have a1 := mul_bd hx hu (by decide)
  have a2 := mul_bd hy hv (by decide)
  have a3 := mul_bd hx hv (by decide)
  have a4 := mul_bd hy hu (by decide)
  have h1 := upw_bd (x := x) (y := y) ⟨by have := hx.1; omega, by have := hx.2; omega⟩ ⟨by have := hy.1; omega, by have := hy.2; omega⟩
  have h2 := upw_bd (x := u) (y := v) ⟨by have := hu.1; omega, by have := hu.2; omega⟩ ⟨by have := hv.1; omega, by have := hv.2; omega⟩
  refine ⟨rdiv_small (by decide) ⟨by omega, by omega⟩, rdiv_small (by decide) ⟨by omega, by omega⟩, ?_⟩
  have b1 := mul_bd0 h1.1 h1.2 s1 s2
  have b2 := mul_bd0 h2.1 h2.2 r1 r2
  have b3 := mul_bd0 r1 r2 s1 s2
  have hsp : prodSpread x y u v r s ≤ 29541000000000 := by unfold prodSpread; omega
  unfold prodR cdiv
  split <;> omega
end Go.Proofs.Ythkooiopiaakbaa
