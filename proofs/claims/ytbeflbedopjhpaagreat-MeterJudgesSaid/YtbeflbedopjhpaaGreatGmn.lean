/- Mixtures, in plain numbers: their indices and shares. -/
import Derived.Test.YtbeflbedopjhpaaGreatRti
import Derived.Test.YtbeflbedopjhpaaGreatBita
namespace Go.Proofs.YtbeflbedopjhpaaGreat.Gm
set_option linter.unusedSimpArgs false
set_option linter.unusedVariables false
open Go.Proofs.YtbeflbedopjhpaaGreat
def rtu (n : Int) : Int := if rti n * rti n < n then rti n + 1 else rti n

theorem mul_bd {x y X Y : Int} (hx : 0 ≤ x) (hX : x ≤ X) (hy : 0 ≤ y) (hY : y ≤ Y) : 0 ≤ x * y ∧ x * y ≤ X * Y :=
  ⟨Int.mul_nonneg hx hy, Int.mul_le_mul hX hY hy (by omega)⟩
theorem sq_le {x y : Int} (hx : 0 ≤ x) (h : x ≤ y) : x * x ≤ y * y := Int.mul_le_mul h h hx (by omega)
theorem sq_lt {x y : Int} (hx : 0 ≤ x) (h : x < y) : x * x < y * y := by
  have h1 : x * x ≤ x * y := Int.mul_le_mul_of_nonneg_left (by omega) hx
  have h2 : x * y < y * y := Int.mul_lt_mul_of_pos_right h (by omega)
  omega
theorem le_of_sq {x y : Int} (hy : 0 ≤ y) (h : x * x ≤ y * y) : x ≤ y := by
  by_cases hc : x ≤ y
  · exact hc
  · have := sq_lt hy (show y < x by omega); omega

theorem rti_ge {n a : Int} (h : 0 ≤ n) (h' : n < 72057594037927936) (ha : 0 ≤ a) (hn : a * a ≤ n) : a ≤ rti n := by
  obtain ⟨r0, r1, r2, r3⟩ := rti_spec n h h'
  by_cases hc : a ≤ rti n
  · exact hc
  · have := sq_le (x := rti n + 1) (y := a) (by omega) (by omega)
    have e : (rti n + 1) * (rti n + 1) = rti n * rti n + 2 * rti n + 1 := by grind
    omega
theorem rti_le {n b : Int} (h : 0 ≤ n) (h' : n < 72057594037927936) (hb : 0 ≤ b) (hn : n ≤ b * b) : rti n ≤ b := by
  obtain ⟨r0, r1, r2, r3⟩ := rti_spec n h h'
  exact le_of_sq hb (by omega)
theorem rtu_le {n b : Int} (h : 0 ≤ n) (h' : n < 72057594037927936) (hb : 0 ≤ b) (hn : n ≤ b * b) : rtu n ≤ b := by
  obtain ⟨r0, r1, r2, r3⟩ := rti_spec n h h'
  unfold rtu
  split
  · rename_i hlt
    by_cases hc : rti n < b
    · omega
    · have := sq_le hb (show b ≤ rti n by omega); omega
  · exact rti_le h h' hb hn
theorem rtu_spec {n : Int} (h : 0 ≤ n) (h' : n < 72057594037927936) : n ≤ rtu n * rtu n ∧ rti n ≤ rtu n ∧ (0 < rtu n → (rtu n - 1) * (rtu n - 1) < n) := by
  obtain ⟨r0, r1, r2, r3⟩ := rti_spec n h h'
  unfold rtu
  split
  · rename_i hlt
    refine ⟨?_, by omega, fun _ => ?_⟩
    · have e : (rti n + 1) * (rti n + 1) = rti n * rti n + 2 * rti n + 1 := by grind
      omega
    · have e : rti n + 1 - 1 = rti n := by omega
      rw [e]; exact hlt
  · rename_i hlt
    refine ⟨by omega, Int.le_refl _, fun hp => ?_⟩
    have := sq_lt (x := rti n - 1) (y := rti n) (by omega) (by omega)
    omega

/-- The numbers of a mixture: indices a and b, the share s. -/
def par (a b s : Int) : Int := s * a * a + (10000 - s) * b * b
def ser (a b s : Int) : Int := s * b * b + (10000 - s) * a * a
def mixL (a b s : Int) : Int := rti (10000 * a * a * (b * b) / ser a b s)
def mixH (a b s : Int) : Int := rtu (cdiv (par a b s) 10000)

theorem par_swap (a b s : Int) : par b a (10000 - s) = par a b s := by unfold par; grind
theorem ser_swap (a b s : Int) : ser b a (10000 - s) = ser a b s := by unfold ser; grind
theorem mixL_swap (a b s : Int) : mixL b a (10000 - s) = mixL a b s := by
  unfold mixL; rw [ser_swap, show 10000 * b * b * (a * a) = 10000 * a * a * (b * b) by grind]
theorem mixH_swap (a b s : Int) : mixH b a (10000 - s) = mixH a b s := by unfold mixH; rw [par_swap]

theorem cdiv_spec (n : Int) {d : Int} (hd : 0 < d) : n ≤ d * cdiv n d ∧ d * (cdiv n d - 1) < n := by
  unfold cdiv
  have e := Int.mul_ediv_add_emod (-n) d
  have r0 := Int.emod_nonneg (-n) (show d ≠ 0 by omega)
  have r1 := Int.emod_lt_of_pos (-n) hd
  have h1 : d * -(-n / d) = -(d * (-n / d)) := by rw [Int.mul_neg]
  have h2 : d * (-(-n / d) - 1) = -(d * (-n / d)) - d := by rw [Int.mul_sub, Int.mul_neg, Int.mul_one]
  omega

theorem bounds {a b s : Int} (ha : 5000 ≤ a) (hab : a ≤ b) (hb : b ≤ 80000) (h0 : 0 ≤ s) (h1 : s ≤ 10000) :
    25000000 ≤ a * a ∧ a * a ≤ b * b ∧ b * b ≤ 6400000000 ∧ 10000 * (a * a) ≤ par a b s ∧ par a b s ≤ 10000 * (b * b) ∧ 10000 * (a * a) ≤ ser a b s ∧ ser a b s ≤ 10000 * (b * b) ∧ 100000000 * (a * a) * (b * b) ≤ par a b s * ser a b s := by
  have q0 := sq_le (x := 5000) (y := a) (by omega) ha
  have q1 := sq_le (x := a) (y := b) (by omega) hab
  have q2 := sq_le (x := b) (y := 80000) (by omega) hb
  obtain ⟨A, hA⟩ : ∃ A, A = a * a := ⟨_, rfl⟩
  obtain ⟨B, hB⟩ : ∃ B, B = b * b := ⟨_, rfl⟩
  have p1 : par a b s = s * A + (10000 - s) * B := by unfold par; grind
  have p2 : ser a b s = s * B + (10000 - s) * A := by unfold ser; grind
  rw [p1, p2]
  rw [← hA] at q0 q1; rw [← hB] at q1 q2
  rw [← hA, ← hB]
  have m1 : s * A ≤ s * B := Int.mul_le_mul_of_nonneg_left q1 h0
  have m2 : (10000 - s) * A ≤ (10000 - s) * B := Int.mul_le_mul_of_nonneg_left q1 (by omega)
  have s1 : s * A + (10000 - s) * A = 10000 * A := by grind
  have s2 : s * B + (10000 - s) * B = 10000 * B := by grind
  have key : (s * A + (10000 - s) * B) * (s * B + (10000 - s) * A) = 100000000 * A * B + s * (10000 - s) * ((B - A) * (B - A)) := by grind
  have n1 : 0 ≤ s * (10000 - s) * ((B - A) * (B - A)) := Int.mul_nonneg (Int.mul_nonneg h0 (by omega)) (Int.mul_nonneg (by omega) (by omega))
  refine ⟨by omega, q1, by omega, by omega, by omega, by omega, by omega, by omega⟩

theorem mixed {a b s : Int} (ha : 5000 ≤ a) (hab : a ≤ b) (hb : b ≤ 80000) (h0 : 0 ≤ s) (h1 : s ≤ 10000) :
    a ≤ mixL a b s ∧ mixL a b s ≤ mixH a b s ∧ mixH a b s ≤ b ∧ par a b s ≤ 10000 * (mixH a b s * mixH a b s) ∧ 10000 * ((mixH a b s - 1) * (mixH a b s - 1)) < par a b s ∧
    0 ≤ 10000 * a * a * (b * b) / ser a b s ∧ 10000 * a * a * (b * b) / ser a b s < 72057594037927936 ∧ 0 ≤ cdiv (par a b s) 10000 ∧ cdiv (par a b s) 10000 < 72057594037927936 := by
  obtain ⟨g0, g1, g2, g3, g4, g5, g6, g7⟩ := bounds ha hab hb h0 h1
  have hser : 0 < ser a b s := by omega
  have hAB : 0 ≤ (a * a) * (b * b) := Int.mul_nonneg (by omega) (by omega)
  have eN : 10000 * a * a * (b * b) = 10000 * ((a * a) * (b * b)) := by grind
  have c1 := cdiv_spec (par a b s) (d := 10000) (by omega)
  obtain ⟨Q, hQ⟩ : ∃ Q, Q = 10000 * a * a * (b * b) / ser a b s := ⟨_, rfl⟩
  obtain ⟨C, hC⟩ : ∃ C, C = cdiv (par a b s) 10000 := ⟨_, rfl⟩
  have dm := Int.mul_ediv_add_emod (10000 * a * a * (b * b)) (ser a b s)
  have dm0 := Int.emod_nonneg (10000 * a * a * (b * b)) (show ser a b s ≠ 0 by omega)
  have dm1 := Int.emod_lt_of_pos (10000 * a * a * (b * b)) hser
  rw [← hQ] at dm
  rw [← hC] at c1
  have hQA : a * a ≤ Q := by
    rw [hQ]
    refine Int.le_ediv_of_mul_le hser ?_
    have : a * a * ser a b s ≤ a * a * (10000 * (b * b)) := Int.mul_le_mul_of_nonneg_left g6 (by omega)
    have e : a * a * (10000 * (b * b)) = 10000 * a * a * (b * b) := by grind
    omega
  have hQC : Q ≤ C := by
    by_cases hc : Q ≤ C
    · exact hc
    · exfalso
      have h2 : (C + 1) * ser a b s ≤ Q * ser a b s := Int.mul_le_mul_of_nonneg_right (by omega) (by omega)
      have h3 : ser a b s * Q = Q * ser a b s := Int.mul_comm _ _
      have h4 : par a b s * ser a b s ≤ 10000 * C * ser a b s := Int.mul_le_mul_of_nonneg_right (by omega) (by omega)
      have e1 : 10000 * C * ser a b s + 10000 * ser a b s = 10000 * ((C + 1) * ser a b s) := by grind
      have e2 : 100000000 * (a * a) * (b * b) = 10000 * (10000 * a * a * (b * b)) := by grind
      omega
  have hC0 : C ≤ b * b := by omega
  have hr := rtu_spec (n := C) (by omega) (by omega)
  unfold mixL mixH
  rw [← hQ, ← hC]
  have hL1 := rti_ge (n := Q) (a := a) (by omega) (by omega) (by omega) hQA
  have hLs := rti_spec Q (by omega) (by omega)
  have hLH : rti Q ≤ rti C := rti_ge (n := C) (by omega) (by omega) hLs.1 (by omega)
  have hH := rtu_le (n := C) (b := b) (by omega) (by omega) (by omega) hC0
  have hpos := hr.2.2 (by omega)
  refine ⟨hL1, by omega, hH, by omega, by omega, by omega, by omega, by omega, by omega⟩

theorem mixed_eq {a s : Int} (ha : 5000 ≤ a) (hb : a ≤ 80000) (h0 : 0 ≤ s) (h1 : s ≤ 10000) : mixL a a s = a ∧ mixH a a s = a := by
  obtain ⟨m1, m2, m3, _⟩ := mixed ha (Int.le_refl a) hb h0 h1
  omega
theorem ediv_le {n d s : Int} (hd : 0 < d) (h : n ≤ s * d) : n / d ≤ s := by
  have e := Int.mul_ediv_add_emod n d
  have r0 := Int.emod_nonneg n (show d ≠ 0 by omega)
  by_cases hc : n / d ≤ s
  · exact hc
  · have h1 : d * (s + 1) ≤ d * (n / d) := Int.mul_le_mul_of_nonneg_left (by omega) (by omega)
    have e1 : d * (s + 1) = s * d + d := by grind
    omega
theorem le_cdiv {n d s : Int} (hd : 0 < d) (h : s * d ≤ n) : s ≤ cdiv n d := by
  have c := cdiv_spec n hd
  by_cases hc : s ≤ cdiv n d
  · exact hc
  · have h1 : d * (cdiv n d + 1) ≤ d * s := Int.mul_le_mul_of_nonneg_left (by omega) (by omega)
    have e1 : d * (cdiv n d + 1) = d * cdiv n d + d := by grind
    have e2 : d * s = s * d := Int.mul_comm _ _
    omega

/-- The place below the upper end. -/
def under (H m : Int) : Int := if m > H - 1 then m else H - 1

/-- a below b. -/
theorem share_lt {a b s : Int} (ha : 5000 ≤ a) (hab : a < b) (hb : b ≤ 80000) (h0 : 0 ≤ s) (h1 : s ≤ 10000) :
    a ≤ mixH a b s ∧ mixH a b s ≤ b ∧ a ≤ under (mixH a b s) a ∧ under (mixH a b s) a ≤ b ∧
    10000 * (b * b - mixH a b s * mixH a b s) / (b * b - a * a) ≤ s ∧ s ≤ cdiv (10000 * (b * b - under (mixH a b s) a * under (mixH a b s) a)) (b * b - a * a) := by
  obtain ⟨m1, m2, m3, m4, m5, _⟩ := mixed ha (Int.le_of_lt hab) hb h0 h1
  obtain ⟨g0, g1, g2, g3, g4, _⟩ := bounds ha (Int.le_of_lt hab) hb h0 h1
  have hD : 0 < b * b - a * a := by have := sq_lt (x := a) (y := b) (by omega) hab; omega
  have hp : s * (b * b - a * a) = 10000 * (b * b) - par a b s := by unfold par; grind
  have u1 : a ≤ under (mixH a b s) a ∧ under (mixH a b s) a ≤ b := by unfold under; split <;> omega
  have u2 : 10000 * (under (mixH a b s) a * under (mixH a b s) a) ≤ par a b s := by
    unfold under; split
    · omega
    · omega
  refine ⟨by omega, m3, u1.1, u1.2, ediv_le hD ?_, le_cdiv hD ?_⟩
  · rw [hp]; omega
  · rw [hp]; omega

/-- a above b. -/
theorem share_gt {a b s : Int} (ha : b < a) (hb : 5000 ≤ b) (hb' : a ≤ 80000) (h0 : 0 ≤ s) (h1 : s ≤ 10000) :
    b ≤ mixH a b s ∧ mixH a b s ≤ a ∧ b ≤ under (mixH a b s) b ∧ under (mixH a b s) b ≤ a ∧
    10000 * (under (mixH a b s) b * under (mixH a b s) b - b * b) / (a * a - b * b) ≤ s ∧ s ≤ cdiv (10000 * (mixH a b s * mixH a b s - b * b)) (a * a - b * b) := by
  obtain ⟨m1, m2, m3, m4, m5, _⟩ := mixed (a := b) (b := a) (s := 10000 - s) hb (Int.le_of_lt ha) hb' (by omega) (by omega)
  obtain ⟨g0, g1, g2, g3, g4, _⟩ := bounds (a := b) (b := a) (s := 10000 - s) hb (Int.le_of_lt ha) hb' (by omega) (by omega)
  have sw : mixH b a (10000 - s) = mixH a b s := mixH_swap a b s
  have sw2 : par b a (10000 - s) = par a b s := par_swap a b s
  have swL : mixL b a (10000 - s) = mixL a b s := mixL_swap a b s
  rw [sw] at m2 m3 m4 m5; rw [sw2] at m4 m5 g3 g4; rw [swL] at m1 m2
  have hD : 0 < a * a - b * b := by have := sq_lt (x := b) (y := a) (by omega) ha; omega
  have hp : s * (a * a - b * b) = par a b s - 10000 * (b * b) := by unfold par; grind
  have u1 : b ≤ under (mixH a b s) b ∧ under (mixH a b s) b ≤ a := by unfold under; split <;> omega
  have u2 : 10000 * (under (mixH a b s) b * under (mixH a b s) b) ≤ par a b s := by
    unfold under; split
    · omega
    · omega
  refine ⟨by omega, m3, u1.1, u1.2, ediv_le hD ?_, le_cdiv hD ?_⟩
  · rw [hp]; omega
  · rw [hp]; omega
end Go.Proofs.YtbeflbedopjhpaaGreat.Gm
