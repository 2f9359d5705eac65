/- Whole roots: the greatest number whose square is not above n; and that the float root of a float of n (below 2^56), cut to a whole number, is it or one more. Plain arithmetic: no program. -/
import Derived.Test.YtafnplkablkepaaFlx

namespace Go.Proofs.Ytafnplkablkepaa
open Ieee

/-- r is the root of n, rounded down. -/
def IsRt (n r : Nat) : Prop := r * r ≤ n ∧ n < (r + 1) * (r + 1)

theorem lt_of_sq {a b : Nat} (h : a * a < b * b) : a < b := by
  apply Nat.lt_of_not_le
  intro hle
  have := Nat.mul_le_mul hle hle
  omega
theorem le_of_sq {a b : Nat} (h : a * a ≤ b * b) : a ≤ b := by
  apply Nat.le_of_not_lt
  intro hlt
  have := Nat.mul_lt_mul'' hlt hlt
  omega

theorem IsRt.uniq {n a b : Nat} (h : IsRt n a) (g : IsRt n b) : a = b := by
  have h1 := lt_of_sq (Nat.lt_of_le_of_lt h.1 g.2)
  have h2 := lt_of_sq (Nat.lt_of_le_of_lt g.1 h.2)
  omega

theorem rootFrom_spec (n : Nat) : ∀ todo root, root * root ≤ n → n < (root + 2 ^ todo) * (root + 2 ^ todo) → IsRt n (Datum.rootFrom n todo root) := by
  intro todo
  induction todo with
  | zero => intro root h1 h2; rw [Nat.pow_zero] at h2; exact ⟨h1, h2⟩
  | succ t ih =>
    intro root h1 h2
    unfold Datum.rootFrom
    simp only [Nat.one_shiftLeft]
    by_cases hc : (root + 2 ^ t) * (root + 2 ^ t) ≤ n
    · rw [if_pos hc]
      refine ih _ hc ?_
      have e : root + 2 ^ t + 2 ^ t = root + 2 ^ (t + 1) := by rw [Nat.pow_succ]; omega
      rw [e]; exact h2
    · rw [if_neg hc]
      exact ih _ h1 (by omega)

def rt (n : Nat) : Nat := Datum.rootFrom n (n.log2 / 2 + 1) 0

theorem rt_spec (n : Nat) : IsRt n (rt n) := by
  refine rootFrom_spec n _ 0 (by simp) ?_
  rw [Nat.zero_add, ← Nat.pow_add]
  have := Nat.lt_log2_self (n := n)
  exact Nat.lt_of_lt_of_le this (Nat.pow_le_pow_right (by decide) (by omega))

theorem rt_eq {n r : Nat} (h : IsRt n r) : rt n = r := (rt_spec n).uniq h

theorem cut_even_bd (neg : Bool) (n drop : Nat) (h : drop ≤ n.log2 + 2) :
    2 * (Toward.even.cut neg n drop * 2 ^ drop) ≤ 2 * n + 2 ^ drop ∧ 2 * n ≤ 2 * (Toward.even.cut neg n drop * 2 ^ drop) + 2 ^ drop ∧
    (Toward.even.cut neg n drop = n / 2 ^ drop ∨ Toward.even.cut neg n drop = n / 2 ^ drop + 1) := by
  unfold Toward.cut
  have hm : min drop (n.log2 + 2) = drop := by omega
  have hp := Nat.two_pow_pos drop
  simp only [hm, Nat.one_shiftLeft]
  have hd := Nat.div_add_mod n (2 ^ drop)
  have hl := Nat.mod_lt n hp
  generalize 2 ^ drop = g at *
  generalize n / g = q at *
  generalize n % g = r at *
  have e1 : (q + 1) * g = g * q + g := by rw [Nat.mul_comm, Nat.mul_add, Nat.mul_one]
  have e0 : q * g = g * q := Nat.mul_comm _ _
  by_cases c : (decide (g < 2 * r) || g == 2 * r && q % 2 == 1) = true
  · rw [c]
    have : g ≤ 2 * r := by
      simp only [Bool.or_eq_true, decide_eq_true_eq, Bool.and_eq_true, beq_iff_eq] at c
      omega
    simp only [Bool.toNat_true]
    refine ⟨?_, ?_, by simp⟩ <;> rw [e1] <;> omega
  · have c' : (decide (g < 2 * r) || g == 2 * r && q % 2 == 1) = false := by simpa using c
    rw [c']
    have : 2 * r ≤ g := by
      simp only [Bool.or_eq_false_iff, decide_eq_false_iff_not] at c'
      omega
    simp only [Bool.toNat_false, Nat.add_zero]
    refine ⟨?_, ?_, by simp⟩ <;> rw [e0] <;> omega

theorem cut_zero (n drop : Nat) (h : drop ≤ n.log2 + 2) : Toward.zero.cut false n drop = n / 2 ^ drop := by
  unfold Toward.cut
  have hm : min drop (n.log2 + 2) = drop := by omega
  simp only [hm, Nat.one_shiftLeft, Bool.toNat_false, Nat.add_zero]

theorem log2_52 : Nat.log2 4503599627370496 = 52 := log2_eq (by decide) (by decide)
theorem log2_of52 {kept : Nat} (h1 : 4503599627370496 ≤ kept) (h2 : kept < 9007199254740992) : kept.log2 = 52 := log2_eq h1 h2

theorem read_rung (u kept : Nat) (h1 : 4503599627370496 ≤ kept) (h2 : kept < 9007199254740992) (hu : u ≤ 2000) :
    double.read (u * 4503599627370496 + kept) = .number false kept ((u : Int) - 1074) := by
  unfold Format.read
  simp only [d_sign, d_binade, d_inf, d_least]
  have e1 : (u * 4503599627370496 + kept) / 9223372036854775808 % 2 = 0 := by omega
  have e2 : (u * 4503599627370496 + kept) % 9223372036854775808 = u * 4503599627370496 + kept := by omega
  rw [e1, e2, if_neg (by omega), if_pos (by omega)]
  have e3 : 4503599627370496 + (u * 4503599627370496 + kept) % 4503599627370496 = kept := by omega
  have e4 : (u * 4503599627370496 + kept) / 4503599627370496 - 1 = u := by omega
  have e5 : (-1074 : Int) + (u : Int) = (u : Int) - 1074 := by omega
  rw [e3, e4, e5]
  rfl

theorem read_rung' (u kept : Nat) (h1 : 4503599627370496 ≤ kept) (h2 : kept ≤ 9007199254740992) (hu : u ≤ 1999) :
    ∃ M v : Nat, double.read (u * 4503599627370496 + kept) = .number false M ((v : Int) - 1074) ∧ 4503599627370496 ≤ M ∧ M < 9007199254740992 ∧
      ((v = u ∧ M = kept) ∨ (v = u + 1 ∧ M = 4503599627370496 ∧ kept = 9007199254740992)) := by
  by_cases hk : kept = 9007199254740992
  · refine ⟨4503599627370496, u + 1, ?_, by omega, by omega, Or.inr ⟨rfl, rfl, hk⟩⟩
    have e : u * 4503599627370496 + kept = (u + 1) * 4503599627370496 + 4503599627370496 := by omega
    rw [e]
    exact read_rung (u + 1) 4503599627370496 (by omega) (by omega) (by omega)
  · exact ⟨kept, u, read_rung u kept h1 (by omega) (by omega), h1, by omega, Or.inl ⟨rfl, rfl⟩⟩

theorem toInt_num (M E q : Nat) (hE : E ≤ M.log2 + 2) (h : M / 2 ^ E = q) : Datum.toInt .zero (.number false M (-(E : Int))) = some (q : Int) := by
  unfold Datum.toInt Datum.integral
  dsimp only
  have e1 : (-(E : Int)).toNat = 0 := by omega
  have e2 : (- -(E : Int)).toNat = E := by omega
  rw [e1, e2, Nat.shiftLeft_zero, cut_zero _ _ hE, h]
  simp [signed]

theorem floatToInt_of {b : Nat} {d : Datum} {q : Nat} (hr : double.read b = d) (h : d.toInt .zero = some (q : Int)) (hq : q ≤ 9007199254740992) : floatToIntVal .f64 b .i64 = some (q : Int) := by
  unfold floatToIntVal
  show (match Datum.toInt .zero (double.read _) with | some n => _ | none => _) = _
  rw [hr, h]
  have e1 : IntKind.i64.min = -9223372036854775808 := rfl
  have e2 : IntKind.i64.max = 9223372036854775807 := rfl
  simp only [e1, e2]
  rw [if_pos (by omega)]

/-- A word by its rung, read and cut to a whole number. -/
theorem int_rung (u kept D : Nat) (h1 : 4503599627370496 ≤ kept) (h2 : kept ≤ 9007199254740992) (hu : u + D = 1074) (hD : 1 ≤ D) (hD2 : D ≤ 52) :
    floatToIntVal .f64 (u * 4503599627370496 + kept) .i64 = some ((kept / 2 ^ D : Nat) : Int) := by
  have hq : kept / 2 ^ D ≤ 9007199254740992 := Nat.le_trans (Nat.div_le_self _ _) h2
  obtain ⟨M, v, hr, m1, m2, hv⟩ := read_rung' u kept h1 h2 (by omega)
  refine floatToInt_of hr ?_ hq
  have hl := log2_of52 m1 m2
  rcases hv with ⟨rfl, rfl⟩ | ⟨rfl, hM, hk⟩
  · have e : (v : Int) - 1074 = -(D : Int) := by omega
    rw [e]
    exact toInt_num _ _ _ (by omega) rfl
  · have e : ((u + 1 : Nat) : Int) - 1074 = -((D - 1 : Nat) : Int) := by omega
    rw [e]
    refine toInt_num _ _ _ (by omega) ?_
    have e : (2 : Nat) ^ D = 2 * 2 ^ (D - 1) := by rw [← Nat.pow_succ', show (D - 1).succ = D from by omega]
    rw [e, ← Nat.div_div_eq_div_mul, hk, hM]

/-- The heart: the root of N = f * p * p, doubled and made sticky, rounded to an eighth, lies with the root of n. -/
theorem root_core {n f k p whole st kept : Nat} (hk : IsRt n k) (hp : 16 ≤ p) (hp4 : p % 4 = 0)
    (hw : IsRt (f * (p * p)) whole) (hst : st ≤ 1) (hst1 : st = 0 → whole * whole = f * (p * p))
    (hlo : n ≤ f ∨ (∃ d, n ≤ f + d ∧ d * p + 1 ≤ 4 * k)) (hhi : f ≤ n + k + 1)
    (hc1 : 8 * kept ≤ (2 * whole + st) + 4) (hc2 : 2 * whole + st ≤ 8 * kept + 4) :
    k * (p / 4) ≤ kept ∧ kept < (k + 2) * (p / 4) := by
  obtain ⟨q, rfl⟩ : ∃ q, p = 4 * q := ⟨p / 4, by omega⟩
  have hq : 4 * q / 4 = q := by omega
  rw [hq]
  constructor
  · -- lower
    have hlow : 8 * (k * q) ≤ 2 * whole + st + 3 := by
      rcases hlo with hlo | ⟨d, hd, hd4⟩
      · have : (k * (4 * q)) * (k * (4 * q)) ≤ f * (4 * q * (4 * q)) := by
          calc (k * (4 * q)) * (k * (4 * q)) = (k * k) * (4 * q * (4 * q)) := by ac_rfl
            _ ≤ f * (4 * q * (4 * q)) := Nat.mul_le_mul_right _ (Nat.le_trans hk.1 hlo)
        have h2 := lt_of_sq (Nat.lt_of_le_of_lt this hw.2)
        have e : k * (4 * q) = 4 * (k * q) := by simp only [Nat.mul_left_comm]
        omega
      · -- (K4 - 2)^2 < N
        have hk1 : 1 ≤ k := by omega
        generalize hP : 4 * q = P at *
        have hKP : 4 ≤ k * P := Nat.le_trans (by omega) (Nat.mul_le_mul hk1 (Nat.le_refl P))
        obtain ⟨z, hz⟩ : ∃ z, k * P = z + 2 := ⟨k * P - 2, by omega⟩
        have e1 : (k * P) * (k * P) ≤ (f + d) * (P * P) := by
          calc (k * P) * (k * P) = (k * k) * (P * P) := by ac_rfl
            _ ≤ (f + d) * (P * P) := Nat.mul_le_mul_right _ (Nat.le_trans hk.1 hd)
        have e2 : (d * P + 1) * P ≤ 4 * k * P := Nat.mul_le_mul_right _ hd4
        have e3 : (f + d) * (P * P) = f * (P * P) + d * P * P := by rw [Nat.add_mul]; simp only [Nat.mul_assoc]
        have e4 : (d * P + 1) * P = d * P * P + P := by rw [Nat.add_mul, Nat.one_mul]
        have e5 : 4 * k * P = 4 * (k * P) := Nat.mul_assoc _ _ _
        have e6 : (k * P) * (k * P) = z * z + 4 * z + 4 := by
          rw [hz, Nat.add_mul, Nat.mul_add, Nat.mul_add]; omega
        have hlt : z * z < f * (P * P) := by omega
        have h7 := lt_of_sq (Nat.lt_trans hlt hw.2)
        have hz0 : z ≤ whole := by omega
        have hs : z = whole → st = 1 := by
          intro e
          subst e
          by_cases h0 : st = 0
          · have := hst1 h0; omega
          · omega
        have e7 : k * P = 4 * (k * q) := by rw [← hP]; simp only [Nat.mul_left_comm]
        by_cases hzw : z = whole
        · have := hs hzw; omega
        · omega
    omega
  · -- upper
    have hk2 := hk.2
    have e1 : (k + 1) * (k + 1) = k * k + 2 * k + 1 := by rw [Nat.add_mul, Nat.mul_add]; omega
    have e2 : f * (4 * q * (4 * q)) < ((k + 1) * (4 * q) + 2 * q) * ((k + 1) * (4 * q) + 2 * q) := by
      have a1 : f * (4 * q * (4 * q)) ≤ ((k + 1) * (k + 1) + k) * (4 * q * (4 * q)) := Nat.mul_le_mul_right _ (by omega)
      have a2 : ((k + 1) * (4 * q) + 2 * q) * ((k + 1) * (4 * q) + 2 * q) = ((k + 1) * (k + 1) + (k + 1)) * (4 * q * (4 * q)) + 4 * (q * q) := by
        generalize k + 1 = c
        have : (c * (4 * q) + 2 * q) = (4 * c + 2) * q := by rw [Nat.add_mul]; congr 1; ac_rfl
        rw [this]
        have b1 : (4 * c + 2) * q * ((4 * c + 2) * q) = ((4 * c + 2) * (4 * c + 2)) * (q * q) := by ac_rfl
        have b2 : 4 * q * (4 * q) = 16 * (q * q) := by rw [show 4 * q * (4 * q) = (4 * 4) * (q * q) from by simp only [Nat.mul_assoc, Nat.mul_left_comm]]
        have b3 : (4 * c + 2) * (4 * c + 2) = 16 * (c * c + c) + 4 := by
          rw [Nat.add_mul, Nat.mul_add, Nat.mul_add, show 4 * c * (4 * c) = 16 * (c * c) from by
            rw [show 4 * c * (4 * c) = (4 * 4) * (c * c) from by simp only [Nat.mul_assoc, Nat.mul_left_comm]]]
          omega
        rw [b1, b2, b3, Nat.add_mul]
        congr 1
        simp only [Nat.mul_assoc, Nat.mul_comm, Nat.mul_left_comm]
      have a3 : ((k + 1) * (k + 1) + k) * (4 * q * (4 * q)) < ((k + 1) * (k + 1) + (k + 1)) * (4 * q * (4 * q)) := by
        refine Nat.mul_lt_mul_of_pos_right (by omega) ?_
        exact Nat.mul_pos (by omega) (by omega)
      omega
    have h3 := lt_of_sq (Nat.lt_of_le_of_lt hw.1 e2)
    have e4 : (k + 1) * (4 * q) = 4 * ((k + 1) * q) := by simp only [Nat.mul_left_comm]
    have e5 : (k + 2) * q = (k + 1) * q + q := by rw [show k + 2 = (k + 1) + 1 from rfl, Nat.add_mul (k + 1) 1, Nat.one_mul]
    omega

theorem two_pow_mul (a b : Nat) : 2 ^ a * 2 ^ b = 2 ^ (a + b) := (Nat.pow_add 2 a b).symm

theorem root_eq {M E more N whole st P} (hm : M ≠ 0) (hmore : 2 * 54 - M.log2 + ((E - ((2 * 54 - M.log2 : Nat) : Int)) % 2).toNat = more) (hN : M <<< more = N)
    (hw : Datum.rootFrom N (N.log2 / 2 + 1) 0 = whole) (hst : (whole * whole != N).toNat = st) (hP : (E - (more : Int)) / 2 - 1 = P) :
    (Datum.number false M E).root 54 = some (.number false (2 * whole + st) P) := by
  unfold Datum.root
  simp only [if_neg hm, Bool.false_eq_true, if_false]
  rw [hmore, hN, hw, hst, hP]

theorem nearest_eq {mag : Nat} {P : Int} {u kept lastd : Nat} {last : Int} (hm : mag ≠ 0) (hlast : max (P + (mag.log2 : Int) - 52) (-1074) = last)
    (h0 : (P - last).toNat = 0) (hd : (last - P).toNat = lastd) (hk : Toward.even.cut false mag lastd = kept) (hu : (last + 1074).toNat = u) (hu2 : u ≤ 2000) (hk2 : kept ≤ 9007199254740992) :
    double.nearest false mag P = u * 4503599627370496 + kept := by
  unfold Format.nearest
  rw [if_neg hm]
  simp only [d_least, d_frac, d_binade, d_inf]
  have e52 : ((52 : Nat) : Int) = 52 := rfl
  rw [e52, hlast, h0, hd, Nat.shiftLeft_zero, hk, Int.sub_neg, hu]
  have : min (u * 4503599627370496 + kept) 9218868437227405312 = u * 4503599627370496 + kept := by omega
  rw [this]
  rfl

theorem st_spec (a N : Nat) : (a != N).toNat ≤ 1 ∧ ((a != N).toNat = 0 → a = N) := by
  by_cases c : a = N
  · subst c; simp
  · have : (a != N) = true := by simpa using c
    rw [this]; simp

theorem size_N {M x f p : Nat} (h1 : 4503599627370496 ≤ M) (h2 : M < 9007199254740992) (hx1 : 56 ≤ x) (hx2 : x ≤ 57) (hN : M * 2 ^ x = f * (p * p)) {whole : Nat} (hw : IsRt (f * (p * p)) whole) :
    2 ^ 54 ≤ whole ∧ whole < 2 ^ 55 := by
  have a1 : 4503599627370496 * 2 ^ 56 ≤ M * 2 ^ x := Nat.mul_le_mul h1 (Nat.pow_le_pow_right (by decide) hx1)
  have a2 : M * 2 ^ x < 9007199254740992 * 2 ^ 57 := Nat.lt_of_lt_of_le (Nat.mul_lt_mul_of_pos_right h2 (Nat.two_pow_pos _)) (Nat.mul_le_mul_left _ (Nat.pow_le_pow_right (by decide) hx2))
  rw [hN] at a1 a2
  have e1 : 4503599627370496 * 2 ^ 56 = 2 ^ 54 * 2 ^ 54 := by decide
  have e2 : 9007199254740992 * 2 ^ 57 = 2 ^ 55 * 2 ^ 55 := by decide
  rw [e1] at a1
  rw [e2] at a2
  have w1 := lt_of_sq (Nat.lt_of_le_of_lt a1 hw.2)
  have w2 := lt_of_sq (Nat.lt_of_le_of_lt hw.1 a2)
  exact ⟨Nat.le_of_lt_succ w1, w2⟩

/-- The root of a float, written as a float and cut to a whole number. -/
theorem sqrt_of {n f M G x b : Nat} {E : Int} (hb : double.read b = .number false M E) (h1 : 4503599627370496 ≤ M) (h2 : M < 9007199254740992)
    (hx : 56 + ((E - 56) % 2).toNat = x) (hG : E - (x : Int) = -2 * G) (hG4 : 4 ≤ G) (hG54 : G ≤ 54) (hN : M * 2 ^ x = f * (2 ^ G * 2 ^ G))
    (hlo : n ≤ f ∨ (∃ d, n ≤ f + d ∧ d * 2 ^ G + 1 ≤ 4 * rt n)) (hhi : f ≤ n + rt n + 1) :
    ∃ r t : Nat, double.sqrt b = some r ∧ floatToIntVal .f64 r .i64 = some (t : Int) ∧ rt n ≤ t ∧ t ≤ rt n + 1 := by
  have hl := log2_of52 h1 h2
  have hx1 : 56 ≤ x ∧ x ≤ 57 := by clear hN hlo hhi hb; omega
  obtain ⟨D, rfl⟩ : ∃ D, G = D + 2 := ⟨G - 2, by clear hN hlo hhi hb; omega⟩
  have hD : D ≤ 52 ∧ 2 ≤ D := by clear hN hlo hhi hb; omega
  have hP : (E - (x : Int)) / 2 - 1 = -(D : Int) - 3 := by clear hN hlo hhi hb; omega
  have hmore : 2 * 54 - M.log2 + ((E - ((2 * 54 - M.log2 : Nat) : Int)) % 2).toNat = x := by rw [hl]; exact hx
  obtain ⟨p, hp⟩ : ∃ p, p = 2 ^ (D + 2) := ⟨_, rfl⟩
  rw [← hp] at hN hlo
  have hp4 : p = 2 ^ D * 4 := by rw [hp, Nat.pow_add]
  have hp16 : 16 ≤ p := by rw [hp]; exact Nat.pow_le_pow_right (n := 2) (i := 4) (by decide) (by clear hN hlo hhi hb; omega)
  have hpm : p % 4 = 0 := by rw [hp4]; exact Nat.mul_mod_left _ _
  have hpd : p / 4 = 2 ^ D := by rw [hp4]; exact Nat.mul_div_cancel _ (by decide)
  obtain ⟨whole, hw⟩ : ∃ w, rt (f * (p * p)) = w := ⟨_, rfl⟩
  have hws := rt_spec (f * (p * p))
  rw [hw] at hws
  obtain ⟨st, hst⟩ : ∃ s, (whole * whole != f * (p * p)).toNat = s := ⟨_, rfl⟩
  have hsp := st_spec (whole * whole) (f * (p * p))
  rw [hst] at hsp
  have hroot := root_eq (M := M) (E := E) (more := x) (N := f * (p * p)) (whole := whole) (st := st) (P := -(D : Int) - 3) (fun h => by rw [h] at h1; exact absurd h1 (by decide)) hmore (by rw [Nat.shiftLeft_eq]; exact hN) hw hst hP
  obtain ⟨w1, w2⟩ := size_N h1 h2 hx1.1 hx1.2 hN hws
  obtain ⟨mag, hmag⟩ : ∃ m, 2 * whole + st = m := ⟨_, rfl⟩
  have hsp1 := hsp.1
  have hmag1 : 2 ^ 55 ≤ mag ∧ mag < 2 ^ 56 := by clear hN hlo hhi hws hb hsp hroot hpd hpm hp16 hp4 hp hst hw; omega
  have hlm : mag.log2 = 55 := log2_eq hmag1.1 hmag1.2
  obtain ⟨kept, hk⟩ : ∃ k, Toward.even.cut false mag 3 = k := ⟨_, rfl⟩
  obtain ⟨c1, c2, c3⟩ := cut_even_bd false mag 3 (by rw [hlm]; decide)
  rw [hk] at c1 c2 c3
  have k12 : 4503599627370496 ≤ kept ∧ kept ≤ 9007199254740992 := by clear hN hlo hhi hws hb hsp hroot hpd hpm hp16 hp4 hp hst hw; omega
  have hc1 : 8 * kept ≤ mag + 4 ∧ mag ≤ 8 * kept + 4 := by clear hN hlo hhi hws hb hsp hroot hpd hpm hp16 hp4 hp hst hw; omega
  rw [hmag] at hroot
  rw [← hmag] at hc1
  have hcore := root_core (p := p) (rt_spec n) hp16 hpm hws hsp.1 hsp.2 hlo hhi hc1.1 hc1.2
  rw [hpd] at hcore
  have hwrite : double.nearest false mag (-(D : Int) - 3) = (1074 - D) * 4503599627370496 + kept :=
    nearest_eq (last := -(D : Int)) (lastd := 3) (fun h => by rw [h] at hmag1; exact absurd hmag1.1 (by decide)) (by rw [hlm]; clear hN hlo hhi hws hb hsp hroot hpd hpm hp16 hp4 hp hst hw hcore; omega)
      (by clear hN hlo hhi hws hb hsp hroot hpd hpm hp16 hp4 hp hst hw hcore; omega) (by clear hN hlo hhi hws hb hsp hroot hpd hpm hp16 hp4 hp hst hw hcore; omega) hk (by clear hN hlo hhi hws hb hsp hroot hpd hpm hp16 hp4 hp hst hw hcore; omega) (by omega) k12.2
  refine ⟨(1074 - D) * 4503599627370496 + kept, kept / 2 ^ D, ?_, int_rung (1074 - D) kept D k12.1 k12.2 (by clear hN hlo hhi hws hb hsp hroot hpd hpm hp16 hp4 hp hst hw hcore; omega) (by clear hN hlo hhi hws hb hsp hroot hpd hpm hp16 hp4 hp hst hw hcore; omega) hD.1, ?_, ?_⟩
  · show ((double.read b).root 54).map double.write = _
    rw [hb, hroot]
    exact congrArg some hwrite
  · exact (Nat.le_div_iff_mul_le (Nat.two_pow_pos D)).2 hcore.1
  · exact Nat.le_of_lt_succ ((Nat.div_lt_iff_lt_mul (Nat.two_pow_pos D)).2 hcore.2)

theorem rt_ge {n c : Nat} (h : c * c ≤ n) : c ≤ rt n := by
  have := lt_of_sq (Nat.lt_of_le_of_lt h (rt_spec n).2)
  omega

theorem decide_nat (n : Nat) : decide ((n : Int) < 0) = false := by simp

theorem fi_big {n e kept : Nat} (hn0 : n ≠ 0) (he : n.log2 = 52 + e) (hk : Toward.even.cut false n e = kept) (he3 : e ≤ 3) (hk2 : kept ≤ 9007199254740992) :
    fi n = (e + 1074) * 4503599627370496 + kept := by
  show double.nearest (decide ((n : Int) < 0)) (n : Int).natAbs 0 = _
  rw [decide_nat, Int.natAbs_natCast]
  exact nearest_eq (last := (e : Int)) (lastd := e) hn0 (by rw [he]; omega) (by omega) (by omega) hk (by omega) (by omega) hk2

theorem big_log {n : Nat} (h53 : ¬ n ≤ 9007199254740992) (h : n < 72057594037927936) : ∃ e, n.log2 = 52 + e ∧ 1 ≤ e ∧ e ≤ 3 := by
  have hn0 : n ≠ 0 := by omega
  have a := (Nat.le_log2 hn0 (k := 53)).2 (by omega)
  have b := (Nat.log2_lt hn0 (k := 56)).2 (by omega)
  exact ⟨n.log2 - 52, by omega, by omega, by omega⟩

theorem big_q {n e : Nat} (hn0 : n ≠ 0) (he : n.log2 = 52 + e) : 4503599627370496 ≤ n / 2 ^ e ∧ n / 2 ^ e < 9007199254740992 := by
  have lo := Nat.log2_self_le hn0
  have hi := Nat.lt_log2_self (n := n)
  rw [he, Nat.pow_add] at lo
  rw [he, show 52 + e + 1 = 53 + e from by omega, Nat.pow_add] at hi
  exact ⟨(Nat.le_div_iff_mul_le (Nat.two_pow_pos e)).2 lo, (Nat.div_lt_iff_lt_mul (Nat.two_pow_pos e)).2 hi⟩

theorem big_f {kept M e E : Nat} (hv : (E = e ∧ M = kept) ∨ (E = e + 1 ∧ M = 4503599627370496 ∧ kept = 9007199254740992)) : M * 2 ^ E = kept * 2 ^ e := by
  rcases hv with ⟨hv, hM⟩ | ⟨hv, hM, hk'⟩
  · rw [hv, hM]
  · rw [hv, hM, hk', Nat.pow_succ, Nat.mul_comm (2 ^ e) 2, ← Nat.mul_assoc]

theorem big_lo {n e E f : Nat} (he : e = 1 ∨ e = 2 ∨ e = 3) (hE : e ≤ E) (h53 : 9007199254740992 ≤ n) (h3 : e = 3 → 36028797018963968 ≤ n) (c2 : 2 * n ≤ 2 * f + 2 ^ e) :
    ∃ d, n ≤ f + d ∧ d * 2 ^ (28 - E / 2) + 1 ≤ 4 * rt n := by
  have g1 : 94906265 ≤ rt n := rt_ge (by omega)
  rcases he with rfl | rfl | rfl
  · refine ⟨1, by omega, ?_⟩
    have : 2 ^ (28 - E / 2) ≤ 2 ^ 28 := Nat.pow_le_pow_right (by decide) (by omega)
    omega
  · refine ⟨2, by omega, ?_⟩
    have : 2 ^ (28 - E / 2) ≤ 2 ^ 27 := Nat.pow_le_pow_right (by decide) (by omega)
    omega
  · refine ⟨4, by omega, ?_⟩
    have : 2 ^ (28 - E / 2) ≤ 2 ^ 27 := Nat.pow_le_pow_right (by decide) (by omega)
    have g2 : 189812531 ≤ rt n := rt_ge (by have := h3 rfl; omega)
    omega

theorem big_hi {n e f : Nat} (he : e = 1 ∨ e = 2 ∨ e = 3) (h53 : 9007199254740992 ≤ n) (c1 : 2 * f ≤ 2 * n + 2 ^ e) : f ≤ n + rt n + 1 := by
  have g1 : 94906265 ≤ rt n := rt_ge (by omega)
  rcases he with rfl | rfl | rfl <;> omega

theorem rt_zero : rt 0 = 0 := rt_eq ⟨by decide, by decide⟩

/-- The float root of a float of n, cut to a whole number, is the root of n or one more. -/
theorem sqrt_int (n : Nat) (h : n < 72057594037927936) : ∃ r t : Nat, double.sqrt (fi n) = some r ∧ floatToIntVal .f64 r .i64 = some (t : Int) ∧ rt n ≤ t ∧ t ≤ rt n + 1 := by
  by_cases h0 : n = 0
  · subst h0
    refine ⟨0, 0, by decide +kernel, by decide +kernel, by rw [rt_zero]; decide, by omega⟩
  by_cases h53 : n ≤ 9007199254740992
  · have hfi := fi_eq (k := (n : Int)) (by omega) (by omega) (by omega)
    rw [decide_nat, Int.natAbs_natCast] at hfi
    have hr := read_word false (K := n) (by omega) h53
    rw [← hfi] at hr
    obtain ⟨b1, b2⟩ := top_bd (K := n) (by omega) h53
    have hl53 : n.log2 ≤ 53 := by rcases log2_le53 (by omega) h53 with e | e; omega; rw [e, log2_53]; exact Nat.le_refl _
    obtain ⟨l, hl⟩ : ∃ l, n.log2 = l := ⟨_, rfl⟩
    rw [hl] at hr hl53
    have em : (((l : Int) - 52 - 56) % 2).toNat = l % 2 := by omega
    refine sqrt_of (f := n) (G := 54 - l / 2) (x := 56 + l % 2) hr b1 b2 (by rw [em]) (by omega) (by omega) (by omega) ?_ (Or.inl (Nat.le_refl _)) (by omega)
    rw [two_pow_mul]
    rcases log2_le53 (K := n) (by omega) h53 with e | e
    · have e1 : top n = n * 2 ^ (52 - l) := by unfold top; rw [if_pos e, hl]
      rw [e1, Nat.mul_assoc, two_pow_mul]
      have e2 : 52 - l + (56 + l % 2) = 54 - l / 2 + (54 - l / 2) := by omega
      rw [e2]
    · have e0 : l = 53 := by rw [← hl, e, log2_53]
      have e1 : top n = 2 ^ 52 := by unfold top; rw [e, log2_53]; decide
      rw [e1, e0, e]
  · obtain ⟨e, he, he1, he3⟩ := big_log h53 h
    obtain ⟨kept, hk⟩ : ∃ k, Toward.even.cut false n e = k := ⟨_, rfl⟩
    have hcut := cut_even_bd false n e (by omega)
    rw [hk] at hcut
    obtain ⟨q1, q2⟩ := big_q h0 he
    have k12 : 4503599627370496 ≤ kept ∧ kept ≤ 9007199254740992 := by have := hcut.2.2; clear hcut; omega
    have hfi := fi_big h0 he hk he3 k12.2
    obtain ⟨M, v, hr, m1, m2, hv⟩ := read_rung' (e + 1074) kept k12.1 k12.2 (by omega)
    rw [← hfi] at hr
    obtain ⟨E, hE, hv'⟩ : ∃ E : Nat, (v : Int) - 1074 = (E : Int) ∧ ((E = e ∧ M = kept) ∨ (E = e + 1 ∧ M = 4503599627370496 ∧ kept = 9007199254740992)) := by
      rcases hv with ⟨a, b⟩ | ⟨a, b, c⟩
      · exact ⟨e, by omega, Or.inl ⟨rfl, b⟩⟩
      · exact ⟨e + 1, by omega, Or.inr ⟨rfl, b, c⟩⟩
    rw [hE] at hr
    have hE4 : e ≤ E ∧ E ≤ 4 := by clear hcut; rcases hv' with ⟨a, _⟩ | ⟨a, _, _⟩ <;> omega
    have hf := big_f hv'
    have hee : e = 1 ∨ e = 2 ∨ e = 3 := by omega
    have h3 : e = 3 → 36028797018963968 ≤ n := by
      intro e3
      have := Nat.log2_self_le h0
      rw [he, e3] at this
      exact this
    refine sqrt_of (f := M * 2 ^ E) (G := 28 - E / 2) (x := 56 + E % 2) hr m1 m2 (by clear hcut hf; omega) (by clear hcut hf; omega) (by omega) (by omega) ?_ ?_ ?_
    · rw [two_pow_mul, Nat.mul_assoc, two_pow_mul]
      have : E + (28 - E / 2 + (28 - E / 2)) = 56 + E % 2 := by clear hcut hf; omega
      rw [this]
    · right
      rw [hf]
      exact big_lo hee hE4.1 (by omega) h3 hcut.2.1
    · rw [hf]
      exact big_hi hee (by omega) hcut.1

end Go.Proofs.Ytafnplkablkepaa

/-! Roots of whole numbers, rounded down; directions by halves, in plain numbers. -/
namespace Go.Proofs.Ytafnplkablkepaa
open Go Go.RowKit
set_option linter.unusedVariables false

theorem root_sq (n : Nat) (h : n < 72057594037927936) : rt n < 268435456 := lt_of_sq (b := 268435456) (Nat.lt_of_le_of_lt (rt_spec n).1 h)

/-- The root as a number, and the squares beside it. -/
theorem rt_int (n : Nat) : ((rt n : Nat) : Int) * ((rt n : Nat) : Int) ≤ (n : Int) ∧ (n : Int) < ((rt n : Nat) : Int) * ((rt n : Nat) : Int) + 2 * ((rt n : Nat) : Int) + 1 := by
  have h := rt_spec n
  have e : (rt n + 1) * (rt n + 1) = rt n * rt n + 2 * rt n + 1 := by rw [Nat.add_mul, Nat.mul_add]; omega
  rw [← Int.natCast_mul]
  have := h.1
  have := h.2
  omega

def rti (n : Int) : Int := (rt n.toNat : Nat)

theorem rti_spec (n : Int) (h : 0 ≤ n) (h' : n < 72057594037927936) : 0 ≤ rti n ∧ rti n < 268435456 ∧ rti n * rti n ≤ n ∧ n < rti n * rti n + 2 * rti n + 1 := by
  obtain ⟨m, rfl⟩ := Int.eq_ofNat_of_zero_le h
  have a := rt_int m
  have b := root_sq m (by omega)
  unfold rti
  rw [Int.toNat_natCast]
  exact ⟨by omega, by omega, a.1, a.2⟩

theorem sqrt_rti (n : Int) (h : 0 ≤ n) (h' : n < 72057594037927936) : ∃ r : Nat, ∃ t : Int, Ieee.double.sqrt (fi n) = some r ∧ floatToIntVal .f64 r .i64 = some t ∧ (t = rti n ∨ t = rti n + 1) := by
  obtain ⟨m, rfl⟩ := Int.eq_ofNat_of_zero_le h
  obtain ⟨r, t, h1, h2, h3, h4⟩ := sqrt_int m (by omega)
  refine ⟨r, t, h1, h2, ?_⟩
  unfold rti
  rw [Int.toNat_natCast]
  omega

/-- A direction in the first eighth, not nearer to the second axis than a half. -/
def OkD (a b : Int) : Prop := 33554432 ≤ a ∧ a ≤ 67108864 ∧ 0 ≤ b ∧ b ≤ a
/-- The square of the sum of two directions. -/
def sqD (a b c d : Int) : Int := (a + c) * (a + c) + (b + d) * (b + d)
def bisX (a b c d : Int) : Int := (a + c) * 67108864 / rti (sqD a b c d)
def bisY (a b c d : Int) : Int := (b + d) * 67108864 / rti (sqD a b c d)

theorem sq_le_sq' {a b : Int} (ha : 0 ≤ b) (h : a * a ≤ b * b) : a ≤ b := by
  rcases Int.lt_or_le b a with h1 | h1
  · have : b * b < a * a := Int.mul_lt_mul' (by omega) h1 ha (by omega)
    omega
  · exact h1

theorem sizeD {a b c d : Int} (h : OkD a b) (g : OkD c d) : 0 ≤ sqD a b c d ∧ sqD a b c d ≤ 36028797018963968 ∧ a + c ≤ rti (sqD a b c d) ∧ rti (sqD a b c d) ≤ 2 * (a + c) ∧ 67108864 ≤ a + c ∧ a + c ≤ 134217728 ∧ 0 ≤ b + d ∧ b + d ≤ a + c := by
  obtain ⟨h1, h2, h3, h4⟩ := h
  obtain ⟨g1, g2, g3, g4⟩ := g
  unfold sqD
  generalize hx : a + c = x
  generalize hy : b + d = y
  have x1 : 67108864 ≤ x := by omega
  have x2 : x ≤ 134217728 := by omega
  have y1 : 0 ≤ y := by omega
  have y2 : y ≤ x := by omega
  clear hx hy h1 h2 h3 h4 g1 g2 g3 g4
  have e1 : x * x ≤ 134217728 * 134217728 := Int.mul_le_mul x2 x2 (by omega) (by omega)
  have e2 : y * y ≤ x * x := Int.mul_le_mul y2 y2 y1 (by omega)
  have e3 : 0 ≤ x * x := Int.mul_nonneg (by omega) (by omega)
  have e4 : 0 ≤ y * y := Int.mul_nonneg y1 y1
  obtain ⟨s1, s2, s3, s4⟩ := rti_spec (x * x + y * y) (by omega) (by omega)
  generalize rti (x * x + y * y) = s at *
  refine ⟨by omega, by omega, ?_, ?_, x1, x2, y1, y2⟩
  · have : (s + 1) * (s + 1) = s * s + 2 * s + 1 := by grind
    have := sq_le_sq' (a := x) (b := s + 1) (by omega) (by omega)
    rcases Int.lt_or_le s x with h | h
    · have : x = s + 1 := by omega
      subst this
      omega
    · exact h
  · refine sq_le_sq' (by omega) ?_
    have : (2 * x) * (2 * x) = 4 * (x * x) := by grind
    omega

theorem okD_bis {a b c d : Int} (h : OkD a b) (g : OkD c d) : OkD (bisX a b c d) (bisY a b c d) := by
  obtain ⟨h1, h2, h3, h4, h5, h6, h7, h8⟩ := sizeD h g
  unfold bisX bisY
  generalize rti (sqD a b c d) = s at *
  generalize a + c = x at *
  generalize b + d = y at *
  have hs : 0 < s := by omega
  refine ⟨?_, ?_, ?_, ?_⟩
  · rw [Int.le_ediv_iff_mul_le hs]; omega
  · have : x * 67108864 / s < 67108864 + 1 := by
      rw [Int.ediv_lt_iff_lt_mul hs]; omega
    omega
  · exact Int.ediv_nonneg (by omega) (by omega)
  · exact Int.ediv_le_ediv hs (by omega)

/-- The direction of m by halves. -/
def hvGo : Nat → Int → Int → Int → Int → Int → Int → Int → Int × Int
  | 0, _, _, _, a, b, _, _ => (a, b)
  | k + 1, m, low, high, a, b, c, d =>
    if low = m then (a, b)
    else if (low + high) / 2 ≤ m then hvGo k m ((low + high) / 2) high (bisX a b c d) (bisY a b c d) c d
    else hvGo k m low ((low + high) / 2) a b (bisX a b c d) (bisY a b c d)

/-- Where the halves stand: what is left gives r. -/
def HvAt (m : Int) (r : Int × Int) (low high a b c d : Int) : Prop :=
  0 ≤ low ∧ low ≤ m ∧ m < high ∧ high ≤ 524288 ∧ OkD a b ∧ OkD c d ∧ ∃ k : Nat, high - low = 2 ^ k ∧ hvGo (k + 1) m low high a b c d = r

def hvP (m : Int) : Int × Int := hvGo 20 m 0 524288 67108864 0 47453132 47453132

theorem hvAt_start {m : Int} (h0 : 0 ≤ m) (h1 : m < 524288) : HvAt m (hvP m) 0 524288 67108864 0 47453132 47453132 :=
  ⟨by omega, h0, h1, by omega, ⟨by omega, by omega, by omega, by omega⟩, ⟨by omega, by omega, by omega, by omega⟩, 19, by decide, rfl⟩

theorem hvAt_fin {m r low high a b c d} (h : HvAt m r low high a b c d) (e : low = m) : r = (a, b) ∧ OkD a b := by
  obtain ⟨_, _, _, _, ha, _, k, _, hk⟩ := h
  rw [hvGo, if_pos e] at hk
  exact ⟨hk.symm, ha⟩

theorem hvAt_step {m r low high a b c d} (h : HvAt m r low high a b c d) (e : low ≠ m) : 0 ≤ (low + high) / 2 ∧ low < (low + high) / 2 ∧ (low + high) / 2 < high ∧
    ((low + high) / 2 ≤ m → HvAt m r ((low + high) / 2) high (bisX a b c d) (bisY a b c d) c d) ∧
    (m < (low + high) / 2 → HvAt m r low ((low + high) / 2) a b (bisX a b c d) (bisY a b c d)) := by
  obtain ⟨h0, h1, h2, h3, ha, hc, k, hk, hr⟩ := h
  match k, hk, hr with
  | 0, hk, _ => simp at hk; omega
  | k + 1, hk, hr =>
    have hp : (2 : Int) ^ (k + 1) = 2 * 2 ^ k := by rw [Int.pow_succ, Int.mul_comm]
    have hq : (0 : Int) < 2 ^ k := Int.pow_pos (by decide)
    rw [hp] at hk
    generalize (2 : Int) ^ k = t at hk hq hp
    have hm : (low + high) / 2 = low + t := by omega
    rw [hvGo, if_neg e] at hr
    refine ⟨by omega, by omega, by omega, fun hle => ?_, fun hlt => ?_⟩
    · rw [if_pos hle] at hr
      refine ⟨by omega, by omega, by omega, by omega, okD_bis ha hc, hc, k, ?_, hr⟩
      have : (2 : Int) ^ (k + 1) = 2 * 2 ^ k := by rw [Int.pow_succ, Int.mul_comm]
      omega
    · rw [if_neg (by omega)] at hr
      refine ⟨by omega, by omega, by omega, by omega, ha, okD_bis ha hc, k, ?_, hr⟩
      have : (2 : Int) ^ (k + 1) = 2 * 2 ^ k := by rw [Int.pow_succ, Int.mul_comm]
      omega
end Go.Proofs.Ytafnplkablkepaa
