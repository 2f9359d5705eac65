/- Floats of any bits: which hold whole numbers, how they compare with whole numbers, and what is cut off. Plain arithmetic: no program. -/
import Derived.Test.YtafnplkablkepaaFlx

namespace Go.Proofs.Ytafnplkablkepaa
open Ieee

/-- Whether bits hold a whole number. -/
def whB (b : Nat) : Bool := match double.read b with
  | .number _ m e => decide (0 ≤ e) || (m % 2 ^ (-e).toNat == 0)
  | _ => false

/-- What bits hold. -/
structure NumB (b : Nat) (s : Bool) (m : Nat) (e : Int) : Prop where
  read : double.read b = .number s m e
  word : b = double.word s (b % 9223372036854775808)
  form : (m = b % 9223372036854775808 ∧ m < 4503599627370496 ∧ e = -1074) ∨ (∃ q : Nat, 1 ≤ q ∧ q ≤ 2046 ∧ b % 9223372036854775808 + 4503599627370496 = q * 4503599627370496 + m ∧ 4503599627370496 ≤ m ∧ m < 9007199254740992 ∧ e = (q : Int) - 1075)

theorem word_self {b : Nat} (hb : b < 18446744073709551616) : b = double.word (b / 9223372036854775808 % 2 == 1) (b % 9223372036854775808) := by
  unfold Format.word
  rw [d_sign]
  by_cases h : b / 9223372036854775808 % 2 = 1
  · rw [h]; simp; omega
  · have : (b / 9223372036854775808 % 2 == 1) = false := by simpa using h
    rw [this]; simp; omega

theorem read_cases {b : Nat} (hb : b < 18446744073709551616) :
    (∃ s t, double.read b = .nan s t) ∨ (∃ s, double.read b = .infinity s ∧ b % 9223372036854775808 = 9218868437227405312) ∨ ∃ s m e, NumB b s m e := by
  have hw := word_self hb
  have hr : b % 9223372036854775808 < 9223372036854775808 := Nat.mod_lt _ (by decide)
  have hread : double.read b = (if b % 9223372036854775808 < 4503599627370496 then .number (b / 9223372036854775808 % 2 == 1) (b % 9223372036854775808) (-1074)
    else if b % 9223372036854775808 < 9218868437227405312 then .number (b / 9223372036854775808 % 2 == 1) (4503599627370496 + b % 9223372036854775808 % 4503599627370496) (-1074 + ((b % 9223372036854775808 / 4503599627370496 - 1 : Nat) : Int))
    else if b % 9223372036854775808 = 9218868437227405312 then .infinity (b / 9223372036854775808 % 2 == 1)
    else .nan (b / 9223372036854775808 % 2 == 1) (b % 9223372036854775808 - 9218868437227405312)) := by
    unfold Format.read
    simp only [d_sign, d_binade, d_inf, d_least]
  by_cases h1 : b % 9223372036854775808 < 4503599627370496
  · rw [if_pos h1] at hread
    exact .inr (.inr ⟨_, _, _, hread, hw, .inl ⟨rfl, h1, rfl⟩⟩)
  rw [if_neg h1] at hread
  by_cases h2 : b % 9223372036854775808 < 9218868437227405312
  · rw [if_pos h2] at hread
    refine .inr (.inr ⟨_, _, _, hread, hw, .inr ⟨b % 9223372036854775808 / 4503599627370496, ?_, ?_, ?_, ?_, ?_, ?_⟩⟩) <;> omega
  rw [if_neg h2] at hread
  by_cases h3 : b % 9223372036854775808 = 9218868437227405312
  · rw [if_pos h3] at hread
    exact .inr (.inl ⟨_, hread, h3⟩)
  · rw [if_neg h3] at hread
    exact .inl ⟨_, _, hread⟩

theorem NumB.m_lt {b : Nat} {s : Bool} {m : Nat} {e : Int} (h : NumB b s m e) : m < 9007199254740992 := by
  rcases h.form with ⟨_, h, _⟩ | ⟨q, _, _, _, _, h, _⟩ <;> omega
theorem NumB.e_le {b : Nat} {s : Bool} {m : Nat} {e : Int} (h : NumB b s m e) : -1074 ≤ e ∧ e ≤ 971 := by
  rcases h.form with ⟨_, _, h⟩ | ⟨q, _, _, _, _, _, h⟩ <;> omega
theorem NumB.big {b : Nat} {s : Bool} {m : Nat} {e : Int} (h : NumB b s m e) (he : -1074 < e) : 4503599627370496 ≤ m := by
  rcases h.form with ⟨_, _, h⟩ | ⟨q, _, _, _, h, _, _⟩ <;> omega

theorem signed0 (s : Bool) (m : Nat) : signed s m 0 = if s then -(m : Int) else m := by unfold signed; simp

theorem small_not {m K : Nat} (h : m < 4503599627370496) (h0 : 0 < K) (n : Nat) (hn : 52 < n) (hK : (m : Int) = (K : Int) * 2 ^ n) : False := by
  have h3 : m = K * 2 ^ n := by exact_mod_cast hK
  have h4 : 2 ^ n ≤ K * 2 ^ n := Nat.le_mul_of_pos_left _ h0
  have h5 : 2 ^ 52 < 2 ^ n := Nat.pow_lt_pow_right (by decide) hn
  have h6 : (2 : Nat) ^ 52 = 4503599627370496 := by decide
  omega

/-- The value decides the bits. -/
theorem NumB.rp {b : Nat} {s : Bool} {m : Nat} {e k : Int} (h : NumB b s m e) (hm : Mi (signed s m 0) e k) (hk : InF k) : Rp b k := by
  by_cases h0 : k = 0
  · have hv := (Mi_zero hm).2 h0
    have m0 : m = 0 := by rw [signed0] at hv; cases s <;> simp at hv <;> omega
    have hr : b % 9223372036854775808 = 0 := by
      rcases h.form with ⟨a, _, _⟩ | ⟨q, _, _, _, a, _, _⟩ <;> omega
    have hw := h.word
    rw [hr] at hw
    unfold Rp
    rw [h0, fi_zero, hw]
    cases s
    · left; rfl
    · right; exact ⟨rfl, by decide⟩
  · left
    rw [fi_eq h0 hk.1 hk.2, h.word]
    have hK : Mi (m : Int) e (k.natAbs : Int) := by
      rw [signed0] at hm
      cases s
      · simp only [Bool.false_eq_true, if_false] at hm
        have hp := (Mi_pos hm)
        have hm0 : m ≠ 0 := by rintro rfl; exact h0 ((Mi_zero hm).1 rfl)
        have : 0 < k := hp.1 (by omega)
        rw [show ((k.natAbs : Nat) : Int) = k from by omega]; exact hm
      · simp only [if_true] at hm
        have h' := Mi_neg hm
        rw [Int.neg_neg] at h'
        have hp := (Mi_pos h')
        have hm0 : m ≠ 0 := by rintro rfl; exact h0 (by have := (Mi_zero h').1 rfl; omega)
        have : 0 < -k := hp.1 (by omega)
        rw [show ((k.natAbs : Nat) : Int) = -k from by omega]; exact h'
    have hs : s = decide (k < 0) := by
      rw [signed0] at hm
      cases s
      · simp only [Bool.false_eq_true, if_false] at hm
        have hm0 : m ≠ 0 := by rintro rfl; exact h0 ((Mi_zero hm).1 rfl)
        have : 0 < k := (Mi_pos hm).1 (by omega)
        symm; exact decide_eq_false (by omega)
      · simp only [if_true] at hm
        have h' := Mi_neg hm
        rw [Int.neg_neg] at h'
        have hm0 : m ≠ 0 := by rintro rfl; exact h0 (by have := (Mi_zero h').1 rfl; omega)
        have : 0 < -k := (Mi_pos h').1 (by omega)
        symm; exact decide_eq_true (by omega)
    rw [hs]
    have hK0 : 0 < k.natAbs := by omega
    have hK1 : k.natAbs ≤ 9007199254740992 := by have := hk.1; have := hk.2; omega
    obtain ⟨hm0, hlog⟩ := Mi_log hK hK0
    refine congrArg (double.word _) ?_
    rcases h.form with ⟨a1, a2, a3⟩ | ⟨q, a1, a2, a3, a4, a5, a6⟩
    · exfalso
      subst a3
      unfold Mi at hK
      have e1 : ((-1074 : Int)).toNat = 0 := by decide
      have e2 : (-(-1074 : Int)).toNat = 1074 := by decide
      rw [e1, e2, Int.pow_zero, Int.mul_one] at hK
      exact small_not a2 hK0 1074 (by decide) hK
    · have hl : m.log2 = 52 := log2_eq (k := 52) (by simpa using a4) (by simpa using a5)
      rw [hl] at hlog
      have hKl : (k.natAbs.log2 : Int) = q - 1023 := by omega
      have ht : top k.natAbs = m := by
        have g := Mi_top hK0 hK1
        rw [show (k.natAbs.log2 : Int) - 52 = e from by omega] at g
        unfold Mi at g hK
        have := cancel e.toNat (hK.trans g.symm)
        omega
      unfold rung
      rw [ht]
      omega

/-- Whole numbers that are not large. -/
theorem NumB.whole {b : Nat} {s : Bool} {m : Nat} {e : Int} (h : NumB b s m e) (he : e ≤ 0) (hd : m % 2 ^ (-e).toNat = 0) :
    Mi (signed s m 0) e (if s then -((m / 2 ^ (-e).toNat : Nat) : Int) else ((m / 2 ^ (-e).toNat : Nat) : Int)) := by
  apply Mi_signed
  unfold Mi
  have e1 : e.toNat = 0 := by omega
  rw [e1, Int.pow_zero, Int.mul_one]
  have := Nat.div_add_mod m (2 ^ (-e).toNat)
  rw [hd, Nat.add_zero] at this
  have h2 : ((m / 2 ^ (-e).toNat * 2 ^ (-e).toNat : Nat) : Int) = (m : Int) := by rw [Nat.mul_comm]; exact_mod_cast this
  rw [← h2]; push_cast; rfl
theorem div_le_self' (m n : Nat) : m / n ≤ m := Nat.div_le_self m n
theorem NumB.inF {b : Nat} {s : Bool} {m : Nat} {e : Int} (h : NumB b s m e) : InF (if s then -((m / 2 ^ (-e).toNat : Nat) : Int) else ((m / 2 ^ (-e).toNat : Nat) : Int)) := by
  have h1 := div_le_self' m (2 ^ (-e).toNat)
  have h2 := h.m_lt
  unfold InF
  generalize m / 2 ^ (-e).toNat = d at *
  cases s <;> simp only [Bool.false_eq_true, if_false, if_true] <;> omega
theorem whB_num {b : Nat} {s : Bool} {m : Nat} {e : Int} (h : NumB b s m e) : whB b = (decide (0 ≤ e) || (m % 2 ^ (-e).toNat == 0)) := by
  unfold whB; rw [h.read]

theorem nearest_large {m : Nat} (s : Bool) {e : Int} {r q : Nat} (he : 0 ≤ e) (a1 : 1 ≤ q) (a2 : q ≤ 2046) (a3 : r + 4503599627370496 = q * 4503599627370496 + m) (a4 : 4503599627370496 ≤ m) (a5 : m < 9007199254740992) (a6 : e = (q : Int) - 1075) : double.nearest s (m <<< e.toNat) 0 = double.word s r := by
  have hl : m.log2 = 52 := log2_eq (k := 52) (by simpa using a4) (by simpa using a5)
  have hl2 : (m <<< e.toNat).log2 = 52 + e.toNat := by rw [Nat.shiftLeft_eq, log2_mul_pow _ _ (by omega), hl]
  have hne : m <<< e.toNat ≠ 0 := by
    rw [Nat.shiftLeft_eq]
    have := Nat.mul_pos (show 0 < m by omega) (Nat.two_pow_pos e.toNat)
    omega
  have hlast : max (0 + ((m <<< e.toNat).log2 : Int) - (double.fractionBits : Int)) double.leastPlace = e := by
    rw [hl2, d_least, d_frac]; omega
  have hc := cut_exact .even s ((m <<< e.toNat) <<< (0 - e).toNat) (e - 0).toNat m (by
    have : (0 - e).toNat = 0 := by omega
    rw [this, Nat.shiftLeft_zero, Nat.shiftLeft_eq, show (e - 0).toNat = e.toNat from by omega])
  unfold Format.nearest
  rewrite [if_neg hne]
  simp only [hlast]
  rewrite [hc, d_least, d_binade, d_inf]
  have e5 : (e - -1074).toNat = q - 1 := by clear hlast hc hl2 hne hl; omega
  rewrite [e5]
  have hX : min ((q - 1) * 4503599627370496 + m) 9218868437227405312 = r := by clear e5 hlast hc hl2 hne hl; omega
  rewrite [hX]
  exact Eq.refl _

/-- A large whole number is its own whole part. -/
theorem NumB.large {b : Nat} {s : Bool} {m : Nat} {e : Int} (h : NumB b s m e) (he : 0 ≤ e) : double.nearest s (m <<< e.toNat) 0 = b := by
  rcases h.form with ⟨_, _, g⟩ | ⟨q, a1, a2, a3, a4, a5, a6⟩
  · omega
  · exact (nearest_large s he a1 a2 a3 a4 a5 a6).trans h.word.symm

/-- Numbers compare as whole ones at the lesser place. -/
theorem order_num {a b : Nat} {s t : Bool} {m n : Nat} {i j : Int} (ha : double.read a = .number s m i) (hb : double.read b = .number t n j) :
    double.order a b = some (compare (signed s m (i - min i j).toNat) (signed t n (j - min i j).toNat)) := by
  show (double.read a).order (double.read b) = _
  rw [ha, hb]; rfl
theorem order_refl {a : Nat} {s : Bool} {m : Nat} {i : Int} (ha : double.read a = .number s m i) : double.order a a = some .eq := by
  rw [order_num ha ha]; simp [compare, compareOfLessAndEq]
theorem cmp_eq {x y : Int} : (some (compare x y) == some Ordering.eq) = decide (x = y) := by
  simp only [compare, compareOfLessAndEq]
  by_cases h1 : x < y
  · rw [if_pos h1]; symm; simp; omega
  · rw [if_neg h1]
    by_cases h2 : x = y
    · rw [if_pos h2]; simp [h2]
    · rw [if_neg h2]; simp [h2]
theorem cmp_gt {x y : Int} : (some (compare x y) == some Ordering.gt) = decide (y < x) := by
  simp only [compare, compareOfLessAndEq]
  by_cases h1 : x < y
  · rw [if_pos h1]; symm; simp; omega
  · rw [if_neg h1]
    by_cases h2 : x = y
    · rw [if_pos h2]; simp [h2]
    · rw [if_neg h2]; simp; omega
theorem cmp_lt {x y : Int} : (some (compare x y) == some Ordering.lt) = decide (x < y) := by
  simp only [compare, compareOfLessAndEq]
  by_cases h1 : x < y
  · rw [if_pos h1]; simp [h1]
  · rw [if_neg h1]
    by_cases h2 : x = y
    · rw [if_pos h2]; simp [h2]
    · rw [if_neg h2]; simp [h1]

/-- A number that is not whole is not the one that is left when it is cut. -/
theorem cut_ne {a b : Nat} {s : Bool} {m : Nat} {e : Int} (h : NumB b s m e) (he : e < 0) (hd : m % 2 ^ (-e).toNat ≠ 0) {k : Int} (ha : Rp a k) (hk : InF k) : (double.order a b == some .eq) = false := by
  obtain ⟨t, n, j, hr, hMi, _⟩ := read_rp ha hk.1 hk.2
  rw [order_num hr h.read, cmp_eq]
  refine decide_eq_false fun heq => hd ?_
  rw [signed_eq t n, signed_eq s m] at heq
  have g := Mi_shift hMi (Int.min_le_left j e)
  rw [heq] at g
  -- the value k is m * 2 ^ e
  unfold Mi at g
  have g2 : signed s m 0 * 2 ^ ((e - min j e).toNat + (min j e).toNat) = k * 2 ^ (-(min j e)).toNat := by
    rw [Int.pow_add, ← Int.mul_assoc]; exact g
  have e0 : (min j e).toNat = 0 := by omega
  have e1 : (-(min j e)).toNat = (-e).toNat + (e - min j e).toNat := by omega
  rw [e0, Nat.add_zero, e1, Int.pow_add, ← Int.mul_assoc] at g2
  have g3 := cancel _ g2
  have g4 : m = k.natAbs * 2 ^ (-e).toNat := by
    have := congrArg Int.natAbs g3
    rw [signed_natAbs, Int.natAbs_mul, Int.natAbs_pow] at this
    simpa using this
  rw [g4]; exact Nat.mul_mod_left _ _
end Go.Proofs.Ytafnplkablkepaa

/-! Floats of any bits: sizes, what is cut off, comparisons with whole numbers. Plain arithmetic: no program. -/
namespace Go.Proofs.Ytafnplkablkepaa
open Ieee

/-- The size of what bits hold. -/
theorem abs_read {b : Nat} (hb : b < 18446744073709551616) : b % 9223372036854775808 < 18446744073709551616 := by omega
theorem NumB.abs {b : Nat} {s : Bool} {m : Nat} {e : Int} (h : NumB b s m e) : double.read (b % 9223372036854775808) = .number false m e := by
  unfold Format.read
  simp only [d_sign, d_binade, d_inf, d_least, Nat.mod_mod]
  have e1 : (b % 9223372036854775808 / 9223372036854775808 % 2 == 1) = false := by
    rw [Nat.div_eq_of_lt (Nat.mod_lt _ (by decide))]; rfl
  rw [e1]
  rcases h.form with ⟨a1, a2, a3⟩ | ⟨q, a1, a2, a3, a4, a5, a6⟩
  · rw [← a1, if_pos a2, a3]
  · generalize b % 9223372036854775808 = r at *
    rw [if_neg (by omega), if_pos (by omega)]
    have e2 : 4503599627370496 + r % 4503599627370496 = m := by omega
    have e3 : (-1074 : Int) + ((r / 4503599627370496 - 1 : Nat) : Int) = e := by omega
    rw [e2, e3]
theorem inf_abs {b : Nat} (h : b % 9223372036854775808 = 9218868437227405312) : double.read (b % 9223372036854775808) = .infinity false := by
  rw [h]; decide +kernel
theorem nan_abs {b : Nat} {s : Bool} {t : Nat} (hb : b < 18446744073709551616) (h : double.read b = .nan s t) : ∃ t', double.read (b % 9223372036854775808) = .nan false t' := by
  rcases read_cases (abs_read hb) with ⟨s', t', g⟩ | ⟨s', g, g2⟩ | ⟨s', m, e, g⟩
  · refine ⟨t', ?_⟩
    rw [g]; congr 1
    unfold Format.read at g
    simp only [d_sign, d_binade, d_inf, d_least, Nat.mod_mod] at g
    have e1 : (b % 9223372036854775808 / 9223372036854775808 % 2 == 1) = false := by
      rw [Nat.div_eq_of_lt (Nat.mod_lt _ (by decide))]; rfl
    rw [e1] at g
    split at g
    · cases g
    split at g
    · cases g
    split at g
    · cases g
    · cases g; rfl
  · exfalso
    rw [Nat.mod_mod] at g2
    unfold Format.read at h
    simp only [d_sign, d_binade, d_inf, d_least, g2] at h
    simp at h
  · exfalso
    have f := g.form
    rw [Nat.mod_mod] at f
    unfold Format.read at h
    simp only [d_sign, d_binade, d_inf, d_least] at h
    generalize b % 9223372036854775808 = r at *
    rcases f with ⟨a1, a2, a3⟩ | ⟨q, a1, a2, a3, a4, a5, a6⟩
    · rw [if_pos (by omega)] at h; cases h
    · rw [if_neg (by omega), if_pos (by omega)] at h; cases h

/-- No number is beyond the greatest one. -/
theorem NumB.fin {b : Nat} {s : Bool} {m : Nat} {e : Int} (h : NumB b s m e) : (double.order (b % 9223372036854775808) 9218868437227405311 == some .gt) = false := by
  rw [order_num h.abs read_max, cmp_gt]
  refine decide_eq_false ?_
  have he := h.e_le.2
  have hm := h.m_lt
  have e0 : min e 971 = e := by omega
  rw [e0, Int.sub_self, Int.toNat_zero]
  rw [signed_eq false 9007199254740991, signed0, signed0]
  simp only [Bool.false_eq_true, if_false, Int.toNat_zero]
  have hp := pow_pos (971 - e).toNat
  generalize (2 : Int) ^ (971 - e).toNat = p at *
  have : (9007199254740991 : Int) * 1 ≤ 9007199254740991 * p := Int.mul_le_mul_of_nonneg_left (by omega) (by omega)
  have c : ((9007199254740991 : Nat) : Int) = 9007199254740991 := rfl
  omega
theorem inf_gt {b : Nat} (h : b % 9223372036854775808 = 9218868437227405312) : (double.order (b % 9223372036854775808) 9218868437227405311 == some .gt) = true := by
  rw [h]; decide +kernel
theorem nan_order {a b : Nat} {s : Bool} {t : Nat} (h : double.read a = .nan s t) : double.order a b = none := by
  show (double.read a).order (double.read b) = none
  rw [h]; cases double.read b <;> rfl
theorem nan_order' {a b : Nat} {s : Bool} {t : Nat} (h : double.read b = .nan s t) : double.order a b = none := by
  show (double.read a).order (double.read b) = none
  rw [h]; cases double.read a <;> rfl

/-- The whole part, as bits. -/
def trB (b : Nat) : Nat := double.write ((double.read b).integral .zero)
theorem cut_zero_ (s : Bool) (m d : Nat) : Toward.zero.cut s m d = m / 2 ^ d := by
  unfold Toward.cut
  simp only [Bool.toNat_false, Nat.add_zero, Nat.one_shiftLeft]
  by_cases h : d ≤ m.log2 + 2
  · rw [Nat.min_eq_left h]
  · have h0 : m < 2 ^ (m.log2 + 2) := Nat.lt_of_lt_of_le Nat.lt_log2_self (Nat.pow_le_pow_right (by decide) (by omega))
    have h1 : m < 2 ^ d := Nat.lt_of_lt_of_le h0 (Nat.pow_le_pow_right (by decide) (by omega))
    rw [Nat.min_eq_right (by omega), Nat.div_eq_of_lt h0, Nat.div_eq_of_lt h1]
theorem integral_num {d : Datum} {s : Bool} {m : Nat} {e : Int} (h : d = .number s m e) : d.integral .zero = .number s ((m <<< e.toNat) / 2 ^ (-e).toNat) 0 := by
  subst h
  unfold Datum.integral
  simp only [cut_zero_]
theorem small_rp (s : Bool) {K : Nat} (hK : K < 9007199254740992) : Rp (double.write (.number s K 0)) (if s then -(K : Int) else K) := by
  have := write_rp (v := if s then -(K : Int) else K) (e := 0) (k := if s then -(K : Int) else K) s (by unfold Mi; simp) (by cases s <;> simp <;> omega) (by cases s <;> simp <;> omega) (by cases s <;> simp <;> omega)
  have e1 : (if s = true then -(K : Int) else (K : Int)).natAbs = K := by cases s <;> simp
  rw [e1] at this; exact this
theorem shl_neg {m : Nat} {e : Int} (he : e ≤ 0) : m <<< e.toNat = m := by
  have : e.toNat = 0 := by omega
  rw [this, Nat.shiftLeft_zero]
theorem pow_neg0 {e : Int} (he : 0 ≤ e) (n : Nat) : n / 2 ^ (-e).toNat = n := by
  have : (-e).toNat = 0 := by omega
  rw [this, Nat.pow_zero, Nat.div_one]
theorem InF_of (s : Bool) {K : Nat} (h : K < 9007199254740992) : InF (if s then -(K : Int) else K) := by
  unfold InF; cases s <;> simp <;> omega

/-- Just the whole numbers are their whole parts. -/
theorem NumB.trunc {b : Nat} {s : Bool} {m : Nat} {e : Int} (h : NumB b s m e) : (double.order (trB b) b == some .eq) = whB b := by
  rw [whB_num h]
  by_cases he : 0 ≤ e
  · have e1 : trB b = b := by
      unfold trB
      rw [integral_num h.read, pow_neg0 he]
      exact h.large he
    rw [e1, order_refl h.read, decide_eq_true he]; rfl
  · have hr : Rp (trB b) (if s then -((m / 2 ^ (-e).toNat : Nat) : Int) else ((m / 2 ^ (-e).toNat : Nat) : Int)) := by
      unfold trB
      rw [integral_num h.read, shl_neg (by omega)]
      exact small_rp s (Nat.lt_of_le_of_lt (div_le_self' _ _) h.m_lt)
    rw [decide_eq_false he, Bool.false_or]
    by_cases hd : m % 2 ^ (-e).toNat = 0
    · have hb := h.rp (h.whole (by omega) hd) h.inF
      rw [show double.order (trB b) b = some (compare _ _) from order_rp hr hb h.inF h.inF, cmp_eq, hd]
      simp
    · rw [cut_ne h (by omega) hd hr h.inF]
      symm; simpa using hd

/-- A number less itself. -/
theorem NumB.sub {b : Nat} {s : Bool} {m : Nat} {e : Int} (h : NumB b s m e) : floatBits .sub .f64 b b = some 0 := by
  show ((double.read b).sum (double.read b).opposite).map double.write = _
  rw [h.read]
  show ((Datum.number s m e).sum (Datum.number (!s) m e)).map double.write = _
  unfold Datum.sum
  have hz : signed s m (e - min e e).toNat + signed (!s) m (e - min e e).toNat = 0 := by
    rw [signed_eq s, signed_eq (!s), signed0, signed0, ← Int.add_mul]
    have : (if s = true then -(m : Int) else (m : Int)) + (if (!s) = true then -(m : Int) else (m : Int)) = 0 := by cases s <;> simp <;> omega
    rw [this, Int.zero_mul]
  simp only [hz, if_true]
  cases s <;> rfl
theorem nan_sub {b : Nat} {s : Bool} {t : Nat} (h : double.read b = .nan s t) : floatBits .sub .f64 b b = none := by
  show ((double.read b).sum (double.read b).opposite).map double.write = _
  rw [h]; rfl
theorem inf_sub {b : Nat} {s : Bool} (h : double.read b = .infinity s) : floatBits .sub .f64 b b = none := by
  show ((double.read b).sum (double.read b).opposite).map double.write = _
  rw [h]
  show ((Datum.infinity s).sum (Datum.infinity (!s))).map double.write = _
  cases s <;> rfl

theorem read_lo : double.read 14069741636278059008 = .number true 5000000000000000 1 := by decide +kernel
theorem read_hi : double.read 4846369599423283200 = .number false 5000000000000000 1 := by decide +kernel
/-- Numbers between -10^16 and 10^16. -/
def midB (b : Nat) : Bool := (double.order b 14069741636278059008 == some .gt || double.order b 14069741636278059008 == some .eq) && (double.order b 4846369599423283200 == some .lt || double.order b 4846369599423283200 == some .eq)
theorem ge_iff {x y : Int} : (some (compare x y) == some Ordering.gt || some (compare x y) == some Ordering.eq) = decide (y ≤ x) := by
  rw [cmp_gt, cmp_eq]
  by_cases h : y ≤ x
  · rw [decide_eq_true h]; simp; omega
  · rw [decide_eq_false h]; simp; omega
theorem le_iff {x y : Int} : (some (compare x y) == some Ordering.lt || some (compare x y) == some Ordering.eq) = decide (x ≤ y) := by
  rw [cmp_lt, cmp_eq]
  by_cases h : x ≤ y
  · rw [decide_eq_true h]; simp; omega
  · rw [decide_eq_false h]; simp; omega
theorem two_le_pow {n : Nat} (h : 1 ≤ n) : (2 : Int) ≤ 2 ^ n := big_pow n h
theorem NumB.mid_small {b : Nat} {s : Bool} {m : Nat} {e : Int} (h : NumB b s m e) (he : e ≤ 0) : midB b = true := by
  unfold midB
  rw [order_num h.read read_lo, order_num h.read read_hi, ge_iff, le_iff]
  have hm := h.m_lt
  have e0 : min e 1 = e := by omega
  rw [e0, Int.sub_self, Int.toNat_zero]
  rw [signed_eq true 5000000000000000, signed_eq false 5000000000000000, signed0, signed0, signed0]
  have hp := two_le_pow (n := (1 - e).toNat) (by omega)
  generalize (2 : Int) ^ (1 - e).toNat = p at *
  have : (5000000000000000 : Int) * 2 ≤ 5000000000000000 * p := Int.mul_le_mul_of_nonneg_left hp (by omega)
  simp only [Bool.false_eq_true, if_false, if_true, Int.toNat_zero, Bool.and_eq_true, decide_eq_true_eq]
  have c : ((5000000000000000 : Nat) : Int) = 5000000000000000 := rfl
  rw [c, Int.neg_mul]
  cases s <;> simp <;> omega
theorem NumB.mid_big {b : Nat} {s : Bool} {m : Nat} {e : Int} (h : NumB b s m e) (he : 1 ≤ e) (hm : midB b = true) : m <<< e.toNat ≤ 10000000000000000 := by
  unfold midB at hm
  rw [order_num h.read read_lo, order_num h.read read_hi, ge_iff, le_iff] at hm
  have e0 : min e 1 = 1 := by omega
  rw [e0, Int.sub_self, Int.toNat_zero] at hm
  rw [signed_eq s m, signed0, signed0, signed0] at hm
  simp only [Bool.false_eq_true, if_false, if_true, Int.toNat_zero, Bool.and_eq_true, decide_eq_true_eq] at hm
  have c : ((5000000000000000 : Nat) : Int) = 5000000000000000 := rfl
  rw [c] at hm
  rw [Nat.shiftLeft_eq]
  have e2 : e.toNat = (e - 1).toNat + 1 := by omega
  rw [e2, Nat.pow_succ]
  have hq : (m : Int) * 2 ^ (e - 1).toNat ≤ 5000000000000000 := by
    cases s
    · simp only [Bool.false_eq_true, if_false] at hm; exact hm.2
    · simp only [if_true] at hm; rw [Int.neg_mul] at hm; omega
  have hq' : ((m * 2 ^ (e - 1).toNat : Nat) : Int) ≤ 5000000000000000 := by push_cast; exact hq
  generalize 2 ^ (e - 1).toNat = p at *
  rw [← Nat.mul_assoc]
  omega

/-- What is converted to an int, and back. -/
def inB (b : Nat) : Int := match double.read b with
  | .number s m e => if s then -(((m <<< e.toNat) / 2 ^ (-e).toNat : Nat) : Int) else (((m <<< e.toNat) / 2 ^ (-e).toNat : Nat) : Int)
  | _ => 0
theorem NumB.in_eq {b : Nat} {s : Bool} {m : Nat} {e : Int} (h : NumB b s m e) : inB b = if s then -(((m <<< e.toNat) / 2 ^ (-e).toNat : Nat) : Int) else (((m <<< e.toNat) / 2 ^ (-e).toNat : Nat) : Int) := by
  unfold inB; rw [h.read]
theorem NumB.toInt {b : Nat} {s : Bool} {m : Nat} {e : Int} (h : NumB b s m e) (hm : midB b = true) : floatToIntVal .f64 b .i64 = some (inB b) := by
  have hle : (m <<< e.toNat) / 2 ^ (-e).toNat ≤ 10000000000000000 := by
    by_cases he : 1 ≤ e
    · rw [pow_neg0 (by omega)]; exact h.mid_big he hm
    · rw [shl_neg (by omega)]
      have h1 := div_le_self' m (2 ^ (-e).toNat)
      have h2 := h.m_lt
      omega
  have hi := h.in_eq
  unfold floatToIntVal
  have ht : (FloatKind.f64.decode b).toInt .zero = some (inB b) := by
    show (double.read b).toInt .zero = _
    unfold Datum.toInt
    rw [integral_num h.read]
    simp only [signed0, hi]
  rw [ht]
  simp only
  rw [if_pos]
  rw [hi]
  have c1 : IntKind.i64.min = -9223372036854775808 := by decide
  have c2 : IntKind.i64.max = 9223372036854775807 := by decide
  rw [c1, c2]
  generalize (m <<< e.toNat) / 2 ^ (-e).toNat = d at *
  cases s <;> simp <;> omega
theorem NumB.back {b : Nat} {s : Bool} {m : Nat} {e : Int} (h : NumB b s m e) : (double.order (fi (inB b)) b == some .eq) = whB b := by
  rw [whB_num h, h.in_eq]
  by_cases he : 0 ≤ e
  · rw [decide_eq_true he, pow_neg0 he]
    by_cases h1 : 1 ≤ e
    · have hb := h.big (by omega)
      have hne : 0 < m <<< e.toNat := by
        rw [Nat.shiftLeft_eq]; exact Nat.mul_pos (by omega) (Nat.two_pow_pos _)
      have e1 : fi (if s = true then -((m <<< e.toNat : Nat) : Int) else ((m <<< e.toNat : Nat) : Int)) = b := by
        refine Eq.trans ?_ (h.large he)
        show double.nearest (decide (_ < 0)) (Int.natAbs _) 0 = _
        generalize m <<< e.toNat = K at *
        have s1 : decide ((if s = true then -(K : Int) else (K : Int)) < 0) = s := by cases s <;> simp <;> omega
        have s2 : (if s = true then -(K : Int) else (K : Int)).natAbs = K := by cases s <;> simp
        rw [s1, s2]
      rw [e1, order_refl h.read]; rfl
    · have e0 : e = 0 := by omega
      subst e0
      have hm : m <<< (0 : Int).toNat = m := Nat.shiftLeft_zero
      rw [hm]
      have hb := h.rp (k := if s then -(m : Int) else m) (by rw [signed0]; unfold Mi; simp) (InF_of s h.m_lt)
      rw [show double.order _ b = some (compare _ _) from order_rp (Rp_fi _) hb (InF_of s h.m_lt) (InF_of s h.m_lt), cmp_eq]; simp
  · rw [decide_eq_false he, Bool.false_or, shl_neg (by omega)]
    by_cases hd : m % 2 ^ (-e).toNat = 0
    · have hb := h.rp (h.whole (by omega) hd) h.inF
      rw [show double.order _ b = some (compare _ _) from order_rp (Rp_fi _) hb h.inF h.inF, cmp_eq, hd]
      simp
    · rw [cut_ne h (by omega) hd (Rp_fi _) h.inF]
      symm; simpa using hd
theorem NumB.large_whole {b : Nat} {s : Bool} {m : Nat} {e : Int} (h : NumB b s m e) (hm : midB b = false) : whB b = true := by
  rw [whB_num h]
  by_cases he : e ≤ 0
  · rw [h.mid_small he] at hm; cases hm
  · rw [decide_eq_true (show 0 ≤ e by omega)]; rfl

/-- Whether the size is greater than M. -/
def bigB (b : Nat) (M : Int) : Bool := double.order (b % 9223372036854775808) (fi M) == some .gt
theorem read_fi {M : Int} (h0 : 0 < M) (hM : M ≤ 9007199254740992) : double.read (fi M) = .number false (top M.natAbs) ((M.natAbs.log2 : Int) - 52) ∧ double.read (fi (-M)) = .number true (top M.natAbs) ((M.natAbs.log2 : Int) - 52) := by
  constructor
  · rw [fi_eq (by omega) (by omega) hM, decide_eq_false (by omega)]
    exact read_word false (by omega) (by omega)
  · rw [fi_eq (by omega) (by omega) (by omega), decide_eq_true (by omega), Int.natAbs_neg]
    exact read_word true (by omega) (by omega)
theorem NumB.big_two {b : Nat} {s : Bool} {m : Nat} {e M : Int} (h : NumB b s m e) (h0 : 0 < M) (hM : M ≤ 9007199254740992) :
    (double.order b (fi M) == some .gt || double.order b (fi (-M)) == some .lt) = bigB b M := by
  obtain ⟨r1, r2⟩ := read_fi h0 hM
  unfold bigB
  rw [order_num h.read r1, order_num h.read r2, order_num h.abs r1, cmp_gt, cmp_lt, cmp_gt]
  have ht := (top_bd (K := M.natAbs) (by omega) (by omega)).1
  generalize top M.natAbs = t at *
  generalize (M.natAbs.log2 : Int) - 52 = j at *
  rw [signed_eq s m, signed_eq false t, signed_eq true t, signed_eq false m, signed0, signed0, signed0, signed0]
  have hp := pow_pos (e - min e j).toNat
  have hq := pow_pos (j - min e j).toNat
  generalize (2 : Int) ^ (e - min e j).toNat = p at *
  generalize (2 : Int) ^ (j - min e j).toNat = q at *
  have a1 : 0 ≤ (m : Int) * p := Int.mul_nonneg (by omega) (by omega)
  have a2 : 0 ≤ (t : Int) * q := Int.mul_nonneg (by omega) (by omega)
  simp only [Bool.false_eq_true, if_false, if_true, Int.neg_mul]
  generalize (t : Int) * q = T at *
  cases s
  · simp only [Bool.false_eq_true, if_false]
    generalize (m : Int) * p = A at *
    by_cases h : T < A
    · rw [decide_eq_true h]; rfl
    · rw [decide_eq_false h, decide_eq_false (by omega)]; rfl
  · simp only [if_true, Int.neg_mul]
    generalize (m : Int) * p = A at *
    by_cases h : T < A
    · rw [decide_eq_true h, decide_eq_true (show -A < -T by omega), Bool.or_true]
    · rw [decide_eq_false h, decide_eq_false (show ¬ T < -A by omega), decide_eq_false (show ¬ -A < -T by omega)]; rfl
/-- What is whole, and not too great. -/
theorem NumB.small {b : Nat} {s : Bool} {m : Nat} {e M : Int} (h : NumB b s m e) (h0 : 0 < M) (hM : M ≤ 4503599627370496) (hw : whB b = true) (hb : bigB b M = false) : ∃ k, Rp b k ∧ -M ≤ k ∧ k ≤ M := by
  obtain ⟨r1, _⟩ := read_fi h0 (by omega)
  unfold bigB at hb
  rw [order_num h.abs r1, cmp_gt] at hb
  have hb := of_decide_eq_false hb
  have hMi := Mi_top (K := M.natAbs) (by omega) (by omega)
  have hMM : ((M.natAbs : Nat) : Int) = M := by omega
  rw [hMM] at hMi
  have ht := (top_bd (K := M.natAbs) (by omega) (by omega)).1
  generalize top M.natAbs = t at *
  generalize (M.natAbs.log2 : Int) - 52 = j at *
  rw [signed_eq false t, signed_eq false m, signed0, signed0] at hb
  simp only [Bool.false_eq_true, if_false] at hb
  by_cases he : e ≤ 0
  · have hd : m % 2 ^ (-e).toNat = 0 := by
      rw [whB_num h] at hw
      by_cases h00 : e = 0
      · subst h00; simp [Nat.mod_one]
      · rw [decide_eq_false (by omega), Bool.false_or] at hw; simpa using hw
    have hk := h.whole he hd
    refine ⟨_, h.rp hk h.inF, ?_⟩
    -- sizes: m * 2^e ≤ M
    have hK : Mi (m : Int) e ((m / 2 ^ (-e).toNat : Nat) : Int) := by
      cases s
      · simpa [signed0] using hk
      · have := Mi_neg hk
        simpa [signed0] using this
    have g1 := Mi_shift hK (Int.min_le_left e j)
    have g2 := Mi_shift hMi (Int.min_le_right e j)
    have g3 := Mi_lt g2 g1
    have g4 : ¬ M < ((m / 2 ^ (-e).toNat : Nat) : Int) := fun hh => hb (g3.2 hh)
    generalize ((m / 2 ^ (-e).toNat : Nat) : Int) = K at *
    have : 0 ≤ K := by
      by_cases h0K : 0 ≤ K
      · exact h0K
      · exfalso
        have g := Mi_neg hK
        have := (Mi_pos g).2 (by omega)
        omega
    cases s <;> simp <;> omega
  · exfalso
    have hm := h.big (by omega)
    -- M < m * 2^e
    have hbig : Mi (m : Int) e ((m : Int) * 2 ^ e.toNat) := by
      unfold Mi
      have : (-e).toNat = 0 := by omega
      rw [this, Int.pow_zero, Int.mul_one]
    have g1 := Mi_shift hbig (Int.min_le_left e j)
    have g2 := Mi_shift hMi (Int.min_le_right e j)
    have g3 := Mi_lt g2 g1
    refine hb (g3.2 ?_)
    have hp := two_le_pow (n := e.toNat) (by omega)
    have := Int.mul_le_mul_of_nonneg_left hp (show (0 : Int) ≤ (m : Int) by omega)
    omega
/-- Of numbers that hold such a whole one both are so. -/
theorem rp_num {b : Nat} {k : Int} (h : Rp b k) (hk : InF k) : ∃ s m e, NumB b s m e := by
  obtain ⟨s, m, e, hr, _, _⟩ := read_rp h hk.1 hk.2
  rcases read_cases (rp_lt h hk) with ⟨s', t', g⟩ | ⟨s', g, _⟩ | g
  · rw [hr] at g; cases g
  · rw [hr] at g; cases g
  · exact g
end Go.Proofs.Ytafnplkablkepaa
