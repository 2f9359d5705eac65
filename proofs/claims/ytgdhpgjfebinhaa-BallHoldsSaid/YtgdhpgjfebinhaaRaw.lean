/- Floats of any bits: which hold whole numbers, how they compare with whole numbers, and what is cut off. Plain arithmetic: no program. -/
import Derived.Test.YtgdhpgjfebinhaaFlx
namespace Go.Proofs.Ytgdhpgjfebinhaa
open Ieee

/-- Whether bits hold a whole number. -/
def whB (b : Nat) : Bool := match double.read b with
  | .number _ m e => decide (0 ≤ e) || (m % 2 ^ (-e).toNat == 0)
  | _ => false

/-- What bits hold. -/
structure NumB (b : Nat) (s : Bool) (m : Nat) (e : Int) : Prop where
  read : double.read b = .number s m e
  word : b = double.word s (b % 9223372036854775808)
  form : (m = b % 9223372036854775808 ∧ m < 4503599627370496 ∧ e = -1074) ∨ (∃ q : Nat, 1 ≤ q ∧ q ≤ 2046 ∧ b % 9223372036854775808 + 4503599627370496 = q * 4503599627370496 + m ∧ 4503599627370496 ≤ m ∧ m < 9007199254740992 ∧ e = (q : Int) - 1075)

theorem word_self {b : Nat} (hb : b < 18446744073709551616) : b = double.word (b / 9223372036854775808 % 2 == 1) (b % 9223372036854775808) := by
  unfold Format.word
  rw [d_sign]
  by_cases h : b / 9223372036854775808 % 2 = 1
  · rw [h]; simp; omega
  · have : (b / 9223372036854775808 % 2 == 1) = false := by simpa using h
    rw [this]; simp; omega

theorem read_cases {b : Nat} (hb : b < 18446744073709551616) :
    (∃ s t, double.read b = .nan s t) ∨ (∃ s, double.read b = .infinity s ∧ b % 9223372036854775808 = 9218868437227405312) ∨ ∃ s m e, NumB b s m e := by
  have hw := word_self hb
  have hr : b % 9223372036854775808 < 9223372036854775808 := Nat.mod_lt _ (by decide)
  have hread : double.read b = (if b % 9223372036854775808 < 4503599627370496 then .number (b / 9223372036854775808 % 2 == 1) (b % 9223372036854775808) (-1074)
    else if b % 9223372036854775808 < 9218868437227405312 then .number (b / 9223372036854775808 % 2 == 1) (4503599627370496 + b % 9223372036854775808 % 4503599627370496) (-1074 + ((b % 9223372036854775808 / 4503599627370496 - 1 : Nat) : Int))
    else if b % 9223372036854775808 = 9218868437227405312 then .infinity (b / 9223372036854775808 % 2 == 1)
    else .nan (b / 9223372036854775808 % 2 == 1) (b % 9223372036854775808 - 9218868437227405312)) := by
    unfold Format.read
    simp only [d_sign, d_binade, d_inf, d_least]
  by_cases h1 : b % 9223372036854775808 < 4503599627370496
  · rw [if_pos h1] at hread
    exact .inr (.inr ⟨_, _, _, hread, hw, .inl ⟨rfl, h1, rfl⟩⟩)
  rw [if_neg h1] at hread
  by_cases h2 : b % 9223372036854775808 < 9218868437227405312
  · rw [if_pos h2] at hread
    refine .inr (.inr ⟨_, _, _, hread, hw, .inr ⟨b % 9223372036854775808 / 4503599627370496, ?_, ?_, ?_, ?_, ?_, ?_⟩⟩) <;> omega
  rw [if_neg h2] at hread
  by_cases h3 : b % 9223372036854775808 = 9218868437227405312
  · rw [if_pos h3] at hread
    exact .inr (.inl ⟨_, hread, h3⟩)
  · rw [if_neg h3] at hread
    exact .inl ⟨_, _, hread⟩

theorem NumB.m_lt {b : Nat} {s : Bool} {m : Nat} {e : Int} (h : NumB b s m e) : m < 9007199254740992 := by
  rcases h.form with ⟨_, h, _⟩ | ⟨q, _, _, _, _, h, _⟩ <;> omega
theorem NumB.e_le {b : Nat} {s : Bool} {m : Nat} {e : Int} (h : NumB b s m e) : -1074 ≤ e ∧ e ≤ 971 := by
  rcases h.form with ⟨_, _, h⟩ | ⟨q, _, _, _, _, _, h⟩ <;> omega
theorem NumB.big {b : Nat} {s : Bool} {m : Nat} {e : Int} (h : NumB b s m e) (he : -1074 < e) : 4503599627370496 ≤ m := by
  rcases h.form with ⟨_, _, h⟩ | ⟨q, _, _, _, h, _, _⟩ <;> omega

theorem signed0 (s : Bool) (m : Nat) : signed s m 0 = if s then -(m : Int) else m := by unfold signed; simp

theorem small_not {m K : Nat} (h : m < 4503599627370496) (h0 : 0 < K) (n : Nat) (hn : 52 < n) (hK : (m : Int) = (K : Int) * 2 ^ n) : False := by
  have h3 : m = K * 2 ^ n := by exact_mod_cast hK
  have h4 : 2 ^ n ≤ K * 2 ^ n := Nat.le_mul_of_pos_left _ h0
  have h5 : 2 ^ 52 < 2 ^ n := Nat.pow_lt_pow_right (by decide) hn
  have h6 : (2 : Nat) ^ 52 = 4503599627370496 := by decide
  omega

/-- The value decides the bits. -/
theorem NumB.rp {b : Nat} {s : Bool} {m : Nat} {e k : Int} (h : NumB b s m e) (hm : Mi (signed s m 0) e k) (hk : InF k) : Rp b k := by
  by_cases h0 : k = 0
  · have hv := (Mi_zero hm).2 h0
    have m0 : m = 0 := by rw [signed0] at hv; cases s <;> simp at hv <;> omega
    have hr : b % 9223372036854775808 = 0 := by
      rcases h.form with ⟨a, _, _⟩ | ⟨q, _, _, _, a, _, _⟩ <;> omega
    have hw := h.word
    rw [hr] at hw
    unfold Rp
    rw [h0, fi_zero, hw]
    cases s
    · left; rfl
    · right; exact ⟨rfl, by decide⟩
  · left
    rw [fi_eq h0 hk.1 hk.2, h.word]
    have hK : Mi (m : Int) e (k.natAbs : Int) := by
      rw [signed0] at hm
      cases s
      · simp only [Bool.false_eq_true, if_false] at hm
        have hp := (Mi_pos hm)
        have hm0 : m ≠ 0 := by rintro rfl; exact h0 ((Mi_zero hm).1 rfl)
        have : 0 < k := hp.1 (by omega)
        rw [show ((k.natAbs : Nat) : Int) = k from by omega]; exact hm
      · simp only [if_true] at hm
        have h' := Mi_neg hm
        rw [Int.neg_neg] at h'
        have hp := (Mi_pos h')
        have hm0 : m ≠ 0 := by rintro rfl; exact h0 (by have := (Mi_zero h').1 rfl; omega)
        have : 0 < -k := hp.1 (by omega)
        rw [show ((k.natAbs : Nat) : Int) = -k from by omega]; exact h'
    have hs : s = decide (k < 0) := by
      rw [signed0] at hm
      cases s
      · simp only [Bool.false_eq_true, if_false] at hm
        have hm0 : m ≠ 0 := by rintro rfl; exact h0 ((Mi_zero hm).1 rfl)
        have : 0 < k := (Mi_pos hm).1 (by omega)
        symm; exact decide_eq_false (by omega)
      · simp only [if_true] at hm
        have h' := Mi_neg hm
        rw [Int.neg_neg] at h'
        have hm0 : m ≠ 0 := by rintro rfl; exact h0 (by have := (Mi_zero h').1 rfl; omega)
        have : 0 < -k := (Mi_pos h').1 (by omega)
        symm; exact decide_eq_true (by omega)
    rw [hs]
    have hK0 : 0 < k.natAbs := by omega
    have hK1 : k.natAbs ≤ 9007199254740992 := by have := hk.1; have := hk.2; omega
    obtain ⟨hm0, hlog⟩ := Mi_log hK hK0
    refine congrArg (double.word _) ?_
    rcases h.form with ⟨a1, a2, a3⟩ | ⟨q, a1, a2, a3, a4, a5, a6⟩
    · exfalso
      subst a3
      unfold Mi at hK
      have e1 : ((-1074 : Int)).toNat = 0 := by decide
      have e2 : (-(-1074 : Int)).toNat = 1074 := by decide
      rw [e1, e2, Int.pow_zero, Int.mul_one] at hK
      exact small_not a2 hK0 1074 (by decide) hK
    · have hl : m.log2 = 52 := log2_eq (k := 52) (by simpa using a4) (by simpa using a5)
      rw [hl] at hlog
      have hKl : (k.natAbs.log2 : Int) = q - 1023 := by omega
      have ht : top k.natAbs = m := by
        have g := Mi_top hK0 hK1
        rw [show (k.natAbs.log2 : Int) - 52 = e from by omega] at g
        unfold Mi at g hK
        have := cancel e.toNat (hK.trans g.symm)
        omega
      unfold rung
      rw [ht]
      omega

/-- Whole numbers that are not large. -/
theorem NumB.whole {b : Nat} {s : Bool} {m : Nat} {e : Int} (h : NumB b s m e) (he : e ≤ 0) (hd : m % 2 ^ (-e).toNat = 0) :
    Mi (signed s m 0) e (if s then -((m / 2 ^ (-e).toNat : Nat) : Int) else ((m / 2 ^ (-e).toNat : Nat) : Int)) := by
  apply Mi_signed
  unfold Mi
  have e1 : e.toNat = 0 := by omega
  rw [e1, Int.pow_zero, Int.mul_one]
  have := Nat.div_add_mod m (2 ^ (-e).toNat)
  rw [hd, Nat.add_zero] at this
  have h2 : ((m / 2 ^ (-e).toNat * 2 ^ (-e).toNat : Nat) : Int) = (m : Int) := by rw [Nat.mul_comm]; exact_mod_cast this
  rw [← h2]; push_cast; rfl
theorem div_le_self' (m n : Nat) : m / n ≤ m := Nat.div_le_self m n
theorem NumB.inF {b : Nat} {s : Bool} {m : Nat} {e : Int} (h : NumB b s m e) : InF (if s then -((m / 2 ^ (-e).toNat : Nat) : Int) else ((m / 2 ^ (-e).toNat : Nat) : Int)) := by
  have h1 := div_le_self' m (2 ^ (-e).toNat)
  have h2 := h.m_lt
  unfold InF
  generalize m / 2 ^ (-e).toNat = d at *
  cases s <;> simp only [Bool.false_eq_true, if_false, if_true] <;> omega
theorem whB_num {b : Nat} {s : Bool} {m : Nat} {e : Int} (h : NumB b s m e) : whB b = (decide (0 ≤ e) || (m % 2 ^ (-e).toNat == 0)) := by
  unfold whB; rw [h.read]

theorem nearest_large {m : Nat} (s : Bool) {e : Int} {r q : Nat} (he : 0 ≤ e) (a1 : 1 ≤ q) (a2 : q ≤ 2046) (a3 : r + 4503599627370496 = q * 4503599627370496 + m) (a4 : 4503599627370496 ≤ m) (a5 : m < 9007199254740992) (a6 : e = (q : Int) - 1075) : double.nearest s (m <<< e.toNat) 0 = double.word s r := by
  have hl : m.log2 = 52 := log2_eq (k := 52) (by simpa using a4) (by simpa using a5)
  have hl2 : (m <<< e.toNat).log2 = 52 + e.toNat := by rw [Nat.shiftLeft_eq, log2_mul_pow _ _ (by omega), hl]
  have hne : m <<< e.toNat ≠ 0 := by
    rw [Nat.shiftLeft_eq]
    have := Nat.mul_pos (show 0 < m by omega) (Nat.two_pow_pos e.toNat)
    omega
  have hlast : max (0 + ((m <<< e.toNat).log2 : Int) - (double.fractionBits : Int)) double.leastPlace = e := by
    rw [hl2, d_least, d_frac]; omega
  have hc := cut_exact .even s ((m <<< e.toNat) <<< (0 - e).toNat) (e - 0).toNat m (by
    have : (0 - e).toNat = 0 := by omega
    rw [this, Nat.shiftLeft_zero, Nat.shiftLeft_eq, show (e - 0).toNat = e.toNat from by omega])
  unfold Format.nearest
  rewrite [if_neg hne]
  simp only [hlast]
  rewrite [hc, d_least, d_binade, d_inf]
  have e5 : (e - -1074).toNat = q - 1 := by clear hlast hc hl2 hne hl; omega
  rewrite [e5]
  have hX : min ((q - 1) * 4503599627370496 + m) 9218868437227405312 = r := by clear e5 hlast hc hl2 hne hl; omega
  rewrite [hX]
  exact Eq.refl _

/-- A large whole number is its own whole part. -/
theorem NumB.large {b : Nat} {s : Bool} {m : Nat} {e : Int} (h : NumB b s m e) (he : 0 ≤ e) : double.nearest s (m <<< e.toNat) 0 = b := by
  rcases h.form with ⟨_, _, g⟩ | ⟨q, a1, a2, a3, a4, a5, a6⟩
  · omega
  · exact (nearest_large s he a1 a2 a3 a4 a5 a6).trans h.word.symm

/-- Numbers compare as whole ones at the lesser place. -/
theorem order_num {a b : Nat} {s t : Bool} {m n : Nat} {i j : Int} (ha : double.read a = .number s m i) (hb : double.read b = .number t n j) :
    double.order a b = some (compare (signed s m (i - min i j).toNat) (signed t n (j - min i j).toNat)) := by
  show (double.read a).order (double.read b) = _
  rw [ha, hb]; rfl
theorem order_refl {a : Nat} {s : Bool} {m : Nat} {i : Int} (ha : double.read a = .number s m i) : double.order a a = some .eq := by
  rw [order_num ha ha]; simp [compare, compareOfLessAndEq]
theorem cmp_eq {x y : Int} : (some (compare x y) == some Ordering.eq) = decide (x = y) := by
  simp only [compare, compareOfLessAndEq]
  by_cases h1 : x < y
  · rw [if_pos h1]; symm; simp; omega
  · rw [if_neg h1]
    by_cases h2 : x = y
    · rw [if_pos h2]; simp [h2]
    · rw [if_neg h2]; simp [h2]
theorem cmp_gt {x y : Int} : (some (compare x y) == some Ordering.gt) = decide (y < x) := by
  simp only [compare, compareOfLessAndEq]
  by_cases h1 : x < y
  · rw [if_pos h1]; symm; simp; omega
  · rw [if_neg h1]
    by_cases h2 : x = y
    · rw [if_pos h2]; simp [h2]
    · rw [if_neg h2]; simp; omega
theorem cmp_lt {x y : Int} : (some (compare x y) == some Ordering.lt) = decide (x < y) := by
  simp only [compare, compareOfLessAndEq]
  by_cases h1 : x < y
  · rw [if_pos h1]; simp [h1]
  · rw [if_neg h1]
    by_cases h2 : x = y
    · rw [if_pos h2]; simp [h2]
    · rw [if_neg h2]; simp [h1]

/-- A number that is not whole is not the one that is left when it is cut. -/
theorem cut_ne {a b : Nat} {s : Bool} {m : Nat} {e : Int} (h : NumB b s m e) (he : e < 0) (hd : m % 2 ^ (-e).toNat ≠ 0) {k : Int} (ha : Rp a k) (hk : InF k) : (double.order a b == some .eq) = false := by
  obtain ⟨t, n, j, hr, hMi, _⟩ := read_rp ha hk.1 hk.2
  rw [order_num hr h.read, cmp_eq]
  refine decide_eq_false fun heq => hd ?_
  rw [signed_eq t n, signed_eq s m] at heq
  have g := Mi_shift hMi (Int.min_le_left j e)
  rw [heq] at g
  -- the value k is m * 2 ^ e
  unfold Mi at g
  have g2 : signed s m 0 * 2 ^ ((e - min j e).toNat + (min j e).toNat) = k * 2 ^ (-(min j e)).toNat := by
    rw [Int.pow_add, ← Int.mul_assoc]; exact g
  have e0 : (min j e).toNat = 0 := by omega
  have e1 : (-(min j e)).toNat = (-e).toNat + (e - min j e).toNat := by omega
  rw [e0, Nat.add_zero, e1, Int.pow_add, ← Int.mul_assoc] at g2
  have g3 := cancel _ g2
  have g4 : m = k.natAbs * 2 ^ (-e).toNat := by
    have := congrArg Int.natAbs g3
    rw [signed_natAbs, Int.natAbs_mul, Int.natAbs_pow] at this
    simpa using this
  rw [g4]; exact Nat.mul_mod_left _ _
end Go.Proofs.Ytgdhpgjfebinhaa
