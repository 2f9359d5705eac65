/- Floats of single precision that hold whole numbers. -/
import Derived.Test.YtafnplkablkepaaFlx
import Derived.Test.YtafnplkablkepaaRaw2
namespace Go.Proofs.Ytafnplkablkepaa
open Go Ieee

theorem cut_of {b : Nat} {s : Bool} {m : Nat} {i x : Int} (ea : single.read b = .number s m i) (ha : Mi (signed s m 0) i x) (hx : -9223372036854775808 ≤ x ∧ x ≤ 9223372036854775807) : cutF32 b = some x := by
  have hc : Datum.toInt .zero (single.read b) = some x := by
    rw [ea]
    unfold Datum.toInt Datum.integral
    dsimp only
    have hcut : Toward.zero.cut s (m <<< i.toNat) (-i).toNat = x.natAbs := by
      apply cut_exact
      rw [Nat.shiftLeft_eq]
      unfold Mi at ha
      have := congrArg Int.natAbs ha
      rw [Int.natAbs_mul, Int.natAbs_mul, signed_natAbs] at this
      simpa [Int.natAbs_pow] using this
    rw [hcut]
    congr 1
    by_cases h0 : x = 0
    · subst h0; cases s <;> simp [signed]
    · have hv : signed s m 0 ≠ 0 := fun e => h0 ((Mi_zero ha).1 e)
      have a1 := Mi_pos ha
      unfold signed at *
      cases s <;> simp at a1 hv ⊢ <;> omega
  unfold cutF32
  show (match Datum.toInt .zero (single.read b) with | some n => _ | none => _) = _
  rw [hc]
  have e1 : IntKind.i64.min = -9223372036854775808 := rfl
  have e2 : IntKind.i64.max = 9223372036854775807 := rfl
  simp only [e1, e2]
  rw [if_pos hx]

theorem order_of {a b : Nat} {s t : Bool} {m n : Nat} {i j x y : Int} (ea : single.read a = .number s m i) (eb : single.read b = .number t n j) (ha : Mi (signed s m 0) i x) (hb : Mi (signed t n 0) j y) : single.order a b = some (compare x y) := by
  unfold Format.order
  rw [ea, eb]
  unfold Datum.order
  dsimp only
  rw [signed_eq s m, signed_eq t n]
  have h1 := Mi_shift ha (Int.min_le_left i j)
  have h2 := Mi_shift hb (Int.min_le_right i j)
  congr 1
  have l1 := Mi_lt h1 h2
  have l2 := Mi_lt h2 h1
  simp only [compare, compareOfLessAndEq]
  by_cases c1 : x < y
  · rw [if_pos (l1.2 c1), if_pos c1]
  · rw [if_neg (fun h => c1 (l1.1 h)), if_neg c1]
    by_cases c2 : y < x
    · have := l2.2 c2
      rw [if_neg (by omega), if_neg (by omega)]
    · have : ¬ _ := fun h => c2 (l2.1 h)
      have : ¬ _ := fun h => c1 (l1.1 h)
      rw [if_pos (by omega), if_pos (by omega)]

theorem kept_bd {m : Nat} (h0 : m ≠ 0) (hm : m < 16777216) : 4503599627370496 ≤ m * 2 ^ (52 - m.log2) ∧ m * 2 ^ (52 - m.log2) < 9007199254740992 := by
  obtain ⟨l1, l2⟩ := log2_bd h0 hm
  constructor
  · have a := Nat.mul_le_mul_right (2 ^ (52 - m.log2)) (Nat.log2_self_le h0)
    rw [← Nat.pow_add, show m.log2 + (52 - m.log2) = 52 by omega] at a
    exact a
  · have a := Nat.mul_lt_mul_of_pos_right l2 (Nat.two_pow_pos (52 - m.log2))
    rw [← Nat.pow_add, show m.log2 + 1 + (52 - m.log2) = 53 by omega] at a
    exact a
theorem rung_eq {q k : Nat} (ha : q ≤ 1149) (hk : k < 9007199254740992) : min (q * 4503599627370496 + k) 9218868437227405312 = q * 4503599627370496 + k := by
  omega
/-- The word in double precision of a number other than 0. -/
theorem widen_eq (s : Bool) {m : Nat} {e : Int} (h0 : m ≠ 0) (hm : m < 16777216) (h1 : -149 ≤ e) (h2 : e ≤ 104) :
    double.write (.number s m e) = double.word s ((e + (m.log2 : Int) + 1022).toNat * 4503599627370496 + m * 2 ^ (52 - m.log2)) := by
  obtain ⟨l1, l2⟩ := log2_bd h0 hm
  have hk := (kept_bd h0 hm).2
  show double.nearest s m e = _
  unfold Format.nearest
  rw [if_neg h0]
  simp only [d_least, d_frac, d_binade, d_inf]
  have e1 : max (e + (m.log2 : Int) - (52 : Nat)) (-1074) = e + (m.log2 : Int) - 52 := by omega
  rw [e1]
  have e2 : (e + (m.log2 : Int) - 52 - e).toNat = 0 := by omega
  have e3 : (e - (e + (m.log2 : Int) - 52)).toNat = 52 - m.log2 := by omega
  rw [e2, e3]
  have e4 : Toward.even.cut s (m <<< (52 - m.log2)) 0 = m * 2 ^ (52 - m.log2) := cut_exact _ _ _ _ _ (by rw [Nat.shiftLeft_eq]; simp)
  rw [e4]
  have e5 : e + (m.log2 : Int) - 52 - -1074 = e + (m.log2 : Int) + 1022 := by omega
  have ha : (e + (m.log2 : Int) + 1022).toNat ≤ 1149 := by omega
  rw [e5, rung_eq ha hk]

theorem normal_read (s : Bool) {q k : Nat} (hq : 1 ≤ q) (hq' : q ≤ 1149) (hl : 4503599627370496 ≤ k) (hk : k < 9007199254740992) : ∃ t, double.read (double.word s (q * 4503599627370496 + k)) = .number t k (-1074 + (q : Nat)) := by
  have hr : double.word s (q * 4503599627370496 + k) % 9223372036854775808 = q * 4503599627370496 + k := by
    unfold Format.word; rw [d_sign]; split <;> omega
  unfold Format.read
  simp only [d_sign, d_binade, d_inf, d_least, hr]
  rw [if_neg (by omega), if_pos (by omega)]
  have e1 : (q * 4503599627370496 + k) / 4503599627370496 - 1 = q := by omega
  have e2 : 4503599627370496 + (q * 4503599627370496 + k) % 4503599627370496 = k := by omega
  rw [e1, e2]
  exact ⟨_, rfl⟩

/-- What is whole in double precision is so. -/
theorem whole32 {b : Nat} {s : Bool} {m : Nat} {e : Int} (hr : single.read b = .number s m e) (hw : whB (widen b) = true) : ∃ x : Int, Mi (signed s m 0) e x := by
  obtain ⟨k1, k2, k3⟩ := single_read hr
  by_cases h0 : m = 0
  · subst h0; exact ⟨0, by unfold Mi signed; cases s <;> simp⟩
  by_cases he : 0 ≤ e
  · refine ⟨signed s m 0 * 2 ^ e.toNat, ?_⟩
    unfold Mi
    rw [show (-e).toNat = 0 by omega]; simp
  · have w1 := widen_eq s h0 k1 k2 k3
    obtain ⟨w2, w3⟩ := kept_bd h0 k1
    have w4 := (log2_bd h0 k1).1
    have hwd : widen b = double.word s ((e + (m.log2 : Int) + 1022).toNat * 4503599627370496 + m * 2 ^ (52 - m.log2)) := by
      rw [← w1]
      show double.write (single.read b) = _
      rw [hr]
    obtain ⟨t, ht⟩ := normal_read s (q := (e + (m.log2 : Int) + 1022).toNat) (by omega) (by omega) w2 w3
    rw [hwd] at hw
    unfold whB at hw
    rw [ht] at hw
    simp only [Bool.or_eq_true, decide_eq_true_eq, beq_iff_eq] at hw
    rcases hw with hw | hw
    · omega
    · have e1 : (-(-1074 + ((e + (m.log2 : Int) + 1022).toNat : Int))).toNat = (52 - m.log2) + (-e).toNat := by omega
      rw [e1, Nat.pow_add] at hw
      obtain ⟨c, hc⟩ := Nat.dvd_of_mod_eq_zero hw
      have hm : m = 2 ^ (-e).toNat * c := by
        apply Nat.eq_of_mul_eq_mul_right (Nat.two_pow_pos (52 - m.log2))
        rw [hc, Nat.mul_assoc, Nat.mul_comm]
      refine ⟨_, Mi_signed s (K := c) ?_⟩
      unfold Mi
      rw [show e.toNat = 0 by omega, Int.pow_zero, Int.mul_one, hm]
      push_cast
      exact Int.mul_comm _ _

theorem inf_whB (s : Bool) : whB (double.write (.infinity s)) = false := by cases s <;> decide +kernel
theorem cmp32_lt {x L : Int} (h : (some (compare x L) == some Ordering.lt) = false) : L ≤ x := by
  rcases Int.lt_or_le x L with g | g
  · exfalso
    have : compare x L = .lt := by simp [compare, compareOfLessAndEq, g]
    rw [this] at h; cases h
  · exact g
theorem cmp32_gt {x L : Int} (h : (some (compare x L) == some Ordering.gt) = false) : x ≤ L := by
  rcases Int.lt_or_le L x with g | g
  · exfalso
    have : compare x L = .gt := by
      have h1 : ¬ x < L := by omega
      have h2 : ¬ x = L := by omega
      simp [compare, compareOfLessAndEq, h1, h2]
    rw [this] at h; cases h
  · exact g
/-- A float of single precision that is whole and between two whole numbers, cut to an int. -/
theorem checked32 {b l h : Nat} {t u : Bool} {n k : Nat} {j i L H : Int} (hn : (single.order b b != some .eq) = false) (hw : whB (widen b) = true) (hl : single.read l = .number t n j) (Ml : Mi (signed t n 0) j L) (hh : single.read h = .number u k i) (Mh : Mi (signed u k 0) i H)
    (h1 : (single.order b l == some .lt) = false) (h2 : (single.order b h == some .gt) = false) (hL : -9223372036854775808 ≤ L) (hH : H ≤ 9223372036854775807) : ∃ x, cutF32 b = some x ∧ L ≤ x ∧ x ≤ H := by
  cases hr : single.read b with
  | nan s f =>
    exfalso
    have : single.order b b = none := by
      unfold Format.order
      simp [hr, Datum.order]
    rw [this] at hn; cases hn
  | infinity s =>
    exfalso
    have e : widen b = double.write (.infinity s) := by
      show double.write (single.read b) = _
      rw [hr]
    rw [e, inf_whB] at hw; cases hw
  | number s m e =>
    obtain ⟨x, hx⟩ := whole32 hr hw
    rw [order_of hr hl hx Ml] at h1
    rw [order_of hr hh hx Mh] at h2
    have a1 := cmp32_lt h1
    have a2 := cmp32_gt h2
    exact ⟨x, cut_of hr hx (by omega), a1, a2⟩
/-- Indices and losses of materials. -/
theorem read_5000 : single.read 1167867904 = .number false 10240000 (-11) := by decide +kernel
theorem read_80000 : single.read 1201422336 = .number false 10240000 (-7) := by decide +kernel
theorem read_0 : single.read 0 = .number false 0 (-149) := by decide +kernel
theorem index32 {b : Nat} (hn : (single.order b b != some .eq) = false) (hw : whB (widen b) = true) (h1 : (single.order b 1167867904 == some .lt) = false) (h2 : (single.order b 1201422336 == some .gt) = false) : ∃ x, cutF32 b = some x ∧ 5000 ≤ x ∧ x ≤ 80000 :=
  checked32 hn hw read_5000 (L := 5000) (by unfold Mi signed; decide) read_80000 (H := 80000) (by unfold Mi signed; decide) h1 h2 (by decide) (by decide)
theorem loss32 {b : Nat} (hn : (single.order b b != some .eq) = false) (hw : whB (widen b) = true) (h1 : (single.order b 0 == some .lt) = false) (h2 : (single.order b 1201422336 == some .gt) = false) : ∃ x, cutF32 b = some x ∧ 0 ≤ x ∧ x ≤ 80000 :=
  checked32 hn hw read_0 (L := 0) (by unfold Mi signed; decide) read_80000 (H := 80000) (by unfold Mi signed; decide) h1 h2 (by decide) (by decide)
end Go.Proofs.Ytafnplkablkepaa
