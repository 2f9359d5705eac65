/- Whole numbers as floats: what the operations of double precision give on floats that hold whole numbers of at most 2^53 in size (a zero may have a sign). Plain arithmetic: no program. -/
import Derived.Laws.ComplexArith

namespace Go.Proofs.Ytafnplkablkepaa
open Ieee

theorem log2_eq {n k : Nat} (h1 : 2 ^ k ≤ n) (h2 : n < 2 ^ (k + 1)) : n.log2 = k := by
  have h0 : n ≠ 0 := by have := Nat.two_pow_pos k; omega
  have a := (Nat.le_log2 h0).2 h1
  have b := (Nat.log2_lt h0).2 h2
  omega

theorem log2_mul_pow (n j : Nat) (h : 0 < n) : (n * 2 ^ j).log2 = n.log2 + j := by
  have h0 : n ≠ 0 := by omega
  have a := Nat.log2_self_le h0
  have b := Nat.lt_log2_self (n := n)
  apply log2_eq
  · rw [Nat.pow_add]; exact Nat.mul_le_mul_right _ a
  · rw [show n.log2 + j + 1 = (n.log2 + 1) + j from by omega, Nat.pow_add]
    exact Nat.mul_lt_mul_of_pos_right b (Nat.two_pow_pos _)

theorem cut_exact (way : Toward) (neg : Bool) (n drop q : Nat) (h : n = q * 2 ^ drop) : way.cut neg n drop = q := by
  unfold Toward.cut
  by_cases hq : q = 0
  · subst hq
    have hn : n = 0 := by omega
    subst hn
    have hg : 0 < 1 <<< min drop (Nat.log2 0 + 2) := by rw [Nat.one_shiftLeft]; exact Nat.two_pow_pos _
    cases way <;> simp <;> omega
  · have hl : n.log2 = q.log2 + drop := by rw [h]; exact log2_mul_pow q drop (by omega)
    have hm : min drop (n.log2 + 2) = drop := by omega
    have hp := Nat.two_pow_pos drop
    simp only [hm, Nat.one_shiftLeft]
    have e1 : n / 2 ^ drop = q := by rw [h]; exact Nat.mul_div_cancel _ hp
    have e2 : n % 2 ^ drop = 0 := by rw [h]; exact Nat.mul_mod_left _ _
    simp only [e1, e2]
    cases way <;> simp <;> omega

/-- The number 'v * 2 ^ place' is k. -/
def Mi (v : Int) (place : Int) (k : Int) : Prop := v * 2 ^ place.toNat = k * 2 ^ (-place).toNat

theorem pow_pos (n : Nat) : (0 : Int) < 2 ^ n := Int.pow_pos (by decide)

theorem cancel {a b : Int} (n : Nat) (h : a * 2 ^ n = b * 2 ^ n) : a = b :=
  Int.eq_of_mul_eq_mul_right (Int.ne_of_gt (pow_pos n)) h

theorem Mi_shift {v i k : Int} {base : Int} (h : Mi v i k) (hb : base ≤ i) : Mi (v * 2 ^ (i - base).toNat) base k := by
  unfold Mi at *
  apply cancel i.toNat
  have e : (i - base).toNat + base.toNat + (-i).toNat = i.toNat + (-base).toNat := by omega
  calc v * 2 ^ (i - base).toNat * 2 ^ base.toNat * 2 ^ i.toNat
      = (v * 2 ^ i.toNat) * (2 ^ (i - base).toNat * 2 ^ base.toNat) := by
        rw [Int.mul_assoc, Int.mul_assoc, Int.mul_assoc]; congr 1; rw [← Int.mul_assoc, Int.mul_comm]
    _ = k * 2 ^ (-i).toNat * (2 ^ (i - base).toNat * 2 ^ base.toNat) := by rw [h]
    _ = k * 2 ^ ((i - base).toNat + base.toNat + (-i).toNat) := by
        simp only [Int.pow_add, Int.mul_comm, Int.mul_left_comm]
    _ = k * 2 ^ (i.toNat + (-base).toNat) := by rw [e]
    _ = k * 2 ^ (-base).toNat * 2 ^ i.toNat := by
        simp only [Int.pow_add, Int.mul_comm, Int.mul_left_comm]

theorem Mi_add {v u p k l : Int} (h : Mi v p k) (g : Mi u p l) : Mi (v + u) p (k + l) := by
  unfold Mi at *; rw [Int.add_mul, Int.add_mul, h, g]

theorem Mi_neg {v p k : Int} (h : Mi v p k) : Mi (-v) p (-k) := by
  unfold Mi at *; rw [Int.neg_mul, Int.neg_mul, h]

theorem Mi_mul {v u p q k l : Int} (h : Mi v p k) (g : Mi u q l) : Mi (v * u) (p + q) (k * l) := by
  unfold Mi at *
  apply cancel (p.toNat + q.toNat)
  have e : (p + q).toNat + ((-p).toNat + (-q).toNat) = (-(p + q)).toNat + (p.toNat + q.toNat) := by omega
  calc v * u * 2 ^ (p + q).toNat * 2 ^ (p.toNat + q.toNat)
      = (v * 2 ^ p.toNat) * (u * 2 ^ q.toNat) * 2 ^ (p + q).toNat := by
        simp only [Int.pow_add, Int.mul_assoc, Int.mul_comm, Int.mul_left_comm]
    _ = (k * 2 ^ (-p).toNat) * (l * 2 ^ (-q).toNat) * 2 ^ (p + q).toNat := by rw [h, g]
    _ = k * l * 2 ^ ((p + q).toNat + ((-p).toNat + (-q).toNat)) := by
        simp only [Int.pow_add, Int.mul_assoc, Int.mul_comm, Int.mul_left_comm]
    _ = k * l * 2 ^ ((-(p + q)).toNat + (p.toNat + q.toNat)) := by rw [e]
    _ = k * l * 2 ^ (-(p + q)).toNat * 2 ^ (p.toNat + q.toNat) := by
        simp only [Int.pow_add, Int.mul_assoc, Int.mul_comm, Int.mul_left_comm]

theorem Mi_zero {v p k : Int} (h : Mi v p k) : v = 0 ↔ k = 0 := by
  unfold Mi at h
  constructor
  · intro e; subst e; rw [Int.zero_mul] at h
    exact (Int.mul_eq_zero.1 h.symm).resolve_right (Int.ne_of_gt (pow_pos _))
  · intro e; subst e; rw [Int.zero_mul] at h
    exact (Int.mul_eq_zero.1 h).resolve_right (Int.ne_of_gt (pow_pos _))

theorem Mi_lt {v u p k l : Int} (h : Mi v p k) (g : Mi u p l) : v < u ↔ k < l := by
  unfold Mi at *
  constructor
  · intro e
    have := Int.mul_lt_mul_of_pos_right e (pow_pos p.toNat)
    rw [h, g] at this
    exact Int.lt_of_mul_lt_mul_right this (Int.le_of_lt (pow_pos _))
  · intro e
    have := Int.mul_lt_mul_of_pos_right e (pow_pos (-p).toNat)
    rw [← h, ← g] at this
    exact Int.lt_of_mul_lt_mul_right this (Int.le_of_lt (pow_pos _))

theorem Mi_pos {v p k : Int} (h : Mi v p k) : 0 < v ↔ 0 < k := by
  have z : Mi 0 p 0 := by unfold Mi; simp
  exact Mi_lt z h

theorem signed_eq (s : Bool) (m u : Nat) : signed s m u = signed s m 0 * 2 ^ u := by
  unfold signed
  cases s <;> simp [Nat.shiftLeft_eq, Int.neg_mul]

theorem signed_natAbs (s : Bool) (m : Nat) : (signed s m 0).natAbs = m := by
  unfold signed; cases s <;> simp

/-- The significand of K, and its rung. -/
def top (K : Nat) : Nat := if K.log2 ≤ 52 then K * 2 ^ (52 - K.log2) else K / 2 ^ (K.log2 - 52)
def rung (K : Nat) : Nat := (K.log2 + 1022) * 4503599627370496 + top K

theorem log2_le53 {K : Nat} (h0 : 0 < K) (h : K ≤ 9007199254740992) : K.log2 ≤ 52 ∨ K = 9007199254740992 := by
  by_cases e : K = 9007199254740992
  · exact Or.inr e
  · refine Or.inl ?_
    have : K.log2 < 53 := (Nat.log2_lt (by omega)).2 (by simpa using Nat.lt_of_le_of_ne h e)
    omega

theorem log2_53 : Nat.log2 9007199254740992 = 53 := log2_eq (by decide) (by decide)

theorem top_bd {K : Nat} (h0 : 0 < K) (h : K ≤ 9007199254740992) : 4503599627370496 ≤ top K ∧ top K < 9007199254740992 := by
  rcases log2_le53 h0 h with e | e
  · unfold top; rw [if_pos e]
    have a := Nat.log2_self_le (n := K) (by omega)
    have b := Nat.lt_log2_self (n := K)
    have e1 : (4503599627370496 : Nat) = 2 ^ K.log2 * 2 ^ (52 - K.log2) := by
      rw [← Nat.pow_add, show K.log2 + (52 - K.log2) = 52 from by omega]
    have e2 : (9007199254740992 : Nat) = 2 ^ (K.log2 + 1) * 2 ^ (52 - K.log2) := by
      rw [← Nat.pow_add, show K.log2 + 1 + (52 - K.log2) = 53 from by omega]
    rw [e1, e2]
    exact ⟨Nat.mul_le_mul_right _ a, Nat.mul_lt_mul_of_pos_right b (Nat.two_pow_pos _)⟩
  · subst e; unfold top; rw [log2_53]; decide

/-- The constants of double precision. -/
theorem d_sign : double.signWeight = 9223372036854775808 := by decide
theorem d_binade : double.binade = 4503599627370496 := by decide
theorem d_inf : double.infRung = 9218868437227405312 := by decide
theorem d_least : double.leastPlace = -1074 := by decide
theorem d_frac : double.fractionBits = 52 := rfl

theorem Mi_log {m : Nat} {p : Int} {K : Nat} (h : Mi m p K) (h0 : 0 < K) : m ≠ 0 ∧ (m.log2 : Int) + p = K.log2 := by
  have hm : m ≠ 0 := by
    intro e
    have := (Mi_zero h).1 (by simp [e])
    omega
  refine ⟨hm, ?_⟩
  unfold Mi at h
  have h' : m * 2 ^ p.toNat = K * 2 ^ (-p).toNat := by exact_mod_cast h
  have a := log2_mul_pow m p.toNat (by omega)
  have b := log2_mul_pow K (-p).toNat h0
  rw [h', b] at a
  omega

theorem kept_exact {m : Nat} {p : Int} {K : Nat} (h : Mi m p K) (h0 : 0 < K) (hK : K ≤ 9007199254740992) (last : Int) (hl : last = (K.log2 : Int) - 52) :
    m * 2 ^ (p - last).toNat = top K * 2 ^ (last - p).toNat := by
  unfold Mi at h
  have h' : m * 2 ^ p.toNat = K * 2 ^ (-p).toNat := by exact_mod_cast h
  apply Nat.eq_of_mul_eq_mul_right (Nat.two_pow_pos p.toNat)
  rcases log2_le53 h0 hK with e | e
  · unfold top; rw [if_pos e]
    have ee : (-p).toNat + (p - last).toNat = (52 - K.log2) + (last - p).toNat + p.toNat := by omega
    calc m * 2 ^ (p - last).toNat * 2 ^ p.toNat = (m * 2 ^ p.toNat) * 2 ^ (p - last).toNat := by simp only [Nat.mul_assoc, Nat.mul_comm, Nat.mul_left_comm]
      _ = K * 2 ^ ((-p).toNat + (p - last).toNat) := by rw [h', Nat.pow_add, Nat.mul_assoc]
      _ = K * 2 ^ ((52 - K.log2) + (last - p).toNat + p.toNat) := by rw [ee]
      _ = K * 2 ^ (52 - K.log2) * 2 ^ (last - p).toNat * 2 ^ p.toNat := by rw [Nat.pow_add, Nat.pow_add]; simp only [Nat.mul_assoc]
  · subst e
    rw [log2_53] at hl
    have et : top 9007199254740992 = 2 ^ 52 := by unfold top; rw [log2_53]; decide
    rw [et]
    have ee : 53 + ((-p).toNat + (p - last).toNat) = 52 + (last - p).toNat + p.toNat := by omega
    calc m * 2 ^ (p - last).toNat * 2 ^ p.toNat = (m * 2 ^ p.toNat) * 2 ^ (p - last).toNat := by simp only [Nat.mul_assoc, Nat.mul_comm, Nat.mul_left_comm]
      _ = 2 ^ 53 * (2 ^ (-p).toNat * 2 ^ (p - last).toNat) := by rw [h', Nat.mul_assoc]
      _ = 2 ^ (53 + ((-p).toNat + (p - last).toNat)) := by rw [Nat.pow_add 2 53, Nat.pow_add 2 (-p).toNat]
      _ = 2 ^ (52 + (last - p).toNat + p.toNat) := by rw [ee]
      _ = 2 ^ 52 * 2 ^ (last - p).toNat * 2 ^ p.toNat := by rw [Nat.pow_add, Nat.pow_add]

theorem nearest_exact (neg : Bool) {m : Nat} {p : Int} {K : Nat} (h : Mi m p K) (h0 : 0 < K) (hK : K ≤ 9007199254740992) :
    double.nearest neg m p = double.word neg (rung K) := by
  obtain ⟨hm, hlog⟩ := Mi_log h h0
  have hl53 : K.log2 ≤ 53 := by rcases log2_le53 h0 hK with e | e; omega; subst e; rw [log2_53]; exact Nat.le_refl _
  have hlast : max (p + (m.log2 : Int) - (double.fractionBits : Int)) double.leastPlace = (K.log2 : Int) - 52 := by
    rw [d_least, d_frac]; omega
  have hb := top_bd h0 hK
  unfold Format.nearest
  rw [if_neg hm]
  simp only [hlast]
  have hc := cut_exact .even neg (m <<< (p - ((K.log2 : Int) - 52)).toNat) ((K.log2 : Int) - 52 - p).toNat (top K)
    (by rw [Nat.shiftLeft_eq]; exact kept_exact h h0 hK _ rfl)
  rw [hc, d_least, d_binade, d_inf]
  have e : ((K.log2 : Int) - 52 - -1074).toNat = K.log2 + 1022 := by omega
  rw [e]
  have : min ((K.log2 + 1022) * 4503599627370496 + top K) 9218868437227405312 = rung K := by
    unfold rung; omega
  rw [this]

theorem read_word (neg : Bool) {K : Nat} (h0 : 0 < K) (hK : K ≤ 9007199254740992) :
    double.read (double.word neg (rung K)) = .number neg (top K) ((K.log2 : Int) - 52) := by
  have hl53 : K.log2 ≤ 53 := by rcases log2_le53 h0 hK with e | e; omega; subst e; rw [log2_53]; exact Nat.le_refl _
  have hb := top_bd h0 hK
  have hr : 4503599627370496 ≤ rung K ∧ rung K < 9218868437227405312 := by unfold rung; omega
  have e3 : 4503599627370496 + rung K % 4503599627370496 = top K := by unfold rung; omega
  have e4 : rung K / 4503599627370496 - 1 = K.log2 + 1022 := by unfold rung; omega
  have e6 : (-1074 : Int) + ((K.log2 + 1022 : Nat) : Int) = (K.log2 : Int) - 52 := by omega
  unfold Format.read Format.word
  cases neg
  · simp only [Bool.false_eq_true, if_false, d_sign, d_binade, d_inf, d_least]
    have e1 : rung K / 9223372036854775808 % 2 = 0 := by omega
    have e2 : rung K % 9223372036854775808 = rung K := by omega
    rw [e1, e2, if_neg (by omega), if_pos hr.2, e3, e4, e6]
    rfl
  · simp only [if_true, d_sign, d_binade, d_inf, d_least]
    have e1 : (9223372036854775808 + rung K) / 9223372036854775808 % 2 = 1 := by omega
    have e2 : (9223372036854775808 + rung K) % 9223372036854775808 = rung K := by omega
    rw [e1, e2, if_neg (by omega), if_pos hr.2, e3, e4, e6]
    rfl

/-- A whole number as a float's bits; -0. -/
def fi (n : Int) : Nat := floatOfInt .f64 n
def nz : Nat := 9223372036854775808

/-- The bits b hold the whole number k (0 with a sign, perhaps). -/
def Rp (b : Nat) (k : Int) : Prop := b = fi k ∨ (k = 0 ∧ b = nz)

theorem Rp_fi (k : Int) : Rp (fi k) k := Or.inl rfl

theorem Mi_self (m : Nat) : Mi m 0 m := by unfold Mi; simp

theorem fi_eq {k : Int} (h0 : k ≠ 0) (h1 : -9007199254740992 ≤ k) (h2 : k ≤ 9007199254740992) : fi k = double.word (decide (k < 0)) (rung k.natAbs) := by
  show double.nearest (decide (k < 0)) k.natAbs 0 = _
  exact nearest_exact _ (Mi_self _) (by omega) (by omega)

theorem fi_zero : fi 0 = 0 := by decide +kernel

theorem Mi_top {K : Nat} (h0 : 0 < K) (hK : K ≤ 9007199254740992) : Mi (top K) ((K.log2 : Int) - 52) K := by
  have := kept_exact (Mi_self K) h0 hK _ rfl
  unfold Mi
  have e1 : ((K.log2 : Int) - 52 - 0).toNat = ((K.log2 : Int) - 52).toNat := by omega
  have e2 : (0 - ((K.log2 : Int) - 52)).toNat = (-((K.log2 : Int) - 52)).toNat := by omega
  rw [e1, e2] at this
  exact_mod_cast this.symm

theorem Mi_signed {m : Nat} {e : Int} {K : Nat} (s : Bool) (h : Mi m e K) : Mi (signed s m 0) e (if s then -(K : Int) else K) := by
  cases s
  · simpa [signed] using h
  · simpa [signed] using Mi_neg h

theorem read_rp {b : Nat} {k : Int} (h : Rp b k) (h1 : -9007199254740992 ≤ k) (h2 : k ≤ 9007199254740992) :
    ∃ s m e, double.read b = .number s m e ∧ Mi (signed s m 0) e k ∧ -1074 ≤ e := by
  by_cases h0 : k = 0
  · subst h0
    have hz : ∀ e : Int, Mi 0 e 0 := fun e => by unfold Mi; simp
    rcases h with h | h
    · rw [h, fi_zero]
      exact ⟨false, 0, -1074, by decide +kernel, by simpa [signed] using hz (-1074), by omega⟩
    · rw [h.2]
      exact ⟨true, 0, -1074, by decide +kernel, by simpa [signed] using hz (-1074), by omega⟩
  · rcases h with h | h
    · rw [h, fi_eq h0 h1 h2]
      refine ⟨_, _, _, read_word _ (by omega) (by omega), ?_, by omega⟩
      have := Mi_signed (decide (k < 0)) (Mi_top (K := k.natAbs) (by omega) (by omega))
      have e : (if decide (k < 0) = true then -(k.natAbs : Int) else (k.natAbs : Int)) = k := by
        by_cases hk : k < 0 <;> simp [hk] <;> omega
      rw [e] at this
      exact this
    · exact absurd h.1 h0

theorem write_rp {v e k : Int} (s : Bool) (h : Mi v e k) (h1 : -9007199254740992 ≤ k) (h2 : k ≤ 9007199254740992) (hs : v ≠ 0 → s = decide (v < 0)) :
    Rp (double.write (.number s v.natAbs e)) k := by
  show Rp (double.nearest s v.natAbs e) k
  by_cases h0 : k = 0
  · have hv := (Mi_zero h).2 h0
    subst hv
    unfold Format.nearest
    rw [if_pos (by simp)]
    unfold Rp
    cases s
    · left; rw [h0, fi_zero]; decide
    · right; exact ⟨h0, by decide⟩
  · have hv : v ≠ 0 := fun e => h0 ((Mi_zero h).1 e)
    left
    rw [fi_eq h0 h1 h2]
    have hsg : (v < 0) = (k < 0) := by
      have a := Mi_pos (Mi_neg h)
      exact propext ⟨fun x => by have := a.1 (by omega); omega, fun x => by have := a.2 (by omega); omega⟩
    rw [hs hv]
    simp only [hsg]
    refine nearest_exact _ ?_ (by omega) (by omega)
    by_cases hn : k < 0
    · have hv' : v < 0 := hsg ▸ hn
      have := Mi_neg h
      have e1 : ((v.natAbs : Nat) : Int) = -v := by omega
      have e2 : ((k.natAbs : Nat) : Int) = -k := by omega
      rw [e1, e2]; exact this
    · have hv' : ¬ v < 0 := hsg ▸ hn
      have e1 : ((v.natAbs : Nat) : Int) = v := by omega
      have e2 : ((k.natAbs : Nat) : Int) = k := by omega
      rw [e1, e2]; exact h

def InF (k : Int) : Prop := -9007199254740992 ≤ k ∧ k ≤ 9007199254740992

theorem sum_rp {s t : Bool} {m n : Nat} {i j x y : Int} (hx : Mi (signed s m 0) i x) (hy : Mi (signed t n 0) j y) (hi : InF (x + y)) :
    ∃ d, (Datum.number s m i).sum (Datum.number t n j) = some d ∧ Rp (double.write d) (x + y) := by
  refine ⟨_, rfl, ?_⟩
  rw [signed_eq s m, signed_eq t n]
  refine write_rp _ (Mi_add (Mi_shift hx (Int.min_le_left _ _)) (Mi_shift hy (Int.min_le_right _ _))) hi.1 hi.2 ?_
  intro hne
  rw [if_neg hne]

theorem add_rp {a b : Nat} {x y : Int} (ha : Rp a x) (hb : Rp b y) (hx : InF x) (hy : InF y) (hi : InF (x + y)) :
    ∃ r, floatBits .add .f64 a b = some r ∧ Rp r (x + y) := by
  obtain ⟨s, m, i, ea, ha, _⟩ := read_rp ha hx.1 hx.2
  obtain ⟨t, n, j, eb, hb, _⟩ := read_rp hb hy.1 hy.2
  obtain ⟨d, hd, hr⟩ := sum_rp ha hb hi
  refine ⟨_, ?_, hr⟩
  show ((double.read a).sum (double.read b)).map double.write = _
  rw [ea, eb, hd]; rfl

theorem sub_rp {a b : Nat} {x y : Int} (ha : Rp a x) (hb : Rp b y) (hx : InF x) (hy : InF y) (hi : InF (x - y)) :
    ∃ r, floatBits .sub .f64 a b = some r ∧ Rp r (x - y) := by
  obtain ⟨s, m, i, ea, ha, _⟩ := read_rp ha hx.1 hx.2
  obtain ⟨t, n, j, eb, hb, _⟩ := read_rp hb hy.1 hy.2
  have hb' : Mi (signed (!t) n 0) j (-y) := by
    have := Mi_neg hb
    cases t
    · simpa [signed] using this
    · simpa [signed] using this
  obtain ⟨d, hd, hr⟩ := sum_rp ha hb' hi
  refine ⟨_, ?_, hr⟩
  show ((double.read a).sum (double.read b).opposite).map double.write = _
  rw [ea, eb]
  show Option.map _ ((Datum.number s m i).sum (Datum.number (!t) n j)) = _
  rw [hd]; rfl

theorem sign_mul {s t : Bool} {m n : Nat} (hne : signed s m 0 * signed t n 0 ≠ 0) : (s ^^ t) = decide (signed s m 0 * signed t n 0 < 0) := by
  have p1 : signed s m 0 ≠ 0 := fun h => hne (by rw [h, Int.zero_mul])
  have p2 : signed t n 0 ≠ 0 := fun h => hne (by rw [h, Int.mul_zero])
  have q1 : signed s m 0 = if s then -(m : Int) else m := by unfold signed; simp
  have q2 : signed t n 0 = if t then -(n : Int) else n := by unfold signed; simp
  rw [q1] at p1 ⊢
  rw [q2] at p2 ⊢
  have hm : m ≠ 0 := by rintro rfl; cases s <;> simp at p1
  have hn : n ≠ 0 := by rintro rfl; cases t <;> simp at p2
  have hp : (0 : Int) < (m : Int) * n := Int.mul_pos (by omega) (by omega)
  cases s <;> cases t <;> simp only [Bool.false_eq_true, if_true, if_false, Int.neg_mul, Int.mul_neg, Int.neg_neg] <;> simp <;> omega

theorem mul_rp {a b : Nat} {x y : Int} (ha : Rp a x) (hb : Rp b y) (hx : InF x) (hy : InF y) (hi : InF (x * y)) :
    ∃ r, floatBits .mul .f64 a b = some r ∧ Rp r (x * y) := by
  obtain ⟨s, m, i, ea, ha, _⟩ := read_rp ha hx.1 hx.2
  obtain ⟨t, n, j, eb, hb, _⟩ := read_rp hb hy.1 hy.2
  refine ⟨double.write (.number (s ^^ t) (m * n) (i + j)), ?_, ?_⟩
  · show ((double.read a).product (double.read b)).map double.write = _
    rw [ea, eb]; rfl
  · have hm := Mi_mul ha hb
    have e : (signed s m 0 * signed t n 0).natAbs = m * n := by rw [Int.natAbs_mul, signed_natAbs, signed_natAbs]
    rw [← e]
    refine write_rp _ hm hi.1 hi.2 ?_
    intro hne
    exact sign_mul hne

theorem int_rp {a : Nat} {x : Int} (ha : Rp a x) (hx : InF x) : floatToIntVal .f64 a .i64 = some x := by
  obtain ⟨s, m, i, ea, ha, _⟩ := read_rp ha hx.1 hx.2
  have hc : Datum.toInt .zero (double.read a) = some x := by
    rw [ea]
    unfold Datum.toInt Datum.integral
    dsimp only
    have hcut : Toward.zero.cut s (m <<< i.toNat) (-i).toNat = x.natAbs := by
      apply cut_exact
      rw [Nat.shiftLeft_eq]
      unfold Mi at ha
      have := congrArg Int.natAbs ha
      rw [Int.natAbs_mul, Int.natAbs_mul, signed_natAbs] at this
      simpa [Int.natAbs_pow] using this
    rw [hcut]
    congr 1
    by_cases h0 : x = 0
    · subst h0; cases s <;> simp [signed]
    · have hv : signed s m 0 ≠ 0 := fun e => h0 ((Mi_zero ha).1 e)
      have a1 := Mi_pos ha
      unfold signed at *
      cases s <;> simp at a1 hv ⊢ <;> omega
  unfold floatToIntVal
  show (match Datum.toInt .zero (double.read a) with | some n => _ | none => _) = _
  rw [hc]
  have e1 : IntKind.i64.min = -9223372036854775808 := rfl
  have e2 : IntKind.i64.max = 9223372036854775807 := rfl
  unfold InF at hx
  simp only [e1, e2]
  rw [if_pos (by omega)]

theorem order_rp {a b : Nat} {x y : Int} (ha : Rp a x) (hb : Rp b y) (hx : InF x) (hy : InF y) : double.order a b = some (compare x y) := by
  obtain ⟨s, m, i, ea, ha, _⟩ := read_rp ha hx.1 hx.2
  obtain ⟨t, n, j, eb, hb, _⟩ := read_rp hb hy.1 hy.2
  unfold Format.order
  rw [ea, eb]
  unfold Datum.order
  dsimp only
  rw [signed_eq s m, signed_eq t n]
  have h1 := Mi_shift ha (Int.min_le_left i j)
  have h2 := Mi_shift hb (Int.min_le_right i j)
  congr 1
  have l1 := Mi_lt h1 h2
  have l2 := Mi_lt h2 h1
  simp only [compare, compareOfLessAndEq]
  by_cases c1 : x < y
  · rw [if_pos (l1.2 c1), if_pos c1]
  · rw [if_neg (fun h => c1 (l1.1 h)), if_neg c1]
    by_cases c2 : y < x
    · have := l2.2 c2
      rw [if_neg (by omega), if_neg (by omega)]
    · have : ¬ _ := fun h => c2 (l2.1 h)
      have : ¬ _ := fun h => c1 (l1.1 h)
      rw [if_pos (by omega), if_pos (by omega)]

/-- The sign turned. -/
theorem xor_low {r : Nat} (h : r < 9223372036854775808) : r ^^^ 9223372036854775808 = 9223372036854775808 + r := by
  have e : (9223372036854775808 : Nat) = 2 ^ 63 := rfl
  apply Nat.eq_of_testBit_eq
  intro i
  rw [Nat.testBit_xor, e, Nat.testBit_two_pow]
  rcases Nat.lt_trichotomy i 63 with hi | hi | hi
  · rw [Nat.testBit_two_pow_add_gt hi]
    simp [show ¬ 63 = i by omega]
  · subst hi
    rw [Nat.testBit_two_pow_add_eq]
    have : r.testBit 63 = false := Nat.testBit_lt_two_pow (by rw [← e]; exact h)
    simp [this]
  · have h1 : r.testBit i = false := Nat.testBit_lt_two_pow (Nat.lt_of_lt_of_le (by rw [← e]; exact h) (Nat.pow_le_pow_right (by decide) (show 63 ≤ i by omega)))
    have h2 : (2 ^ 63 + r).testBit i = false := Nat.testBit_lt_two_pow (Nat.lt_of_lt_of_le (show 2 ^ 63 + r < 2 ^ 64 by omega) (Nat.pow_le_pow_right (by decide) (show 64 ≤ i by omega)))
    rw [h1, h2]
    simp [show ¬ 63 = i by omega]

theorem xor_high {r : Nat} (h : r < 9223372036854775808) : (9223372036854775808 + r) ^^^ 9223372036854775808 = r := by
  rw [← xor_low h, Nat.xor_assoc, Nat.xor_self, Nat.xor_zero]

theorem rung_lt {K : Nat} (h0 : 0 < K) (hK : K ≤ 9007199254740992) : rung K < 9218868437227405312 := by
  have hl53 : K.log2 ≤ 53 := by rcases log2_le53 h0 hK with e | e; omega; subst e; rw [log2_53]; exact Nat.le_refl _
  have := top_bd h0 hK
  unfold rung; omega

theorem fi_pos {k : Int} (h0 : 0 < k) (h2 : k ≤ 9007199254740992) : fi k = rung k.natAbs := by
  rw [fi_eq (by omega) (by omega) h2]
  have : decide (k < 0) = false := by simp; omega
  rw [this]; rfl

theorem fi_negv {k : Int} (h0 : 0 < k) (h2 : k ≤ 9007199254740992) : fi (-k) = 9223372036854775808 + rung k.natAbs := by
  rw [fi_eq (by omega) (by omega) (by omega)]
  have : decide (-k < 0) = true := by simp; omega
  rw [this, Int.natAbs_neg]
  show double.signWeight + _ = _
  rw [d_sign]

theorem neg_rp {b : Nat} {k : Int} (h : Rp b k) (hk : InF k) : Rp (b ^^^ 9223372036854775808) (-k) := by
  by_cases h0 : k = 0
  · subst h0
    rcases h with h | h
    · right; rw [h, fi_zero]; exact ⟨rfl, by decide⟩
    · left; rw [h.2]; unfold nz; rw [show (-0 : Int) = 0 from rfl, fi_zero]; decide
  · have hb : b = fi k := h.resolve_right (fun e => h0 e.1)
    left
    rw [hb]
    obtain ⟨k1, k2⟩ := hk
    by_cases hn : 0 < k
    · rw [fi_pos hn k2, fi_negv hn k2, xor_low (by have := rung_lt (K := k.natAbs) (by omega) (by omega); omega)]
    · obtain ⟨j, rfl⟩ : ∃ j, k = -j := ⟨-k, by omega⟩
      have hj : 0 < j := by omega
      have hj2 : j ≤ 9007199254740992 := by omega
      rw [fi_negv hj hj2, Int.neg_neg, fi_pos hj hj2, xor_high (by have := rung_lt (K := j.natAbs) (by omega) (by omega); omega)]

theorem fi_lt (k : Int) (hk : InF k) : fi k < 18446744073709551616 := by
  obtain ⟨k1, k2⟩ := hk
  by_cases h0 : k = 0
  · rw [h0, fi_zero]; decide
  · by_cases hn : 0 < k
    · rw [fi_pos hn k2]; have := rung_lt (K := k.natAbs) (by omega) (by omega); omega
    · obtain ⟨j, rfl⟩ : ∃ j, k = -j := ⟨-k, by omega⟩
      rw [fi_negv (by omega) (by omega)]; have := rung_lt (K := j.natAbs) (by omega) (by omega); omega

theorem rp_lt {b : Nat} {k : Int} (h : Rp b k) (hk : InF k) : b < 18446744073709551616 := by
  rcases h with h | h
  · rw [h]; exact fi_lt k hk
  · rw [h.2]; decide

/-- The sign struck. -/
theorem abs_rp {b : Nat} {k : Int} (h : Rp b k) (hk : InF k) : b % 9223372036854775808 = fi (k.natAbs : Int) := by
  obtain ⟨k1, k2⟩ := hk
  by_cases h0 : k = 0
  · subst h0
    rcases h with h | h
    · rw [h, fi_zero]; rfl
    · rw [h.2]; unfold nz; rw [show ((0 : Int).natAbs : Int) = 0 from rfl, fi_zero]
  · have hb : b = fi k := h.resolve_right (fun e => h0 e.1)
    rw [hb]
    by_cases hn : 0 < k
    · have e : (k.natAbs : Int) = k := by omega
      rw [e, fi_pos hn k2]
      exact Nat.mod_eq_of_lt (by have := rung_lt (K := k.natAbs) (by omega) (by omega); omega)
    · obtain ⟨j, rfl⟩ : ∃ j, k = -j := ⟨-k, by omega⟩
      have e : ((-j).natAbs : Int) = j := by omega
      rw [e, fi_negv (by omega) (by omega), fi_pos (by omega) (by omega)]
      have := rung_lt (K := j.natAbs) (by omega) (by omega)
      omega

/-- Made whole a whole number stays what it is. -/
theorem trunc_rp {b : Nat} {k : Int} (h : Rp b k) (hk : InF k) : double.write ((double.read b).integral .zero) = b := by
  obtain ⟨k1, k2⟩ := hk
  by_cases h0 : k = 0
  · subst h0
    rcases h with h | h
    · rw [h, fi_zero]; decide +kernel
    · rw [h.2]; decide +kernel
  · have hb : b = fi k := h.resolve_right (fun e => h0 e.1)
    obtain ⟨s, m, e, hr, hM, _⟩ := read_rp h k1 k2
    have hcut : Toward.zero.cut s (m <<< e.toNat) (-e).toNat = k.natAbs := by
      apply cut_exact
      rw [Nat.shiftLeft_eq]
      unfold Mi at hM
      have := congrArg Int.natAbs hM
      rw [Int.natAbs_mul, Int.natAbs_mul, signed_natAbs] at this
      simpa [Int.natAbs_pow] using this
    rw [hr]
    unfold Datum.integral
    dsimp only
    rw [hcut]
    have hs : s = decide (k < 0) := by
      have hv : signed s m 0 ≠ 0 := fun e => h0 ((Mi_zero hM).1 e)
      have a1 := Mi_pos hM
      unfold signed at a1 hv
      cases s <;> simp at a1 hv ⊢ <;> omega
    rw [hs, hb]
    rfl

theorem read_max : double.read 9218868437227405311 = .number false 9007199254740991 971 := by decide +kernel

theorem big_pow (n : Nat) (h : 1 ≤ n) : (2 : Int) ≤ 2 ^ n := by
  have := Nat.pow_le_pow_right (n := 2) (i := 1) (j := n) (by decide) h
  exact_mod_cast this

theorem Mi_big (m n : Nat) : Mi (signed false m 0) n ((m : Int) * 2 ^ n) := by
  unfold Mi
  have e1 : ((n : Nat) : Int).toNat = n := by omega
  have e2 : (-((n : Nat) : Int)).toNat = 0 := by omega
  rw [e1, e2, Int.pow_zero, Int.mul_one]
  unfold signed
  simp

theorem order_big {b : Nat} {k : Int} {m n c : Nat} (h : Rp b k) (hk : InF k) (hr : double.read c = .number false m (n : Int)) (hm : 4503599627370496 ≤ m) (hn : 2 ≤ n) : (double.order b c == some .gt) = false := by
  obtain ⟨s, m', e, hr', hM, he⟩ := read_rp h hk.1 hk.2
  unfold Format.order
  rw [hr', hr]
  unfold Datum.order
  dsimp only
  have h1 := Mi_shift hM (Int.min_le_left e n)
  have h2 := Mi_shift (Mi_big m n) (Int.min_le_right e n)
  rw [signed_eq s m', signed_eq false m]
  have hp : (4 : Int) ≤ 2 ^ n := by
    have := Nat.pow_le_pow_right (n := 2) (i := 2) (j := n) (by decide) hn
    exact_mod_cast this
  have hlt : k < (m : Int) * 2 ^ n := by
    have h3 : (m : Int) * 4 ≤ (m : Int) * 2 ^ n := Int.mul_le_mul_of_nonneg_left hp (by omega)
    have := hk.2
    omega
  have := (Mi_lt h1 h2).2 hlt
  simp only [compare, compareOfLessAndEq]
  rw [if_pos this]
  rfl

/-- No whole number of ours is above the greatest float. -/
theorem order_max {b : Nat} {k : Int} (h : Rp b k) (hk : InF k) : (double.order b 9218868437227405311 == some .gt) = false :=
  order_big h hk (n := 971) read_max (by decide) (by decide)

end Go.Proofs.Ytafnplkablkepaa

/-! Floats of single precision as ones of double precision: what is finite stays so. -/
namespace Go.Proofs.Ytafnplkablkepaa
open Go Ieee

theorem s_sign : single.signWeight = 2147483648 := by decide
theorem s_binade : single.binade = 8388608 := by decide
theorem s_inf : single.infRung = 2139095040 := by decide
theorem s_least : single.leastPlace = -149 := by decide

/-- The numbers of single precision. -/
theorem single_read {b : Nat} {s : Bool} {m : Nat} {e : Int} (h : single.read b = .number s m e) : m < 16777216 ∧ -149 ≤ e ∧ e ≤ 104 := by
  unfold Format.read at h
  simp only [s_sign, s_binade, s_inf, s_least] at h
  generalize b % 2147483648 = r at h
  split at h
  · cases h; omega
  · split at h
    · cases h
      rename_i h1 h2
      have : r / 8388608 ≤ 254 := by omega
      have : 1 ≤ r / 8388608 := by omega
      refine ⟨by omega, by omega, by omega⟩
    · split at h <;> cases h

theorem log2_bd {m : Nat} (h0 : m ≠ 0) (h : m < 16777216) : m.log2 ≤ 23 ∧ m < 2 ^ (m.log2 + 1) := by
  refine ⟨?_, (Nat.log2_lt h0).1 (by omega)⟩
  have := (Nat.log2_lt (n := m) (k := 24) h0).2 h
  omega

theorem rung_low {q k : Nat} (ha : q ≤ 1149) (hk : k < 9007199254740992) : min (q * 4503599627370496 + k) 9218868437227405312 < 9218868437227405312 := by
  omega
/-- The word of such a number in double precision, but for its sign. -/
theorem widen_rung (s : Bool) {m : Nat} {e : Int} (hm : m < 16777216) (h1 : -149 ≤ e) (h2 : e ≤ 104) : ∃ r : Nat, double.write (.number s m e) = double.word s r ∧ r < 9218868437227405312 := by
  show ∃ r : Nat, double.nearest s m e = double.word s r ∧ r < 9218868437227405312
  unfold Format.nearest
  by_cases h0 : m = 0
  · rw [if_pos h0]; exact ⟨0, rfl, by decide⟩
  · rw [if_neg h0]
    obtain ⟨l1, l2⟩ := log2_bd h0 hm
    simp only [d_least, d_frac, d_binade, d_inf]
    have e1 : max (e + (m.log2 : Int) - (52 : Nat)) (-1074) = e + (m.log2 : Int) - 52 := by omega
    rw [e1]
    have e2 : (e + (m.log2 : Int) - 52 - e).toNat = 0 := by omega
    have e3 : (e - (e + (m.log2 : Int) - 52)).toNat = 52 - m.log2 := by omega
    rw [e2, e3]
    have e4 : Toward.even.cut s (m <<< (52 - m.log2)) 0 = m * 2 ^ (52 - m.log2) := cut_exact _ _ _ _ _ (by rw [Nat.shiftLeft_eq]; simp)
    rw [e4]
    have hk : m * 2 ^ (52 - m.log2) < 9007199254740992 := by
      have a := Nat.mul_lt_mul_of_pos_right l2 (Nat.two_pow_pos (52 - m.log2))
      rw [← Nat.pow_add, show m.log2 + 1 + (52 - m.log2) = 53 by omega] at a
      exact a
    have ha : (e + (m.log2 : Int) - 52 - -1074).toNat ≤ 1149 := by omega
    exact ⟨_, rfl, rung_low ha hk⟩

theorem word_read (s : Bool) {r : Nat} (h : r < 9218868437227405312) : (double.read (double.word s r)).isInfinity = false ∧ (double.read (double.word s r)).isNaN = false := by
  have hr : double.word s r % 9223372036854775808 = r := by
    unfold Format.word; rw [d_sign]; split <;> omega
  unfold Format.read
  simp only [d_sign, d_binade, d_inf, d_least, hr]
  split
  · exact ⟨rfl, rfl⟩
  · first
    | exact ⟨rfl, rfl⟩
    | (rw [if_pos h]; exact ⟨rfl, rfl⟩)

/-- The same float in double precision: of a NaN, one of them. -/
def widen (b : Nat) : Nat := FloatKind.f64.encode (FloatKind.f32.decode b)
def nanB (b : Nat) : Bool := (FloatKind.f32.decode b).isNaN
theorem widen_run {P : Program} {b : Nat} (h : nanB b = false) (w : World) : (Conv.floatToFloat .f32 b .f64).run P w = .ok (.float .f64 (widen b)) w := by
  unfold Conv.floatToFloat
  rw [if_neg (by decide)]
  unfold nanB at h
  unfold widen
  split
  · rename_i e; rw [e] at h; cases h
  · rename_i s e; rw [e]; rfl
  · rename_i s m e hd
    obtain ⟨k1, k2, k3⟩ := single_read (b := b) hd
    obtain ⟨r, hr, hlt⟩ := widen_rung s k1 k2 k3
    have : (FloatKind.f64.decode (FloatKind.f64.encode (.number s m e))).isInfinity = false := by
      show (double.read (double.write (.number s m e))).isInfinity = false
      rw [hr]; exact (word_read s hlt).1
    rw [hd]
    simp only [this]
    rfl
/-- A NaN becomes a NaN. -/
def isNan64 (b : Nat) : Bool := decide (b < 18446744073709551616) && (FloatKind.f64.decode b).isNaN
theorem nan_of {t : Nat} : isNan64 ((t % 2) * 9223372036854775808 + 9218868437227405312 + 1 + (t / 2) % 4503599627370495) = true := by
  unfold isNan64
  rw [Bool.and_eq_true]
  refine ⟨decide_eq_true (by omega), ?_⟩
  show (double.read _).isNaN = true
  unfold Format.read
  simp only [d_sign, d_binade, d_inf, d_least]
  have h : (t % 2 * 9223372036854775808 + 9218868437227405312 + 1 + t / 2 % 4503599627370495) % 9223372036854775808 = 9218868437227405313 + t / 2 % 4503599627370495 := by omega
  rw [h, if_neg (by omega), if_neg (by omega), if_neg (by omega)]
  rfl
theorem nan_run {P : Program} {b : Nat} (h : nanB b = true) (w : World) : ∃ n, isNan64 n = true ∧ (Conv.floatToFloat .f32 b .f64).run P w = .ok (.float .f64 n) w.drew := by
  unfold Conv.floatToFloat
  rw [if_neg (by decide)]
  unfold nanB at h
  cases hd : FloatKind.f32.decode b with
  | number s m e => rw [hd] at h; cases h
  | infinity s => rw [hd] at h; cases h
  | nan s t => exact ⟨_, nan_of (t := w.tape w.drawn (.nanConv .f64 b)), rfl⟩
/-- A float of single precision, cut to a whole number, if that is an int. -/
def cutF32 (b : Nat) : Option Int := match (FloatKind.f32.decode b).toInt .zero with
  | some n => if IntKind.i64.min ≤ n ∧ n ≤ IntKind.i64.max then some n else none
  | none => none
theorem f2i_run {P : Program} {b : Nat} {n : Int} (h : cutF32 b = some n) (w : World) : (Conv.floatToInt .f32 b .i64).run P w = .ok (.int .i64 n) w := by
  unfold cutF32 at h
  split at h
  · rename_i m hm
    split at h
    · rename_i hr
      cases h
      simp only [Conv.floatToInt, hm]
      rw [if_pos hr]; rfl
    · cases h
  · cases h
/-- Some NaN. -/
def nanOf (n : Nat) : Nat := if isNan64 n then n else 9221120237041090561
theorem nanOf_is (n : Nat) : isNan64 (nanOf n) = true := by
  unfold nanOf
  split
  · assumption
  · decide +kernel
theorem nanOf_self {n : Nat} (h : isNan64 n = true) : nanOf n = n := by unfold nanOf; rw [if_pos h]
end Go.Proofs.Ytafnplkablkepaa

/-! Whole numbers as floats: sums and products whose zeros have no sign. -/
namespace Go.Proofs.Ytafnplkablkepaa
open Ieee
theorem sign_of {b : Nat} {k : Int} (h : b = fi k) (hk : InF k) : ∃ s m e, double.read b = .number s m e ∧ Mi (signed s m 0) e k ∧ (s = true → k < 0) := by
  by_cases h0 : k = 0
  · subst h0
    rw [h, fi_zero]
    have hz : ∀ e : Int, Mi 0 e 0 := fun e => by unfold Mi; simp
    exact ⟨false, 0, -1074, by decide +kernel, by simpa [signed] using hz (-1074), fun h => by cases h⟩
  · obtain ⟨k1, k2⟩ := hk
    rw [h, fi_eq h0 k1 k2]
    refine ⟨_, _, _, read_word _ (by omega) (by omega), ?_, fun h => of_decide_eq_true h⟩
    have := Mi_signed (decide (k < 0)) (Mi_top (K := k.natAbs) (by omega) (by omega))
    have e : (if decide (k < 0) = true then -(k.natAbs : Int) else (k.natAbs : Int)) = k := by
      by_cases hk : k < 0 <;> simp [hk] <;> omega
    rw [e] at this
    exact this
theorem sign_any {b : Nat} {k : Int} (h : Rp b k) (hk : InF k) : ∃ s m e, double.read b = .number s m e ∧ Mi (signed s m 0) e k ∧ (0 < k → s = false) ∧ (k < 0 → s = true) := by
  by_cases h0 : k = 0
  · obtain ⟨s, m, e, h1, h2, _⟩ := read_rp h hk.1 hk.2
    exact ⟨s, m, e, h1, h2, fun h => by omega, fun h => by omega⟩
  · have hb : b = fi k := h.resolve_right fun e => h0 e.1
    obtain ⟨k1, k2⟩ := hk
    rw [hb, fi_eq h0 k1 k2]
    refine ⟨_, _, _, read_word _ (by omega) (by omega), ?_, fun h => decide_eq_false (by omega), fun h => decide_eq_true h⟩
    have := Mi_signed (decide (k < 0)) (Mi_top (K := k.natAbs) (by omega) (by omega))
    have e : (if decide (k < 0) = true then -(k.natAbs : Int) else (k.natAbs : Int)) = k := by
      by_cases hk : k < 0 <;> simp [hk] <;> omega
    rw [e] at this
    exact this
/-- A sum in which the zeros don't both have a sign. -/
theorem sum_exact {s t : Bool} {m n : Nat} {i j x y : Int} (hx : Mi (signed s m 0) i x) (hy : Mi (signed t n 0) j y) (hi : InF (x + y)) (hs : x + y = 0 → (s && t) = false) :
    ∃ d, (Datum.number s m i).sum (Datum.number t n j) = some d ∧ double.write d = fi (x + y) := by
  obtain ⟨d, hd, hr⟩ := sum_rp hx hy hi
  refine ⟨d, hd, ?_⟩
  rcases hr with h | ⟨h0, h⟩
  · exact h
  · simp only [Datum.sum, Option.some.injEq] at hd
    have hz := Mi_add (Mi_shift hx (Int.min_le_left i j)) (Mi_shift hy (Int.min_le_right i j))
    rw [← signed_eq, ← signed_eq] at hz
    have ht := (Mi_zero hz).2 h0
    rw [ht, if_pos rfl, hs h0] at hd
    rw [← hd, h0]
    show double.nearest false (Int.natAbs 0) _ = _
    unfold Format.nearest
    rw [if_pos (by simp), fi_zero]; decide
theorem add_exact {a b : Nat} {x y : Int} (ha : Rp a x) (hb : Rp b y) (hx : InF x) (hy : InF y) (hi : InF (x + y)) (h : a = fi x ∨ b = fi y) : floatBits .add .f64 a b = some (fi (x + y)) := by
  have key : ∃ s m i t n j, double.read a = .number s m i ∧ double.read b = .number t n j ∧ Mi (signed s m 0) i x ∧ Mi (signed t n 0) j y ∧ (x + y = 0 → (s && t) = false) := by
    rcases h with h | h
    · obtain ⟨s, m, i, ea, ma, sa⟩ := sign_of h hx
      obtain ⟨t, n, j, eb, mb, pb, nb⟩ := sign_any hb hy
      refine ⟨s, m, i, t, n, j, ea, eb, ma, mb, fun h0 => ?_⟩
      cases s with
      | false => rfl
      | true => have := sa rfl; rw [pb (by omega)]; rfl
    · obtain ⟨s, m, i, ea, ma, pa, na⟩ := sign_any ha hx
      obtain ⟨t, n, j, eb, mb, sb⟩ := sign_of h hy
      refine ⟨s, m, i, t, n, j, ea, eb, ma, mb, fun h0 => ?_⟩
      cases t with
      | false => simp
      | true => have := sb rfl; rw [pa (by omega)]; rfl
  obtain ⟨s, m, i, t, n, j, ea, eb, ma, mb, hs⟩ := key
  obtain ⟨d, hd, hr⟩ := sum_exact ma mb hi hs
  show ((double.read a).sum (double.read b)).map double.write = _
  rw [ea, eb, hd, Option.map_some, hr]
theorem sub_exact {a b : Nat} {x y : Int} (ha : a = fi x) (hb : Rp b y) (hx : InF x) (hy : InF y) (hi : InF (x - y)) : floatBits .sub .f64 a b = some (fi (x - y)) := by
  obtain ⟨s, m, i, ea, ma, sa⟩ := sign_of ha hx
  obtain ⟨t, n, j, eb, mb, pb, nb⟩ := sign_any hb hy
  have hb' : Mi (signed (!t) n 0) j (-y) := by
    have := Mi_neg mb
    cases t
    · simpa [signed] using this
    · simpa [signed] using this
  obtain ⟨d, hd, hr⟩ := sum_exact ma hb' (by rw [← Int.sub_eq_add_neg]; exact hi) fun h0 => by
    cases s with
    | false => rfl
    | true => have := sa rfl; rw [nb (by omega)]; rfl
  show ((double.read a).sum (double.read b).opposite).map double.write = _
  rw [ea, eb]
  show Option.map _ ((Datum.number s m i).sum (Datum.number (!t) n j)) = _
  rw [hd, Option.map_some, hr, Int.sub_eq_add_neg]
theorem mul_exact {a b : Nat} {x y : Int} (ha : Rp a x) (hb : Rp b y) (hx : InF x) (hy : InF y) (hi : InF (x * y)) (h : x * y ≠ 0) : floatBits .mul .f64 a b = some (fi (x * y)) := by
  obtain ⟨r, hr, hp⟩ := mul_rp ha hb hx hy hi
  rw [hr, hp.resolve_right fun e => h e.1]

/-- A whole number and its sign, that of a zero as well. -/
def Sg2 (b : Nat) (k : Int) (s : Bool) : Prop := ∃ m e, double.read b = .number s m e ∧ Mi (signed s m 0) e k
theorem sg_fi {k : Int} (hk : InF k) : Sg2 (fi k) k (decide (k < 0)) := by
  obtain ⟨s, m, e, h1, h2, h3⟩ := sign_of rfl hk
  by_cases hn : k < 0
  · obtain ⟨s', m', e', h1', h2', h3', h4'⟩ := sign_any (Rp_fi k) hk
    rw [decide_eq_true hn]
    have := h4' hn
    subst this
    exact ⟨m', e', h1', h2'⟩
  · rw [decide_eq_false hn]
    cases s with
    | true => exact absurd (h3 rfl) hn
    | false => exact ⟨m, e, h1, h2⟩
theorem sg_nz : Sg2 nz 0 true := by
  have hz : ∀ e : Int, Mi 0 e 0 := fun e => by unfold Mi; simp
  exact ⟨0, -1074, by decide +kernel, by simpa [signed] using hz (-1074)⟩
/-- A product that is 0. -/
theorem mul_zero_sg {a b : Nat} {x y : Int} {s t : Bool} (ha : Sg2 a x s) (hb : Sg2 b y t) (h : x * y = 0) : floatBits .mul .f64 a b = some (if s ^^ t then nz else 0) := by
  obtain ⟨m, i, ea, ma⟩ := ha
  obtain ⟨n, j, eb, mb⟩ := hb
  show ((double.read a).product (double.read b)).map double.write = _
  rw [ea, eb]
  have hm : m * n = 0 := by
    have e : (signed s m 0 * signed t n 0).natAbs = m * n := by rw [Int.natAbs_mul, signed_natAbs, signed_natAbs]
    have := (Mi_zero (Mi_mul ma mb)).2 h
    rw [this] at e; simpa using e.symm
  simp only [Datum.product, Option.map_some, hm]
  rfl
end Go.Proofs.Ytafnplkablkepaa
