/- Roots of whole numbers, rounded down; directions by halves, in plain numbers. -/
import Derived.Test.YtgdhpgjfebinhaaRt
namespace Go.Proofs.Ytgdhpgjfebinhaa
open Go Go.RowKit
set_option linter.unusedVariables false

theorem root_sq (n : Nat) (h : n < 72057594037927936) : rt n < 268435456 := lt_of_sq (b := 268435456) (Nat.lt_of_le_of_lt (rt_spec n).1 h)

/-- The root as a number, and the squares beside it. -/
theorem rt_int (n : Nat) : ((rt n : Nat) : Int) * ((rt n : Nat) : Int) ≤ (n : Int) ∧ (n : Int) < ((rt n : Nat) : Int) * ((rt n : Nat) : Int) + 2 * ((rt n : Nat) : Int) + 1 := by
  have h := rt_spec n
  have e : (rt n + 1) * (rt n + 1) = rt n * rt n + 2 * rt n + 1 := by rw [Nat.add_mul, Nat.mul_add]; omega
  rw [← Int.natCast_mul]
  have := h.1
  have := h.2
  omega

def rti (n : Int) : Int := (rt n.toNat : Nat)

theorem rti_spec (n : Int) (h : 0 ≤ n) (h' : n < 72057594037927936) : 0 ≤ rti n ∧ rti n < 268435456 ∧ rti n * rti n ≤ n ∧ n < rti n * rti n + 2 * rti n + 1 := by
  obtain ⟨m, rfl⟩ := Int.eq_ofNat_of_zero_le h
  have a := rt_int m
  have b := root_sq m (by omega)
  unfold rti
  rw [Int.toNat_natCast]
  exact ⟨by omega, by omega, a.1, a.2⟩

theorem sqrt_rti (n : Int) (h : 0 ≤ n) (h' : n < 72057594037927936) : ∃ r : Nat, ∃ t : Int, Ieee.double.sqrt (fi n) = some r ∧ floatToIntVal .f64 r .i64 = some t ∧ (t = rti n ∨ t = rti n + 1) := by
  obtain ⟨m, rfl⟩ := Int.eq_ofNat_of_zero_le h
  obtain ⟨r, t, h1, h2, h3, h4⟩ := sqrt_int m (by omega)
  refine ⟨r, t, h1, h2, ?_⟩
  unfold rti
  rw [Int.toNat_natCast]
  omega

/-- A direction in the first eighth, not nearer to the second axis than a half. -/
def OkD (a b : Int) : Prop := 33554432 ≤ a ∧ a ≤ 67108864 ∧ 0 ≤ b ∧ b ≤ a
/-- The square of the sum of two directions. -/
def sqD (a b c d : Int) : Int := (a + c) * (a + c) + (b + d) * (b + d)
def bisX (a b c d : Int) : Int := (a + c) * 67108864 / rti (sqD a b c d)
def bisY (a b c d : Int) : Int := (b + d) * 67108864 / rti (sqD a b c d)

theorem sq_le_sq' {a b : Int} (ha : 0 ≤ b) (h : a * a ≤ b * b) : a ≤ b := by
  rcases Int.lt_or_le b a with h1 | h1
  · have : b * b < a * a := Int.mul_lt_mul' (by omega) h1 ha (by omega)
    omega
  · exact h1

theorem sizeD {a b c d : Int} (h : OkD a b) (g : OkD c d) : 0 ≤ sqD a b c d ∧ sqD a b c d ≤ 36028797018963968 ∧ a + c ≤ rti (sqD a b c d) ∧ rti (sqD a b c d) ≤ 2 * (a + c) ∧ 67108864 ≤ a + c ∧ a + c ≤ 134217728 ∧ 0 ≤ b + d ∧ b + d ≤ a + c := by
  obtain ⟨h1, h2, h3, h4⟩ := h
  obtain ⟨g1, g2, g3, g4⟩ := g
  unfold sqD
  generalize hx : a + c = x
  generalize hy : b + d = y
  have x1 : 67108864 ≤ x := by omega
  have x2 : x ≤ 134217728 := by omega
  have y1 : 0 ≤ y := by omega
  have y2 : y ≤ x := by omega
  clear hx hy h1 h2 h3 h4 g1 g2 g3 g4
  have e1 : x * x ≤ 134217728 * 134217728 := Int.mul_le_mul x2 x2 (by omega) (by omega)
  have e2 : y * y ≤ x * x := Int.mul_le_mul y2 y2 y1 (by omega)
  have e3 : 0 ≤ x * x := Int.mul_nonneg (by omega) (by omega)
  have e4 : 0 ≤ y * y := Int.mul_nonneg y1 y1
  obtain ⟨s1, s2, s3, s4⟩ := rti_spec (x * x + y * y) (by omega) (by omega)
  generalize rti (x * x + y * y) = s at *
  refine ⟨by omega, by omega, ?_, ?_, x1, x2, y1, y2⟩
  · have : (s + 1) * (s + 1) = s * s + 2 * s + 1 := by grind
    have := sq_le_sq' (a := x) (b := s + 1) (by omega) (by omega)
    rcases Int.lt_or_le s x with h | h
    · have : x = s + 1 := by omega
      subst this
      omega
    · exact h
  · refine sq_le_sq' (by omega) ?_
    have : (2 * x) * (2 * x) = 4 * (x * x) := by grind
    omega

theorem okD_bis {a b c d : Int} (h : OkD a b) (g : OkD c d) : OkD (bisX a b c d) (bisY a b c d) := by
  obtain ⟨h1, h2, h3, h4, h5, h6, h7, h8⟩ := sizeD h g
  unfold bisX bisY
  generalize rti (sqD a b c d) = s at *
  generalize a + c = x at *
  generalize b + d = y at *
  have hs : 0 < s := by omega
  refine ⟨?_, ?_, ?_, ?_⟩
  · rw [Int.le_ediv_iff_mul_le hs]; omega
  · have : x * 67108864 / s < 67108864 + 1 := by
      rw [Int.ediv_lt_iff_lt_mul hs]; omega
    omega
  · exact Int.ediv_nonneg (by omega) (by omega)
  · exact Int.ediv_le_ediv hs (by omega)

/-- The direction of m by halves. -/
def hvGo : Nat → Int → Int → Int → Int → Int → Int → Int → Int × Int
  | 0, _, _, _, a, b, _, _ => (a, b)
  | k + 1, m, low, high, a, b, c, d =>
    if low = m then (a, b)
    else if (low + high) / 2 ≤ m then hvGo k m ((low + high) / 2) high (bisX a b c d) (bisY a b c d) c d
    else hvGo k m low ((low + high) / 2) a b (bisX a b c d) (bisY a b c d)

/-- Where the halves stand: what is left gives r. -/
def HvAt (m : Int) (r : Int × Int) (low high a b c d : Int) : Prop :=
  0 ≤ low ∧ low ≤ m ∧ m < high ∧ high ≤ 524288 ∧ OkD a b ∧ OkD c d ∧ ∃ k : Nat, high - low = 2 ^ k ∧ hvGo (k + 1) m low high a b c d = r

def hvP (m : Int) : Int × Int := hvGo 20 m 0 524288 67108864 0 47453132 47453132

theorem hvAt_start {m : Int} (h0 : 0 ≤ m) (h1 : m < 524288) : HvAt m (hvP m) 0 524288 67108864 0 47453132 47453132 :=
  ⟨by omega, h0, h1, by omega, ⟨by omega, by omega, by omega, by omega⟩, ⟨by omega, by omega, by omega, by omega⟩, 19, by decide, rfl⟩

theorem hvAt_fin {m r low high a b c d} (h : HvAt m r low high a b c d) (e : low = m) : r = (a, b) ∧ OkD a b := by
  obtain ⟨_, _, _, _, ha, _, k, _, hk⟩ := h
  rw [hvGo, if_pos e] at hk
  exact ⟨hk.symm, ha⟩

theorem hvAt_step {m r low high a b c d} (h : HvAt m r low high a b c d) (e : low ≠ m) : 0 ≤ (low + high) / 2 ∧ low < (low + high) / 2 ∧ (low + high) / 2 < high ∧
    ((low + high) / 2 ≤ m → HvAt m r ((low + high) / 2) high (bisX a b c d) (bisY a b c d) c d) ∧
    (m < (low + high) / 2 → HvAt m r low ((low + high) / 2) a b (bisX a b c d) (bisY a b c d)) := by
  obtain ⟨h0, h1, h2, h3, ha, hc, k, hk, hr⟩ := h
  match k, hk, hr with
  | 0, hk, _ => simp at hk; omega
  | k + 1, hk, hr =>
    have hp : (2 : Int) ^ (k + 1) = 2 * 2 ^ k := by rw [Int.pow_succ, Int.mul_comm]
    have hq : (0 : Int) < 2 ^ k := Int.pow_pos (by decide)
    rw [hp] at hk
    generalize (2 : Int) ^ k = t at hk hq hp
    have hm : (low + high) / 2 = low + t := by omega
    rw [hvGo, if_neg e] at hr
    refine ⟨by omega, by omega, by omega, fun hle => ?_, fun hlt => ?_⟩
    · rw [if_pos hle] at hr
      refine ⟨by omega, by omega, by omega, by omega, okD_bis ha hc, hc, k, ?_, hr⟩
      have : (2 : Int) ^ (k + 1) = 2 * 2 ^ k := by rw [Int.pow_succ, Int.mul_comm]
      omega
    · rw [if_neg (by omega)] at hr
      refine ⟨by omega, by omega, by omega, by omega, ha, okD_bis ha hc, k, ?_, hr⟩
      have : (2 : Int) ^ (k + 1) = 2 * 2 ^ k := by rw [Int.pow_succ, Int.mul_comm]
      omega
end Go.Proofs.Ytgdhpgjfebinhaa
