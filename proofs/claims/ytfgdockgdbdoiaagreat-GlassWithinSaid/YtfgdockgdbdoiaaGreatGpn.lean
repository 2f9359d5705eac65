/- Numbers between rows, in plain numbers. -/
import Derived.Test.YtfgdockgdbdoiaaGreatBita
namespace Go.Proofs.YtfgdockgdbdoiaaGreat.Gp
set_option linter.unusedSimpArgs false
set_option linter.unusedVariables false
open Go.Proofs.YtfgdockgdbdoiaaGreat
theorem div_cross {a b c d : Int} (hb : 0 < b) (hd : 0 < d) (h : a * d = c * b) : a / b = c / d := by
  have e1 : a / b = (a * d) / (b * d) := (Int.mul_ediv_mul_of_pos_left a b hd).symm
  have e2 : c / d = (c * b) / (d * b) := (Int.mul_ediv_mul_of_pos_left c d hb).symm
  rw [e1, e2, h, Int.mul_comm b d]
theorem rdiv_cross {a b c d : Int} (hb : 0 < b) (hd : 0 < d) (h : a * d = c * b) : rdiv a b = rdiv c d := by
  unfold rdiv
  refine div_cross (by omega) (by omega) ?_
  have e1 : (2 * a + b) * (2 * d) = 4 * (a * d) + 2 * (b * d) := by rw [Int.add_mul]; congr 1 <;> ac_rfl
  have e2 : (2 * c + d) * (2 * b) = 4 * (c * b) + 2 * (b * d) := by rw [Int.add_mul]; congr 1 <;> ac_rfl
  rw [e1, e2, h]
theorem cdiv_cross {a b c d : Int} (hb : 0 < b) (hd : 0 < d) (h : a * d = c * b) : cdiv a b = cdiv c d := by
  unfold cdiv
  rw [div_cross (a := -a) (c := -c) hb hd (by rw [Int.neg_mul, Int.neg_mul, h])]
theorem mulB {n a N A : Int} (hn : -N ≤ n ∧ n ≤ N) (ha : -A ≤ a ∧ a ≤ A) : -(N * A) ≤ n * a ∧ n * a ≤ N * A := by
  have h1 : n.natAbs ≤ N.toNat := by omega
  have h2 : a.natAbs ≤ A.toNat := by omega
  have h3 := Nat.mul_le_mul h1 h2
  rw [← Int.natAbs_mul] at h3
  have h4 : ((N.toNat * A.toNat : Nat) : Int) = N * A := by rw [Int.natCast_mul, Int.toNat_of_nonneg (by omega), Int.toNat_of_nonneg (by omega)]
  omega
/-- The rows rise. -/
def Rises (n : Int) (f : Int → Int) : Prop := ∀ i, 0 < i → i < n → f (i - 1) < f i
theorem rises_lt {n : Int} {f : Int → Int} (h : Rises n f) : ∀ (k : Nat) (i : Int), 0 ≤ i → i + k + 1 < n → f i < f (i + k + 1)
  | 0, i, h0, h1 => by have := h (i + 1) (by omega) (by omega); simpa using this
  | k + 1, i, h0, h1 => by
    have a := rises_lt h k i h0 (by omega)
    have b := h (i + (k + 1 : Nat) + 1) (by omega) h1
    have e : i + ((k + 1 : Nat) : Int) + 1 - 1 = i + k + 1 := by omega
    rw [e] at b
    omega
theorem rises {n : Int} {f : Int → Int} (h : Rises n f) {i j : Int} (h0 : 0 ≤ i) (h1 : i < j) (h2 : j < n) : f i < f j := by
  have := rises_lt h (j - i - 1).toNat i h0 (by omega)
  have e : i + ((j - i - 1).toNat : Int) + 1 = j := by omega
  rwa [e] at this
/-- The first of the two rows between which w lies. -/
def IsGap (n : Int) (f : Int → Int) (w r : Int) : Prop := 0 ≤ r ∧ r + 1 < n ∧ (r = 0 ∨ f r ≤ w) ∧ (r + 2 = n ∨ w < f (r + 1))
/-- The last row at w, or below. -/
def IsRow (n : Int) (f : Int → Int) (w r : Int) : Prop := 0 ≤ r ∧ r < n ∧ (r = 0 ∨ f r ≤ w) ∧ (r + 1 = n ∨ w < f (r + 1))
theorem gap_row {n w r i : Int} {f : Int → Int} (h : Rises n f) (hg : IsGap n f w r) (hr : IsRow n f w i) (hw : f 0 ≤ w) : (i ≤ n - 2 → i = r) ∧ (n - 2 < i → r = n - 2 ∧ i = n - 1) := by
  obtain ⟨a0, a1, a2, a3⟩ := hg
  obtain ⟨b0, b1, b2, b3⟩ := hr
  have hr' : f r ≤ w := by rcases a2 with rfl | h; exact hw; exact h
  have hi' : f i ≤ w := by rcases b2 with rfl | h; exact hw; exact h
  constructor
  · intro h1
    have hi : w < f (i + 1) := by omega
    rcases Int.lt_trichotomy i r with g | g | g
    · rcases Int.lt_or_eq_of_le (show i + 1 ≤ r by omega) with g' | g'
      · have := rises h (i := i + 1) (j := r) (by omega) g' (by omega); omega
      · rw [g'] at hi; omega
    · exact g
    · have hr1 : w < f (r + 1) := by omega
      rcases Int.lt_or_eq_of_le (show r + 1 ≤ i by omega) with g' | g'
      · have := rises h (i := r + 1) (j := i) (by omega) g' (by omega); omega
      · rw [g'] at hr1; omega
  · intro h1
    refine ⟨?_, by omega⟩
    rcases a3 with g | g
    · omega
    · rcases Int.lt_or_eq_of_le (show r + 1 ≤ i by omega) with g' | g'
      · have := rises h (i := r + 1) (j := i) (by omega) g' (by omega); omega
      · rw [g'] at g; omega
/-- What lies between two rows, many times their distance. -/
def tol (c f : Int → Int) (w r : Int) : Int := c r * (f (r + 1) - w) + c (r + 1) * (w - f r)
/-- The program's and the reference's numbers. -/
def PTold (n : Int) (f c : Int → Int) (w N D : Int) : Prop := (n = 1 ∧ N = c 0 ∧ D = 1) ∨ (n ≠ 1 ∧ ∃ r, IsGap n f w r ∧ N = tol c f w r ∧ D = f (r + 1) - f r)
def RTold (n : Int) (f c : Int → Int) (w N D : Int) : Prop := ∃ i, IsRow n f w i ∧ ((f i = w ∧ N = c i ∧ D = 1) ∨ (f i ≠ w ∧ N = tol c f w i ∧ D = f (i + 1) - f i))
/-- A number that is a column's at a wavelength. -/
structure Tells (M N D : Int) : Prop where
  pos : 0 < D
  les : D ≤ 200000
  low : 0 ≤ N
  hig : N ≤ M * D
theorem tol_bd {c f : Int → Int} {w r M : Int} (h0 : 0 ≤ c r ∧ c r ≤ M) (h1 : 0 ≤ c (r + 1) ∧ c (r + 1) ≤ M) (a : f r ≤ w) (b : w ≤ f (r + 1)) : 0 ≤ tol c f w r ∧ tol c f w r ≤ M * (f (r + 1) - f r) := by
  unfold tol
  have p0 := Int.mul_nonneg h0.1 (show 0 ≤ f (r + 1) - w by omega)
  have p1 := Int.mul_nonneg h1.1 (show 0 ≤ w - f r by omega)
  have q0 := Int.mul_le_mul_of_nonneg_right h0.2 (show 0 ≤ f (r + 1) - w by omega)
  have q1 := Int.mul_le_mul_of_nonneg_right h1.2 (show 0 ≤ w - f r by omega)
  have e : M * (f (r + 1) - f r) = M * (f (r + 1) - w) + M * (w - f r) := by rw [← Int.mul_add]; congr 1; omega
  omega
theorem told_same {n w M N D N' D' : Int} {f c : Int → Int} (hr : Rises n f) (hn : 1 ≤ n) (hf : ∀ i, 0 ≤ i → i < n → 1000 ≤ f i ∧ f i ≤ 200000) (hc : ∀ i, 0 ≤ i → i < n → 0 ≤ c i ∧ c i ≤ M)
    (hw : f 0 ≤ w) (hw' : w ≤ f (n - 1)) (hp : PTold n f c w N D) (hq : RTold n f c w N' D') : N * D' = N' * D ∧ Tells M N D ∧ Tells M N' D' := by
  obtain ⟨i, hi, hq⟩ := hq
  have hi' : f i ≤ w := by rcases hi.2.2.1 with rfl | h; exact hw; exact h
  have hM : 0 ≤ M := by have := hc 0 (by omega) (by omega); omega
  rcases hp with ⟨h1, rfl, rfl⟩ | ⟨h1, r, hg, rfl, rfl⟩
  · subst h1
    have e : i = 0 := by have := hi.1; have := hi.2.1; omega
    subst e
    have e : f 0 = w := by simp only [Int.sub_self] at hw'; omega
    have b := hc 0 (by omega) (by omega)
    rcases hq with ⟨_, rfl, rfl⟩ | ⟨h, _⟩
    · exact ⟨rfl, ⟨by omega, by omega, by omega, by omega⟩, ⟨by omega, by omega, by omega, by omega⟩⟩
    · exact absurd e h
  · have g := gap_row hr hg hi hw
    have hg' : f r ≤ w := by rcases hg.2.2.1 with rfl | h; exact hw; exact h
    have b0 := hc r hg.1 (by have := hg.2.1; omega)
    have b1 := hc (r + 1) (by have := hg.1; omega) hg.2.1
    have w0 := hf r hg.1 (by have := hg.2.1; omega)
    have w1 := hf (r + 1) (by have := hg.1; omega) hg.2.1
    have up := hr (r + 1) (by have := hg.1; omega) hg.2.1
    rw [show r + 1 - 1 = r by omega] at up
    have hle : w ≤ f (r + 1) := by
      rcases hg.2.2.2 with h | h
      · rw [show n - 1 = r + 1 by omega] at hw'; exact hw'
      · omega
    have t1 : Tells M (tol c f w r) (f (r + 1) - f r) := ⟨by omega, by omega, (tol_bd b0 b1 hg' hle).1, (tol_bd b0 b1 hg' hle).2⟩
    by_cases hin : i ≤ n - 2
    · have e := g.1 hin
      subst e
      rcases hq with ⟨hq, rfl, rfl⟩ | ⟨hq, rfl, rfl⟩
      · refine ⟨?_, t1, ⟨by omega, by omega, b0.1, by omega⟩⟩
        unfold tol; rw [← hq]; simp [Int.mul_comm]
      · exact ⟨rfl, t1, t1⟩
    · have e := g.2 (by omega)
      obtain ⟨e1, e2⟩ := e
      have hlast : f i = w := by rw [e2] at hi' ⊢; omega
      rcases hq with ⟨hq, rfl, rfl⟩ | ⟨hq, rfl, rfl⟩
      · have ei : i = r + 1 := by omega
        subst ei
        refine ⟨?_, t1, ⟨by omega, by omega, b1.1, by omega⟩⟩
        unfold tol; rw [← hq]; simp [Int.mul_comm]
      · exact absurd hlast hq
/-- The group index: both are the line through the two rows. -/
theorem group_same {a b s w f0 : Int} : a * (s - (w - f0)) + b * (w - f0) - w * (b - a) = a * s - (b - a) * f0 := by
  have e1 : a * (s - (w - f0)) = a * s - a * w + a * f0 := by rw [Int.mul_sub, Int.mul_sub]; omega
  rw [e1, Int.mul_sub, Int.mul_sub, Int.sub_mul, Int.mul_comm w b, Int.mul_comm w a]
  omega
end Go.Proofs.YtfgdockgdbdoiaaGreat.Gp
