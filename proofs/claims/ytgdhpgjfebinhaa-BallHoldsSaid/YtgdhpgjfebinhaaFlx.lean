/- Whole numbers as floats: sums and products whose zeros have no sign. -/
import Derived.Test.YtgdhpgjfebinhaaFlo
namespace Go.Proofs.Ytgdhpgjfebinhaa
open Ieee
theorem sign_of {b : Nat} {k : Int} (h : b = fi k) (hk : InF k) : ∃ s m e, double.read b = .number s m e ∧ Mi (signed s m 0) e k ∧ (s = true → k < 0) := by
  by_cases h0 : k = 0
  · subst h0
    rw [h, fi_zero]
    have hz : ∀ e : Int, Mi 0 e 0 := fun e => by unfold Mi; simp
    exact ⟨false, 0, -1074, by decide +kernel, by simpa [signed] using hz (-1074), fun h => by cases h⟩
  · obtain ⟨k1, k2⟩ := hk
    rw [h, fi_eq h0 k1 k2]
    refine ⟨_, _, _, read_word _ (by omega) (by omega), ?_, fun h => of_decide_eq_true h⟩
    have := Mi_signed (decide (k < 0)) (Mi_top (K := k.natAbs) (by omega) (by omega))
    have e : (if decide (k < 0) = true then -(k.natAbs : Int) else (k.natAbs : Int)) = k := by
      by_cases hk : k < 0 <;> simp [hk] <;> omega
    rw [e] at this
    exact this
theorem sign_any {b : Nat} {k : Int} (h : Rp b k) (hk : InF k) : ∃ s m e, double.read b = .number s m e ∧ Mi (signed s m 0) e k ∧ (0 < k → s = false) ∧ (k < 0 → s = true) := by
  by_cases h0 : k = 0
  · obtain ⟨s, m, e, h1, h2, _⟩ := read_rp h hk.1 hk.2
    exact ⟨s, m, e, h1, h2, fun h => by omega, fun h => by omega⟩
  · have hb : b = fi k := h.resolve_right fun e => h0 e.1
    obtain ⟨k1, k2⟩ := hk
    rw [hb, fi_eq h0 k1 k2]
    refine ⟨_, _, _, read_word _ (by omega) (by omega), ?_, fun h => decide_eq_false (by omega), fun h => decide_eq_true h⟩
    have := Mi_signed (decide (k < 0)) (Mi_top (K := k.natAbs) (by omega) (by omega))
    have e : (if decide (k < 0) = true then -(k.natAbs : Int) else (k.natAbs : Int)) = k := by
      by_cases hk : k < 0 <;> simp [hk] <;> omega
    rw [e] at this
    exact this
/-- A sum in which the zeros don't both have a sign. -/
theorem sum_exact {s t : Bool} {m n : Nat} {i j x y : Int} (hx : Mi (signed s m 0) i x) (hy : Mi (signed t n 0) j y) (hi : InF (x + y)) (hs : x + y = 0 → (s && t) = false) :
    ∃ d, (Datum.number s m i).sum (Datum.number t n j) = some d ∧ double.write d = fi (x + y) := by
  obtain ⟨d, hd, hr⟩ := sum_rp hx hy hi
  refine ⟨d, hd, ?_⟩
  rcases hr with h | ⟨h0, h⟩
  · exact h
  · simp only [Datum.sum, Option.some.injEq] at hd
    have hz := Mi_add (Mi_shift hx (Int.min_le_left i j)) (Mi_shift hy (Int.min_le_right i j))
    rw [← signed_eq, ← signed_eq] at hz
    have ht := (Mi_zero hz).2 h0
    rw [ht, if_pos rfl, hs h0] at hd
    rw [← hd, h0]
    show double.nearest false (Int.natAbs 0) _ = _
    unfold Format.nearest
    rw [if_pos (by simp), fi_zero]; decide
theorem add_exact {a b : Nat} {x y : Int} (ha : Rp a x) (hb : Rp b y) (hx : InF x) (hy : InF y) (hi : InF (x + y)) (h : a = fi x ∨ b = fi y) : floatBits .add .f64 a b = some (fi (x + y)) := by
  have key : ∃ s m i t n j, double.read a = .number s m i ∧ double.read b = .number t n j ∧ Mi (signed s m 0) i x ∧ Mi (signed t n 0) j y ∧ (x + y = 0 → (s && t) = false) := by
    rcases h with h | h
    · obtain ⟨s, m, i, ea, ma, sa⟩ := sign_of h hx
      obtain ⟨t, n, j, eb, mb, pb, nb⟩ := sign_any hb hy
      refine ⟨s, m, i, t, n, j, ea, eb, ma, mb, fun h0 => ?_⟩
      cases s with
      | false => rfl
      | true => have := sa rfl; rw [pb (by omega)]; rfl
    · obtain ⟨s, m, i, ea, ma, pa, na⟩ := sign_any ha hx
      obtain ⟨t, n, j, eb, mb, sb⟩ := sign_of h hy
      refine ⟨s, m, i, t, n, j, ea, eb, ma, mb, fun h0 => ?_⟩
      cases t with
      | false => simp
      | true => have := sb rfl; rw [pa (by omega)]; rfl
  obtain ⟨s, m, i, t, n, j, ea, eb, ma, mb, hs⟩ := key
  obtain ⟨d, hd, hr⟩ := sum_exact ma mb hi hs
  show ((double.read a).sum (double.read b)).map double.write = _
  rw [ea, eb, hd, Option.map_some, hr]
theorem sub_exact {a b : Nat} {x y : Int} (ha : a = fi x) (hb : Rp b y) (hx : InF x) (hy : InF y) (hi : InF (x - y)) : floatBits .sub .f64 a b = some (fi (x - y)) := by
  obtain ⟨s, m, i, ea, ma, sa⟩ := sign_of ha hx
  obtain ⟨t, n, j, eb, mb, pb, nb⟩ := sign_any hb hy
  have hb' : Mi (signed (!t) n 0) j (-y) := by
    have := Mi_neg mb
    cases t
    · simpa [signed] using this
    · simpa [signed] using this
  obtain ⟨d, hd, hr⟩ := sum_exact ma hb' (by rw [← Int.sub_eq_add_neg]; exact hi) fun h0 => by
    cases s with
    | false => rfl
    | true => have := sa rfl; rw [nb (by omega)]; rfl
  show ((double.read a).sum (double.read b).opposite).map double.write = _
  rw [ea, eb]
  show Option.map _ ((Datum.number s m i).sum (Datum.number (!t) n j)) = _
  rw [hd, Option.map_some, hr, Int.sub_eq_add_neg]
theorem mul_exact {a b : Nat} {x y : Int} (ha : Rp a x) (hb : Rp b y) (hx : InF x) (hy : InF y) (hi : InF (x * y)) (h : x * y ≠ 0) : floatBits .mul .f64 a b = some (fi (x * y)) := by
  obtain ⟨r, hr, hp⟩ := mul_rp ha hb hx hy hi
  rw [hr, hp.resolve_right fun e => h e.1]

/-- A whole number and its sign, that of a zero as well. -/
def Sg2 (b : Nat) (k : Int) (s : Bool) : Prop := ∃ m e, double.read b = .number s m e ∧ Mi (signed s m 0) e k
theorem sg_fi {k : Int} (hk : InF k) : Sg2 (fi k) k (decide (k < 0)) := by
  obtain ⟨s, m, e, h1, h2, h3⟩ := sign_of rfl hk
  by_cases hn : k < 0
  · obtain ⟨s', m', e', h1', h2', h3', h4'⟩ := sign_any (Rp_fi k) hk
    rw [decide_eq_true hn]
    have := h4' hn
    subst this
    exact ⟨m', e', h1', h2'⟩
  · rw [decide_eq_false hn]
    cases s with
    | true => exact absurd (h3 rfl) hn
    | false => exact ⟨m, e, h1, h2⟩
theorem sg_nz : Sg2 nz 0 true := by
  have hz : ∀ e : Int, Mi 0 e 0 := fun e => by unfold Mi; simp
  exact ⟨0, -1074, by decide +kernel, by simpa [signed] using hz (-1074)⟩
/-- A product that is 0. -/
theorem mul_zero_sg {a b : Nat} {x y : Int} {s t : Bool} (ha : Sg2 a x s) (hb : Sg2 b y t) (h : x * y = 0) : floatBits .mul .f64 a b = some (if s ^^ t then nz else 0) := by
  obtain ⟨m, i, ea, ma⟩ := ha
  obtain ⟨n, j, eb, mb⟩ := hb
  show ((double.read a).product (double.read b)).map double.write = _
  rw [ea, eb]
  have hm : m * n = 0 := by
    have e : (signed s m 0 * signed t n 0).natAbs = m * n := by rw [Int.natAbs_mul, signed_natAbs, signed_natAbs]
    have := (Mi_zero (Mi_mul ma mb)).2 h
    rw [this] at e; simpa using e.symm
  simp only [Datum.product, Option.map_some, hm]
  rfl
end Go.Proofs.Ytgdhpgjfebinhaa
