/- Tracks: what all pairs of moments say is what the least and the greatest growth are. -/
import Derived.Test.YtikekimiionllaaFcdp
namespace Go.Proofs.Ytikekimiionllaa.Ev
set_option linter.unusedVariables false
def low (T L : Int → Int) (A B k i : Int) : Int := if k ≤ i then L k + A * (T i - T k) else L k - B * (T k - T i)
def high (T U : Int → Int) (A B k i : Int) : Int := if k ≤ i then U k + B * (T i - T k) else U k - A * (T k - T i)
def IsMax (T L : Int → Int) (A B n i x : Int) : Prop := (∀ k, 0 ≤ k → k < n → low T L A B k i ≤ x) ∧ ∃ k, 0 ≤ k ∧ k < n ∧ x = low T L A B k i
def IsMin (T U : Int → Int) (A B n i x : Int) : Prop := (∀ k, 0 ≤ k → k < n → x ≤ high T U A B k i) ∧ ∃ k, 0 ≤ k ∧ k < n ∧ x = high T U A B k i
variable {T L U : Int → Int} {A B n : Int}
structure Free (T L U : Int → Int) (A B n : Int) : Prop where
  t : ∀ i j, 0 ≤ i → i < j → j < n → 1 ≤ T j - T i
  l : ∀ i, 0 ≤ i → i < n → L i ≤ U i
  ab : A ≤ B
  z : L 0 = 0 ∧ U 0 = 0
  c : ∀ i j, 0 ≤ i → i < j → j < n → L j ≤ U i + B * (T j - T i) ∧ L i + A * (T j - T i) ≤ U j
theorem mulSplit (a x y z : Int) : a * (z - x) = a * (y - x) + a * (z - y) := by
  rw [← Int.mul_add]; congr 1; omega
theorem mulZ (a x : Int) : a * (x - x) = 0 := by rw [Int.sub_self, Int.mul_zero]
theorem low_step (m : Free T L U A B n) {k i : Int} (h0 : 0 ≤ i) (h1 : i + 1 < n) (k0 : 0 ≤ k) (k1 : k < n) :
    low T L A B k i + A * (T (i + 1) - T i) ≤ low T L A B k (i + 1) ∧ low T L A B k (i + 1) ≤ low T L A B k i + B * (T (i + 1) - T i) := by
  have t := m.t i (i + 1) h0 (by omega) h1
  have mm := mulM (d := T (i + 1) - T i) m.ab (by omega)
  unfold low
  by_cases h : k ≤ i
  · rw [if_pos h, if_pos (by omega), mulSplit A (T k) (T i) (T (i + 1))]
    generalize A * (T (i + 1) - T i) = x at *
    generalize B * (T (i + 1) - T i) = y at *
    generalize A * (T i - T k) = z at *
    omega
  · rw [if_neg h]
    by_cases e : k = i + 1
    · subst e
      rw [if_pos (by omega), mulZ]
      generalize A * (T (i + 1) - T i) = x at *
      generalize B * (T (i + 1) - T i) = y at *
      omega
    · rw [if_neg (by omega), mulSplit B (T i) (T (i + 1)) (T k)]
      generalize A * (T (i + 1) - T i) = x at *
      generalize B * (T (i + 1) - T i) = y at *
      generalize B * (T k - T (i + 1)) = z at *
      omega
theorem high_step (m : Free T L U A B n) {k i : Int} (h0 : 0 ≤ i) (h1 : i + 1 < n) (k0 : 0 ≤ k) (k1 : k < n) :
    high T U A B k i + A * (T (i + 1) - T i) ≤ high T U A B k (i + 1) ∧ high T U A B k (i + 1) ≤ high T U A B k i + B * (T (i + 1) - T i) := by
  have t := m.t i (i + 1) h0 (by omega) h1
  have mm := mulM (d := T (i + 1) - T i) m.ab (by omega)
  unfold high
  by_cases h : k ≤ i
  · rw [if_pos h, if_pos (by omega), mulSplit B (T k) (T i) (T (i + 1))]
    generalize A * (T (i + 1) - T i) = x at *
    generalize B * (T (i + 1) - T i) = y at *
    generalize B * (T i - T k) = z at *
    omega
  · rw [if_neg h]
    by_cases e : k = i + 1
    · subst e
      rw [if_pos (by omega), mulZ]
      generalize A * (T (i + 1) - T i) = x at *
      generalize B * (T (i + 1) - T i) = y at *
      omega
    · rw [if_neg (by omega), mulSplit A (T i) (T (i + 1)) (T k)]
      generalize A * (T (i + 1) - T i) = x at *
      generalize B * (T (i + 1) - T i) = y at *
      generalize A * (T k - T (i + 1)) = z at *
      omega
theorem low_le (m : Free T L U A B n) {k i : Int} (h0 : 0 ≤ i) (h1 : i < n) (k0 : 0 ≤ k) (k1 : k < n) : low T L A B k i ≤ U i := by
  unfold low
  by_cases e : k = i
  · subst e; rw [if_pos (by omega), mulZ]; have := m.l k h0 h1; omega
  · by_cases h : k ≤ i
    · rw [if_pos h]; exact (m.c k i k0 (by omega) h1).2
    · rw [if_neg h]; have := (m.c i k h0 (by omega) k1).1; omega
theorem high_ge (m : Free T L U A B n) {k i : Int} (h0 : 0 ≤ i) (h1 : i < n) (k0 : 0 ≤ k) (k1 : k < n) : L i ≤ high T U A B k i := by
  unfold high
  by_cases e : k = i
  · subst e; rw [if_pos (by omega), mulZ]; have := m.l k h0 h1; omega
  · by_cases h : k ≤ i
    · rw [if_pos h]; exact (m.c k i k0 (by omega) h1).1
    · rw [if_neg h]; have := (m.c i k h0 (by omega) k1).2; omega
theorem low_own (i : Int) : low T L A B i i = L i := by unfold low; rw [if_pos (by omega), mulZ]; omega
theorem high_own (i : Int) : high T U A B i i = U i := by unfold high; rw [if_pos (by omega), mulZ]; omega
theorem keptMax (m : Free T L U A B n) {M : Int → Int} (hz : M 0 = 0) (hM : ∀ i, 1 ≤ i → i < n → IsMax T L A B n i (M i)) : Kept T L U A B n M := by
  have all : ∀ i, 0 ≤ i → i < n → IsMax T L A B n i (M i) := by
    intro i h0 h1
    by_cases e : i = 0
    · subst e; rw [hz]
      refine ⟨fun k k0 k1 => ?_, 0, by omega, h1, ?_⟩
      · have := low_le m h0 h1 k0 k1; have := m.z; omega
      · rw [low_own]; exact m.z.1.symm
    · exact hM i (by omega) h1
  refine ⟨hz, fun i h1 h2 => ?_⟩
  obtain ⟨a1, k, k0, k1, a2⟩ := all i (by omega) h2
  obtain ⟨b1, l, l0, l1, b2⟩ := all (i - 1) (by omega) (by omega)
  have own := a1 i (by omega) h2
  rw [low_own] at own
  have le := low_le m (k := k) (i := i) (by omega) h2 k0 k1
  have s1 := (low_step m (k := l) (i := i - 1) (by omega) (by omega) l0 l1).1
  have s2 := (low_step m (k := k) (i := i - 1) (by omega) (by omega) k0 k1).2
  rw [show i - 1 + 1 = i by omega] at s1 s2
  have c1 := a1 l l0 l1
  have c2 := b1 k k0 k1
  generalize A * (T i - T (i - 1)) = x at *
  generalize B * (T i - T (i - 1)) = y at *
  omega
theorem keptMin (m : Free T L U A B n) {M : Int → Int} (hz : M 0 = 0) (hM : ∀ i, 1 ≤ i → i < n → IsMin T U A B n i (M i)) : Kept T L U A B n M := by
  have all : ∀ i, 0 ≤ i → i < n → IsMin T U A B n i (M i) := by
    intro i h0 h1
    by_cases e : i = 0
    · subst e; rw [hz]
      refine ⟨fun k k0 k1 => ?_, 0, by omega, h1, ?_⟩
      · have := high_ge m h0 h1 k0 k1; have := m.z; omega
      · rw [high_own]; exact m.z.2.symm
    · exact hM i (by omega) h1
  refine ⟨hz, fun i h1 h2 => ?_⟩
  obtain ⟨a1, k, k0, k1, a2⟩ := all i (by omega) h2
  obtain ⟨b1, l, l0, l1, b2⟩ := all (i - 1) (by omega) (by omega)
  have own := a1 i (by omega) h2
  rw [high_own] at own
  have le := high_ge m (k := k) (i := i) (by omega) h2 k0 k1
  have s1 := (high_step m (k := k) (i := i - 1) (by omega) (by omega) k0 k1).1
  have s2 := (high_step m (k := l) (i := i - 1) (by omega) (by omega) l0 l1).2
  rw [show i - 1 + 1 = i by omega] at s1 s2
  have c1 := a1 l l0 l1
  have c2 := b1 k k0 k1
  generalize A * (T i - T (i - 1)) = x at *
  generalize B * (T i - T (i - 1)) = y at *
  omega
theorem keptFar {H : Int → Int} (k : Kept T L U A B n H) (i : Int) (h0 : 0 ≤ i) : ∀ (d : Nat), i + d < n → H i + A * (T (i + d) - T i) ≤ H (i + d) ∧ H (i + d) ≤ H i + B * (T (i + d) - T i)
  | 0, h => by
    rw [show i + ((0 : Nat) : Int) = i by omega, mulZ, mulZ]; omega
  | d + 1, h => by
    have ih := keptFar k i h0 d (by omega)
    have s := (k.2 (i + ((d + 1 : Nat) : Int)) (by omega) h).2
    rw [show i + ((d + 1 : Nat) : Int) - 1 = i + (d : Int) by omega] at s
    rw [mulSplit A (T i) (T (i + (d : Int))), mulSplit B (T i) (T (i + (d : Int)))]
    generalize A * (T (i + ((d + 1 : Nat) : Int)) - T (i + (d : Int))) = x at *
    generalize B * (T (i + ((d + 1 : Nat) : Int)) - T (i + (d : Int))) = y at *
    generalize A * (T (i + (d : Int)) - T i) = z at *
    generalize B * (T (i + (d : Int)) - T i) = w at *
    omega
theorem keptIn {H : Int → Int} (z : L 0 = 0 ∧ U 0 = 0) (w : Kept T L U A B n H) {i : Int} (h0 : 0 ≤ i) (h1 : i < n) : L i ≤ H i ∧ H i ≤ U i := by
  by_cases e : i = 0
  · subst e; have := w.1; omega
  · exact (w.2 i (by omega) h1).1
theorem keptBetween {H : Int → Int} (z : L 0 = 0 ∧ U 0 = 0) (w : Kept T L U A B n H) {k i : Int} (h0 : 0 ≤ i) (h1 : i < n) (k0 : 0 ≤ k) (k1 : k < n) : low T L A B k i ≤ H i ∧ H i ≤ high T U A B k i := by
  have a := keptIn z w k0 k1
  unfold low high
  by_cases h : k ≤ i
  · rw [if_pos h, if_pos h]
    have f := keptFar w k k0 (i - k).toNat (by omega)
    rw [show k + (((i - k).toNat : Nat) : Int) = i by omega] at f
    omega
  · rw [if_neg h, if_neg h]
    have f := keptFar w i h0 (k - i).toNat (by omega)
    rw [show i + (((k - i).toNat : Nat) : Int) = k by omega] at f
    omega
/-- What contradicts, no growth keeps. -/
theorem keptFree {H : Int → Int} (z : L 0 = 0 ∧ U 0 = 0) (w : Kept T L U A B n H) {i j : Int} (h0 : 0 ≤ i) (h1 : i < j) (h2 : j < n) : L j ≤ U i + B * (T j - T i) ∧ L i + A * (T j - T i) ≤ U j := by
  have a := keptIn z w h0 (by omega)
  have b := keptIn z w (i := j) (by omega) h2
  have f := keptFar w i h0 (j - i).toNat (by omega)
  rw [show i + (((j - i).toNat : Nat) : Int) = j by omega] at f
  omega
end Go.Proofs.Ytikekimiionllaa.Ev
