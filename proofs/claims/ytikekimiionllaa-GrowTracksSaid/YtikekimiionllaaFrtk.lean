/- The reference's enclosures: their contract. -/
import Derived.Test.YtikekimiionllaaTrkq
namespace Go.Proofs.Ytikekimiionllaa.Ev
set_option linter.unusedSimpArgs false
open Go Go.RowKit
set_option linter.unusedVariables false
set_option maxRecDepth 100000
/-- What the reference says of a right track. -/
def rTrackedR (x0 x1 x2 x3 : Int) (f0 f1 : Int → Int) (v : Int) (u : Bool) (h0 h1 : Int → Int) : Prop :=
  (u = false ∧ v = 0 ∧ ∃ i j, 0 ≤ i ∧ i < j ∧ j ≤ x3 ∧ contra x0 x1 x2 f0 f1 i j)
  ∨ (u = true ∧ v = x3 ∧ ((∀ q, I64 (h0 q)) ∧ (∀ q, I64 (h1 q))) ∧ (∀ i j, 0 ≤ i → i < j → j ≤ x3 → ¬ contra x0 x1 x2 f0 f1 i j) ∧ ∀ q, 0 ≤ q → q < x3 → IsMax (tm f0) (lm f1 x2) x0 x1 (x3 + 1) (q + 1) (h0 q) ∧ IsMin (tm f0) (um f1 x2) x0 x1 (x3 + 1) (q + 1) (h1 q))
def maxTo (T L : Int → Int) (A B i k x : Int) : Prop := (∀ j, 0 ≤ j → j < k → low T L A B j i ≤ x) ∧ L i ≤ x ∧ (x = L i ∨ ∃ j, 0 ≤ j ∧ j < k ∧ x = low T L A B j i)
def minTo (T U : Int → Int) (A B i k x : Int) : Prop := (∀ j, 0 ≤ j → j < k → x ≤ high T U A B j i) ∧ x ≤ U i ∧ (x = U i ∨ ∃ j, 0 ≤ j ∧ j < k ∧ x = high T U A B j i)
theorem maxTo_next {T L : Int → Int} {A B i k x y z : Int} (hk : 0 ≤ k) (h : maxTo T L A B i k x) (e : low T L A B k i = y) (hz : z = if y > x then y else x) : maxTo T L A B i (k + 1) z := by
  obtain ⟨h1, h2, h3⟩ := h
  refine ⟨fun j j0 j1 => ?_, ?_, ?_⟩
  · by_cases ej : j = k
    · subst ej; rw [e]; split at hz <;> omega
    · have := h1 j j0 (by omega); split at hz <;> omega
  · split at hz <;> omega
  · split at hz
    · exact .inr ⟨k, hk, by omega, by rw [hz, e]⟩
    · rw [hz]
      rcases h3 with h3 | ⟨j, j0, j1, h3⟩
      · exact .inl h3
      · exact .inr ⟨j, j0, by omega, h3⟩
theorem minTo_next {T U : Int → Int} {A B i k x y z : Int} (hk : 0 ≤ k) (h : minTo T U A B i k x) (e : high T U A B k i = y) (hz : z = if y < x then y else x) : minTo T U A B i (k + 1) z := by
  obtain ⟨h1, h2, h3⟩ := h
  refine ⟨fun j j0 j1 => ?_, ?_, ?_⟩
  · by_cases ej : j = k
    · subst ej; rw [e]; split at hz <;> omega
    · have := h1 j j0 (by omega); split at hz <;> omega
  · split at hz <;> omega
  · split at hz
    · exact .inr ⟨k, hk, by omega, by rw [hz, e]⟩
    · rw [hz]
      rcases h3 with h3 | ⟨j, j0, j1, h3⟩
      · exact .inl h3
      · exact .inr ⟨j, j0, by omega, h3⟩
theorem maxTo_all {T L : Int → Int} {A B n i x : Int} (h0 : 0 ≤ i) (h1 : i < n) (h : maxTo T L A B i n x) : IsMax T L A B n i x := by
  obtain ⟨a, b, c⟩ := h
  refine ⟨a, ?_⟩
  rcases c with c | c
  · exact ⟨i, h0, h1, by rw [low_own]; exact c⟩
  · exact c
theorem minTo_all {T U : Int → Int} {A B n i x : Int} (h0 : 0 ≤ i) (h1 : i < n) (h : minTo T U A B i n x) : IsMin T U A B n i x := by
  obtain ⟨a, b, c⟩ := h
  refine ⟨a, ?_⟩
  rcases c with c | c
  · exact ⟨i, h0, h1, by rw [high_own]; exact c⟩
  · exact c
def Sm (x : Int) : Prop := -200000000000 ≤ x ∧ x ≤ 200000000000
set_option maxHeartbeats 2000000 in
theorem rTracked {x0 x1 x2 x3 : Int} {f0 f1 : Int → Int} (r0 : I64 x0) (r1 : I64 x1) (r2 : I64 x2) (r3 : 0 ≤ x3 ∧ x3 ≤ 12) (s0 : ∀ q, I64 (f0 q)) (s1 : ∀ q, I64 (f1 q)) (hg : trackIs x0 x1 x2 x3 f0 f1 0 0) :
    ∃ v u h0 h1, rTrackedR x0 x1 x2 x3 f0 f1 v u h0 h1 ∧ Spec Try.prog etalonref08_Tracked_s ⟨[x0, x1, x2, x3], [], [f0, f1]⟩ [v] [u] [h0, h1] := by
  obtain ⟨⟨ha1, hab, hb1⟩, hx2, hx3, good⟩ := fine hg
  obtain ⟨a, b, u, hc, hcs⟩ := rContradiction r0 r1 r2 r3 s0 s1 hg
  refine rtk r0 r1 r2 r3 s0 s1 (R := rTrackedR x0 x1 x2 x3 f0 f1) ?_
  simp only [decide_eq_true_eq, decide_eq_false_iff_not]
  refine ⟨a, b, u, hcs, fun hu => ?_, fun hu => ?_⟩
  · rcases hc with ⟨_, h2, h3, _⟩ | ⟨h1, _⟩
    · exact .inl ⟨rfl, rfl, a + 1, b + 1, by omega, by omega, by omega, h3⟩
    · rw [hu] at h1; exact absurd h1 (by decide)
  have free : ∀ i j, 0 ≤ i → i < j → j ≤ x3 → ¬ contra x0 x1 x2 f0 f1 i j := by
    rcases hc with ⟨h1, _⟩ | ⟨_, _, _, h4⟩
    · rw [hu] at h1; exact absurd h1 (by decide)
    · exact h4
  refine ⟨fun c l h k => c = l ∧ (0 ≤ c ∧ c ≤ x3) ∧ (∀ q, 0 ≤ q → q < c → IsMax (tm f0) (lm f1 x2) x0 x1 (x3 + 1) (q + 1) (h q) ∧ IsMin (tm f0) (um f1 x2) x0 x1 (x3 + 1) (q + 1) (k q)) ∧ (∀ j, I64 (h j)) ∧ (∀ j, I64 (k j)), fun c _ _ _ => (x3 - c).toNat, ⟨rfl, ⟨by omega, by omega⟩, fun q h1 h2 => by omega, fun _ => (show I64 0 from ⟨by decide, by decide⟩), fun _ => (show I64 0 from ⟨by decide, by decide⟩)⟩, ?_⟩
  rintro c l h k ⟨hl, hc', hq, bh, bk⟩
  subst hl
  refine ⟨bh, bk, ⟨by omega, by omega⟩, ⟨by omega, by omega⟩, fun hx => ⟨bh, bk, ⟨by omega, by omega⟩, .inr ⟨rfl, by omega, ⟨bh, bk⟩, free, fun q h1 h2 => hq q h1 (by omega)⟩⟩, fun hx => ?_⟩
  have gc : (1 ≤ f0 c ∧ f0 c ≤ 100000) ∧ (0 ≤ f1 c ∧ f1 c ≤ 1000000) := (good c hc'.1 (by omega)).1
  have wc1 : IntKind.i64.wrap (f1 c - x2) = f1 c - x2 := wrap_small (by omega)
  have wc2 : IntKind.i64.wrap (1000 * (f1 c - x2)) = 1000 * (f1 c - x2) := wrap_small (by omega)
  have wc3 : IntKind.i64.wrap (f1 c + x2) = f1 c + x2 := wrap_small (by omega)
  have wc4 : IntKind.i64.wrap (1000 * (f1 c + x2)) = 1000 * (f1 c + x2) := wrap_small (by omega)
  have ec : tm f0 (c + 1) = f0 c := tm_next f0 hc'.1
  have lc : lm f1 x2 (c + 1) = (f1 c - x2) * 1000 := lm_next f1 x2 hc'.1
  have uc : um f1 x2 (c + 1) = (f1 c + x2) * 1000 := um_next f1 x2 hc'.1
  simp only [wc1, wc2, wc3, wc4]
  refine ⟨fun j x y => (-1 ≤ j ∧ j ≤ x3) ∧ (Sm x ∧ Sm y) ∧ maxTo (tm f0) (lm f1 x2) x0 x1 (c + 1) (j + 1) x ∧ minTo (tm f0) (um f1 x2) x0 x1 (c + 1) (j + 1) y, fun j _ _ => (x3 - j).toNat, ?_, ?_⟩
  · refine ⟨⟨by omega, by omega⟩, ⟨⟨by omega, by omega⟩, ⟨by omega, by omega⟩⟩, ⟨fun j h1 h2 => by omega, by omega, .inl (by omega)⟩, ⟨fun j h1 h2 => by omega, by omega, .inl (by omega)⟩⟩
  rintro j x y ⟨hj, ⟨bx, bY⟩, hM, hN⟩
  have bx' : -200000000000 ≤ x ∧ x ≤ 200000000000 := bx
  have by' : -200000000000 ≤ y ∧ y ≤ 200000000000 := bY
  have bx'' : I64 x := ⟨by omega, by omega⟩
  have by'' : I64 y := ⟨by omega, by omega⟩
  refine ⟨⟨by omega, by omega⟩, bx'', by'', fun hy => ⟨bx'', by'', ⟨trivial, ⟨by omega, by omega⟩, fun q h1 h2 => ?_, fun q => ?_, fun q => ?_⟩, ?_⟩, fun hy => ?_⟩
  · have ej : j = x3 := by omega
    subst ej
    try dsimp only
    by_cases e : q = c
    · subst e; rw [if_pos rfl, if_pos rfl]; exact ⟨maxTo_all (by omega) (by omega) hM, minTo_all (by omega) (by omega) hN⟩
    · rw [if_neg e, if_neg e]; exact hq q h1 (by omega)
  · try dsimp only
    split
    · exact bx''
    · exact bh _
  · try dsimp only
    split
    · exact by''
    · exact bk _
  · show (x3 - (c + 1)).toNat < (x3 - c).toNat
    omega
  have next : ∀ {lo hi : Int}, low (tm f0) (lm f1 x2) x0 x1 (j + 1) (c + 1) = lo → high (tm f0) (um f1 x2) x0 x1 (j + 1) (c + 1) = hi → Sm lo → Sm hi →
      ((-1 ≤ j + 1 ∧ j + 1 ≤ x3) ∧ (Sm (if lo > x then lo else x) ∧ Sm (if hi < y then hi else y)) ∧ maxTo (tm f0) (lm f1 x2) x0 x1 (c + 1) (j + 1 + 1) (if lo > x then lo else x) ∧ minTo (tm f0) (um f1 x2) x0 x1 (c + 1) (j + 1 + 1) (if hi < y then hi else y)) ∧ (x3 - (j + 1)).toNat < (x3 - j).toNat := by
    intro lo hi e1 e2 b1 b2
    refine ⟨⟨⟨by omega, by omega⟩, ⟨?_, ?_⟩, maxTo_next (by omega) hM e1 rfl, minTo_next (by omega) hN e2 rfl⟩, by omega⟩
    · split
      · exact b1
      · exact bx
    · split
      · exact b2
      · exact bY
  refine ⟨fun h0 => ?_, fun h0 => ⟨fun _ => ?_, fun h' => absurd (by omega) h'⟩⟩
  · have gj : (1 ≤ f0 j ∧ f0 j ≤ 100000) ∧ (0 ≤ f1 j ∧ f1 j ≤ 1000000) := (good j h0 (by omega)).1
    have wj1 : IntKind.i64.wrap (f1 j - x2) = f1 j - x2 := wrap_small (by omega)
    have wj2 : IntKind.i64.wrap (1000 * (f1 j - x2)) = 1000 * (f1 j - x2) := wrap_small (by omega)
    have wj3 : IntKind.i64.wrap (f1 j + x2) = f1 j + x2 := wrap_small (by omega)
    have wj4 : IntKind.i64.wrap (1000 * (f1 j + x2)) = 1000 * (f1 j + x2) := wrap_small (by omega)
    have ej : tm f0 (j + 1) = f0 j := tm_next f0 h0
    have lj : lm f1 x2 (j + 1) = (f1 j - x2) * 1000 := lm_next f1 x2 h0
    have uj : um f1 x2 (j + 1) = (f1 j + x2) * 1000 := um_next f1 x2 h0
    have ord : f0 j ≤ f0 c ↔ j + 1 ≤ c + 1 := by
      constructor
      · intro h'
        by_cases e : c < j
        · have := rises good c hc'.1 (j - (c + 1)).toNat (by omega)
          rw [show c + 1 + (((j - (c + 1)).toNat : Nat) : Int) = j by omega] at this
          omega
        · omega
      · intro h'
        by_cases e : j = c
        · subst e; omega
        · have := rises good j h0 (c - (j + 1)).toNat (by omega)
          rw [show j + 1 + (((c - (j + 1)).toNat : Nat) : Int) = c by omega] at this
          omega
    refine ⟨fun hle => ?_, fun hle => ?_⟩
    · have ma := mulB (a := x0) (d := f0 c - f0 j) (by omega) (by omega) (by omega) (by omega)
      have mb := mulB (a := x1) (d := f0 c - f0 j) (by omega) (by omega) (by omega) (by omega)
      have w5 : IntKind.i64.wrap (f0 c - f0 j) = f0 c - f0 j := wrap_small (by omega)
      have w6 : IntKind.i64.wrap ((f0 c - f0 j) * x0) = x0 * (f0 c - f0 j) := by rw [Int.mul_comm]; exact wrap_small (by omega)
      have w7 : IntKind.i64.wrap ((f0 c - f0 j) * x1) = x1 * (f0 c - f0 j) := by rw [Int.mul_comm]; exact wrap_small (by omega)
      have w8 : IntKind.i64.wrap (1000 * (f1 j - x2) + x0 * (f0 c - f0 j)) = 1000 * (f1 j - x2) + x0 * (f0 c - f0 j) := wrap_small (by omega)
      have w9 : IntKind.i64.wrap (1000 * (f1 j + x2) + x1 * (f0 c - f0 j)) = 1000 * (f1 j + x2) + x1 * (f0 c - f0 j) := wrap_small (by omega)
      simp only [wj1, wj2, wj3, wj4, w5, w6, w7, w8, w9]
      exact next (by unfold low; rw [if_pos (ord.1 hle), ec, ej, lj]; omega) (by unfold high; rw [if_pos (ord.1 hle), ec, ej, uj]; omega) ⟨by omega, by omega⟩ ⟨by omega, by omega⟩
    · have ma := mulB (a := x0) (d := f0 j - f0 c) (by omega) (by omega) (by omega) (by omega)
      have mb := mulB (a := x1) (d := f0 j - f0 c) (by omega) (by omega) (by omega) (by omega)
      have w5 : IntKind.i64.wrap (f0 j - f0 c) = f0 j - f0 c := wrap_small (by omega)
      have w6 : IntKind.i64.wrap ((f0 j - f0 c) * x0) = x0 * (f0 j - f0 c) := by rw [Int.mul_comm]; exact wrap_small (by omega)
      have w7 : IntKind.i64.wrap ((f0 j - f0 c) * x1) = x1 * (f0 j - f0 c) := by rw [Int.mul_comm]; exact wrap_small (by omega)
      have w8 : IntKind.i64.wrap (1000 * (f1 j - x2) - x1 * (f0 j - f0 c)) = 1000 * (f1 j - x2) - x1 * (f0 j - f0 c) := wrap_small (by omega)
      have w9 : IntKind.i64.wrap (1000 * (f1 j + x2) - x0 * (f0 j - f0 c)) = 1000 * (f1 j + x2) - x0 * (f0 j - f0 c) := wrap_small (by omega)
      simp only [wj1, wj2, wj3, wj4, w5, w6, w7, w8, w9]
      have nle : ¬ j + 1 ≤ c + 1 := fun h' => hle (ord.2 h')
      exact next (by unfold low; rw [if_neg nle, ec, ej, lj]; omega) (by unfold high; rw [if_neg nle, ec, ej, uj]; omega) ⟨by omega, by omega⟩ ⟨by omega, by omega⟩
  · have hj1 : j = -1 := by omega
    have ma := mulB (a := x0) (d := f0 c) (by omega) (by omega) (by omega) (by omega)
    have mb := mulB (a := x1) (d := f0 c) (by omega) (by omega) (by omega) (by omega)
    have w6 : IntKind.i64.wrap (f0 c * x0) = x0 * f0 c := by rw [Int.mul_comm]; exact wrap_small (by omega)
    have w7 : IntKind.i64.wrap (f0 c * x1) = x1 * f0 c := by rw [Int.mul_comm]; exact wrap_small (by omega)
    simp only [w6, w7]
    have e0 : j + 1 = 0 := by omega
    exact next (by unfold low; rw [if_pos (by omega), ec, e0, show tm f0 0 = 0 from rfl, show lm f1 x2 0 = 0 from rfl, Int.sub_zero, Int.zero_add]) (by unfold high; rw [if_pos (by omega), ec, e0, show tm f0 0 = 0 from rfl, show um f1 x2 0 = 0 from rfl, Int.sub_zero, Int.zero_add]) ⟨by omega, by omega⟩ ⟨by omega, by omega⟩
end Go.Proofs.Ytikekimiionllaa.Ev
