/- Materials that are right: their numbers. -/
import Derived.Test.YtfgdockgdbdoiaaGreatFgk
import Derived.Test.YtfgdockgdbdoiaaGreatF33
namespace Go.Proofs.YtfgdockgdbdoiaaGreat.Ev
set_option linter.unusedSimpArgs false
open Go Go.RowKit
set_option linter.unusedVariables false
set_option maxRecDepth 100000
theorem rst_all {E : Int → Int} : ∀ (k : Nat) (i : Int), (rst E k i).2 = 0 → ∀ j, i ≤ j → j < i + k → E j = 0

  | 0, i, _, j, h1, h2 => by omega

  | k + 1, i, h, j, h1, h2 => by

    unfold rst at h

    split at h

    · rename_i g

      by_cases e : j = i

      · subst e; exact g

      · exact rst_all k (i + 1) h j (by omega) (by omega)

    · rename_i g; exact absurd h g

/-- What a right row says. -/

structure RowOk (f0 f1 f2 : Int → Int) (i : Int) : Prop where

  wave : 1000 ≤ f0 i ∧ f0 i ≤ 200000

  index : ∃ a, cutF32 (f1 i).toNat = some a ∧ 5000 ≤ a ∧ a ≤ 80000

  loss : ∃ l, cutF32 (f2 i).toNat = some l ∧ 0 ≤ l ∧ l ≤ 80000

  up : 0 < i → f0 (i - 1) < f0 i

theorem row_ok {f0 f1 f2 : Int → Int} {i : Int} (h : rowE f0 f1 f2 i = 0) : RowOk f0 f1 f2 i := by

  unfold rowE at h

  split at h

  · cases h

  rename_i h1

  split at h

  · cases h

  rename_i h2

  split at h

  · cases h

  rename_i h3

  split at h

  · cases h

  rename_i h4

  split at h

  · cases h

  rename_i h5

  split at h

  · cases h

  rename_i h6

  split at h

  · cases h

  rename_i h7

  split at h

  · cases h

  rename_i h8

  split at h

  · cases h

  rename_i h9

  split at h

  · cases h

  rename_i h10

  simp only [Decidable.not_not] at h1

  exact ⟨h1, index32 (Bool.eq_false_iff.2 h2) (by simpa using h3) (Bool.eq_false_iff.2 h6) (Bool.eq_false_iff.2 h7), loss32 (Bool.eq_false_iff.2 h4) (by simpa using h5) (Bool.eq_false_iff.2 h8) (Bool.eq_false_iff.2 h9), fun g => by omega⟩

/-- What a right table says. -/

theorem table_ok {u : Bool} {x2 x3 x4 x5 x6 : Int} {f0 f1 f2 : Int → Int} (h : (glE u 1 x2 x3 x4 x5 x6 f0 f1 f2).2 = 0) : u = true ∧ (x5 = 0 ∧ x6 = 0) ∧ (x2 ≠ 0 ∧ x3 = x2 ∧ x4 = x2) ∧ x2 ≤ 64 ∧ ∀ i, 0 ≤ i → i < x2 → RowOk f0 f1 f2 i := by

  unfold glE at h

  split at h

  · rename_i hu

    rw [if_pos rfl] at h

    split at h

    · cases h

    rename_i h1

    split at h

    · cases h

    rename_i h2

    split at h

    · cases h

    rename_i h3

    refine ⟨hu, by omega, by omega, by omega, fun i g0 g1 => row_ok (rst_all _ _ h i g0 (by omega))⟩

  · cases h

end Go.Proofs.YtfgdockgdbdoiaaGreat.Ev
