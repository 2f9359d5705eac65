/- Matrices of whole numbers, as they are read. -/
import Derived.Test.YtlondnchmfhenaaRawg
namespace Go.Proofs.Ytlondnchmfhenaa.Ev
set_option linter.unusedSimpArgs false
set_option linter.unusedVariables false
open Go Go.RowKit
set_option maxRecDepth 100000
theorem read_whole {a b : Nat} {M : Int} (ha : U a) (hb : U b) (h1 : 1 ≤ M) (h2 : M ≤ 4503599627370496) : ∃ X Y : Int, (∀ w, Calls Try.prog 141 #[.complex .f64 a b, .int .i64 M] w fun e w' => e = .returned (.tuple #[.agg #[.int .i64 X, .int .i64 Y], .int .i64 (ckC a b M)]) ∧ Below w.heap.size w w') ∧ (-M ≤ X ∧ X ≤ M) ∧ (-M ≤ Y ∧ Y ≤ M) ∧ (ckC a b M = 0 → Rp a X ∧ Rp b Y) := by
  have key : ∃ X Y : Int, (ckC a b M = 0 → ∀ w, Calls Try.prog 158 #[.complex .f64 a b] w fun e w' => e = .returned (.tuple #[.int .i64 X, .int .i64 Y]) ∧ Below w.heap.size w w') ∧ (ckC a b M ≠ 0 → X = 0 ∧ Y = 0) ∧ (-M ≤ X ∧ X ≤ M) ∧ (-M ≤ Y ∧ Y ≤ M) ∧ (ckC a b M = 0 → Rp a X ∧ Rp b Y) := by
    by_cases h : ckC a b M = 0
    · obtain ⟨X, Y, x1, y1, x2, y2⟩ := ck_ok ha hb h1 h2 h
      exact ⟨X, Y, fun _ w => one_val (bp (X := X) (Y := Y) ⟨by omega, by omega⟩ ⟨by omega, by omega⟩ x1 y1 (Q := (· = _)) rfl) w, fun g => absurd h g, x2, y2, fun _ => ⟨x1, y1⟩⟩
    · exact ⟨0, 0, fun g => absurd g h, fun _ => ⟨rfl, rfl⟩, ⟨by omega, by omega⟩, ⟨by omega, by omega⟩, fun g => absurd g h⟩
  obtain ⟨X, Y, k1, k2, k3, k4, k5⟩ := key
  obtain ⟨X', Y', hr⟩ := read_raw (M := M) ha hb h1 h2
  refine ⟨X, Y, fun w => ?_, k3, k4, k5⟩
  refine one_val (rd (M := M) ⟨by omega, by omega⟩ (Q := (· = _)) ⟨whB a, fun w => base_raw ha w, fun g1 => ⟨whB b, fun w => base_raw hb w, fun g2 => ?_, fun g2 => ?_⟩, fun g1 => ?_⟩) w
  · obtain ⟨s, m, e, ra⟩ := num_of ha g1
    obtain ⟨t, n, f, rb⟩ := num_of hb g2
    have ta := ra.big_two (M := M) (by omega) (by omega)
    have tb := rb.big_two (M := M) (by omega) (by omega)
    rw [zero_sub']
    refine ⟨fun g3 => ?_, fun g3 => ⟨fun g4 => ?_, fun g4 => ⟨fun g5 => ?_, fun g5 => ⟨fun g6 => ?_, fun g6 => ?_⟩⟩⟩⟩
    · have g3 : (Ieee.double.order a (fi M) == some .gt) = true := g3
      have c : ckC a b M = 2 := by rw [g3, Bool.true_or] at ta; simp [ckC, g1, g2, ← ta]
      obtain ⟨rfl, rfl⟩ := k2 (by omega); rw [c]
    · have g4 : (Ieee.double.order a (fi (-M)) == some .lt) = true := g4
      have c : ckC a b M = 2 := by rw [g4, Bool.or_true] at ta; simp [ckC, g1, g2, ← ta]
      obtain ⟨rfl, rfl⟩ := k2 (by omega); rw [c]
    · have g5 : (Ieee.double.order b (fi M) == some .gt) = true := g5
      have c : ckC a b M = 2 := by rw [g5, Bool.true_or] at tb; simp [ckC, g1, g2, ← tb]
      obtain ⟨rfl, rfl⟩ := k2 (by omega); rw [c]
    · have g6 : (Ieee.double.order b (fi (-M)) == some .lt) = true := g6
      have c : ckC a b M = 2 := by rw [g6, Bool.or_true] at tb; simp [ckC, g1, g2, ← tb]
      obtain ⟨rfl, rfl⟩ := k2 (by omega); rw [c]
    · have g3 : (Ieee.double.order a (fi M) == some .gt) = false := g3
      have g4 : (Ieee.double.order a (fi (-M)) == some .lt) = false := g4
      have g5 : (Ieee.double.order b (fi M) == some .gt) = false := g5
      have g6 : (Ieee.double.order b (fi (-M)) == some .lt) = false := g6
      have c : ckC a b M = 0 := by
        rw [g3, g4] at ta; rw [g5, g6] at tb; simp [ckC, g1, g2, ← ta, ← tb]
      exact ⟨X, Y, k1 c, by rw [c]⟩
  · have c : ckC a b M = 27 := by simp [ckC, g1, g2]
    obtain ⟨rfl, rfl⟩ := k2 (by omega); rw [c]
  · have c : ckC a b M = 27 := by simp [ckC, g1]
    obtain ⟨rfl, rfl⟩ := k2 (by omega); rw [c]
set_option maxHeartbeats 8000000 in
theorem matrix_whole {a0 a1 b0 b1 c0 c1 d0 d1 : Nat} (h0 : U a0) (h1 : U a1) (h2 : U b0) (h3 : U b1) (h4 : U c0) (h5 : U c1) (h6 : U d0) (h7 : U d1) (h : maC a0 a1 b0 b1 c0 c1 d0 d1 = 0) : ∃ A0 A1 B0 B1 C0 C1 D0 D1 : Int, (Rp a0 A0 ∧ Rp a1 A1 ∧ Rp b0 B0 ∧ Rp b1 B1 ∧ Rp c0 C0 ∧ Rp c1 C1 ∧ Rp d0 D0 ∧ Rp d1 D1) ∧ ((-1000 ≤ A0 ∧ A0 ≤ 1000) ∧ (-1000 ≤ A1 ∧ A1 ≤ 1000) ∧ (-1000 ≤ B0 ∧ B0 ≤ 1000) ∧ (-1000 ≤ B1 ∧ B1 ≤ 1000) ∧ (-1000 ≤ C0 ∧ C0 ≤ 1000) ∧ (-1000 ≤ C1 ∧ C1 ≤ 1000) ∧ (-1000 ≤ D0 ∧ D0 ≤ 1000) ∧ (-1000 ≤ D1 ∧ D1 ≤ 1000)) ∧ (∀ w, Calls Try.prog 26 #[.agg #[.complex .f64 a0 a1, .complex .f64 b0 b1, .complex .f64 c0 c1, .complex .f64 d0 d1]] w fun e w' => e = .returned (.tuple #[.agg #[.int .i64 A0, .int .i64 A1, .int .i64 B0, .int .i64 B1, .int .i64 C0, .int .i64 C1, .int .i64 D0, .int .i64 D1], .int .i64 0]) ∧ Below w.heap.size w w') := by
  obtain ⟨k1, k⟩ := fst_zero h
  obtain ⟨k2, k⟩ := fst_zero k
  obtain ⟨k3, k4⟩ := fst_zero k
  obtain ⟨X, Y, r1, x1, y1, f1⟩ := read_whole (M := 1000) h0 h1 (by decide) (by decide)
  obtain ⟨X2, Y2, r2, x2, y2, f2⟩ := read_whole (M := 1000) h2 h3 (by decide) (by decide)
  obtain ⟨X3, Y3, r3, x3, y3, f3⟩ := read_whole (M := 1000) h4 h5 (by decide) (by decide)
  obtain ⟨X4, Y4, r4, x4, y4, f4⟩ := read_whole (M := 1000) h6 h7 (by decide) (by decide)
  refine ⟨X, Y, X2, Y2, X3, Y3, X4, Y4, ⟨(f1 k1).1, (f1 k1).2, (f2 k2).1, (f2 k2).2, (f3 k3).1, (f3 k3).2, (f4 k4).1, (f4 k4).2⟩, ⟨x1, y1, x2, y2, x3, y3, x4, y4⟩, fun w => ?_⟩
  exact one_val (rm (Q := (· = _)) ⟨X, Y, _, r1, fun g => ⟨X2, Y2, _, r2, fun g' => ⟨X3, Y3, _, r3, fun g2 => ⟨X4, Y4, _, r4, fun g3 => rfl, fun g3 => absurd k4 (bne0 g3)⟩, fun g2 => absurd k3 (bne0 g2)⟩, fun g' => absurd k2 (bne0 g')⟩, fun g => absurd k1 (bne0 g)⟩) w
end Go.Proofs.Ytlondnchmfhenaa.Ev
