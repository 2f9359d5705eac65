/- The reference's first two readings that contradict: its contract. -/
import Derived.Test.YtikekimiionllaaFcd
namespace Go.Proofs.Ytikekimiionllaa.Ev
set_option linter.unusedSimpArgs false
open Go Go.RowKit
set_option linter.unusedVariables false
set_option maxRecDepth 100000
/-- Two moments contradict. -/
def contra (x0 x1 x2 : Int) (f0 f1 : Int → Int) (i j : Int) : Prop := um f1 x2 i + x1 * (tm f0 j - tm f0 i) < lm f1 x2 j ∨ um f1 x2 j < lm f1 x2 i + x0 * (tm f0 j - tm f0 i)
def before (i j a b : Int) : Prop := i < a ∨ (i = a ∧ j < b)
/-- The first two moments that contradict, or none; told by the numbers of readings. -/
def contraR (x0 x1 x2 x3 : Int) (f0 f1 : Int → Int) (a b : Int) (u : Bool) : Prop :=
  (u = true ∧ (-1 ≤ a ∧ a < b ∧ b < x3) ∧ contra x0 x1 x2 f0 f1 (a + 1) (b + 1) ∧ ∀ i j, 0 ≤ i → i < j → j ≤ x3 → before i j (a + 1) (b + 1) → ¬ contra x0 x1 x2 f0 f1 i j)
  ∨ (u = false ∧ a = 0 ∧ b = 0 ∧ ∀ i j, 0 ≤ i → i < j → j ≤ x3 → ¬ contra x0 x1 x2 f0 f1 i j)
theorem contraR_uniq {x0 x1 x2 x3 a b a' b' : Int} {f0 f1 : Int → Int} {u u' : Bool} (h : contraR x0 x1 x2 x3 f0 f1 a b u) (h' : contraR x0 x1 x2 x3 f0 f1 a' b' u') : a = a' ∧ b = b' ∧ u = u' := by
  rcases h with ⟨h1, h2, h3, h4⟩ | ⟨h1, h2, h3, h4⟩ <;> rcases h' with ⟨g1, g2, g3, g4⟩ | ⟨g1, g2, g3, g4⟩
  · have n1 : ¬ before (a + 1) (b + 1) (a' + 1) (b' + 1) := fun k => g4 _ _ (by omega) (by omega) (by omega) k h3
    have n2 : ¬ before (a' + 1) (b' + 1) (a + 1) (b + 1) := fun k => h4 _ _ (by omega) (by omega) (by omega) k g3
    unfold before at n1 n2
    exact ⟨by omega, by omega, by rw [h1, g1]⟩
  · exact absurd h3 (g4 _ _ (by omega) (by omega) (by omega))
  · exact absurd g3 (h4 _ _ (by omega) (by omega) (by omega))
  · exact ⟨by omega, by omega, by rw [h1, g1]⟩
theorem tm_next (f0 : Int → Int) {q : Int} (hq : 0 ≤ q) : tm f0 (q + 1) = f0 q := by unfold tm; rw [if_neg (by omega), show q + 1 - 1 = q by omega]
theorem lm_next (f1 : Int → Int) (x2 : Int) {q : Int} (hq : 0 ≤ q) : lm f1 x2 (q + 1) = (f1 q - x2) * 1000 := by unfold lm; rw [if_neg (by omega), show q + 1 - 1 = q by omega]
theorem um_next (f1 : Int → Int) (x2 : Int) {q : Int} (hq : 0 ≤ q) : um f1 x2 (q + 1) = (f1 q + x2) * 1000 := by unfold um; rw [if_neg (by omega), show q + 1 - 1 = q by omega]
/-- The seconds of a right track rise. -/
theorem rises {x3 : Int} {f0 f1 : Int → Int} (good : ∀ q, 0 ≤ q → q < x3 → goodR f0 f1 q) (a : Int) (h : 0 ≤ a) : ∀ (d : Nat), a + 1 + d < x3 → f0 a < f0 (a + 1 + d)
  | 0, h1 => by
    have g := (good (a + 1) (by omega) (by omega)).2
    rw [show a + 1 - 1 = a by omega] at g
    have e : a + 1 + ((0 : Nat) : Int) = a + 1 := by omega
    rw [e]; omega
  | d + 1, h1 => by
    have ih := rises good a h d (by omega)
    have g := (good (a + 1 + ((d + 1 : Nat) : Int)) (by omega) h1).2
    rw [show a + 1 + ((d + 1 : Nat) : Int) - 1 = a + 1 + (d : Int) by omega] at g
    omega
set_option maxHeartbeats 1000000 in
theorem rContradiction {x0 x1 x2 x3 : Int} {f0 f1 : Int → Int} (r0 : I64 x0) (r1 : I64 x1) (r2 : I64 x2) (r3 : 0 ≤ x3 ∧ x3 ≤ 12) (s0 : ∀ q, I64 (f0 q)) (s1 : ∀ q, I64 (f1 q)) (hg : trackIs x0 x1 x2 x3 f0 f1 0 0) :
    ∃ a b u, contraR x0 x1 x2 x3 f0 f1 a b u ∧ Spec Try.prog etalonref08_Contradiction_s ⟨[x0, x1, x2, x3], [], [f0, f1]⟩ [a, b] [u] [] := by
  obtain ⟨⟨ha1, hab, hb1⟩, hx2, hx3, good⟩ := fine hg
  refine rcd r0 r1 r2 r3 s0 s1 (R := contraR x0 x1 x2 x3 f0 f1) ?_
  simp only [decide_eq_true_eq, decide_eq_false_iff_not]
  refine ⟨fun i => (-1 ≤ i ∧ i ≤ x3) ∧ ∀ a b, 0 ≤ a → a < b → b ≤ x3 → a < i + 1 → ¬ contra x0 x1 x2 f0 f1 a b, fun i => (x3 - i).toNat, ⟨⟨by omega, by omega⟩, fun a b h1 h2 h3 h4 => by omega⟩, ?_⟩
  rintro i ⟨hi, hn⟩
  refine ⟨⟨by omega, by omega⟩, fun hx => .inr ⟨rfl, rfl, rfl, fun a b h1 h2 h3 => hn a b h1 h2 h3 (by omega)⟩, fun hx => ?_⟩
  refine ⟨fun k => (i + 1 ≤ k ∧ k ≤ x3) ∧ ∀ b, i + 1 < b → b < k + 1 → ¬ contra x0 x1 x2 f0 f1 (i + 1) b, fun k => (x3 - k).toNat, ⟨⟨by omega, by omega⟩, fun b h1 h2 => by omega⟩, ?_⟩
  rintro k ⟨hk, hm⟩
  refine ⟨⟨by omega, by omega⟩, fun hy => ⟨⟨⟨by omega, by omega⟩, fun a b h1 h2 h3 h4 => ?_⟩, ?_⟩, fun hy => ?_⟩
  · by_cases e : a = i + 1
    · subst e; exact hm b (by omega) (by omega)
    · exact hn a b h1 h2 h3 (by omega)
  · show (x3 - (i + 1)).toNat < (x3 - i).toNat
    omega
  have gk := good k (by omega) (by omega)
  have fk : (1 ≤ f0 k ∧ f0 k ≤ 100000) ∧ (0 ≤ f1 k ∧ f1 k ≤ 1000000) := gk.1
  have wk1 : IntKind.i64.wrap (f1 k - x2) = f1 k - x2 := wrap_small (by omega)
  have wk2 : IntKind.i64.wrap (1000 * (f1 k - x2)) = 1000 * (f1 k - x2) := wrap_small (by omega)
  have wk3 : IntKind.i64.wrap (f1 k + x2) = f1 k + x2 := wrap_small (by omega)
  have wk4 : IntKind.i64.wrap (1000 * (f1 k + x2)) = 1000 * (f1 k + x2) := wrap_small (by omega)
  have yes : contra x0 x1 x2 f0 f1 (i + 1) (k + 1) → contraR x0 x1 x2 x3 f0 f1 i k true := fun c => .inl ⟨rfl, ⟨by omega, by omega, by omega⟩, c, fun a b h1 h2 h3 h4 => by
    unfold before at h4
    by_cases e : a = i + 1
    · subst e; exact hm b (by omega) (by omega)
    · exact hn a b h1 h2 h3 (by omega)⟩
  have no : ¬ contra x0 x1 x2 f0 f1 (i + 1) (k + 1) → ((i + 1 ≤ k + 1 ∧ k + 1 ≤ x3) ∧ ∀ b, i + 1 < b → b < k + 1 + 1 → ¬ contra x0 x1 x2 f0 f1 (i + 1) b) ∧ (x3 - (k + 1)).toNat < (x3 - k).toNat := fun c => ⟨⟨⟨by omega, by omega⟩, fun b h1 h2 => by
    by_cases e : b = k + 1
    · subst e; exact c
    · exact hm b h1 (by omega)⟩, by omega⟩
  have ri : I64 i := ⟨by omega, by omega⟩
  have rk : I64 k := ⟨by omega, by omega⟩
  refine ⟨fun h0 => ?_, fun h0 => ?_⟩
  · have gi : (1 ≤ f0 i ∧ f0 i ≤ 100000) ∧ (0 ≤ f1 i ∧ f1 i ≤ 1000000) := (good i h0 (by omega)).1
    have up1 := rises good i h0 (k - (i + 1)).toNat (by omega)
    rw [show i + 1 + (((k - (i + 1)).toNat : Nat) : Int) = k by omega] at up1
    have ma := mulB (a := x0) (d := f0 k - f0 i) (by omega) (by omega) (by omega) (by omega)
    have mb := mulB (a := x1) (d := f0 k - f0 i) (by omega) (by omega) (by omega) (by omega)
    have w1 : IntKind.i64.wrap (f1 i - x2) = f1 i - x2 := wrap_small (by omega)
    have w2 : IntKind.i64.wrap (1000 * (f1 i - x2)) = 1000 * (f1 i - x2) := wrap_small (by omega)
    have w3 : IntKind.i64.wrap (f1 i + x2) = f1 i + x2 := wrap_small (by omega)
    have w4 : IntKind.i64.wrap (1000 * (f1 i + x2)) = 1000 * (f1 i + x2) := wrap_small (by omega)
    have w5 : IntKind.i64.wrap (f0 k - f0 i) = f0 k - f0 i := wrap_small (by omega)
    have w6 : IntKind.i64.wrap ((f0 k - f0 i) * x0) = x0 * (f0 k - f0 i) := by rw [Int.mul_comm]; exact wrap_small (by omega)
    have w7 : IntKind.i64.wrap ((f0 k - f0 i) * x1) = x1 * (f0 k - f0 i) := by rw [Int.mul_comm]; exact wrap_small (by omega)
    have w8 : IntKind.i64.wrap (1000 * (f1 i - x2) + x0 * (f0 k - f0 i)) = 1000 * (f1 i - x2) + x0 * (f0 k - f0 i) := wrap_small (by omega)
    have w9 : IntKind.i64.wrap (1000 * (f1 i + x2) + x1 * (f0 k - f0 i)) = 1000 * (f1 i + x2) + x1 * (f0 k - f0 i) := wrap_small (by omega)
    simp only [wk1, wk2, wk3, wk4, w1, w2, w3, w4, w5, w6, w7, w8, w9]
    have iff : contra x0 x1 x2 f0 f1 (i + 1) (k + 1) ↔ ((f1 i + x2) * 1000 + x1 * (f0 k - f0 i) < (f1 k - x2) * 1000 ∨ (f1 k + x2) * 1000 < (f1 i - x2) * 1000 + x0 * (f0 k - f0 i)) := by
      unfold contra; rw [tm_next f0 h0, tm_next f0 (by omega), um_next f1 x2 h0, um_next f1 x2 (by omega), lm_next f1 x2 h0, lm_next f1 x2 (by omega)]
    exact ⟨fun c1 => ⟨fun c2 => no (fun c => by rw [iff] at c; omega), fun c2 => ⟨rk, ri, rk, yes (iff.2 (by omega))⟩⟩, fun c1 => ⟨rk, ri, rk, yes (iff.2 (by omega))⟩⟩
  · have hi1 : i = -1 := by omega
    have ma := mulB (a := x0) (d := f0 k) (by omega) (by omega) (by omega) (by omega)
    have mb := mulB (a := x1) (d := f0 k) (by omega) (by omega) (by omega) (by omega)
    have w6 : IntKind.i64.wrap (f0 k * x0) = x0 * f0 k := by rw [Int.mul_comm]; exact wrap_small (by omega)
    have w7 : IntKind.i64.wrap (f0 k * x1) = x1 * f0 k := by rw [Int.mul_comm]; exact wrap_small (by omega)
    simp only [wk1, wk2, wk3, wk4, w6, w7]
    have iff : contra x0 x1 x2 f0 f1 (i + 1) (k + 1) ↔ (x1 * f0 k < (f1 k - x2) * 1000 ∨ (f1 k + x2) * 1000 < x0 * f0 k) := by
      unfold contra; rw [hi1, show (-1 : Int) + 1 = 0 from rfl, tm_next f0 (q := k) (by omega), um_next f1 x2 (q := k) (by omega), lm_next f1 x2 (q := k) (by omega), show tm f0 0 = 0 from rfl, show um f1 x2 0 = 0 from rfl, show lm f1 x2 0 = 0 from rfl, Int.sub_zero, Int.zero_add, Int.zero_add]
    exact ⟨fun c1 => ⟨fun c2 => no (fun c => by rw [iff] at c; omega), fun c2 => ⟨rk, ri, rk, yes (iff.2 (by omega))⟩⟩, fun c1 => ⟨rk, ri, rk, yes (iff.2 (by omega))⟩⟩
end Go.Proofs.Ytikekimiionllaa.Ev
