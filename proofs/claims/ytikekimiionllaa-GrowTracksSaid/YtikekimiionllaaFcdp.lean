/- The program's first two readings that contradict: its contract. -/
import Derived.Test.YtikekimiionllaaFcdr
namespace Go.Proofs.Ytikekimiionllaa.Ev
set_option linter.unusedSimpArgs false
open Go Go.RowKit
set_option linter.unusedVariables false
set_option maxRecDepth 100000
theorem tmd {x3 : Int} {f0 f1 : Int → Int} (good : ∀ q, 0 ≤ q → q < x3 → goodR f0 f1 q) {i j : Int} (h0 : 0 ≤ i) (h1 : i < j) (h2 : j ≤ x3) : 1 ≤ tm f0 j - tm f0 i ∧ tm f0 j - tm f0 i ≤ 100000 := by
  have gj : (1 ≤ f0 (j - 1) ∧ f0 (j - 1) ≤ 100000) ∧ (0 ≤ f1 (j - 1) ∧ f1 (j - 1) ≤ 1000000) := (good (j - 1) (by omega) (by omega)).1
  have ej : tm f0 j = f0 (j - 1) := by unfold tm; rw [if_neg (by omega)]
  by_cases e : i = 0
  · subst e; rw [ej, show tm f0 0 = 0 from rfl]; omega
  · have gi : (1 ≤ f0 (i - 1) ∧ f0 (i - 1) ≤ 100000) ∧ (0 ≤ f1 (i - 1) ∧ f1 (i - 1) ≤ 1000000) := (good (i - 1) (by omega) (by omega)).1
    have ei : tm f0 i = f0 (i - 1) := by unfold tm; rw [if_neg e]
    have up1 := rises good (i - 1) (by omega) (j - i - 1).toNat (by omega)
    rw [show i - 1 + 1 + (((j - i - 1).toNat : Nat) : Int) = j - 1 by omega] at up1
    omega
theorem lub {x2 x3 : Int} {f0 f1 : Int → Int} (good : ∀ q, 0 ≤ q → q < x3 → goodR f0 f1 q) (hx2 : 0 ≤ x2 ∧ x2 ≤ 1000000) {j : Int} (h0 : 0 ≤ j) (h2 : j ≤ x3) : -1000000000 ≤ lm f1 x2 j ∧ lm f1 x2 j ≤ um f1 x2 j ∧ um f1 x2 j ≤ 2000000000 := by
  by_cases e : j = 0
  · subst e; rw [show um f1 x2 0 = 0 from rfl, show lm f1 x2 0 = 0 from rfl]; omega
  · have gj : (1 ≤ f0 (j - 1) ∧ f0 (j - 1) ≤ 100000) ∧ (0 ≤ f1 (j - 1) ∧ f1 (j - 1) ≤ 1000000) := (good (j - 1) (by omega) (by omega)).1
    have e1 : lm f1 x2 j = (f1 (j - 1) - x2) * 1000 := by unfold lm; rw [if_neg e]
    have e2 : um f1 x2 j = (f1 (j - 1) + x2) * 1000 := by unfold um; rw [if_neg e]
    omega
theorem momSame {x2 x3 v : Int} {f0 f1 g2 g3 g4 : Int → Int} (h : momentsOf x2 x3 f0 f1 v g2 g3 g4) : ∀ i, 0 ≤ i → i < x3 + 1 → g2 i = tm f0 i ∧ g3 i = lm f1 x2 i ∧ g4 i = um f1 x2 i := by
  obtain ⟨-, ⟨z2, z3, z4⟩, hq, -, -, -⟩ := h
  intro i h1 h2
  unfold tm lm um
  by_cases e : i = 0
  · subst e; rw [if_pos rfl, if_pos rfl, if_pos rfl]; exact ⟨z2, z3, z4⟩
  · rw [if_neg e, if_neg e, if_neg e]
    have := hq (i - 1) (by omega) (by omega)
    rw [show i - 1 + 1 = i by omega] at this
    exact this
def contraP (x0 x1 x2 x3 : Int) (f0 f1 : Int → Int) (a b e : Int) : Prop := (e = 0 ∧ contraR x0 x1 x2 x3 f0 f1 a b true) ∨ (e = 17 ∧ contraR x0 x1 x2 x3 f0 f1 a b false)
set_option maxHeartbeats 1000000 in
theorem contradiction {x0 x1 x2 x3 : Int} {f0 f1 : Int → Int} (r0 : I64 x0) (r1 : I64 x1) (r2 : I64 x2) (r3 : 0 ≤ x3 ∧ x3 ≤ 40) (s0 : ∀ q, I64 (f0 q)) (s1 : ∀ q, I64 (f1 q)) (hg : trackIs x0 x1 x2 x3 f0 f1 0 0) :
    ∃ a b e, contraP x0 x1 x2 x3 f0 f1 a b e ∧ Spec Try.prog grow_Contradiction_s ⟨[x0, x1, x2, x3], [], [f0, f1]⟩ [a, b, e] [] [] := by
  obtain ⟨⟨ha1, hab, hb1⟩, hx2, hx3, good⟩ := fine hg
  obtain ⟨k, e, hk, hs, -⟩ := checkTracks r0 r1 r2 ⟨r3.1, by omega⟩ s0 s1
  obtain ⟨rfl, rfl⟩ := trackIs_uniq hk hg
  obtain ⟨v, g2, g3, g4, hm, hms⟩ := moments r0 r1 hx2 r3 s0 s1 (fun q h1 h2 => (good q h1 h2).1.2)
  have same := momSame hm
  have hv := hm.1.symm
  subst hv
  refine cd r0 r1 r2 r3 s0 s1 (R := contraP x0 x1 x2 x3 f0 f1) ?_
  simp only [decide_eq_true_eq, decide_eq_false_iff_not]
  refine ⟨0, 0, hs, fun _ => ⟨x3 + 1, g2, g3, g4, hms, ⟨by omega, by omega⟩, fun i => (0 ≤ i ∧ i ≤ x3 + 1) ∧ ∀ a b, 0 ≤ a → a < b → b ≤ x3 → a < i → ¬ contra x0 x1 x2 f0 f1 a b, fun i => (x3 + 1 - i).toNat, ⟨⟨by omega, by omega⟩, fun a b h1 h2 h3 h4 => by omega⟩, ?_⟩, fun h => by simp at h⟩
  rintro i ⟨hi, hn⟩
  refine ⟨⟨by omega, by omega⟩, fun hx => .inr ⟨rfl, .inr ⟨rfl, rfl, rfl, fun a b h1 h2 h3 => hn a b h1 h2 h3 (by omega)⟩⟩, fun hx => ⟨fun _ => ?_, fun h' => h' (by omega)⟩⟩
  refine ⟨fun k => (0 ≤ k ∧ i + k ≤ x3) ∧ ∀ b, i < b → b < i + 1 + k → ¬ contra x0 x1 x2 f0 f1 i b, fun k => (x3 - k).toNat, ⟨⟨by omega, by omega⟩, fun b h1 h2 => by omega⟩, ?_⟩
  rintro k ⟨hk', hm'⟩
  refine ⟨⟨by omega, by omega⟩, fun hy => ⟨⟨⟨by omega, by omega⟩, fun a b h1 h2 h3 h4 => ?_⟩, ?_⟩, fun hy => ⟨fun h' => by omega, fun _ => ?_⟩⟩
  · by_cases e : a = i
    · subst e; exact hm' b (by omega) (by omega)
    · exact hn a b h1 h2 h3 (by omega)
  · show (x3 + 1 - (i + 1)).toNat < (x3 + 1 - i).toNat
    omega
  have si := same i hi.1 (by omega)
  have sj := same (i + 1 + k) (by omega) (by omega)
  have li := lub good hx2 (j := i) hi.1 (by omega)
  have lj := lub good hx2 (j := i + 1 + k) (by omega) (by omega)
  have t := tmd good (i := i) (j := i + 1 + k) hi.1 (by omega) (by omega)
  rw [si.1, si.2.1, si.2.2, sj.1, sj.2.1, sj.2.2]
  have ma := mulB (a := x0) (d := tm f0 (i + 1 + k) - tm f0 i) (by omega) (by omega) (by omega) (by omega)
  have mb := mulB (a := x1) (d := tm f0 (i + 1 + k) - tm f0 i) (by omega) (by omega) (by omega) (by omega)
  have mm := mulM (d := tm f0 (i + 1 + k) - tm f0 i) hab (by omega)
  have w1 : IntKind.i64.wrap (tm f0 (i + 1 + k) - tm f0 i) = tm f0 (i + 1 + k) - tm f0 i := wrap_small (by omega)
  have w2 : IntKind.i64.wrap (x0 * (tm f0 (i + 1 + k) - tm f0 i)) = x0 * (tm f0 (i + 1 + k) - tm f0 i) := wrap_small (by omega)
  have w3 : IntKind.i64.wrap (x1 * (tm f0 (i + 1 + k) - tm f0 i)) = x1 * (tm f0 (i + 1 + k) - tm f0 i) := wrap_small (by omega)
  have w4 : IntKind.i64.wrap (lm f1 x2 i + x0 * (tm f0 (i + 1 + k) - tm f0 i)) = lm f1 x2 i + x0 * (tm f0 (i + 1 + k) - tm f0 i) := wrap_small (by omega)
  have w5 : IntKind.i64.wrap (um f1 x2 i + x1 * (tm f0 (i + 1 + k) - tm f0 i)) = um f1 x2 i + x1 * (tm f0 (i + 1 + k) - tm f0 i) := wrap_small (by omega)
  simp only [w1, w2, w3, w4, w5]
  have iff : contra x0 x1 x2 f0 f1 i (i + 1 + k) ↔ (um f1 x2 i + x1 * (tm f0 (i + 1 + k) - tm f0 i) < lm f1 x2 (i + 1 + k) ∨ um f1 x2 (i + 1 + k) < lm f1 x2 i + x0 * (tm f0 (i + 1 + k) - tm f0 i)) := Iff.rfl
  generalize hX : x0 * (tm f0 (i + 1 + k) - tm f0 i) = X at *
  generalize hY : x1 * (tm f0 (i + 1 + k) - tm f0 i) = Y at *
  refine ⟨fun _ => ⟨fun c => ⟨⟨⟨by omega, by omega⟩, fun b h1 h2 => ?_⟩, by omega⟩, fun c => ⟨⟨by omega, by omega⟩, ⟨by omega, by omega⟩, ⟨by omega, by omega⟩, .inl ⟨rfl, .inl ⟨rfl, ⟨by omega, by omega, by omega⟩, ?_, fun a b h1 h2 h3 h4 => ?_⟩⟩⟩⟩, fun h' => absurd (by omega) h'⟩
  · by_cases e : b = i + 1 + k
    · subst e
      rw [iff]
      split at c <;> split at c <;> omega
    · exact hm' b h1 (by omega)
  · rw [show i - 1 + 1 = i by omega, show i + k + 1 = i + 1 + k by omega, iff]
    split at c <;> split at c <;> omega
  · unfold before at h4
    by_cases e : a = i
    · subst e; exact hm' b (by omega) (by omega)
    · exact hn a b h1 h2 h3 (by omega)
end Go.Proofs.Ytikekimiionllaa.Ev
