/- Tracked: its contract for tracks that are right. -/
import Derived.Test.YtikekimiionllaaTrkp
namespace Go.Proofs.Ytikekimiionllaa.Ev
set_option linter.unusedSimpArgs false
open Go Go.RowKit
set_option linter.unusedVariables false
set_option maxRecDepth 100000

/-- The moments of a track, from its readings. -/
def tm (f0 : Int → Int) : Int → Int := fun i => if i = 0 then 0 else f0 (i - 1)
def lm (f1 : Int → Int) (x2 : Int) : Int → Int := fun i => if i = 0 then 0 else (f1 (i - 1) - x2) * 1000
def um (f1 : Int → Int) (x2 : Int) : Int → Int := fun i => if i = 0 then 0 else (f1 (i - 1) + x2) * 1000
def up (h : Int → Int) : Int → Int := fun i => if i = 0 then 0 else h (i - 1)
/-- Thicknesses at all moments keep a track. -/
def KeptR (x0 x1 x2 x3 : Int) (f0 f1 : Int → Int) (H : Int → Int) : Prop := Kept (tm f0) (lm f1 x2) (um f1 x2) x0 x1 (x3 + 1) H
def trackedR (x0 x1 x2 x3 : Int) (f0 f1 : Int → Int) (v e : Int) (g0 g1 : Int → Int) : Prop :=
  (e = 0 ∧ v = x3 ∧ ((∀ q, I64 (g0 q)) ∧ (∀ q, I64 (g1 q))) ∧ KeptR x0 x1 x2 x3 f0 f1 (up g0) ∧ KeptR x0 x1 x2 x3 f0 f1 (up g1) ∧ ∀ H, KeptR x0 x1 x2 x3 f0 f1 H → ∀ q, 0 ≤ q → q < x3 → g0 q ≤ H (q + 1) ∧ H (q + 1) ≤ g1 q)
  ∨ (e = 17 ∧ v = 0 ∧ g0 = (fun _ => 0) ∧ g1 = (fun _ => 0) ∧ ∀ H, ¬ KeptR x0 x1 x2 x3 f0 f1 H)
theorem kept_congr {T L U T' L' U' H H' : Int → Int} {A B n : Int} (h1 : 1 ≤ n) (h : ∀ i, 0 ≤ i → i < n → T i = T' i ∧ L i = L' i ∧ U i = U' i ∧ H i = H' i) (k : Kept T L U A B n H) : Kept T' L' U' A B n H' := by
  refine ⟨by rw [← (h 0 (by omega) (by omega)).2.2.2]; exact k.1, fun i h2 h3 => ?_⟩
  have a := h i (by omega) h3
  have b := h (i - 1) (by omega) (by omega)
  rw [← a.1, ← a.2.1, ← a.2.2.1, ← a.2.2.2, ← b.1, ← b.2.2.2]
  exact k.2 i h2 h3
theorem fine {x0 x1 x2 x3 : Int} {f0 f1 : Int → Int} (h : trackIs x0 x1 x2 x3 f0 f1 0 0) : (1 ≤ x0 ∧ x0 ≤ x1 ∧ x1 ≤ 1000000) ∧ (0 ≤ x2 ∧ x2 ≤ 1000000) ∧ x3 ≤ 40 ∧ ∀ q, 0 ≤ q → q < x3 → goodR f0 f1 q := by
  rcases h with ⟨h1, h2, h3⟩ | ⟨h1, h2⟩
  · exact absurd h3.symm h1
  · have hr : re 1 1000000 x0 x1 = 0 := by
      unfold headErr at h1; split at h1
      · rename_i h; exact absurd h1 h
      · rename_i h; exact Decidable.not_not.mp h
    unfold headErr at h1
    rw [if_neg (by simpa using hr)] at h1
    refine ⟨?_, ?_, ?_, ?_⟩
    · unfold re at hr; split at hr
      · split at hr <;> omega
      · omega
    · split at h1 <;> omega
    · split at h1
      · split at h1 <;> omega
      · omega
    · rcases h2 with ⟨_, _, h⟩ | ⟨_, _, _, ⟨_, h⟩ | ⟨_, _, h⟩⟩
      · exact h
      · omega
      · omega
theorem tracked {x0 x1 x2 x3 : Int} {f0 f1 : Int → Int} (r0 : I64 x0) (r1 : I64 x1) (r2 : I64 x2) (r3 : 0 ≤ x3 ∧ x3 ≤ 40) (s0 : ∀ q, I64 (f0 q)) (s1 : ∀ q, I64 (f1 q)) (hg : trackIs x0 x1 x2 x3 f0 f1 0 0) :
    ∃ v e g0 g1, trackedR x0 x1 x2 x3 f0 f1 v e g0 g1 ∧ Spec Try.prog grow_Tracked_s ⟨[x0, x1, x2, x3], [], [f0, f1]⟩ [v, e] [] [g0, g1] := by
  obtain ⟨⟨ha1, hab, hb1⟩, hx2, hx3, good⟩ := fine hg
  obtain ⟨k, e, hk, hs, -⟩ := checkTracks r0 r1 r2 ⟨r3.1, by omega⟩ s0 s1
  obtain ⟨rfl, rfl⟩ := trackIs_uniq hk hg
  obtain ⟨v, g2, g3, g4, ⟨rfl, ⟨z2, z3, z4⟩, hq, b2, b3, b4⟩, hms⟩ := moments r0 r1 hx2 r3 s0 s1 (fun q h1 h2 => (good q h1 h2).1.2)
  -- the moments
  have at1 : ∀ i, 1 ≤ i → i < x3 + 1 → g2 i = f0 (i - 1) ∧ g3 i = (f1 (i - 1) - x2) * 1000 ∧ g4 i = (f1 (i - 1) + x2) * 1000 := by
    intro i h1 h2
    have := hq (i - 1) (by omega) (by omega)
    rw [show i - 1 + 1 = i by omega] at this
    exact this
  have m : Mom g2 g3 g4 x0 x1 (x3 + 1) := by
    refine ⟨by omega, fun i h1 h2 => ?_, fun i h1 h2 => ?_, by omega, hab, hb1, z3, z4⟩
    · have a := at1 i h1 h2
      have g := good (i - 1) (by omega) (by omega)
      by_cases e : i = 1
      · subst e
        rw [show (1 : Int) - 1 = 0 from rfl] at *
        obtain ⟨⟨g1, _⟩, _⟩ := g
        omega
      · have b := at1 (i - 1) (by omega) (by omega)
        have g' := good (i - 1 - 1) (by omega) (by omega)
        obtain ⟨⟨c1, _⟩, c2⟩ := g
        obtain ⟨⟨c3, _⟩, _⟩ := g'
        omega
    · have a := at1 i h1 h2
      have g := good (i - 1) (by omega) (by omega)
      obtain ⟨⟨_, c⟩, _⟩ := g
      omega
  have same : ∀ i, 0 ≤ i → i < x3 + 1 → g2 i = tm f0 i ∧ g3 i = lm f1 x2 i ∧ g4 i = um f1 x2 i := by
    intro i h1 h2
    unfold tm lm um
    by_cases e : i = 0
    · subst e; rw [if_pos rfl, if_pos rfl, if_pos rfl]; exact ⟨z2, z3, z4⟩
    · rw [if_neg e, if_neg e, if_neg e]; exact at1 i (by omega) h2
  have toM : ∀ H, KeptR x0 x1 x2 x3 f0 f1 H → Kept g2 g3 g4 x0 x1 (x3 + 1) H := fun H k => kept_congr (by omega) (fun i h1 h2 => by
    have s := same i h1 h2; exact ⟨s.1.symm, s.2.1.symm, s.2.2.symm, rfl⟩) k
  have toR : ∀ H h, Kept g2 g3 g4 x0 x1 (x3 + 1) H → (∀ q, 0 ≤ q → q < x3 → h q = H (q + 1)) → KeptR x0 x1 x2 x3 f0 f1 (up h) := fun H h k e => kept_congr (by omega) (fun i h1 h2 => by
    have s := same i h1 h2
    refine ⟨s.1, s.2.1, s.2.2, ?_⟩
    unfold up
    by_cases e0 : i = 0
    · subst e0; rw [if_pos rfl]; exact k.1
    · rw [if_neg e0, e (i - 1) (by omega) (by omega), show i - 1 + 1 = i by omega]) k
  refine tk r0 r1 r2 r3 s0 s1 (R := trackedR x0 x1 x2 x3 f0 f1) ?_
  simp only [decide_eq_true_eq, decide_eq_false_iff_not]
  refine ⟨0, 0, hs, fun _ => ⟨x3 + 1, g2, g3, g4, hms, ⟨by omega, by omega⟩, fun i p q => Fwd g2 g3 g4 x0 x1 (x3 + 1) i p q ∧ (∀ j, I64 (p j)) ∧ (∀ j, I64 (q j)), fun i _ _ => (x3 + 1 - i).toNat, ?_, ?_⟩, fun h => by simp at h⟩
  · exact ⟨⟨by omega, by omega, ⟨z3, z4⟩, fun j _ _ => ⟨rfl, rfl⟩, fun j h1 h2 => by omega⟩, b3, b4⟩
  rintro i p q ⟨hF, bp, bq⟩
  have i1 := hF.i1
  have i2 := hF.i2
  refine ⟨bp, bq, ⟨i1, by omega⟩, fun hv => ?_, fun hv => ⟨fun h' => by omega, fun _ => ?_⟩⟩
  · -- the way back
    obtain rfl : i = x3 + 1 := by omega
    refine ⟨bp, bq, fun i f g => Bwd g2 x0 x1 (x3 + 1) p q i f g ∧ (∀ j, I64 (f j)) ∧ (∀ j, I64 (g j)), fun i _ _ => (i + 1).toNat, ⟨Bwd.start m hF, bp, bq⟩, ?_⟩
    rintro i f g ⟨hB, bf, bg⟩
    have j1 := hB.i1
    have j2 := hB.i2
    refine ⟨bf, bg, ⟨j1, by omega⟩, fun hv => ?_, fun hv => ⟨fun h' => by omega, fun _ => ⟨fun h' => by omega, fun _ => ?_⟩⟩⟩
    · -- the enclosures
      refine ⟨bf, bg, fun c d h k => c = d ∧ (0 ≤ c ∧ c ≤ x3) ∧ (∀ q, 0 ≤ q → q < c → h q = f (q + 1) ∧ k q = g (q + 1)) ∧ (∀ j, I64 (h j)) ∧ (∀ j, I64 (k j)), fun c _ _ _ => (x3 - c).toNat, ?_, ?_⟩
      · exact ⟨rfl, ⟨by omega, by omega⟩, fun q h1 h2 => by omega, fun _ => (show I64 0 from ⟨by decide, by decide⟩), fun _ => (show I64 0 from ⟨by decide, by decide⟩)⟩
      rintro c d h k ⟨rfl, hc, hq', bh, bk⟩
      refine ⟨bh, bk, ⟨by omega, by omega⟩, ⟨by omega, by omega⟩, fun he => ⟨bh, bk, ⟨by omega, by omega⟩, ?_⟩, fun he => ⟨fun h' => by omega, fun _ => ⟨⟨rfl, ⟨by omega, by omega⟩, fun q h1 h2 => ?_, fun j => ?_, fun j => ?_⟩, ?_⟩⟩⟩
      · obtain rfl : c = x3 := by omega
        refine .inl ⟨rfl, rfl, ⟨bh, bk⟩, toR f h (hB.least m hF (by omega)) (fun q h1 h2 => (hq' q h1 h2).1), toR g k (hB.most m hF (by omega)) (fun q h1 h2 => (hq' q h1 h2).2), fun H w q h1 h2 => ?_⟩
        have := hB.holds hF (by omega) (toM H w) (c - (q + 1)).toNat (q + 1) (by omega) (by omega)
        rw [(hq' q h1 h2).1, (hq' q h1 h2).2]
        exact this
      · dsimp only
        by_cases e : q = c
        · subst e; rw [if_pos rfl, if_pos rfl, show 1 + q = q + 1 by omega]; exact ⟨rfl, rfl⟩
        · rw [if_neg e, if_neg e]; exact hq' q h1 (by omega)
      · try dsimp only
        split
        · exact bf _
        · exact bh _
      · try dsimp only
        split
        · exact bg _
        · exact bk _
      · show (x3 - (c + 1)).toNat < (x3 - c).toNat
        omega
    · have t := m.t (i + 1) (by omega) (by omega)
      rw [show i + 1 - 1 = i by omega] at t
      have o1 := hB.o i (by omega) (by omega)
      have o2 := hB.o (i + 1) (by omega) (by omega)
      have n1 := hF.bnd m i (by omega) (by omega)
      have n2 := hF.bnd m (i + 1) (by omega) (by omega)
      have ma := mulB (a := x0) (d := g2 (i + 1) - g2 i) (by omega) (by omega) (by omega) (by omega)
      have mb := mulB (a := x1) (d := g2 (i + 1) - g2 i) (by omega) (by omega) (by omega) (by omega)
      have w1 : IntKind.i64.wrap (g2 i - g2 (i + 1)) = -(g2 (i + 1) - g2 i) := by rw [wrap_small (by omega)]; omega
      have w2 : IntKind.i64.wrap (x0 * -(g2 (i + 1) - g2 i)) = -(x0 * (g2 (i + 1) - g2 i)) := by rw [Int.mul_neg]; exact wrap_small (by omega)
      have w3 : IntKind.i64.wrap (x1 * -(g2 (i + 1) - g2 i)) = -(x1 * (g2 (i + 1) - g2 i)) := by rw [Int.mul_neg]; exact wrap_small (by omega)
      have w4 : IntKind.i64.wrap (f (i + 1) + -(x1 * (g2 (i + 1) - g2 i))) = f (i + 1) - x1 * (g2 (i + 1) - g2 i) := by rw [wrap_small (by omega)]; omega
      have w5 : IntKind.i64.wrap (g (i + 1) + -(x0 * (g2 (i + 1) - g2 i))) = g (i + 1) - x0 * (g2 (i + 1) - g2 i) := by rw [wrap_small (by omega)]; omega
      simp only [w1, w2, w3, w4, w5]
      refine ⟨fun h' => absurd h' (by omega), fun _ => ⟨fun hab => ⟨⟨hB.step m hF (by omega) rfl rfl, fun j => ?_, fun j => ?_⟩, ?_⟩, fun hab => absurd (hB.fits m hF (by omega) rfl rfl) hab⟩⟩
      · try dsimp only
        split
        · split
          · exact ⟨by omega, by omega⟩
          · exact bf _
        · exact bf _
      · try dsimp only
        split
        · split
          · exact ⟨by omega, by omega⟩
          · exact bg _
        · exact bg _
      · show (i - 1 + 1).toNat < (i + 1).toNat
        omega
  · have t := m.t i (by omega) (by omega)
    have n1 := hF.bnd m i (by omega) (by omega)
    have n2 := hF.bnd m (i - 1) (by omega) (by omega)
    have ma := mulB (a := x0) (d := g2 i - g2 (i - 1)) (by omega) (by omega) (by omega) (by omega)
    have mb := mulB (a := x1) (d := g2 i - g2 (i - 1)) (by omega) (by omega) (by omega) (by omega)
    have w1 : IntKind.i64.wrap (g2 i - g2 (i - 1)) = g2 i - g2 (i - 1) := wrap_small (by omega)
    have w2 : IntKind.i64.wrap (x0 * (g2 i - g2 (i - 1))) = x0 * (g2 i - g2 (i - 1)) := wrap_small (by omega)
    have w3 : IntKind.i64.wrap (x1 * (g2 i - g2 (i - 1))) = x1 * (g2 i - g2 (i - 1)) := wrap_small (by omega)
    have w4 : IntKind.i64.wrap (p (i - 1) + x0 * (g2 i - g2 (i - 1))) = p (i - 1) + x0 * (g2 i - g2 (i - 1)) := wrap_small (by omega)
    have w5 : IntKind.i64.wrap (q (i - 1) + x1 * (g2 i - g2 (i - 1))) = q (i - 1) + x1 * (g2 i - g2 (i - 1)) := wrap_small (by omega)
    simp only [w1, w2, w3, w4, w5]
    refine ⟨fun _ => ⟨fun hab => ⟨⟨hF.step m (by omega) rfl rfl hab, fun j => ?_, fun j => ?_⟩, ?_⟩, fun hab => ⟨bp, bq, .inr ⟨rfl, rfl, rfl, rfl, fun H k => hF.none m (by omega) rfl rfl hab H (toM H k)⟩⟩⟩, fun h' => absurd (by omega) h'⟩
    · try dsimp only
      split
      · split
        · exact ⟨by omega, by omega⟩
        · exact bp _
      · exact bp _
    · try dsimp only
      split
      · split
        · exact ⟨by omega, by omega⟩
        · exact bq _
      · exact bq _
    · show (x3 + 1 - (i + 1)).toNat < (x3 + 1 - i).toNat
      omega
end Go.Proofs.Ytikekimiionllaa.Ev
