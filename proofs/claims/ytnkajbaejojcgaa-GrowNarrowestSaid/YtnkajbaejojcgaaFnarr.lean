/- GrowNarrowest says true. -/
import Derived.Test.YtnkajbaejojcgaaFnar
namespace Go.Proofs.Ytnkajbaejojcgaa.Ev
set_option linter.unusedSimpArgs false
open Go Go.RowKit
set_option linter.unusedVariables false
set_option maxRecDepth 100000
def isT (b : Bool) : Prop := b = true
theorem trackIs_zero {x0 x1 x2 x3 k : Int} {f0 f1 : Int → Int} (h : trackIs x0 x1 x2 x3 f0 f1 k 0) : k = 0 := by
  rcases h with ⟨h1, h2, h3⟩ | ⟨h1, ⟨h2, _, _⟩ | ⟨_, _, _, ⟨_, h⟩ | ⟨_, _, h⟩⟩⟩ <;> omega
theorem up_next (h : Int → Int) {q : Int} (hq : 0 ≤ q) : up h (q + 1) = h q := by
  unfold up; rw [if_neg (by omega), show q + 1 - 1 = q by omega]
theorem keptR_ext {x0 x1 x2 x3 : Int} {f0 f1 g h : Int → Int} (h3 : 0 ≤ x3) (e : ∀ q, 0 ≤ q → q < x3 → h q = g q) (k : KeptR x0 x1 x2 x3 f0 f1 (up g)) : KeptR x0 x1 x2 x3 f0 f1 (up h) :=
  kept_congr (by omega) (fun i h1 h2 => ⟨rfl, rfl, rfl, by
    unfold up
    by_cases e0 : i = 0
    · rw [if_pos e0, if_pos e0]
    · rw [if_neg e0, if_neg e0]; exact (e (i - 1) (by omega) (by omega)).symm⟩) k
theorem narrowest {x0 x1 x2 x3 x4 : Int} {f0 f1 f2 : Int → Int} (r0 : (-9223372036854775808) ≤ x0 ∧ x0 ≤ 9223372036854775807) (r1 : (-9223372036854775808) ≤ x1 ∧ x1 ≤ 9223372036854775807) (r2 : (-9223372036854775808) ≤ x2 ∧ x2 ≤ 9223372036854775807) (r3 : 0 ≤ x3 ∧ x3 ≤ 9223372036854775807) (r4 : 0 ≤ x4 ∧ x4 ≤ 9223372036854775807) (s0 : ∀ q, (-9223372036854775808) ≤ f0 q ∧ f0 q ≤ 9223372036854775807) (s1 : ∀ q, (-9223372036854775808) ≤ f1 q ∧ f1 q ≤ 9223372036854775807) (s2 : ∀ q, (-9223372036854775808) ≤ f2 q ∧ f2 q ≤ 9223372036854775807) :
    Spec Try.prog etalonlaw08_GrowNarrowest_s ⟨[x0, x1, x2, x3, x4], [], [f0, f1, f2]⟩ [] [true] [] := by
  obtain ⟨a0, rfl, ha⟩ := awake
  obtain ⟨u, hu, hs⟩ : ∃ u0 : Bool, isT u0 ∧ Spec Try.prog etalonlaw08_GrowNarrowest_s ⟨[x0, x1, x2, x3, x4], [], [f0, f1, f2]⟩ [] [u0] [] := by
    refine gn r0 r1 r2 r3 r4 s0 s1 s2 (R := isT) ?_
    simp only [decide_eq_true_eq, decide_eq_false_iff_not]
    refine ⟨true, ha, fun _ => ⟨fun h3 => ⟨fun h4 => ?_, fun _ => rfl⟩, fun _ => rfl⟩, fun h => absurd h (by decide)⟩
    obtain ⟨k, e, hk, -, hc⟩ := checkTracks r0 r1 r2 ⟨r3.1, by omega⟩ s0 s1
    refine ⟨k, e, hc, fun he => ?_, fun _ => rfl⟩
    have he : e = 0 := by simpa using he
    subst he
    have k0 := trackIs_zero hk
    subst k0
    obtain ⟨v, e, g0, g1, ht, hts⟩ := tracked r0 r1 r2 ⟨r3.1, by omega⟩ s0 s1 hk
    rcases ht with ⟨he, hv, ⟨b0, b1⟩, kl, km, kb⟩ | ⟨he, hv, -, -, no⟩
    · subst he
      have hv := hv.symm
      subst hv
      refine ⟨x0, x1, x2, x3, f0, f1, copyTrack r0 r1 r2 ⟨r3.1, by omega⟩ s0 s1, ⟨r3.1, by omega⟩, x3, 0, g0, g1, hts, ⟨r3.1, by omega⟩, fun _ => ⟨fun _ => ?_, fun h => absurd h (by simp)⟩, fun h => absurd h (by decide)⟩
      refine ⟨fun c l m h k => (c = l ∧ c = m) ∧ (0 ≤ c ∧ c ≤ x3) ∧ (∀ q, 0 ≤ q → q < c → h q = g0 q ∧ k q = g1 q) ∧ (∀ j, I64 (h j)) ∧ (∀ j, I64 (k j)), fun c _ _ _ _ => (x3 - c).toNat, ?_, ?_⟩
      · exact ⟨⟨rfl, rfl⟩, ⟨by omega, by omega⟩, fun q h1 h2 => by omega, fun _ => (show I64 0 from ⟨by decide, by decide⟩), fun _ => (show I64 0 from ⟨by decide, by decide⟩)⟩
      rintro c l m h k ⟨⟨hl, hm⟩, hc', hq, bh, bk⟩
      subst hl hm
      refine ⟨bh, bk, ⟨by omega, by omega⟩, ⟨by omega, by omega⟩, ⟨by omega, by omega⟩, fun hx => ⟨bh, bk, ⟨by omega, by omega⟩, ⟨by omega, by omega⟩, ?_⟩, fun hx => ⟨⟨⟨rfl, rfl⟩, ⟨by omega, by omega⟩, fun q h1 h2 => ?_, fun j => ?_, fun j => ?_⟩, ?_⟩⟩
      · have hcx : c = x3 := by omega
        subst hcx
        obtain ⟨u1, hu1, hus1⟩ := keeps (x4 := c) (f2 := h) r0 r1 r2 ⟨r3.1, h3⟩ ⟨r3.1, h3⟩ s0 s1 bh hk
        obtain ⟨u2, hu2, hus2⟩ := keeps (x4 := c) (f2 := k) r0 r1 r2 ⟨r3.1, h3⟩ ⟨r3.1, h3⟩ s0 s1 bk hk
        have t1 : u1 = true := hu1.2 ⟨rfl, keptR_ext r3.1 (fun q a b => (hq q a b).1) kl⟩
        have t2 : u2 = true := hu2.2 ⟨rfl, keptR_ext r3.1 (fun q a b => (hq q a b).2) km⟩
        obtain ⟨u3, hu3, hus3⟩ := keeps (x4 := x4) (f2 := f2) r0 r1 r2 ⟨r3.1, h3⟩ ⟨r4.1, h4⟩ s0 s1 s2 hk
        refine ⟨u1, hus1, fun _ => ⟨u2, hus2, fun _ => ⟨u3, hus3, fun ht => ?_, fun _ => rfl⟩, fun h => absurd t2 (by rw [h]; decide)⟩, fun h => absurd t1 (by rw [h]; decide)⟩
        obtain ⟨e4, kk⟩ := hu3.1 ht
        refine ⟨fun i => 0 ≤ i ∧ i ≤ c, fun i => (c - i).toNat, ⟨by omega, by omega⟩, fun i hi => ⟨⟨by omega, by omega⟩, fun _ => rfl, fun hx => ?_⟩⟩
        have b := kb (up f2) kk i hi.1 (by omega)
        rw [up_next f2 hi.1] at b
        refine ⟨fun h' => by omega, fun _ => ⟨fun _ => ⟨fun _ => ⟨⟨by omega, by omega⟩, ?_⟩, fun h' => absurd b.2 h'⟩, fun h' => absurd b.1 h'⟩⟩
        show (c - (i + 1)).toNat < (c - i).toNat
        omega
      · try dsimp only
        by_cases e : q = c
        · subst e; rw [if_pos rfl, if_pos rfl]; exact ⟨rfl, rfl⟩
        · rw [if_neg e, if_neg e]; exact hq q h1 (by omega)
      · try dsimp only
        split
        · exact b0 _
        · exact bh _
      · try dsimp only
        split
        · exact b1 _
        · exact bk _
      · show (x3 - (c + 1)).toNat < (x3 - c).toNat
        omega
    · subst he
      subst hv
      obtain ⟨u3, hu3, hus3⟩ := keeps (x4 := x4) (f2 := f2) r0 r1 r2 ⟨r3.1, h3⟩ ⟨r4.1, h4⟩ s0 s1 s2 hk
      refine ⟨x0, x1, x2, x3, f0, f1, copyTrack r0 r1 r2 ⟨r3.1, by omega⟩ s0 s1, ⟨r3.1, by omega⟩, 0, 17, g0, g1, hts, ⟨by omega, by omega⟩, fun h => absurd h (by decide), fun _ => ⟨fun _ => ⟨u3, hus3, ?_⟩, fun h => absurd h (by decide)⟩⟩
      cases u3
      · rfl
      · exact absurd (hu3.1 rfl).2 (no _)
  have hu : u = true := hu
  subst hu
  exact hs
end Go.Proofs.Ytnkajbaejojcgaa.Ev
