/- The turns of a signal, the reference's. -/
import Derived.Test.YtiekcneeedifmaaFyc
namespace Go.Proofs.Ytiekcneeedifmaa.Ev
set_option linter.unusedSimpArgs false
open Go Go.RowKit
set_option linter.unusedVariables false
set_option maxRecDepth 100000
open Gt

section

variable {x0 x1 : Int} {f0 : Int → Int}

/-- The greatest and the least number of a part of a stretch, and of its last number. -/

structure MP (l : Int → Int) (a k i m b : Int) : Prop where

  up : ∀ q, a ≤ q → q < k → l q ≤ m ∧ b ≤ l q

  la : b ≤ l i ∧ l i ≤ m

  mx : m = l i ∨ ∃ q, a ≤ q ∧ q < k ∧ l q = m

  mn : b = l i ∨ ∃ q, a ≤ q ∧ q < k ∧ l q = b

theorem MP.init {l : Int → Int} {a i : Int} : MP l a a i (l i) (l i) := ⟨fun q h0 h1 => by omega, by omega, Or.inl rfl, Or.inl rfl⟩

theorem MP.step {l : Int → Int} {a k i m b : Int} (h : MP l a k i m b) (ha : a ≤ k) : MP l a (k + 1) i (if l k > m then l k else m) (if l k < b then l k else b) := by

  have h2 := h.la

  refine ⟨fun q h0 h1 => ?_, ?_, ?_, ?_⟩

  · by_cases e : q = k

    · subst e; constructor <;> split <;> omega

    · have := h.up q h0 (by omega)

      constructor <;> split <;> omega

  · constructor <;> split <;> omega

  · split

    · exact Or.inr ⟨k, ha, by omega, rfl⟩

    · rcases h.mx with g | ⟨q, g0, g1, g2⟩

      · exact Or.inl g

      · exact Or.inr ⟨q, g0, by omega, g2⟩

  · split

    · exact Or.inr ⟨k, ha, by omega, rfl⟩

    · rcases h.mn with g | ⟨q, g0, g1, g2⟩

      · exact Or.inl g

      · exact Or.inr ⟨q, g0, by omega, g2⟩

theorem MP.bd {l : Int → Int} {a k i m b : Int} (h : MP l a k i m b) (hl : ∀ q, 0 ≤ l q ∧ l q ≤ 1000000) : (0 ≤ m ∧ m ≤ 1000000) ∧ (0 ≤ b ∧ b ≤ 1000000) := by

  constructor

  · rcases h.mx with g | ⟨q, _, _, g⟩

    · rw [g]; exact hl _

    · rw [← g]; exact hl _

  · rcases h.mn with g | ⟨q, _, _, g⟩

    · rw [g]; exact hl _

    · rw [← g]; exact hl _

theorem MP.out {l : Int → Int} {a i m b : Int} (h : MP l a i i m b) (ha : a ≤ i) : m = topF l a i ∧ b = botF l a i := by

  have h2 := h.la

  constructor

  · refine IsMx.eq ⟨fun q h0 h1 => ?_, ?_⟩ (topF_is l ha)

    · by_cases e : q = i

      · subst e; exact h2.2

      · exact (h.up q h0 (by omega)).1

    · rcases h.mx with g | ⟨q, g0, g1, g2⟩

      · exact ⟨i, ha, Int.le_refl _, g.symm⟩

      · exact ⟨q, g0, by omega, g2⟩

  · refine IsMn.eq ⟨fun q h0 h1 => ?_, ?_⟩ (botF_is l ha)

    · by_cases e : q = i

      · subst e; exact h2.1

      · exact (h.up q h0 (by omega)).2

    · rcases h.mn with g | ⟨q, g0, g1, g2⟩

      · exact ⟨i, ha, Int.le_refl _, g.symm⟩

      · exact ⟨q, g0, by omega, g2⟩

set_option maxHeartbeats 8000000 in

theorem turns_r (G : Sgn x0 x1 f0) (r1 : 0 ≤ x1) : Spec Try.prog etalonref08_Turns_s ⟨[x0, x1], [], [f0]⟩ [(ts (lrow f0 x1.toNat) (2 * x0) x1.toNat).n] [] [(ts (lrow f0 x1.toNat) (2 * x0) x1.toNat).g0, (ts (lrow f0 x1.toNat) (2 * x0) x1.toNat).g1, (ts (lrow f0 x1.toNat) (2 * x0) x1.toNat).g2, (ts (lrow f0 x1.toNat) (2 * x0) x1.toNat).g3] := by

  have gn := G.noise; have gf := G.few

  obtain ⟨_, _, _, _, _, ⟨rfl, rfl, rfl, rfl, rfl⟩, hs⟩ := rtu (x0 := x0) (x1 := x1) (f0 := f0) (by omega) (by omega) (R := fun v g0 g1 g2 g3 => v = (ts (lrow f0 x1.toNat) (2 * x0) x1.toNat).n ∧ g0 = (ts (lrow f0 x1.toNat) (2 * x0) x1.toNat).g0 ∧ g1 = (ts (lrow f0 x1.toNat) (2 * x0) x1.toNat).g1 ∧ g2 = (ts (lrow f0 x1.toNat) (2 * x0) x1.toNat).g2 ∧ g3 = (ts (lrow f0 x1.toNat) (2 * x0) x1.toNat).g3) (by

    simp only [decide_eq_true_eq, decide_eq_false_iff_not, beq_iff_eq, beq_eq_false_iff_ne, ne_eq]

    refine ⟨fun i n f1 => (0 ≤ i ∧ i ≤ x1) ∧ n = i ∧ f1 = lrow f0 i.toNat, fun i _ _ => (x1 - i).toNat, ⟨⟨by omega, by omega⟩, rfl, rfl⟩, ?_⟩

    rintro i n f1 ⟨hi, rfl, rfl⟩

    refine ⟨lrow_bd G _ (by omega), by omega, by omega, fun g => ?_, fun g => ⟨fun _ => ⟨⟨⟨by omega, by omega⟩, by trivial, by rw [lrow_step hi.1]⟩, by show (x1 - (n + 1)).toNat < (x1 - n).toNat; omega⟩, fun h => h (G.one n hi.1 (by omega))⟩⟩

    have e : n = x1 := by omega

    subst e

    have hL := lrow_bd G n.toNat (by omega)

    generalize lrow f0 n.toNat = L at *

    refine ⟨fun q => by have := hL q; omega, by omega, fun w a i m g0 g1 g2 g3 => (1 ≤ i ∧ (i ≤ n ∨ i = 1)) ∧ TS.mk w a m g0 g1 g2 g3 = ts L (2 * x0) i.toNat, fun _ _ i _ _ _ _ _ => (n - i).toNat, ⟨⟨by omega, Or.inr rfl⟩, (ts_one (by omega)).symm⟩, ?_⟩

    rintro w a i m g0 g1 g2 g3 ⟨hj, hS⟩

    have ok := ts_ok (l := L) (far := 2 * x0) (by omega) i.toNat

    rw [← hS, show ((i.toNat : Nat) : Int) = i by omega] at ok

    have k1 := ok.wy; have k2 := ok.fi; have k3 := ok.nn

    dsimp only at k1 k2 k3

    have b1 : ∀ q, 0 ≤ g1 q ∧ g1 q ≤ i := ok.b1

    have b2 : ∀ q, 0 ≤ g2 q ∧ g2 q ≤ i := ok.b2

    have b3 : ∀ q, 0 ≤ g3 q ∧ g3 q ≤ i := ok.b3

    refine ⟨fun q => by have := b1 q; omega, fun q => by have := b2 q; omega, fun q => by have := b3 q; omega, by omega, by omega, by omega, by omega, fun g => ?_, fun g => ?_⟩

    · have e : TS.mk w a m g0 g1 g2 g3 = ts L (2 * x0) n.toNat := by

        rcases hj.2 with e | e

        · rw [show n = i by omega]; exact hS

        · by_cases e' : n = i

          · rw [e']; exact hS

          · rw [hS, e, show n.toNat = 0 by omega]; exact ts_one (by omega)

      rw [← e]

      exact ⟨fun q => by have := b1 q; omega, fun q => by have := b2 q; omega, fun q => by have := b3 q; omega, by omega, rfl, rfl, rfl, rfl, rfl⟩

    have ai : a ≤ i := by omega

    refine ⟨fun m b k => (a ≤ k ∧ k ≤ i) ∧ MP L a k i m b, fun _ _ k => (i - k).toNat, ⟨⟨by omega, by omega⟩, MP.init⟩, ?_⟩

    rintro v b k ⟨hk, hM⟩

    have bd := hM.bd hL

    refine ⟨by omega, by omega, by omega, fun g1' => ?_, fun g1' => ⟨fun g => by omega, fun _ => ⟨⟨⟨by omega, by omega⟩, hM.step hk.1⟩, by show (i - (k + 1)).toNat < (i - k).toNat; omega⟩⟩⟩

    have e : k = i := by omega

    subst e

    obtain ⟨rfl, rfl⟩ := hM.out ai

    clear hM

    have bl := hL k

    rw [ws (n := L k - botF L a k) (by omega) (by omega), ws (n := topF L a k - L k) (by omega) (by omega), ws (n := botF L a k + 2 * x0) (by omega) (by omega), ws (n := topF L a k - 2 * x0) (by omega) (by omega)]

    have rk : (n - (k + 1)).toNat < (n - k).toNat := by omega

    have nx {s : TS} (h : stp L (2 * x0) ⟨w, a, m, g0, g1, g2, g3⟩ k = s) : s = ts L (2 * x0) (k + 1).toNat := by rw [ts_step (by omega), ← hS, h]

    refine ⟨by omega, by omega, fun h2 => ⟨fun hb => ⟨⟨⟨by omega, by omega⟩, nx (stp_2a h2 hb)⟩, rk⟩, fun hb => ?_⟩, fun h2 => ⟨fun ht => ⟨fun h1 => ⟨⟨⟨by omega, by omega⟩, nx (stp_1a h2 h1 ht)⟩, rk⟩, fun h1 => ⟨fun hb => ⟨⟨⟨by omega, by omega⟩, nx (stp_0a h2 h1 ht hb)⟩, rk⟩, fun hb => ⟨⟨⟨by omega, by omega⟩, nx (stp_0b h2 h1 ht hb)⟩, rk⟩⟩⟩, fun ht => ⟨fun h1 => ?_, fun h1 => ⟨⟨⟨by omega, by omega⟩, nx (stp_0c h2 h1 ht)⟩, rk⟩⟩⟩⟩

    · obtain ⟨f, t, c0, c1, c2, c3, c4, c5, c6, c7, c8⟩ := bot_turn k2.1 ai (by omega) hb

      refine ⟨fun y f t => (a ≤ y ∧ y ≤ k) ∧ FL (pBot L (2 * x0) a k) a y f t, fun y _ _ => (k - y).toNat, ⟨⟨Int.le_refl _, ai⟩, FL.init⟩, ?_⟩

      rintro y f' t' ⟨hy, hF⟩

      have fb := hF.bd k2.1 hy.1

      refine ⟨by omega, by omega, by omega, fun g' => ?_, fun g' => ⟨fun g => by omega, fun _ => ⟨fun p1 => ⟨fun p2 => ⟨fun p3 => ?_, fun p3 => ?_⟩, fun p2 => ?_⟩, fun p1 => ?_⟩⟩⟩

      · have e : y = k := by omega

        subst e

        obtain ⟨e1, e2⟩ := hF.out k2.1 c0 (by omega) c3

        exact ⟨by omega, by omega, ⟨⟨by omega, by omega⟩, nx (stp_2b h2 hb e1 e2)⟩, rk⟩

      · exact ⟨⟨⟨by omega, by omega⟩, hF.yes (decide_eq_true p2) p3 hy.1⟩, by show (k - (y + 1)).toNat < (k - y).toNat; omega⟩

      · exact ⟨⟨⟨by omega, by omega⟩, hF.fst (decide_eq_true p2) p3 k2.1 hy.1⟩, by show (k - (y + 1)).toNat < (k - y).toNat; omega⟩

      · exact ⟨⟨⟨by omega, by omega⟩, hF.no (decide_eq_false p2)⟩, by show (k - (y + 1)).toNat < (k - y).toNat; omega⟩

      · exact absurd ((botF_is L ai).1 y hy.1 (by omega)) p1

    · obtain ⟨f, t, c0, c1, c2, c3, c4, c5, c6, c7, c8⟩ := top_turn k2.1 ai (by omega) ht

      refine ⟨fun y f t => (a ≤ y ∧ y ≤ k) ∧ FL (pTop L (2 * x0) a k) a y f t, fun y _ _ => (k - y).toNat, ⟨⟨Int.le_refl _, ai⟩, FL.init⟩, ?_⟩

      rintro y f' t' ⟨hy, hF⟩

      have fb := hF.bd k2.1 hy.1

      refine ⟨by omega, by omega, by omega, fun g' => ?_, fun g' => ⟨fun g => by omega, fun _ => ⟨fun p2 => ⟨fun p1 => ⟨fun p3 => ?_, fun p3 => ?_⟩, fun p1 => ?_⟩, fun p2 => ?_⟩⟩⟩

      · have e : y = k := by omega

        subst e

        obtain ⟨e1, e2⟩ := hF.out k2.1 c0 (by omega) c3

        exact ⟨by omega, by omega, ⟨⟨by omega, by omega⟩, nx (stp_1b h2 h1 ht e1 e2)⟩, rk⟩

      · exact ⟨⟨⟨by omega, by omega⟩, hF.yes (decide_eq_true p2) p3 hy.1⟩, by show (k - (y + 1)).toNat < (k - y).toNat; omega⟩

      · exact ⟨⟨⟨by omega, by omega⟩, hF.fst (decide_eq_true p2) p3 k2.1 hy.1⟩, by show (k - (y + 1)).toNat < (k - y).toNat; omega⟩

      · exact absurd ((topF_is L ai).1 y hy.1 (by omega)) p1

      · exact ⟨⟨⟨by omega, by omega⟩, hF.no (decide_eq_false p2)⟩, by show (k - (y + 1)).toNat < (k - y).toNat; omega⟩)

  exact hs

end

end Go.Proofs.Ytiekcneeedifmaa.Ev
