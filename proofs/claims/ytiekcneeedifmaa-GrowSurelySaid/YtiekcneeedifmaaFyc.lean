/- The turns of a signal, of both. -/
import Derived.Test.YtiekcneeedifmaaFyb
namespace Go.Proofs.Ytiekcneeedifmaa.Ev
set_option linter.unusedSimpArgs false
open Go Go.RowKit
set_option linter.unusedVariables false
set_option maxRecDepth 100000
open Gt

section

variable {x0 x1 : Int} {f0 : Int → Int}

theorem mx_bd {l : Int → Int} (hl : ∀ q, 0 ≤ l q ∧ l q ≤ 1000000) (a : Int) (k : Nat) : 0 ≤ gmx l a k ∧ gmx l a k ≤ 1000000 := isMx_bd hl (gmx_is l a k)

theorem mn_bd {l : Int → Int} (hl : ∀ q, 0 ≤ l q ∧ l q ≤ 1000000) (a : Int) (k : Nat) : 0 ≤ gmn l a k ∧ gmn l a k ≤ 1000000 := isMn_bd hl (gmn_is l a k)

theorem mx_step {l : Int → Int} {a k : Int} (h : 1 ≤ k) : (if l (a + k) > gmx l a (k - 1).toNat then l (a + k) else gmx l a (k - 1).toNat) = gmx l a (k + 1 - 1).toNat := by

  rw [show (k + 1 - 1).toNat = (k - 1).toNat + 1 by omega, gmx, show a + (((k - 1).toNat : Nat) + 1 : Int) = a + k by omega]

theorem mn_step {l : Int → Int} {a k : Int} (h : 1 ≤ k) : (if l (a + k) < gmn l a (k - 1).toNat then l (a + k) else gmn l a (k - 1).toNat) = gmn l a (k + 1 - 1).toNat := by

  rw [show (k + 1 - 1).toNat = (k - 1).toNat + 1 by omega, gmn, show a + (((k - 1).toNat : Nat) + 1 : Int) = a + k by omega]

set_option maxHeartbeats 8000000 in

theorem turns_p (G : Sgn x0 x1 f0) (hE : (sgE x0 x1 f0).2 = 0) (r1 : 0 ≤ x1) : Spec Try.prog grow_Turns_s ⟨[x0, x1], [], [f0]⟩ [(ts (lrow f0 x1.toNat) (2 * x0) x1.toNat).n, 0] [] [(ts (lrow f0 x1.toNat) (2 * x0) x1.toNat).g0, (ts (lrow f0 x1.toNat) (2 * x0) x1.toNat).g1, (ts (lrow f0 x1.toNat) (2 * x0) x1.toNat).g2, (ts (lrow f0 x1.toNat) (2 * x0) x1.toNat).g3] := by

  have gn := G.noise; have gf := G.few

  have hc := checkSignal_p (x0 := x0) (x1 := x1) (f0 := f0) (by omega) (by omega)

  rw [hE] at hc

  have wf : IntKind.i64.wrap (2 * x0) = 2 * x0 := ws (by omega) (by omega)

  obtain ⟨_, _, _, _, _, _, ⟨rfl, rfl, rfl, rfl, rfl, rfl⟩, hs⟩ := ptu (x0 := x0) (x1 := x1) (f0 := f0) (by omega) (by omega) (R := fun v e g0 g1 g2 g3 => v = (ts (lrow f0 x1.toNat) (2 * x0) x1.toNat).n ∧ e = 0 ∧ g0 = (ts (lrow f0 x1.toNat) (2 * x0) x1.toNat).g0 ∧ g1 = (ts (lrow f0 x1.toNat) (2 * x0) x1.toNat).g1 ∧ g2 = (ts (lrow f0 x1.toNat) (2 * x0) x1.toNat).g2 ∧ g3 = (ts (lrow f0 x1.toNat) (2 * x0) x1.toNat).g3) (by

    refine ⟨_, _, hc, ?_⟩

    simp only [decide_eq_true_eq, decide_eq_false_iff_not, beq_iff_eq, beq_eq_false_iff_ne, ne_eq]

    refine ⟨fun _ => ?_, fun g => absurd (by trivial) g⟩

    refine ⟨fun i n f1 => (0 ≤ i ∧ i ≤ x1) ∧ n = i ∧ f1 = lrow f0 i.toNat, fun i _ _ => (x1 - i).toNat, ⟨⟨by omega, by omega⟩, rfl, rfl⟩, ?_⟩

    rintro i n f1 ⟨hi, rfl, rfl⟩

    refine ⟨lrow_bd G _ (by omega), by omega, by omega, fun g => ?_, fun g => ⟨fun _ => ⟨⟨⟨by omega, by omega⟩, by trivial, by rw [lrow_step hi.1]⟩, by show (x1 - (n + 1)).toNat < (x1 - n).toNat; omega⟩, fun h => h (G.one n hi.1 (by omega))⟩⟩

    have e : n = x1 := by omega

    subst e

    have hL := lrow_bd G n.toNat (by omega)

    generalize lrow f0 n.toNat = L at *

    refine ⟨fun q => by have := hL q; omega, by omega, fun w i a m g0 g1 g2 g3 => (0 ≤ i ∧ i ≤ n) ∧ TS.mk w a m g0 g1 g2 g3 = ts L (2 * x0) i.toNat, fun _ i _ _ _ _ _ _ => (n - i).toNat, ⟨⟨by omega, by omega⟩, rfl⟩, ?_⟩

    rintro w i a m g0 g1 g2 g3 ⟨hj, hS⟩

    have ok := ts_ok (l := L) (far := 2 * x0) (by omega) i.toNat

    rw [← hS, show ((i.toNat : Nat) : Int) = i by omega] at ok

    have k1 := ok.wy; have k2 := ok.fi; have k3 := ok.nn

    dsimp only at k1 k2 k3

    have b1 : ∀ q, 0 ≤ g1 q ∧ g1 q ≤ i := ok.b1

    have b2 : ∀ q, 0 ≤ g2 q ∧ g2 q ≤ i := ok.b2

    have b3 : ∀ q, 0 ≤ g3 q ∧ g3 q ≤ i := ok.b3

    refine ⟨fun q => by have := b1 q; omega, fun q => by have := b2 q; omega, fun q => by have := b3 q; omega, by omega, by omega, by omega, by omega, fun g => ?_, fun g => ?_⟩

    · have e : i = n := by omega

      subst e

      rw [← hS]

      exact ⟨fun q => by have := b1 q; omega, fun q => by have := b2 q; omega, fun q => by have := b3 q; omega, by omega, rfl, by trivial, rfl, rfl, rfl, rfl⟩

    refine ⟨fun _ => ⟨fun _ => ⟨fun _ => ⟨fun g => by omega, fun _ => ⟨fun g => by omega, fun _ => ?_⟩⟩, fun g => by omega⟩, fun g => by omega⟩, fun g => by omega⟩

    refine ⟨fun v k => (1 ≤ k ∧ k ≤ i + 1 - a) ∧ v = gmx L a (k - 1).toNat, fun _ k => (i + 1 - a - k).toNat, ⟨⟨by omega, by omega⟩, rfl⟩, ?_⟩

    rintro v k ⟨hk, rfl⟩

    refine ⟨mx_bd hL _ _, by omega, fun g1' => ?_, fun g1' => ⟨fun g => by omega, fun _ => ⟨⟨⟨by omega, by omega⟩, mx_step hk.1⟩, by show (i + 1 - a - (k + 1)).toNat < (i + 1 - a - k).toNat; omega⟩⟩⟩

    have em : gmx L a (k - 1).toNat = topF L a i := by unfold topF; congr 1; omega

    have bm := mx_bd hL a (k - 1).toNat

    rw [em] at bm ⊢

    refine ⟨by omega, fun v k => (1 ≤ k ∧ k ≤ i + 1 - a) ∧ v = gmn L a (k - 1).toNat, fun _ k => (i + 1 - a - k).toNat, ⟨⟨by omega, by omega⟩, rfl⟩, ?_⟩

    clear em g1' hk k

    rintro v k ⟨hk, rfl⟩

    refine ⟨mn_bd hL _ _, by omega, fun g1' => ?_, fun g1' => ⟨fun g => by omega, fun _ => ⟨⟨⟨by omega, by omega⟩, mn_step hk.1⟩, by show (i + 1 - a - (k + 1)).toNat < (i + 1 - a - k).toNat; omega⟩⟩⟩

    have en : gmn L a (k - 1).toNat = botF L a i := by unfold botF; congr 1; omega

    have bn := mn_bd hL a (k - 1).toNat

    rw [en] at bn ⊢

    clear en g1' hk k

    have bl := hL i

    rw [wf, ws (n := L i - botF L a i) (by omega) (by omega), ws (n := topF L a i - L i) (by omega) (by omega), ws (n := botF L a i + 2 * x0) (by omega) (by omega), ws (n := topF L a i - 2 * x0) (by omega) (by omega)]

    have rk : (n - (i + 1)).toNat < (n - i).toNat := by omega

    have nx {s : TS} (h : stp L (2 * x0) ⟨w, a, m, g0, g1, g2, g3⟩ i = s) : s = ts L (2 * x0) (i + 1).toNat := by rw [ts_step hj.1, ← hS, h]

    refine ⟨by omega, fun h2 => ⟨fun hb => ⟨⟨⟨by omega, by omega⟩, nx (stp_2a h2 hb)⟩, rk⟩, fun hb => ?_⟩, fun h2 => ⟨fun ht => ⟨fun h1 => ⟨⟨⟨by omega, by omega⟩, nx (stp_1a h2 h1 ht)⟩, rk⟩, fun h1 => ⟨fun hb => ⟨⟨⟨by omega, by omega⟩, nx (stp_0a h2 h1 ht hb)⟩, rk⟩, fun hb => ⟨⟨⟨by omega, by omega⟩, nx (stp_0b h2 h1 ht hb)⟩, rk⟩⟩⟩, fun ht => ⟨fun h1 => ?_, fun h1 => ⟨⟨⟨by omega, by omega⟩, nx (stp_0c h2 h1 ht)⟩, rk⟩⟩⟩⟩

    · obtain ⟨f, t, c0, c1, c2, c3, c4, c5, c6, c7, c8⟩ := bot_turn k2.1 (by omega) (by omega) hb

      refine ⟨fun x => a ≤ x ∧ x ≤ f, fun x => (f - x).toNat, ⟨Int.le_refl _, c0⟩, ?_⟩

      rintro x ⟨hx, hx'⟩

      refine ⟨by omega, fun g => by omega, fun _ => ⟨fun hp => ?_, fun hp => ?_⟩⟩

      · have e : x = f := by

          rcases Int.lt_or_eq_of_le hx' with e | e

          · have := c4 x hx e

            unfold pBot at this

            rw [decide_eq_false_iff_not] at this; exact absurd hp this

          · exact e

        subst e

        refine ⟨by omega, fun y => t ≤ y ∧ y ≤ i - 1, fun y => (y - t).toNat, ⟨by omega, Int.le_refl _⟩, ?_⟩

        rintro y ⟨hy, hy'⟩

        refine ⟨by omega, fun g => by omega, fun _ => ⟨fun hq => ?_, fun hq => ?_⟩⟩

        · have e : y = t := by

            rcases Int.lt_or_eq_of_le hy with e | e

            · have := c6 y e hy'

              unfold pBot at this

              rw [decide_eq_false_iff_not] at this; exact absurd hq this

            · exact e.symm

          subst e

          exact ⟨by omega, ⟨⟨by omega, by omega⟩, nx (stp_2b h2 hb c7 c8)⟩, rk⟩

        · have e : y ≠ t := fun e => by subst e; unfold pBot at c5; exact hq (of_decide_eq_true c5)

          exact ⟨⟨by omega, by omega⟩, by show (y - 1 - t).toNat < (y - t).toNat; omega⟩

      · have e : x ≠ f := fun e => by subst e; unfold pBot at c3; exact hp (of_decide_eq_true c3)

        exact ⟨⟨by omega, by omega⟩, by show (f - (x + 1)).toNat < (f - x).toNat; omega⟩

    · obtain ⟨f, t, c0, c1, c2, c3, c4, c5, c6, c7, c8⟩ := top_turn k2.1 (by omega) (by omega) ht

      refine ⟨fun x => a ≤ x ∧ x ≤ f, fun x => (f - x).toNat, ⟨Int.le_refl _, c0⟩, ?_⟩

      rintro x ⟨hx, hx'⟩

      refine ⟨by omega, fun g => by omega, fun _ => ⟨fun hp => ?_, fun hp => ?_⟩⟩

      · have e : x = f := by

          rcases Int.lt_or_eq_of_le hx' with e | e

          · have := c4 x hx e

            unfold pTop at this

            rw [decide_eq_false_iff_not] at this; exact absurd hp this

          · exact e

        subst e

        refine ⟨by omega, fun y => t ≤ y ∧ y ≤ i - 1, fun y => (y - t).toNat, ⟨by omega, Int.le_refl _⟩, ?_⟩

        rintro y ⟨hy, hy'⟩

        refine ⟨by omega, fun g => by omega, fun _ => ⟨fun hq => ?_, fun hq => ?_⟩⟩

        · have e : y = t := by

            rcases Int.lt_or_eq_of_le hy with e | e

            · have := c6 y e hy'

              unfold pTop at this

              rw [decide_eq_false_iff_not] at this; exact absurd hq this

            · exact e.symm

          subst e

          exact ⟨by omega, ⟨⟨by omega, by omega⟩, nx (stp_1b h2 h1 ht c7 c8)⟩, rk⟩

        · have e : y ≠ t := fun e => by subst e; unfold pTop at c5; exact hq (of_decide_eq_true c5)

          exact ⟨⟨by omega, by omega⟩, by show (y - 1 - t).toNat < (y - t).toNat; omega⟩

      · have e : x ≠ f := fun e => by subst e; unfold pTop at c3; exact hp (of_decide_eq_true c3)

        exact ⟨⟨by omega, by omega⟩, by show (f - (x + 1)).toNat < (f - x).toNat; omega⟩)

  exact hs

theorem turns_bad (hE : (sgE x0 x1 f0).2 ≠ 0) (r0 : (-9223372036854775808) ≤ x0 ∧ x0 ≤ 9223372036854775807) (r1 : 0 ≤ x1 ∧ x1 ≤ 202) : Spec Try.prog grow_Turns_s ⟨[x0, x1], [], [f0]⟩ [0, (sgE x0 x1 f0).2] [] [fun _ => 0, fun _ => 0, fun _ => 0, fun _ => 0] := by

  have hc := checkSignal_p (x0 := x0) (x1 := x1) (f0 := f0) (by omega) (by omega)

  generalize (sgE x0 x1 f0).2 = v at *

  obtain ⟨_, _, _, _, _, _, ⟨rfl, rfl, rfl, rfl, rfl, rfl⟩, hs⟩ := ptu (x0 := x0) (x1 := x1) (f0 := f0) (by omega) (by omega) (R := fun n e g0 g1 g2 g3 => n = 0 ∧ e = v ∧ g0 = (fun _ => 0) ∧ g1 = (fun _ => 0) ∧ g2 = (fun _ => 0) ∧ g3 = (fun _ => 0)) (by

    refine ⟨_, _, hc, fun g => absurd (by simpa using g) hE, fun _ => ⟨rfl, rfl, rfl, rfl, rfl, rfl⟩⟩)

  exact hs

end

end Go.Proofs.Ytiekcneeedifmaa.Ev
