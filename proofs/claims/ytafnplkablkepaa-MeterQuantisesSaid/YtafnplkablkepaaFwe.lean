/- The sums of a scan, of both. -/
import Derived.Test.YtafnplkablkepaaFwd
namespace Go.Proofs.Ytafnplkablkepaa.Ev
set_option linter.unusedSimpArgs false
open Go Go.RowKit
set_option linter.unusedVariables false
set_option maxRecDepth 100000
section

variable {x0 x1 x2 : Int} {f0 : Int → Int}

theorem re0_nn {L : Int → Int} (hL : ∀ q, 0 ≤ L q ∧ L q ≤ 65535) : ∀ j : Nat, 0 ≤ reT L 0 j

  | 0 => Int.le_refl _

  | j + 1 => by

    have a := re0_nn hL j

    have b := hL j

    unfold reT

    rw [Int.mul_zero, show rc ((0 : Int) % 4) = 1 from rfl, Int.mul_one]

    omega

theorem four_0 {L : Int → Int} {i : Int} (h : 0 ≤ i) : reT L 0 (i + 4).toNat = reT L 0 i.toNat + L i + L (i + 1) + L (i + 2) + L (i + 3) := by

  have s (j : Int) (hj : 0 ≤ j) : reT L 0 (j + 1).toNat = reT L 0 j.toNat + L j := by

    rw [reT_step hj, Int.mul_zero, show rc ((0 : Int) % 4) = 1 from rfl, Int.mul_one]

  rw [show i + 4 = i + 3 + 1 by omega, s (i + 3) (by omega), show i + 3 = i + 2 + 1 by omega, s (i + 2) (by omega), show i + 2 = i + 1 + 1 by omega, s (i + 1) (by omega), s i h]

theorem four_1 {L : Int → Int} {i : Int} (h : 0 ≤ i) (h4 : i % 4 = 0) : reT L 1 (i + 4).toNat = reT L 1 i.toNat + L i - L (i + 2) ∧ imT L 1 (i + 4).toNat = imT L 1 i.toNat - L (i + 1) + L (i + 3) := by

  have s (j c : Int) (hj : 0 ≤ j) (hc : j % 4 = c) : reT L 1 (j + 1).toNat = reT L 1 j.toNat + L j * rc c ∧ imT L 1 (j + 1).toNat = imT L 1 j.toNat + L j * ic c := by

    rw [reT_step hj, imT_step hj, Int.mul_one, hc]; exact ⟨rfl, rfl⟩

  have s0 := s i 0 h h4

  have s1 := s (i + 1) 1 (by omega) (by omega)

  have s2 := s (i + 2) 2 (by omega) (by omega)

  have s3 := s (i + 3) 3 (by omega) (by omega)

  rw [show i + 3 + 1 = i + 4 by omega, show rc 3 = 0 from rfl, show ic 3 = 1 from rfl, Int.mul_zero, Int.mul_one] at s3

  rw [show i + 2 + 1 = i + 3 by omega, show rc 2 = -1 from rfl, show ic 2 = 0 from rfl, Int.mul_zero] at s2

  rw [show i + 1 + 1 = i + 2 by omega, show rc 1 = 0 from rfl, show ic 1 = -1 from rfl, Int.mul_zero] at s1

  rw [show rc 0 = 1 from rfl, show ic 0 = 0 from rfl, Int.mul_zero, Int.mul_one] at s0

  rw [s3.1, s3.2, s2.1, s2.2, s1.1, s1.2, s0.1, s0.2]

  constructor <;> omega

theorem half {n m : Int} (h : n % 4 = 0) (hn : 0 ≤ n) (hm : 0 ≤ m) : (n * m).tdiv 2 = n.tdiv 2 * m := by

  obtain ⟨c, rfl⟩ : ∃ c, n = 2 * c := ⟨n / 2, by omega⟩

  rw [Int.mul_assoc, Int.mul_tdiv_cancel_left _ (by decide), Int.mul_tdiv_cancel_left _ (by decide)]

set_option maxHeartbeats 4000000 in

theorem sums_both (G : Scn x0 x1 x2 f0) (hE : (scE x0 x1 x2 f0).2 = 0) : ∃ a b c d e f g : Int, Spec Try.prog meter_SumsOf_s ⟨[x0, x1, x2], [], [f0]⟩ [a, b, c, d, e, f, g] [] [] ∧ Spec Try.prog etalonref06_SumsOf_s ⟨[x0, x1, x2], [], [f0]⟩ [a, b, c, d, e, f, g] [] [] := by

  have g1 := G.four; have g2 := G.marg; have g3 := G.full

  have hm := harm_p G hE

  have lb := lrow_bd G x0.toNat (by omega)

  have sr := sat_r G

  have sb := stT_bd (nOf f0) x2 x0.toNat

  have hi := ints_s G

  generalize lrow f0 x0.toNat = L at *

  have cast : ((x0.toNat : Nat) : Int) = x0 := by omega

  have b0 := reT_bd lb 0 x0.toNat; have c0 := imT_bd lb 0 x0.toNat; have b1 := reT_bd lb 1 x0.toNat; have c1 := imT_bd lb 1 x0.toNat

  rw [cast] at b0 c0 b1 c1

  have mm : 0 ≤ x0 * x1 ∧ x0 * x1 ≤ 4194240 := ⟨Int.mul_nonneg (by omega) (by omega), Int.mul_le_mul (a := x0) (b := x1) (c := 64) (d := 65535) (by omega) (by omega) (by omega) (by decide)⟩

  have hh := half (m := x1) g1.1 (by omega) g2.1

  have hb : 0 ≤ (x0 * x1).tdiv 2 ∧ (x0 * x1).tdiv 2 ≤ 4194240 := by

    rw [Int.tdiv_eq_ediv_of_nonneg mm.1]; omega

  have rpn (n : Int) (h : -5000000 ≤ n ∧ n ≤ 5000000) : Rp (FF n).toNat n ∧ n.natAbs ≤ 10000000 := ⟨rp_n n, by omega⟩

  have satl {K : Int → Int → (Int → Int) → Prop} (h : K x0 (stT (nOf f0) x2 x0.toNat).1 (stT (nOf f0) x2 x0.toNat).2) : True := trivial

  have P {A B C D E F W : Int} (H : _) := sms0 (x0 := x0) (x1 := x1) (x2 := x2) (f0 := f0) (by omega) (by omega) (by omega) (R := fun a b c d e f g => a = A ∧ b = B ∧ c = C ∧ d = D ∧ e = E ∧ f = F ∧ g = W) H

  have Q {A B C D E F W : Int} (H : _) := rsm0 (x0 := x0) (x1 := x1) (x2 := x2) (f0 := f0) (by omega) (by omega) (by omega) (R := fun a b c d e f g => a = A ∧ b = B ∧ c = C ∧ d = D ∧ e = E ∧ f = F ∧ g = W) H

  simp only [decide_eq_true_eq, decide_eq_false_iff_not, beq_iff_eq, beq_eq_false_iff_ne, ne_eq] at P Q

  have go {A B C D E F W : Int} (hp : ∃ a b c d e f g, (a = A ∧ b = B ∧ c = C ∧ d = D ∧ e = E ∧ f = F ∧ g = W) ∧ Spec Try.prog meter_SumsOf_s ⟨[x0, x1, x2], [], [f0]⟩ [a, b, c, d, e, f, g] [] []) (hq : ∃ a b c d e f g, (a = A ∧ b = B ∧ c = C ∧ d = D ∧ e = E ∧ f = F ∧ g = W) ∧ Spec Try.prog etalonref06_SumsOf_s ⟨[x0, x1, x2], [], [f0]⟩ [a, b, c, d, e, f, g] [] []) :

      ∃ a b c d e f g : Int, Spec Try.prog meter_SumsOf_s ⟨[x0, x1, x2], [], [f0]⟩ [a, b, c, d, e, f, g] [] [] ∧ Spec Try.prog etalonref06_SumsOf_s ⟨[x0, x1, x2], [], [f0]⟩ [a, b, c, d, e, f, g] [] [] := by

    obtain ⟨_, _, _, _, _, _, _, ⟨rfl, rfl, rfl, rfl, rfl, rfl, rfl⟩, hs⟩ := hp

    obtain ⟨_, _, _, _, _, _, _, ⟨rfl, rfl, rfl, rfl, rfl, rfl, rfl⟩, ht⟩ := hq

    exact ⟨_, _, _, _, _, _, _, hs, ht⟩

  have w1 : IntKind.i64.wrap (x0 * x1) = x0 * x1 := ws (by omega) (by omega)

  rw [w1] at P

  have w2 : IntKind.i64.wrap (reT L 0 x0.toNat - x0 * x1) = reT L 0 x0.toNat - x0 * x1 := ws (by omega) (by omega)

  have w3 : IntKind.i64.wrap (reT L 0 x0.toNat + x0 * x1) = reT L 0 x0.toNat + x0 * x1 := ws (by omega) (by omega)

  by_cases hst : (stT (nOf f0) x2 x0.toNat).1 ≤ 0

  · refine go (A := reT L 0 x0.toNat - x0 * x1) (B := reT L 0 x0.toNat + x0 * x1) (C := reT L 1 x0.toNat - (x0 * x1).tdiv 2) (D := reT L 1 x0.toNat + (x0 * x1).tdiv 2) (E := (0 - imT L 1 x0.toNat) - (x0 * x1).tdiv 2) (F := (0 - imT L 1 x0.toNat) + (x0 * x1).tdiv 2) (W := 0) (P ?_) (Q ?_)

    · refine ⟨_, _, _, _, _, _, _, _, _, hm, reT L 0 x0.toNat, rpn _ (by omega), by omega, imT L 0 x0.toNat, rpn _ (by omega), by omega, reT L 1 x0.toNat, rpn _ (by omega), by omega, imT L 1 x0.toNat, rpn _ (by omega), by omega, fun _ => ?_, fun g => absurd (by trivial) g⟩

      refine ⟨fun i n g => (0 ≤ i ∧ i ≤ x0) ∧ n = (stT (nOf f0) x2 i.toNat).1 ∧ g = (stT (nOf f0) x2 i.toNat).2, fun i _ _ => (x0 - i).toNat, ⟨⟨by omega, by omega⟩, rfl, rfl⟩, ?_⟩

      rintro i n g ⟨hi, rfl, rfl⟩

      have b := stT_bd (nOf f0) x2 i.toNat

      refine ⟨fun q => by have := b.2 q; omega, by omega, by omega, fun h => ?_, fun h => ⟨fun _ => ⟨fun c => ⟨⟨⟨by omega, by omega⟩, ?_⟩, ?_⟩, fun c => ⟨⟨⟨by omega, by omega⟩, ?_⟩, ?_⟩⟩, fun h' => h' (G.one i hi.1 (by omega))⟩⟩

      · have e : i = x0 := by omega

        subst e

        exact ⟨fun q => by have := b.2 q; omega, by omega, fun _ => ⟨w2, w3, by trivial, by trivial, by trivial, by trivial, by trivial⟩, fun g => absurd hst g⟩

      · rw [stT_step hi.1, if_pos (show x2 ≤ nOf f0 i from c)]; exact ⟨rfl, rfl⟩

      · show (x0 - (i + 1)).toNat < (x0 - i).toNat; omega

      · rw [stT_step hi.1, if_neg (show ¬ x2 ≤ nOf f0 i from c)]; exact ⟨rfl, rfl⟩

      · show (x0 - (i + 1)).toNat < (x0 - i).toNat; omega

    · refine ⟨_, _, sr, by omega, fun _ => ?_, fun g => absurd hst g⟩

      refine ⟨_, _, hi, by omega, lb, ?_⟩

      refine ⟨fun a c d i => ((0 ≤ i ∧ i ≤ x0) ∧ i % 4 = 0) ∧ a = reT L 0 i.toNat ∧ c = reT L 1 i.toNat ∧ d = 0 - imT L 1 i.toNat, fun _ _ _ i => (x0 - i).toNat, ⟨⟨⟨by omega, by omega⟩, by decide⟩, rfl, rfl, rfl⟩, ?_⟩

      rintro a c d i ⟨⟨hi0, h4⟩, rfl, rfl, rfl⟩

      have d0 := reT_bd lb 0 i.toNat; have d1 := reT_bd lb 1 i.toNat; have d2 := imT_bd lb 1 i.toNat; have d3 := re0_nn lb i.toNat

      refine ⟨by omega, by omega, by omega, by omega, fun g => ?_, fun g => ⟨fun g => by omega, fun _ => ⟨fun g => by omega, fun _ => ⟨fun g => by omega, fun _ => ?_⟩⟩⟩⟩

      · have e : i = x0 := by omega

        subst e

        rw [← hh, w2, w3, ws (n := reT L 1 i.toNat - (i * x1).tdiv 2) (by omega) (by omega), ws (n := reT L 1 i.toNat + (i * x1).tdiv 2) (by omega) (by omega), ws (n := 0 - imT L 1 i.toNat - (i * x1).tdiv 2) (by omega) (by omega), ws (n := 0 - imT L 1 i.toNat + (i * x1).tdiv 2) (by omega) (by omega)]

        exact ⟨by omega, by omega, by omega, rfl, rfl, rfl, rfl, rfl, rfl, by trivial⟩

      · have f4 := four_0 (L := L) hi0.1

        have f5 := four_1 (L := L) hi0.1 h4

        refine ⟨⟨⟨⟨by omega, by omega⟩, by omega⟩, ?_, ?_, ?_⟩, by show (x0 - (i + 4)).toNat < (x0 - i).toNat; omega⟩

        · rw [f4]

        · rw [f5.1]

        · rw [f5.2]; omega

  · refine go (A := 0) (B := 0) (C := 0) (D := 0) (E := 0) (F := 0) (W := 16) (P ?_) (Q ?_)

    · refine ⟨_, _, _, _, _, _, _, _, _, hm, reT L 0 x0.toNat, rpn _ (by omega), by omega, imT L 0 x0.toNat, rpn _ (by omega), by omega, reT L 1 x0.toNat, rpn _ (by omega), by omega, imT L 1 x0.toNat, rpn _ (by omega), by omega, fun _ => ?_, fun g => absurd (by trivial) g⟩

      refine ⟨fun i n g => (0 ≤ i ∧ i ≤ x0) ∧ n = (stT (nOf f0) x2 i.toNat).1 ∧ g = (stT (nOf f0) x2 i.toNat).2, fun i _ _ => (x0 - i).toNat, ⟨⟨by omega, by omega⟩, rfl, rfl⟩, ?_⟩

      rintro i n g ⟨hi, rfl, rfl⟩

      have b := stT_bd (nOf f0) x2 i.toNat

      refine ⟨fun q => by have := b.2 q; omega, by omega, by omega, fun h => ?_, fun h => ⟨fun _ => ⟨fun c => ⟨⟨⟨by omega, by omega⟩, ?_⟩, ?_⟩, fun c => ⟨⟨⟨by omega, by omega⟩, ?_⟩, ?_⟩⟩, fun h' => h' (G.one i hi.1 (by omega))⟩⟩

      · have e : i = x0 := by omega

        subst e

        exact ⟨fun q => by have := b.2 q; omega, by omega, fun g => absurd g hst, fun _ => ⟨by trivial, by trivial, by trivial, by trivial, by trivial, by trivial, by trivial⟩⟩

      · rw [stT_step hi.1, if_pos (show x2 ≤ nOf f0 i from c)]; exact ⟨rfl, rfl⟩

      · show (x0 - (i + 1)).toNat < (x0 - i).toNat; omega

      · rw [stT_step hi.1, if_neg (show ¬ x2 ≤ nOf f0 i from c)]; exact ⟨rfl, rfl⟩

      · show (x0 - (i + 1)).toNat < (x0 - i).toNat; omega

    · exact ⟨_, _, sr, by omega, fun g => absurd g hst, fun _ => ⟨by trivial, by trivial, by trivial, by trivial, by trivial, by trivial, by trivial⟩⟩

theorem harm_bad (hE : (scE x0 x1 x2 f0).2 ≠ 0) (r0 : 0 ≤ x0 ∧ x0 ≤ 70) (r1 : (-9223372036854775808) ≤ x1 ∧ x1 ≤ 9223372036854775807) (r2 : (-9223372036854775808) ≤ x2 ∧ x2 ≤ 9223372036854775807) : Spec Try.prog meter_Harmonics_s ⟨[x0, x1, x2], [], [f0]⟩ [0, 0, 0, 0, 0, 0, 0, 0, (scE x0 x1 x2 f0).2] [] [] := by

  have hc := checkScan_p (x0 := x0) (x1 := x1) (x2 := x2) (f0 := f0) (by omega) (by omega) (by omega)

  generalize (scE x0 x1 x2 f0).2 = v at *

  obtain ⟨_, _, _, _, _, _, _, _, _, ⟨rfl, rfl, rfl, rfl, rfl, rfl, rfl, rfl, rfl⟩, hs⟩ := hrm0 (x0 := x0) (x1 := x1) (x2 := x2) (f0 := f0) (by omega) (by omega) (by omega) (R := fun a b c d e f g h i => a = 0 ∧ b = 0 ∧ c = 0 ∧ d = 0 ∧ e = 0 ∧ f = 0 ∧ g = 0 ∧ h = 0 ∧ i = v) ⟨_, _, hc, fun g => absurd (by simpa using g) hE, fun _ => ⟨rfl, rfl, rfl, rfl, rfl, rfl, rfl, rfl, rfl⟩⟩

  exact hs

theorem sums_bad (hE : (scE x0 x1 x2 f0).2 ≠ 0) (r0 : 0 ≤ x0 ∧ x0 ≤ 70) (r1 : (-9223372036854775808) ≤ x1 ∧ x1 ≤ 9223372036854775807) (r2 : (-9223372036854775808) ≤ x2 ∧ x2 ≤ 9223372036854775807) : Spec Try.prog meter_SumsOf_s ⟨[x0, x1, x2], [], [f0]⟩ [0, 0, 0, 0, 0, 0, (scE x0 x1 x2 f0).2] [] [] := by

  have hm := harm_bad hE r0 r1 r2

  generalize (scE x0 x1 x2 f0).2 = v at *

  have z : Rp (0 : Int).toNat 0 ∧ (0 : Int).natAbs ≤ 10000000 := ⟨rp_0, by decide⟩

  obtain ⟨_, _, _, _, _, _, _, ⟨rfl, rfl, rfl, rfl, rfl, rfl, rfl⟩, hs⟩ := sms0 (x0 := x0) (x1 := x1) (x2 := x2) (f0 := f0) r0 r1 r2 (R := fun a b c d e f g => a = 0 ∧ b = 0 ∧ c = 0 ∧ d = 0 ∧ e = 0 ∧ f = 0 ∧ g = v) ⟨_, _, _, _, _, _, _, _, _, hm, 0, z, by decide, 0, z, by decide, 0, z, by decide, 0, z, by decide, fun g => absurd (by simpa using g) hE, fun _ => ⟨rfl, rfl, rfl, rfl, rfl, rfl, rfl⟩⟩

  exact hs

end

end Go.Proofs.Ytafnplkablkepaa.Ev
