/- The harmonics of a scan, the program's. -/
import Derived.Test.YtafnplkablkepaaFwc
namespace Go.Proofs.Ytafnplkablkepaa.Ev
set_option linter.unusedSimpArgs false
open Go Go.RowKit
set_option linter.unusedVariables false
set_option maxRecDepth 100000
section

variable {x0 x1 x2 : Int} {f0 : Int → Int}

abbrev FF (n : Int) : Int := ((FloatKind.f64.nearest n : Nat) : Int)

/-- One more step of a loop that locks in. -/

theorem lk_next {L : Int → Int} {k j p r : Int} {a b : Int} (hL : ∀ q, 0 ≤ L q ∧ L q ≤ 65535) (hj : 0 ≤ j ∧ j ≤ 64) (ha : Rp a.toNat (L j)) (hb : Rp b.toNat 0) (hp : rc (j * k % 4) = p) (hr : ic (j * k % 4) = r) :

    (((fmt .add .f64 (FF (reT L k j.toNat)).toNat ((((fmt .sub .f64 ((((fmt .mul .f64 a.toNat (FF p).toNat).getD 0 : Nat) : Int)).toNat ((((fmt .mul .f64 b.toNat (FF r).toNat).getD 0 : Nat) : Int)).toNat).getD 0 : Nat) : Int)).toNat).getD 0 : Nat) : Int) = FF (reT L k (j + 1).toNat) ∧

    (((fmt .add .f64 (FF (imT L k j.toNat)).toNat ((((fmt .add .f64 ((((fmt .mul .f64 a.toNat (FF r).toNat).getD 0 : Nat) : Int)).toNat ((((fmt .mul .f64 b.toNat (FF p).toNat).getD 0 : Nat) : Int)).toNat).getD 0 : Nat) : Int)).toNat).getD 0 : Nat) : Int) = FF (imT L k (j + 1).toNat) := by

  have bx := reT_bd hL k j.toNat

  have bY := imT_bd hL k j.toNat

  have op := rc_or (j * k % 4)

  have oi := ic_or (j * k % 4)

  rw [reT_step hj.1, imT_step hj.1]

  rw [hp] at op ⊢

  rw [hr] at oi ⊢

  exact ⟨lk_re ha hb (by omega) (hL j) op oi, lk_im ha hb (by omega) (hL j) op oi⟩

set_option maxHeartbeats 8000000 in

theorem harm_p (G : Scn x0 x1 x2 f0) (hE : (scE x0 x1 x2 f0).2 = 0) : Spec Try.prog meter_Harmonics_s ⟨[x0, x1, x2], [], [f0]⟩ [FF (reT (lrow f0 x0.toNat) 0 x0.toNat), FF (imT (lrow f0 x0.toNat) 0 x0.toNat), FF (reT (lrow f0 x0.toNat) 1 x0.toNat), FF (imT (lrow f0 x0.toNat) 1 x0.toNat), FF (reT (lrow f0 x0.toNat) 2 x0.toNat), FF (imT (lrow f0 x0.toNat) 2 x0.toNat), FF (reT (lrow f0 x0.toNat) 3 x0.toNat), FF (imT (lrow f0 x0.toNat) 3 x0.toNat), 0] [] [] := by

  have g1 := G.four; have g2 := G.marg; have g3 := G.full

  have hc := checkScan_p (x0 := x0) (x1 := x1) (x2 := x2) (f0 := f0) (by omega) (by omega) (by omega)

  rw [hE] at hc

  obtain ⟨_, _, _, _, _, _, _, _, _, ⟨rfl, rfl, rfl, rfl, rfl, rfl, rfl, rfl, rfl⟩, hs⟩ := hrm0 (x0 := x0) (x1 := x1) (x2 := x2) (f0 := f0) (by omega) (by omega) (by omega) (R := fun a b c d e f g h i => a = FF (reT (lrow f0 x0.toNat) 0 x0.toNat) ∧ b = FF (imT (lrow f0 x0.toNat) 0 x0.toNat) ∧ c = FF (reT (lrow f0 x0.toNat) 1 x0.toNat) ∧ d = FF (imT (lrow f0 x0.toNat) 1 x0.toNat) ∧ e = FF (reT (lrow f0 x0.toNat) 2 x0.toNat) ∧ f = FF (imT (lrow f0 x0.toNat) 2 x0.toNat) ∧ g = FF (reT (lrow f0 x0.toNat) 3 x0.toNat) ∧ h = FF (imT (lrow f0 x0.toNat) 3 x0.toNat) ∧ i = 0) (by

    refine ⟨_, _, hc, fun _ => ?_, fun g => absurd g (by decide)⟩

    simp only [decide_eq_true_eq, decide_eq_false_iff_not, beq_iff_eq, beq_eq_false_iff_ne, ne_eq]

    refine ⟨fun i m f1 f2 => (0 ≤ i ∧ i ≤ x0) ∧ m = i ∧ f1 = crow f0 i.toNat ∧ f2 = zrow i.toNat, fun i _ _ _ => (x0 - i).toNat, ⟨⟨by omega, by omega⟩, rfl, rfl, rfl⟩, ?_⟩

    rintro i m f1 f2 ⟨hi, rfl, rfl, rfl⟩

    have cr := crow_rp G m.toNat (by omega)

    have zr := zrow_rp m.toNat

    have lb := lrow_bd G m.toNat (by omega)

    refine ⟨by omega, by omega, lrow f0 m.toNat, fun q => ⟨cr q, by have := lb q; omega⟩, fun q => by have := lb q; omega, fun _ => 0, fun q => ⟨zr q, Nat.le_refl _⟩, fun q => ⟨Int.le_refl _, Int.le_refl _⟩, fun g => ?_, fun g => ⟨fun h => ?_, fun _ => ⟨⟨⟨by omega, by omega⟩, by trivial, by rw [crow_step hi.1], by rw [zrow_step hi.1]⟩, ?_⟩⟩⟩

    rotate_left

    · rw [G.nan m hi.1 (by omega)] at h; cases h

    · show (x0 - (m + 1)).toNat < (x0 - m).toNat; omega

    have e : m = x0 := by omega

    subst e

    generalize lrow f0 m.toNat = L at *

    generalize crow f0 m.toNat = C at *

    generalize zrow m.toNat = Z at *

    refine ⟨by omega, L, fun q => ⟨cr q, by have := lb q; omega⟩, fun q => by have := lb q; omega, fun _ => 0, fun q => ⟨zr q, Nat.le_refl _⟩, fun q => ⟨Int.le_refl _, Int.le_refl _⟩, ?_⟩

    refine ⟨fun x y j => (0 ≤ j ∧ j ≤ m) ∧ x = FF (reT L 0 j.toNat) ∧ y = FF (imT L 0 j.toNat), fun _ _ j => (m - j).toNat, ⟨⟨by omega, by omega⟩, rfl, rfl⟩, ?_⟩

    rintro x y j ⟨hj, rfl, rfl⟩

    have bx := reT_bd lb 0 j.toNat

    have bY := imT_bd lb 0 j.toNat

    refine ⟨by omega, reT L 0 j.toNat, ⟨rp_n _, by omega⟩, by omega, imT L 0 j.toNat, ⟨rp_n _, by omega⟩, by omega, fun g => ?_, fun g => ?_⟩

    rotate_left

    · obtain ⟨n1, n2⟩ := lk_next (L := L) (k := 0) (j := j) (p := 1) (r := 0) lb (by omega) (cr j) (zr j) (by rw [Int.mul_zero]; rfl) (by rw [Int.mul_zero]; rfl)

      exact ⟨⟨⟨by omega, by omega⟩, n1, n2⟩, by show (m - (j + 1)).toNat < (m - j).toNat; omega⟩

    have ej : m = j := by omega

    subst ej

    refine ⟨reT L 0 m.toNat, ⟨rp_n _, by omega⟩, by omega, imT L 0 m.toNat, ⟨rp_n _, by omega⟩, by omega, ?_⟩

    clear bx bY hj

    refine ⟨fun x y j => (0 ≤ j ∧ j ≤ m) ∧ x = FF (reT L 1 j.toNat) ∧ y = FF (imT L 1 j.toNat), fun _ _ j => (m - j).toNat, ⟨⟨by omega, by omega⟩, rfl, rfl⟩, ?_⟩

    rintro x y j ⟨hj, rfl, rfl⟩

    have bx := reT_bd lb 1 j.toNat

    have bY := imT_bd lb 1 j.toNat

    refine ⟨by omega, reT L 1 j.toNat, ⟨rp_n _, by omega⟩, by omega, imT L 1 j.toNat, ⟨rp_n _, by omega⟩, by omega, fun g => ?_, fun g => ?_⟩

    rotate_left

    · have a3 : NOp.den (.andK .i64) j 3 = j * 1 % 4 := by rw [andK3 (by omega)]; rw [Int.mul_one]

      have c4 : 0 ≤ j * 1 % 4 ∧ j * 1 % 4 < 4 := by omega

      rw [a3]

      have step (p r : Int) (h : rc (j * 1 % 4) = p) (h' : ic (j * 1 % 4) = r) := lk_next (L := L) (k := 1) (j := j) (p := p) (r := r) lb (by omega) (cr j) (zr j) h h'

      have rk : (m - (j + 1)).toNat < (m - j).toNat := by omega

      exact ⟨fun h0 => ⟨⟨⟨by omega, by omega⟩, (step (1) (0) (by rw [h0]; rfl) (by rw [h0]; rfl)).1, (step (1) (0) (by rw [h0]; rfl) (by rw [h0]; rfl)).2⟩, rk⟩, fun h0 => ⟨fun h1 => ⟨⟨⟨by omega, by omega⟩, (step (0) (-1) (by rw [h1]; rfl) (by rw [h1]; rfl)).1, (step (0) (-1) (by rw [h1]; rfl) (by rw [h1]; rfl)).2⟩, rk⟩, fun h1 => ⟨fun h2 => ⟨⟨⟨by omega, by omega⟩, (step (-1) (0) (by rw [h2]; rfl) (by rw [h2]; rfl)).1, (step (-1) (0) (by rw [h2]; rfl) (by rw [h2]; rfl)).2⟩, rk⟩, fun h2 => ⟨⟨⟨by omega, by omega⟩, (step (0) (1) (by rw [show j * 1 % 4 = 3 by omega]; rfl) (by rw [show j * 1 % 4 = 3 by omega]; rfl)).1, (step (0) (1) (by rw [show j * 1 % 4 = 3 by omega]; rfl) (by rw [show j * 1 % 4 = 3 by omega]; rfl)).2⟩, rk⟩⟩⟩⟩

    have ej : m = j := by omega

    subst ej

    refine ⟨reT L 1 m.toNat, ⟨rp_n _, by omega⟩, by omega, imT L 1 m.toNat, ⟨rp_n _, by omega⟩, by omega, ?_⟩

    clear bx bY hj

    refine ⟨fun x y j => (0 ≤ j ∧ j ≤ m) ∧ x = FF (reT L 2 j.toNat) ∧ y = FF (imT L 2 j.toNat), fun _ _ j => (m - j).toNat, ⟨⟨by omega, by omega⟩, rfl, rfl⟩, ?_⟩

    rintro x y j ⟨hj, rfl, rfl⟩

    have bx := reT_bd lb 2 j.toNat

    have bY := imT_bd lb 2 j.toNat

    refine ⟨by omega, reT L 2 j.toNat, ⟨rp_n _, by omega⟩, by omega, imT L 2 j.toNat, ⟨rp_n _, by omega⟩, by omega, fun g => ?_, fun g => ?_⟩

    rotate_left

    · have a3 : NOp.den (.andK .i64) (j * 2) 3 = j * 2 % 4 := by rw [andK3 (by omega)]

      have c4 : 0 ≤ j * 2 % 4 ∧ j * 2 % 4 < 4 := by omega

      rw [a3]

      have step (p r : Int) (h : rc (j * 2 % 4) = p) (h' : ic (j * 2 % 4) = r) := lk_next (L := L) (k := 2) (j := j) (p := p) (r := r) lb (by omega) (cr j) (zr j) h h'

      have rk : (m - (j + 1)).toNat < (m - j).toNat := by omega

      exact ⟨fun h0 => ⟨⟨⟨by omega, by omega⟩, (step (1) (0) (by rw [h0]; rfl) (by rw [h0]; rfl)).1, (step (1) (0) (by rw [h0]; rfl) (by rw [h0]; rfl)).2⟩, rk⟩, fun h0 => ⟨fun h1 => ⟨⟨⟨by omega, by omega⟩, (step (0) (-1) (by rw [h1]; rfl) (by rw [h1]; rfl)).1, (step (0) (-1) (by rw [h1]; rfl) (by rw [h1]; rfl)).2⟩, rk⟩, fun h1 => ⟨fun h2 => ⟨⟨⟨by omega, by omega⟩, (step (-1) (0) (by rw [h2]; rfl) (by rw [h2]; rfl)).1, (step (-1) (0) (by rw [h2]; rfl) (by rw [h2]; rfl)).2⟩, rk⟩, fun h2 => ⟨⟨⟨by omega, by omega⟩, (step (0) (1) (by rw [show j * 2 % 4 = 3 by omega]; rfl) (by rw [show j * 2 % 4 = 3 by omega]; rfl)).1, (step (0) (1) (by rw [show j * 2 % 4 = 3 by omega]; rfl) (by rw [show j * 2 % 4 = 3 by omega]; rfl)).2⟩, rk⟩⟩⟩⟩

    have ej : m = j := by omega

    subst ej

    refine ⟨reT L 2 m.toNat, ⟨rp_n _, by omega⟩, by omega, imT L 2 m.toNat, ⟨rp_n _, by omega⟩, by omega, ?_⟩

    clear bx bY hj

    refine ⟨fun x y j => (0 ≤ j ∧ j ≤ m) ∧ x = FF (reT L 3 j.toNat) ∧ y = FF (imT L 3 j.toNat), fun _ _ j => (m - j).toNat, ⟨⟨by omega, by omega⟩, rfl, rfl⟩, ?_⟩

    rintro x y j ⟨hj, rfl, rfl⟩

    have bx := reT_bd lb 3 j.toNat

    have bY := imT_bd lb 3 j.toNat

    refine ⟨by omega, reT L 3 j.toNat, ⟨rp_n _, by omega⟩, by omega, imT L 3 j.toNat, ⟨rp_n _, by omega⟩, by omega, fun g => ?_, fun g => ?_⟩

    rotate_left

    · have a3 : NOp.den (.andK .i64) (j * 3) 3 = j * 3 % 4 := by rw [andK3 (by omega)]

      have c4 : 0 ≤ j * 3 % 4 ∧ j * 3 % 4 < 4 := by omega

      rw [a3]

      have step (p r : Int) (h : rc (j * 3 % 4) = p) (h' : ic (j * 3 % 4) = r) := lk_next (L := L) (k := 3) (j := j) (p := p) (r := r) lb (by omega) (cr j) (zr j) h h'

      have rk : (m - (j + 1)).toNat < (m - j).toNat := by omega

      exact ⟨fun h0 => ⟨⟨⟨by omega, by omega⟩, (step (1) (0) (by rw [h0]; rfl) (by rw [h0]; rfl)).1, (step (1) (0) (by rw [h0]; rfl) (by rw [h0]; rfl)).2⟩, rk⟩, fun h0 => ⟨fun h1 => ⟨⟨⟨by omega, by omega⟩, (step (0) (-1) (by rw [h1]; rfl) (by rw [h1]; rfl)).1, (step (0) (-1) (by rw [h1]; rfl) (by rw [h1]; rfl)).2⟩, rk⟩, fun h1 => ⟨fun h2 => ⟨⟨⟨by omega, by omega⟩, (step (-1) (0) (by rw [h2]; rfl) (by rw [h2]; rfl)).1, (step (-1) (0) (by rw [h2]; rfl) (by rw [h2]; rfl)).2⟩, rk⟩, fun h2 => ⟨⟨⟨by omega, by omega⟩, (step (0) (1) (by rw [show j * 3 % 4 = 3 by omega]; rfl) (by rw [show j * 3 % 4 = 3 by omega]; rfl)).1, (step (0) (1) (by rw [show j * 3 % 4 = 3 by omega]; rfl) (by rw [show j * 3 % 4 = 3 by omega]; rfl)).2⟩, rk⟩⟩⟩⟩

    have ej : m = j := by omega

    subst ej

    exact ⟨reT L 3 m.toNat, ⟨rp_n _, by omega⟩, by omega, imT L 3 m.toNat, ⟨rp_n _, by omega⟩, by omega, rfl, rfl, rfl, rfl, rfl, rfl, rfl, rfl, by trivial⟩)

  exact hs

end

end Go.Proofs.Ytafnplkablkepaa.Ev
