/- Scans: saturated samples; harmonics. -/
import Derived.Test.YtafnplkablkepaaFwb
import Derived.Test.YtafnplkablkepaaFun
namespace Go.Proofs.Ytafnplkablkepaa.Ev
set_option linter.unusedSimpArgs false
open Go Go.RowKit
set_option linter.unusedVariables false
set_option maxRecDepth 100000
section

variable {x0 x1 x2 : Int} {f0 : Int → Int}

/-- The saturated samples. -/

def stT (L : Int → Int) (full : Int) : Nat → Int × (Int → Int)

  | 0 => (0, fun _ => 0)

  | k + 1 => if full ≤ L k then ((stT L full k).1 + 1, fun q => if q = (stT L full k).1 then (k : Int) else (stT L full k).2 q) else stT L full k

theorem stT_step {L : Int → Int} {full i : Int} (h : 0 ≤ i) : stT L full (i + 1).toNat = if full ≤ L i then ((stT L full i.toNat).1 + 1, fun q => if q = (stT L full i.toNat).1 then i else (stT L full i.toNat).2 q) else stT L full i.toNat := by

  rw [show (i + 1).toNat = i.toNat + 1 by omega, stT, show ((i.toNat : Nat) : Int) = i by omega]

theorem stT_bd (L : Int → Int) (full : Int) : ∀ k : Nat, (0 ≤ (stT L full k).1 ∧ (stT L full k).1 ≤ k) ∧ ∀ q, 0 ≤ (stT L full k).2 q ∧ (stT L full k).2 q ≤ k

  | 0 => ⟨⟨Int.le_refl _, Int.le_refl _⟩, fun q => ⟨Int.le_refl _, Int.le_refl _⟩⟩

  | k + 1 => by

    obtain ⟨a, b⟩ := stT_bd L full k

    unfold stT

    split

    · refine ⟨by dsimp only; omega, fun q => ?_⟩

      dsimp only

      split

      · omega

      · have := b q; omega

    · exact ⟨by omega, fun q => by have := b q; omega⟩

theorem sat_p (G : Scn x0 x1 x2 f0) (hE : (scE x0 x1 x2 f0).2 = 0) : Spec Try.prog meter_Saturated_s ⟨[x0, x1, x2], [], [f0]⟩ [(stT (nOf f0) x2 x0.toNat).1, 0] [] [(stT (nOf f0) x2 x0.toNat).2] := by

  have g1 := G.four; have g2 := G.marg; have g3 := G.full

  have hc := checkScan_p (x0 := x0) (x1 := x1) (x2 := x2) (f0 := f0) (by omega) (by omega) (by omega)

  rw [hE] at hc

  obtain ⟨_, _, _, ⟨rfl, rfl, rfl⟩, hs⟩ := sat0 (x0 := x0) (x1 := x1) (x2 := x2) (f0 := f0) (by omega) (by omega) (by omega) (R := fun v e g => v = (stT (nOf f0) x2 x0.toNat).1 ∧ e = 0 ∧ g = (stT (nOf f0) x2 x0.toNat).2) (by

    refine ⟨_, _, hc, fun _ => ?_, fun g => absurd g (by decide)⟩

    simp only [decide_eq_true_eq, decide_eq_false_iff_not, beq_iff_eq, beq_eq_false_iff_ne, ne_eq]

    refine ⟨fun i n g => (0 ≤ i ∧ i ≤ x0) ∧ n = (stT (nOf f0) x2 i.toNat).1 ∧ g = (stT (nOf f0) x2 i.toNat).2, fun i _ _ => (x0 - i).toNat, ⟨⟨by omega, by omega⟩, rfl, rfl⟩, ?_⟩

    rintro i n g ⟨hi, rfl, rfl⟩

    have b := stT_bd (nOf f0) x2 i.toNat

    refine ⟨fun q => by have := b.2 q; omega, by omega, by omega, fun h => ?_, fun h => ⟨fun _ => ⟨fun c => ⟨⟨⟨by omega, by omega⟩, ?_⟩, ?_⟩, fun c => ⟨⟨⟨by omega, by omega⟩, ?_⟩, ?_⟩⟩, fun h' => h' (G.one i hi.1 (by omega))⟩⟩

    · have e : i = x0 := by omega

      subst e

      exact ⟨fun q => by have := b.2 q; omega, by omega, rfl, by trivial, rfl⟩

    · rw [stT_step hi.1, if_pos (show x2 ≤ nOf f0 i from c)]; exact ⟨rfl, rfl⟩

    · show (x0 - (i + 1)).toNat < (x0 - i).toNat; omega

    · rw [stT_step hi.1, if_neg (show ¬ x2 ≤ nOf f0 i from c)]; exact ⟨rfl, rfl⟩

    · show (x0 - (i + 1)).toNat < (x0 - i).toNat; omega)

  exact hs

theorem sat_bad (hE : (scE x0 x1 x2 f0).2 ≠ 0) (r0 : 0 ≤ x0 ∧ x0 ≤ 70) (r1 : (-9223372036854775808) ≤ x1 ∧ x1 ≤ 9223372036854775807) (r2 : (-9223372036854775808) ≤ x2 ∧ x2 ≤ 9223372036854775807) : Spec Try.prog meter_Saturated_s ⟨[x0, x1, x2], [], [f0]⟩ [0, (scE x0 x1 x2 f0).2] [] [fun _ => 0] := by

  have hc := checkScan_p (x0 := x0) (x1 := x1) (x2 := x2) (f0 := f0) (by omega) (by omega) (by omega)

  generalize (scE x0 x1 x2 f0).2 = v at *

  obtain ⟨_, _, _, ⟨rfl, rfl, rfl⟩, hs⟩ := sat0 (x0 := x0) (x1 := x1) (x2 := x2) (f0 := f0) (by omega) (by omega) (by omega) (R := fun n e g => n = 0 ∧ e = v ∧ g = fun _ => 0) ⟨_, _, hc, fun g => absurd (by simpa using g) hE, fun _ => ⟨rfl, rfl, rfl⟩⟩

  exact hs

theorem ints_s (G : Scn x0 x1 x2 f0) : Spec Try.prog etalonref06_ints_s ⟨[x0, x1, x2], [], [f0]⟩ [x0] [] [lrow f0 x0.toNat] := by

  have g1 := G.four; have g2 := G.marg; have g3 := G.full

  obtain ⟨_, _, ⟨rfl, rfl⟩, hs⟩ := rin0 (x0 := x0) (x1 := x1) (x2 := x2) (f0 := f0) (by omega) (by omega) (by omega) (R := fun v g => v = x0 ∧ g = lrow f0 x0.toNat) (by

    simp only [decide_eq_true_eq, decide_eq_false_iff_not, beq_iff_eq, beq_eq_false_iff_ne, ne_eq]

    refine ⟨fun i n f1 => (0 ≤ i ∧ i ≤ x0) ∧ n = i ∧ f1 = lrow f0 i.toNat, fun i _ _ => (x0 - i).toNat, ⟨⟨by omega, by omega⟩, rfl, rfl⟩, ?_⟩

    rintro i n f1 ⟨hi, rfl, rfl⟩

    have b := lrow_bd G n.toNat (by omega)

    refine ⟨fun q => by have := b q; omega, by omega, by omega, fun g => ?_, fun g => ⟨fun _ => ⟨⟨⟨by omega, by omega⟩, by trivial, by rw [lrow_step hi.1]⟩, by show (x0 - (n + 1)).toNat < (x0 - n).toNat; omega⟩, fun h => h (G.one n hi.1 (by omega))⟩⟩

    have e : n = x0 := by omega

    subst e

    exact ⟨fun q => by have := b q; omega, by omega, by trivial, by trivial⟩)

  exact hs

theorem sat_r (G : Scn x0 x1 x2 f0) : Spec Try.prog etalonref06_Saturated_s ⟨[x0, x1, x2], [], [f0]⟩ [(stT (nOf f0) x2 x0.toNat).1] [] [(stT (nOf f0) x2 x0.toNat).2] := by

  have g1 := G.four; have g2 := G.marg; have g3 := G.full

  obtain ⟨_, _, ⟨rfl, rfl⟩, hs⟩ := rsa0 (x0 := x0) (x1 := x1) (x2 := x2) (f0 := f0) (by omega) (by omega) (by omega) (R := fun v g => v = (stT (nOf f0) x2 x0.toNat).1 ∧ g = (stT (nOf f0) x2 x0.toNat).2) (by

    refine ⟨_, _, ints_s G, by omega, ?_⟩

    simp only [decide_eq_true_eq, decide_eq_false_iff_not, beq_iff_eq, beq_eq_false_iff_ne, ne_eq]

    refine ⟨fun i n g => (0 ≤ i ∧ i ≤ x0) ∧ n = (stT (nOf f0) x2 i.toNat).1 ∧ g = (stT (nOf f0) x2 i.toNat).2, fun i _ _ => (x0 - i).toNat, ⟨⟨by omega, by omega⟩, rfl, rfl⟩, ?_⟩

    rintro i n g ⟨hi, rfl, rfl⟩

    have b := stT_bd (nOf f0) x2 i.toNat

    refine ⟨fun q => by have := b.2 q; omega, by omega, by omega, fun h => ?_, fun h => ⟨fun c => ⟨⟨⟨by omega, by omega⟩, ?_⟩, ?_⟩, fun c => ⟨⟨⟨by omega, by omega⟩, ?_⟩, ?_⟩⟩⟩

    · have e : i = x0 := by omega

      subst e

      exact ⟨fun q => by have := b.2 q; omega, by omega, rfl, rfl⟩

    · rw [lrow_at _ i hi.1 (by omega)] at c

      rw [stT_step hi.1, if_pos c]; exact ⟨rfl, rfl⟩

    · show (x0 - (i + 1)).toNat < (x0 - i).toNat; omega

    · rw [lrow_at _ i hi.1 (by omega)] at c

      rw [stT_step hi.1, if_neg c]; exact ⟨rfl, rfl⟩

    · show (x0 - (i + 1)).toNat < (x0 - i).toNat; omega)

  exact hs

/-- The powers of - i. -/

def rc (m : Int) : Int := if m = 0 then 1 else if m = 2 then -1 else 0

def ic (m : Int) : Int := if m = 1 then -1 else if m = 3 then 1 else 0

/-- The harmonics on their way. -/

def reT (L : Int → Int) (k : Int) : Nat → Int

  | 0 => 0

  | j + 1 => reT L k j + L j * rc ((j : Int) * k % 4)

def imT (L : Int → Int) (k : Int) : Nat → Int

  | 0 => 0

  | j + 1 => imT L k j + L j * ic ((j : Int) * k % 4)

theorem reT_step {L : Int → Int} {k j : Int} (h : 0 ≤ j) : reT L k (j + 1).toNat = reT L k j.toNat + L j * rc (j * k % 4) := by

  rw [show (j + 1).toNat = j.toNat + 1 by omega, reT, show ((j.toNat : Nat) : Int) = j by omega]

theorem imT_step {L : Int → Int} {k j : Int} (h : 0 ≤ j) : imT L k (j + 1).toNat = imT L k j.toNat + L j * ic (j * k % 4) := by

  rw [show (j + 1).toNat = j.toNat + 1 by omega, imT, show ((j.toNat : Nat) : Int) = j by omega]

theorem rc_or (m : Int) : rc m = 0 ∨ rc m = 1 ∨ rc m = -1 := by unfold rc; split; simp; split <;> simp

theorem ic_or (m : Int) : ic m = 0 ∨ ic m = 1 ∨ ic m = -1 := by unfold ic; split; simp; split <;> simp

theorem term_bd {a c : Int} (ha : 0 ≤ a ∧ a ≤ 65535) (hc : c = 0 ∨ c = 1 ∨ c = -1) : -65535 ≤ a * c ∧ a * c ≤ 65535 := by

  rcases hc with rfl | rfl | rfl

  · rw [Int.mul_zero]; decide

  · rw [Int.mul_one]; omega

  · rw [Int.mul_neg, Int.mul_one]; omega

theorem reT_bd {L : Int → Int} (hL : ∀ q, 0 ≤ L q ∧ L q ≤ 65535) (k : Int) : ∀ j : Nat, -(65535 * (j : Int)) ≤ reT L k j ∧ reT L k j ≤ 65535 * (j : Int)

  | 0 => by unfold reT; decide

  | j + 1 => by

    have a := reT_bd hL k j

    have b := term_bd (hL j) (rc_or ((j : Int) * k % 4))

    unfold reT; omega

theorem imT_bd {L : Int → Int} (hL : ∀ q, 0 ≤ L q ∧ L q ≤ 65535) (k : Int) : ∀ j : Nat, -(65535 * (j : Int)) ≤ imT L k j ∧ imT L k j ≤ 65535 * (j : Int)

  | 0 => by unfold imT; decide

  | j + 1 => by

    have a := imT_bd hL k j

    have b := term_bd (hL j) (ic_or ((j : Int) * k % 4))

    unfold imT; omega

theorem andK3 {x : Int} (h : 0 ≤ x ∧ x ≤ 255) : NOp.den (.andK .i64) x 3 = x % 4 := by

  have k : ∀ n : Fin 256, NOp.den (.andK .i64) ((n.val : Nat) : Int) 3 = ((n.val : Nat) : Int) % 4 := by decide +kernel

  have := k ⟨x.toNat, by omega⟩

  rwa [show ((x.toNat : Nat) : Int) = x by omega] at this

/-- A product with a power of - i, added. -/

theorem lk_re {X A p r : Int} {a b : Int} (ha : Rp a.toNat A) (hb : Rp b.toNat 0) (hX : -10000000 ≤ X ∧ X ≤ 10000000) (hA : 0 ≤ A ∧ A ≤ 65535) (hp : p = 0 ∨ p = 1 ∨ p = -1) (hr : r = 0 ∨ r = 1 ∨ r = -1) :

    (((fmt .add .f64 (((FloatKind.f64.nearest X : Nat) : Int)).toNat ((((fmt .sub .f64 ((((fmt .mul .f64 a.toNat (((FloatKind.f64.nearest p : Nat) : Int)).toNat).getD 0 : Nat) : Int)).toNat ((((fmt .mul .f64 b.toNat (((FloatKind.f64.nearest r : Nat) : Int)).toNat).getD 0 : Nat) : Int)).toNat).getD 0 : Nat) : Int)).toNat).getD 0 : Nat) : Int) = ((FloatKind.f64.nearest (X + A * p) : Nat) : Int) := by

  have b1 := term_bd hA hp

  have rp (n : Int) : Rp (((FloatKind.f64.nearest n : Nat) : Int)).toNat n := by rw [Int.toNat_natCast]; exact Rp_fi n

  have m1 := fmt_mul ha (rp p) ⟨by omega, by omega⟩ ⟨by omega, by omega⟩ ⟨by omega, by omega⟩

  have m2 := fmt_mul hb (rp r) ⟨by decide, by decide⟩ ⟨by omega, by omega⟩ ⟨by omega, by omega⟩

  rw [Int.zero_mul] at m2

  have m3 := fmt_sub m1 m2 ⟨by omega, by omega⟩ ⟨by decide, by decide⟩ ⟨by omega, by omega⟩

  rw [Int.sub_zero] at m3

  have e := add_exact (a := (((FloatKind.f64.nearest X : Nat) : Int)).toNat) (rp X) m3 ⟨by omega, by omega⟩ ⟨by omega, by omega⟩ ⟨by omega, by omega⟩ (Or.inl (by rw [Int.toNat_natCast]; rfl))

  have e' : fmt .add .f64 (((FloatKind.f64.nearest X : Nat) : Int)).toNat _ = some (fi (X + A * p)) := e

  rw [e']; rfl

theorem lk_im {Y A p r : Int} {a b : Int} (ha : Rp a.toNat A) (hb : Rp b.toNat 0) (hY : -10000000 ≤ Y ∧ Y ≤ 10000000) (hA : 0 ≤ A ∧ A ≤ 65535) (hp : p = 0 ∨ p = 1 ∨ p = -1) (hr : r = 0 ∨ r = 1 ∨ r = -1) :

    (((fmt .add .f64 (((FloatKind.f64.nearest Y : Nat) : Int)).toNat ((((fmt .add .f64 ((((fmt .mul .f64 a.toNat (((FloatKind.f64.nearest r : Nat) : Int)).toNat).getD 0 : Nat) : Int)).toNat ((((fmt .mul .f64 b.toNat (((FloatKind.f64.nearest p : Nat) : Int)).toNat).getD 0 : Nat) : Int)).toNat).getD 0 : Nat) : Int)).toNat).getD 0 : Nat) : Int) = ((FloatKind.f64.nearest (Y + A * r) : Nat) : Int) := by

  have b1 := term_bd hA hr

  have rp (n : Int) : Rp (((FloatKind.f64.nearest n : Nat) : Int)).toNat n := by rw [Int.toNat_natCast]; exact Rp_fi n

  have m1 := fmt_mul ha (rp r) ⟨by omega, by omega⟩ ⟨by omega, by omega⟩ ⟨by omega, by omega⟩

  have m2 := fmt_mul hb (rp p) ⟨by decide, by decide⟩ ⟨by omega, by omega⟩ ⟨by omega, by omega⟩

  rw [Int.zero_mul] at m2

  have m3 := fmt_add m1 m2 ⟨by omega, by omega⟩ ⟨by decide, by decide⟩ ⟨by omega, by omega⟩

  rw [Int.add_zero] at m3

  have e := add_exact (a := (((FloatKind.f64.nearest Y : Nat) : Int)).toNat) (rp Y) m3 ⟨by omega, by omega⟩ ⟨by omega, by omega⟩ ⟨by omega, by omega⟩ (Or.inl (by rw [Int.toNat_natCast]; rfl))

  have e' : fmt .add .f64 (((FloatKind.f64.nearest Y : Nat) : Int)).toNat _ = some (fi (Y + A * r)) := e

  rw [e']; rfl

/-- The rows of floats that the program makes. -/

def crow (f0 : Int → Int) : Nat → (Int → Int)

  | 0 => fun _ => 0

  | k + 1 => fun q => if q = (k : Int) then NOp.den .cvF (f0 k) 0 else crow f0 k q

def zrow : Nat → (Int → Int)

  | 0 => fun _ => 0

  | k + 1 => fun q => if q = (k : Int) then ((FloatKind.f64.nearest 0 : Nat) : Int) else zrow k q

theorem crow_step {f0 : Int → Int} {i : Int} (h : 0 ≤ i) : crow f0 (i + 1).toNat = fun q => if q = i then NOp.den .cvF (f0 i) 0 else crow f0 i.toNat q := by

  rw [show (i + 1).toNat = i.toNat + 1 by omega, crow, show ((i.toNat : Nat) : Int) = i by omega]

theorem zrow_step {i : Int} (h : 0 ≤ i) : zrow (i + 1).toNat = fun q => if q = i then ((FloatKind.f64.nearest 0 : Nat) : Int) else zrow i.toNat q := by

  rw [show (i + 1).toNat = i.toNat + 1 by omega, zrow, show ((i.toNat : Nat) : Int) = i by omega]

theorem rp_0 : Rp (0 : Int).toNat 0 := by

  have : fi 0 = 0 := by decide +kernel

  have h := Rp_fi 0

  rw [this] at h

  exact h

theorem rp_n (n : Int) : Rp (((FloatKind.f64.nearest n : Nat) : Int)).toNat n := by rw [Int.toNat_natCast]; exact Rp_fi n

theorem crow_rp (G : Scn x0 x1 x2 f0) : ∀ (k : Nat), (k : Int) ≤ x0 → ∀ q, Rp (crow f0 k q).toNat (lrow f0 k q)

  | 0, _, q => by unfold crow lrow; exact rp_0

  | k + 1, h, q => by

    unfold crow lrow

    by_cases e : q = (k : Int)

    · rw [if_pos e, if_pos e]; exact G.rp k (by omega) (by omega)

    · rw [if_neg e, if_neg e]; exact crow_rp G k (by omega) q

theorem zrow_rp : ∀ (k : Nat) (q : Int), Rp (zrow k q).toNat 0

  | 0, q => by unfold zrow; exact rp_0

  | k + 1, q => by

    unfold zrow

    split

    · exact rp_n 0

    · exact zrow_rp k q

end

end Go.Proofs.Ytafnplkablkepaa.Ev
