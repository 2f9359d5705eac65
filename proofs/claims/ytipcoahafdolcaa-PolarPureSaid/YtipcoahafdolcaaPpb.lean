/- PolarPure: pure matrices are physical. -/
import Derived.Test.YtipcoahafdolcaaPju
import Derived.Test.YtipcoahafdolcaaPpa
import Derived.Test.YtipcoahafdolcaaPpi
namespace Go.Proofs.Ytipcoahafdolcaa.Ev
set_option linter.unusedSimpArgs false
set_option linter.unusedVariables false
open Go Go.RowKit
set_option maxRecDepth 100000
theorem fsub {a b : Nat} {x y : Int} (ha : Rp a x) (hb : Rp b y) (hx : -1000000 ≤ x ∧ x ≤ 1000000) (hy : -1000000 ≤ y ∧ y ≤ 1000000) : Rp ((fmt .sub .f64 a b).getD 0) (x - y) := by
  obtain ⟨r, h, hr⟩ := sub_rp ha hb ⟨by omega, by omega⟩ ⟨by omega, by omega⟩ ⟨by omega, by omega⟩
  have e : fmt .sub .f64 a b = some r := h
  rw [e]; exact hr
theorem fmul {a b : Nat} {x y : Int} (ha : Rp a x) (hb : Rp b y) (hx : -1000000 ≤ x ∧ x ≤ 1000000) (hy : y = 0 ∨ y = 1) : Rp ((fmt .mul .f64 a b).getD 0) (x * y) := by
  have hi : InF (x * y) := by rcases hy with h | h <;> subst h <;> constructor <;> omega
  obtain ⟨r, h, hr⟩ := mul_rp ha hb ⟨by omega, by omega⟩ (by rcases hy with h | h <;> subst h <;> constructor <;> omega) hi
  have e : fmt .mul .f64 a b = some r := h
  rw [e]; exact hr
theorem rp0 : Rp 0 0 := Or.inl rfl
theorem rp_eq {a : Nat} {x y : Int} (h : Rp a x) (e : x = y) : Rp a y := e ▸ h
theorem zz1 {d a b : Int} (hd : -1000 ≤ d ∧ d ≤ 1000) (ha : -1000 ≤ a ∧ a ≤ 1000) (hb : -1000 ≤ b ∧ b ≤ 1000) : Rp ((fmt .sub .f64 (((fmt .sub .f64 ((fmt .mul .f64 (FloatKind.f64.nearest d) 0).getD 0) (((FloatKind.f64.nearest 0 : Nat) : Int)).toNat).getD 0)) ((fmt .sub .f64 ((fmt .mul .f64 (FloatKind.f64.nearest a) 0).getD 0) ((fmt .mul .f64 (FloatKind.f64.nearest (0 - b)) 0).getD 0)).getD 0)).getD 0) 0 := rp_eq (fsub (fsub (fmul (rpn' d) rp0 (by omega) (Or.inl rfl)) (rpn' 0) (by omega) (by omega)) (fsub (fmul (rpn' a) rp0 (by omega) (Or.inl rfl)) (fmul (rpn' (0 - b)) rp0 (by omega) (Or.inl rfl)) (by omega) (by omega)) (by omega) (by omega)) (by omega)
theorem zz2 {d a b : Int} (hd : -1000 ≤ d ∧ d ≤ 1000) (ha : -1000 ≤ a ∧ a ≤ 1000) (hb : -1000 ≤ b ∧ b ≤ 1000) : Rp ((fmt .sub .f64 (((fmt .sub .f64 ((fmt .mul .f64 (FloatKind.f64.nearest d) 0).getD 0) (((FloatKind.f64.nearest 0 : Nat) : Int)).toNat).getD 0)) ((fmt .sub .f64 ((fmt .mul .f64 (FloatKind.f64.nearest a) (((FloatKind.f64.nearest 1 : Nat) : Int)).toNat).getD 0) ((fmt .mul .f64 (FloatKind.f64.nearest (0 - b)) (((FloatKind.f64.nearest 0 : Nat) : Int)).toNat).getD 0)).getD 0)).getD 0) (0 - a) := rp_eq (fsub (fsub (fmul (rpn' d) rp0 (by omega) (Or.inl rfl)) (rpn' 0) (by omega) (by omega)) (fsub (fmul (rpn' a) (rpn' 1) (by omega) (Or.inr rfl)) (fmul (rpn' (0 - b)) (rpn' 0) (by omega) (Or.inl rfl)) (by omega) (by omega)) (by omega) (by omega)) (by omega)
set_option maxHeartbeats 4000000 in
theorem low_r {a0 a1 b0 b1 c0 c1 d0 d1 : Nat} {A0 A1 B0 B1 C0 C1 D0 D1 : Int} {g : Int} (RA0 : Rp a0 A0) (RA1 : Rp a1 A1) (RB0 : Rp b0 B0) (RB1 : Rp b1 B1) (RC0 : Rp c0 C0) (RC1 : Rp c1 C1) (RD0 : Rp d0 D0) (RD1 : Rp d1 D1) (kA0 : (-40000000) ≤ A0 ∧ A0 ≤ 40000000) (kA1 : (-40000000) ≤ A1 ∧ A1 ≤ 40000000) (kB0 : (-40000000) ≤ B0 ∧ B0 ≤ 40000000) (kB1 : (-40000000) ≤ B1 ∧ B1 ≤ 40000000) (kC0 : (-40000000) ≤ C0 ∧ C0 ≤ 40000000) (kC1 : (-40000000) ≤ C1 ∧ C1 ≤ 40000000) (kD0 : (-40000000) ≤ D0 ∧ D0 ≤ 40000000) (kD1 : (-40000000) ≤ D1 ∧ D1 ≤ 40000000) (hg : g = ((Int.gcd ((Int.gcd ((Int.gcd ((Int.gcd ((Int.gcd ((Int.gcd ((Int.gcd ((Int.gcd 0 A0 : Nat) : Int) A1 : Nat) : Int) B0 : Nat) : Int) B1 : Nat) : Int) C0 : Nat) : Int) C1 : Nat) : Int) D0 : Nat) : Int) D1 : Nat) : Int)) (hp : g ≠ 0) (w : World) : Calls Try.prog 122 #[.agg #[.complex .f64 a0 a1, .complex .f64 b0 b1, .complex .f64 c0 c1, .complex .f64 d0 d1]] w fun e w' => e = .returned (.agg #[.complex .f64 (FloatKind.f64.nearest (A0.tdiv g)) (FloatKind.f64.nearest (A1.tdiv g)), .complex .f64 (FloatKind.f64.nearest (B0.tdiv g)) (FloatKind.f64.nearest (B1.tdiv g)), .complex .f64 (FloatKind.f64.nearest (C0.tdiv g)) (FloatKind.f64.nearest (C1.tdiv g)), .complex .f64 (FloatKind.f64.nearest (D0.tdiv g)) (FloatKind.f64.nearest (D1.tdiv g))]) ∧ Below w.heap.size w w' := by
  obtain ⟨g1, e1⟩ : ∃ g : Nat, g = Int.gcd 0 A0 := ⟨_, rfl⟩
  have b1 : ((g1 : Nat) : Int) ≤ 40000000 := by rw [e1]; exact gcd_bd (by omega) (by omega)
  obtain ⟨g2, e2⟩ : ∃ g : Nat, g = Int.gcd ((g1 : Nat) : Int) A1 := ⟨_, rfl⟩
  have b2 : ((g2 : Nat) : Int) ≤ 40000000 := by rw [e2]; exact gcd_bd (by omega) (by omega)
  obtain ⟨g3, e3⟩ : ∃ g : Nat, g = Int.gcd ((g2 : Nat) : Int) B0 := ⟨_, rfl⟩
  have b3 : ((g3 : Nat) : Int) ≤ 40000000 := by rw [e3]; exact gcd_bd (by omega) (by omega)
  obtain ⟨g4, e4⟩ : ∃ g : Nat, g = Int.gcd ((g3 : Nat) : Int) B1 := ⟨_, rfl⟩
  have b4 : ((g4 : Nat) : Int) ≤ 40000000 := by rw [e4]; exact gcd_bd (by omega) (by omega)
  obtain ⟨g5, e5⟩ : ∃ g : Nat, g = Int.gcd ((g4 : Nat) : Int) C0 := ⟨_, rfl⟩
  have b5 : ((g5 : Nat) : Int) ≤ 40000000 := by rw [e5]; exact gcd_bd (by omega) (by omega)
  obtain ⟨g6, e6⟩ : ∃ g : Nat, g = Int.gcd ((g5 : Nat) : Int) C1 := ⟨_, rfl⟩
  have b6 : ((g6 : Nat) : Int) ≤ 40000000 := by rw [e6]; exact gcd_bd (by omega) (by omega)
  obtain ⟨g7, e7⟩ : ∃ g : Nat, g = Int.gcd ((g6 : Nat) : Int) D0 := ⟨_, rfl⟩
  have b7 : ((g7 : Nat) : Int) ≤ 40000000 := by rw [e7]; exact gcd_bd (by omega) (by omega)
  obtain ⟨g8, e8⟩ : ∃ g : Nat, g = Int.gcd ((g7 : Nat) : Int) D1 := ⟨_, rfl⟩
  have b8 : ((g8 : Nat) : Int) ≤ 40000000 := by rw [e8]; exact gcd_bd (by omega) (by omega)
  have hg' : g = ((g8 : Nat) : Int) := by rw [hg]; rw [← e1]; rw [← e2]; rw [← e3]; rw [← e4]; rw [← e5]; rw [← e6]; rw [← e7]; rw [← e8]
  have hr := fun x => rpn' x
  refine one_val (jlw kA0 kA1 kB0 kB1 kC0 kC1 kD0 kD1 RA0 RA1 RB0 RB1 RC0 RC1 RD0 RD1 (Q := (· = _)) ?_) w
  refine ⟨True, 0, trivial, fun _ => ?_⟩
  refine gl (by omega) (by omega) fun z1 n1 q1 => ?_
  have f1 : z1.natAbs = g1 := by rw [n1, e1]
  refine gl (by omega) (by omega) fun z2 n2 q2 => ?_
  have f2 : z2.natAbs = g2 := by rw [n2, e2]; exact gcd_abs (by omega)
  simp only [dmax f2 (show ((g2 : Nat) : Int) ≤ 9223372036854775807 by omega)]
  refine gl (by omega) (by omega) fun y1 l1 s1 => ?_
  have t1 : y1.natAbs = g2 := by rw [l1, Int.gcd_zero_left]; omega
  refine gl (by omega) (by omega) fun z3 n3 q3 => ?_
  have f3 : z3.natAbs = g3 := by rw [n3, e3]; exact gcd_abs (by omega)
  refine gl (by omega) (by omega) fun z4 n4 q4 => ?_
  have f4 : z4.natAbs = g4 := by rw [n4, e4]; exact gcd_abs (by omega)
  simp only [dmax f4 (show ((g4 : Nat) : Int) ≤ 9223372036854775807 by omega)]
  refine gl (by omega) (by omega) fun y2 l2 s2 => ?_
  have t2 : y2.natAbs = g4 := by rw [l2, Int.gcd_zero_left]; omega
  refine gl (by omega) (by omega) fun z5 n5 q5 => ?_
  have f5 : z5.natAbs = g5 := by rw [n5, e5]; exact gcd_abs (by omega)
  refine gl (by omega) (by omega) fun z6 n6 q6 => ?_
  have f6 : z6.natAbs = g6 := by rw [n6, e6]; exact gcd_abs (by omega)
  simp only [dmax f6 (show ((g6 : Nat) : Int) ≤ 9223372036854775807 by omega)]
  refine gl (by omega) (by omega) fun y3 l3 s3 => ?_
  have t3 : y3.natAbs = g6 := by rw [l3, Int.gcd_zero_left]; omega
  refine gl (by omega) (by omega) fun z7 n7 q7 => ?_
  have f7 : z7.natAbs = g7 := by rw [n7, e7]; exact gcd_abs (by omega)
  refine gl (by omega) (by omega) fun z8 n8 q8 => ?_
  have f8 : z8.natAbs = g8 := by rw [n8, e8]; exact gcd_abs (by omega)
  simp only [dmax f8 (show ((g8 : Nat) : Int) ≤ 9223372036854775807 by omega), ← hg', tdiv_w (g := g) kA0, tdiv_w (g := g) kA1, tdiv_w (g := g) kB0, tdiv_w (g := g) kB1, tdiv_w (g := g) kC0, tdiv_w (g := g) kC1, tdiv_w (g := g) kD0, tdiv_w (g := g) kD1]
  exact ⟨fun h => absurd (by simpa using h) hp, fun _ => trivial⟩
theorem zre {g a b d xf yf xi yi yfi Wfr Wfi Wir : Int} (hg : g ≠ 0) (h1 : 0 - a = g * Wfr) (h2 : 0 - (0 - b) = g * Wfi) (h3 : d = g * Wir) (e : xi * d = xf * a - yf * yfi) (hy : yfi = 0 - b) : (xf * Wfr - yf * Wfi) + (xi * Wir - yi * 0) = 0 := by
  apply Int.eq_of_mul_eq_mul_left hg
  have t : g * ((xf * Wfr - yf * Wfi) + (xi * Wir - yi * 0)) = xf * (g * Wfr) - yf * (g * Wfi) + xi * (g * Wir) := by grind
  rw [t, ← h1, ← h2, ← h3, e, hy]; grind
theorem zim {g a b d xf yf xi yi yfi Wfr Wfi Wir : Int} (hg : g ≠ 0) (h1 : 0 - a = g * Wfr) (h2 : 0 - (0 - b) = g * Wfi) (h3 : d = g * Wir) (e : yi * d = xf * yfi + yf * a) (hy : yfi = 0 - b) : (xf * Wfi + yf * Wfr) + (xi * 0 + yi * Wir) = 0 := by
  apply Int.eq_of_mul_eq_mul_left hg
  have t : g * ((xf * Wfi + yf * Wfr) + (xi * 0 + yi * Wir)) = xf * (g * Wfi) + yf * (g * Wfr) + yi * (g * Wir) := by grind
  rw [t, ← h1, ← h2, ← h3, e, hy]; grind
theorem dv_step' {g h : Nat} {a b : Int} (e : h = Int.gcd a b) (d : g ∣ h) : ((g : Nat) : Int) ∣ a ∧ ((g : Nat) : Int) ∣ b := by
  have h1 : ((g : Nat) : Int) ∣ ((h : Nat) : Int) := Int.natCast_dvd_natCast.mpr d
  rw [e] at h1
  exact ⟨Int.dvd_trans h1 (Int.gcd_dvd_left ..), Int.dvd_trans h1 (Int.gcd_dvd_right ..)⟩
theorem dvd_all' {A0 A1 B0 B1 C0 C1 D0 D1 g : Int} (hg : g = ((Int.gcd ((Int.gcd ((Int.gcd ((Int.gcd ((Int.gcd ((Int.gcd ((Int.gcd ((Int.gcd 0 A0 : Nat) : Int) A1 : Nat) : Int) B0 : Nat) : Int) B1 : Nat) : Int) C0 : Nat) : Int) C1 : Nat) : Int) D0 : Nat) : Int) D1 : Nat) : Int)) : A0 = g * A0.tdiv g ∧ A1 = g * A1.tdiv g ∧ B0 = g * B0.tdiv g ∧ B1 = g * B1.tdiv g ∧ C0 = g * C0.tdiv g ∧ C1 = g * C1.tdiv g ∧ D0 = g * D0.tdiv g ∧ D1 = g * D1.tdiv g := by
  obtain ⟨g1, e1⟩ : ∃ g : Nat, g = Int.gcd 0 A0 := ⟨_, rfl⟩
  obtain ⟨g2, e2⟩ : ∃ g : Nat, g = Int.gcd ((g1 : Nat) : Int) A1 := ⟨_, rfl⟩
  obtain ⟨g3, e3⟩ : ∃ g : Nat, g = Int.gcd ((g2 : Nat) : Int) B0 := ⟨_, rfl⟩
  obtain ⟨g4, e4⟩ : ∃ g : Nat, g = Int.gcd ((g3 : Nat) : Int) B1 := ⟨_, rfl⟩
  obtain ⟨g5, e5⟩ : ∃ g : Nat, g = Int.gcd ((g4 : Nat) : Int) C0 := ⟨_, rfl⟩
  obtain ⟨g6, e6⟩ : ∃ g : Nat, g = Int.gcd ((g5 : Nat) : Int) C1 := ⟨_, rfl⟩
  obtain ⟨g7, e7⟩ : ∃ g : Nat, g = Int.gcd ((g6 : Nat) : Int) D0 := ⟨_, rfl⟩
  obtain ⟨g8, e8⟩ : ∃ g : Nat, g = Int.gcd ((g7 : Nat) : Int) D1 := ⟨_, rfl⟩
  have hg' : g = ((g8 : Nat) : Int) := by rw [hg]; rw [← e1]; rw [← e2]; rw [← e3]; rw [← e4]; rw [← e5]; rw [← e6]; rw [← e7]; rw [← e8]
  have d8 : g8 ∣ g8 := Nat.dvd_refl _
  obtain ⟨l8, v8⟩ := dv_step' e8 d8
  have d7 : g8 ∣ g7 := Int.natCast_dvd_natCast.mp l8
  obtain ⟨l7, v7⟩ := dv_step' e7 d7
  have d6 : g8 ∣ g6 := Int.natCast_dvd_natCast.mp l7
  obtain ⟨l6, v6⟩ := dv_step' e6 d6
  have d5 : g8 ∣ g5 := Int.natCast_dvd_natCast.mp l6
  obtain ⟨l5, v5⟩ := dv_step' e5 d5
  have d4 : g8 ∣ g4 := Int.natCast_dvd_natCast.mp l5
  obtain ⟨l4, v4⟩ := dv_step' e4 d4
  have d3 : g8 ∣ g3 := Int.natCast_dvd_natCast.mp l4
  obtain ⟨l3, v3⟩ := dv_step' e3 d3
  have d2 : g8 ∣ g2 := Int.natCast_dvd_natCast.mp l3
  obtain ⟨l2, v2⟩ := dv_step' e2 d2
  have d1 : g8 ∣ g1 := Int.natCast_dvd_natCast.mp l2
  obtain ⟨l1, v1⟩ := dv_step' e1 d1
  rw [hg']
  exact ⟨(Int.mul_tdiv_cancel' v1).symm, (Int.mul_tdiv_cancel' v2).symm, (Int.mul_tdiv_cancel' v3).symm, (Int.mul_tdiv_cancel' v4).symm, (Int.mul_tdiv_cancel' v5).symm, (Int.mul_tdiv_cancel' v6).symm, (Int.mul_tdiv_cancel' v7).symm, (Int.mul_tdiv_cancel' v8).symm⟩
set_option maxHeartbeats 8000000 in
theorem phys_pure0 {m0 m1 m2 m3 m4 m5 m6 m7 m8 m9 m10 m11 m12 m13 m14 m15 d0 d1 d2 d3 x01 y01 x02 y02 x03 y03 x12 y12 x13 y13 x23 y23 : Int} (r0 : (-40) ≤ m0 ∧ m0 ≤ 40) (r1 : (-40) ≤ m1 ∧ m1 ≤ 40) (r2 : (-40) ≤ m2 ∧ m2 ≤ 40) (r3 : (-40) ≤ m3 ∧ m3 ≤ 40) (r4 : (-40) ≤ m4 ∧ m4 ≤ 40) (r5 : (-40) ≤ m5 ∧ m5 ≤ 40) (r6 : (-40) ≤ m6 ∧ m6 ≤ 40) (r7 : (-40) ≤ m7 ∧ m7 ≤ 40) (r8 : (-40) ≤ m8 ∧ m8 ≤ 40) (r9 : (-40) ≤ m9 ∧ m9 ≤ 40) (r10 : (-40) ≤ m10 ∧ m10 ≤ 40) (r11 : (-40) ≤ m11 ∧ m11 ≤ 40) (r12 : (-40) ≤ m12 ∧ m12 ≤ 40) (r13 : (-40) ≤ m13 ∧ m13 ≤ 40) (r14 : (-40) ≤ m14 ∧ m14 ≤ 40) (r15 : (-40) ≤ m15 ∧ m15 ≤ 40) (bd0 : -1000 ≤ d0 ∧ d0 ≤ 1000) (bd1 : -1000 ≤ d1 ∧ d1 ≤ 1000) (bd2 : -1000 ≤ d2 ∧ d2 ≤ 1000) (bd3 : -1000 ≤ d3 ∧ d3 ≤ 1000) (bx01 : -1000 ≤ x01 ∧ x01 ≤ 1000) (by01 : -1000 ≤ y01 ∧ y01 ≤ 1000) (bx02 : -1000 ≤ x02 ∧ x02 ≤ 1000) (by02 : -1000 ≤ y02 ∧ y02 ≤ 1000) (bx03 : -1000 ≤ x03 ∧ x03 ≤ 1000) (by03 : -1000 ≤ y03 ∧ y03 ≤ 1000) (bx12 : -1000 ≤ x12 ∧ x12 ≤ 1000) (by12 : -1000 ≤ y12 ∧ y12 ≤ 1000) (bx13 : -1000 ≤ x13 ∧ x13 ≤ 1000) (by13 : -1000 ≤ y13 ∧ y13 ≤ 1000) (bx23 : -1000 ≤ x23 ∧ x23 ≤ 1000) (by23 : -1000 ≤ y23 ∧ y23 ≤ 1000) (hct : (∀ w, Calls Try.prog 127 #[.agg #[.int .i64 m0, .int .i64 m1, .int .i64 m2, .int .i64 m3, .int .i64 m4, .int .i64 m5, .int .i64 m6, .int .i64 m7, .int .i64 m8, .int .i64 m9, .int .i64 m10, .int .i64 m11, .int .i64 m12, .int .i64 m13, .int .i64 m14, .int .i64 m15]] w fun e w' => e = .returned (.int .i64 0) ∧ Below w.heap.size w w')) (hK : (∀ w, Calls Try.prog 120 #[.agg #[.int .i64 m0, .int .i64 m1, .int .i64 m2, .int .i64 m3, .int .i64 m4, .int .i64 m5, .int .i64 m6, .int .i64 m7, .int .i64 m8, .int .i64 m9, .int .i64 m10, .int .i64 m11, .int .i64 m12, .int .i64 m13, .int .i64 m14, .int .i64 m15]] w fun e w' => e = .returned (.agg #[.complex .f64 (FloatKind.f64.nearest d0) (FloatKind.f64.nearest 0), .complex .f64 (FloatKind.f64.nearest x01) (FloatKind.f64.nearest y01), .complex .f64 (FloatKind.f64.nearest x02) (FloatKind.f64.nearest y02), .complex .f64 (FloatKind.f64.nearest x03) (FloatKind.f64.nearest y03), .complex .f64 (FloatKind.f64.nearest x01) (FloatKind.f64.nearest (0 - y01)), .complex .f64 (FloatKind.f64.nearest d1) (FloatKind.f64.nearest 0), .complex .f64 (FloatKind.f64.nearest x12) (FloatKind.f64.nearest y12), .complex .f64 (FloatKind.f64.nearest x13) (FloatKind.f64.nearest y13), .complex .f64 (FloatKind.f64.nearest x02) (FloatKind.f64.nearest (0 - y02)), .complex .f64 (FloatKind.f64.nearest x12) (FloatKind.f64.nearest (0 - y12)), .complex .f64 (FloatKind.f64.nearest d2) (FloatKind.f64.nearest 0), .complex .f64 (FloatKind.f64.nearest x23) (FloatKind.f64.nearest y23), .complex .f64 (FloatKind.f64.nearest x03) (FloatKind.f64.nearest (0 - y03)), .complex .f64 (FloatKind.f64.nearest x13) (FloatKind.f64.nearest (0 - y13)), .complex .f64 (FloatKind.f64.nearest x23) (FloatKind.f64.nearest (0 - y23)), .complex .f64 (FloatKind.f64.nearest d3) (FloatKind.f64.nearest 0)]) ∧ Below w.heap.size w w'))  (hp : Pure0 d0 d1 d2 d3 x01 y01 x02 y02 x03 y03 x12 y12 x13 y13 x23 y23) (w : World) : Calls Try.prog 67 #[.agg #[.int .i64 m0, .int .i64 m1, .int .i64 m2, .int .i64 m3, .int .i64 m4, .int .i64 m5, .int .i64 m6, .int .i64 m7, .int .i64 m8, .int .i64 m9, .int .i64 m10, .int .i64 m11, .int .i64 m12, .int .i64 m13, .int .i64 m14, .int .i64 m15]] w fun e w' => e = .returned (.tuple #[.bool true, .int .i64 0]) ∧ Below w.heap.size w w' := by
  have hpos := hp.pos
  obtain ⟨g1, hg1⟩ : ∃ g : Int, g = ((Int.gcd ((Int.gcd ((Int.gcd ((Int.gcd ((Int.gcd ((Int.gcd ((Int.gcd ((Int.gcd 0 (0 - x01) : Nat) : Int) (0 - (0 - (0 - y01))) : Nat) : Int) d0 : Nat) : Int) (0 : Int) : Nat) : Int) (0 : Int) : Nat) : Int) (0 : Int) : Nat) : Int) (0 : Int) : Nat) : Int) (0 : Int) : Nat) : Int) := ⟨_, rfl⟩
  obtain ⟨v10, v11, v12, v13, v14, v15, v16, v17⟩ := dvd_all' hg1
  have hn1 : g1 ≠ 0 := by intro h; rw [h, Int.zero_mul] at v12; omega
  have L1 := fun w => low_r (zz2 (show -1000 ≤ d0 ∧ d0 ≤ 1000 by omega) (show -1000 ≤ x01 ∧ x01 ≤ 1000 by omega) (show -1000 ≤ (0 - y01) ∧ (0 - y01) ≤ 1000 by omega)) (rpn' _) (rpn' _) (rpn' _) (zz1 (show -1000 ≤ d0 ∧ d0 ≤ 1000 by omega) (show -1000 ≤ x01 ∧ x01 ≤ 1000 by omega) (show -1000 ≤ (0 - y01) ∧ (0 - y01) ≤ 1000 by omega)) (rpn' _) (zz1 (show -1000 ≤ d0 ∧ d0 ≤ 1000 by omega) (show -1000 ≤ x01 ∧ x01 ≤ 1000 by omega) (show -1000 ≤ (0 - y01) ∧ (0 - y01) ≤ 1000 by omega)) (rpn' _) (g := g1) ⟨by omega, by omega⟩ ⟨by omega, by omega⟩ ⟨by omega, by omega⟩ ⟨by omega, by omega⟩ ⟨by omega, by omega⟩ ⟨by omega, by omega⟩ ⟨by omega, by omega⟩ ⟨by omega, by omega⟩ hg1 hn1 w
  simp only [Int.zero_tdiv] at L1
  have ta1 := tdiv_bd (g := g1) (a := (0 - x01)) (M := 1000) ⟨by omega, by omega⟩
  obtain ⟨Wa1, hWa1⟩ : ∃ t : Int, t = ((0 - x01)).tdiv g1 := ⟨_, rfl⟩
  rw [← hWa1] at ta1 v10
  have tb1 := tdiv_bd (g := g1) (a := (0 - (0 - (0 - y01)))) (M := 1000) ⟨by omega, by omega⟩
  obtain ⟨Wb1, hWb1⟩ : ∃ t : Int, t = ((0 - (0 - (0 - y01)))).tdiv g1 := ⟨_, rfl⟩
  rw [← hWb1] at tb1 v11
  have tc1 := tdiv_bd (g := g1) (a := d0) (M := 1000) ⟨by omega, by omega⟩
  obtain ⟨Wc1, hWc1⟩ : ∃ t : Int, t = (d0).tdiv g1 := ⟨_, rfl⟩
  rw [← hWc1] at tc1 v12
  simp only [← hWa1, ← hWb1, ← hWc1] at L1
  obtain ⟨g2, hg2⟩ : ∃ g : Int, g = ((Int.gcd ((Int.gcd ((Int.gcd ((Int.gcd ((Int.gcd ((Int.gcd ((Int.gcd ((Int.gcd 0 (0 - x02) : Nat) : Int) (0 - (0 - (0 - y02))) : Nat) : Int) (0 : Int) : Nat) : Int) (0 : Int) : Nat) : Int) d0 : Nat) : Int) (0 : Int) : Nat) : Int) (0 : Int) : Nat) : Int) (0 : Int) : Nat) : Int) := ⟨_, rfl⟩
  obtain ⟨v20, v21, v22, v23, v24, v25, v26, v27⟩ := dvd_all' hg2
  have hn2 : g2 ≠ 0 := by intro h; rw [h, Int.zero_mul] at v24; omega
  have L2 := fun w => low_r (zz2 (show -1000 ≤ d0 ∧ d0 ≤ 1000 by omega) (show -1000 ≤ x02 ∧ x02 ≤ 1000 by omega) (show -1000 ≤ (0 - y02) ∧ (0 - y02) ≤ 1000 by omega)) (rpn' _) (zz1 (show -1000 ≤ d0 ∧ d0 ≤ 1000 by omega) (show -1000 ≤ x02 ∧ x02 ≤ 1000 by omega) (show -1000 ≤ (0 - y02) ∧ (0 - y02) ≤ 1000 by omega)) (rpn' _) (rpn' _) (rpn' _) (zz1 (show -1000 ≤ d0 ∧ d0 ≤ 1000 by omega) (show -1000 ≤ x02 ∧ x02 ≤ 1000 by omega) (show -1000 ≤ (0 - y02) ∧ (0 - y02) ≤ 1000 by omega)) (rpn' _) (g := g2) ⟨by omega, by omega⟩ ⟨by omega, by omega⟩ ⟨by omega, by omega⟩ ⟨by omega, by omega⟩ ⟨by omega, by omega⟩ ⟨by omega, by omega⟩ ⟨by omega, by omega⟩ ⟨by omega, by omega⟩ hg2 hn2 w
  simp only [Int.zero_tdiv] at L2
  have ta2 := tdiv_bd (g := g2) (a := (0 - x02)) (M := 1000) ⟨by omega, by omega⟩
  obtain ⟨Wa2, hWa2⟩ : ∃ t : Int, t = ((0 - x02)).tdiv g2 := ⟨_, rfl⟩
  rw [← hWa2] at ta2 v20
  have tb2 := tdiv_bd (g := g2) (a := (0 - (0 - (0 - y02)))) (M := 1000) ⟨by omega, by omega⟩
  obtain ⟨Wb2, hWb2⟩ : ∃ t : Int, t = ((0 - (0 - (0 - y02)))).tdiv g2 := ⟨_, rfl⟩
  rw [← hWb2] at tb2 v21
  have tc2 := tdiv_bd (g := g2) (a := d0) (M := 1000) ⟨by omega, by omega⟩
  obtain ⟨Wc2, hWc2⟩ : ∃ t : Int, t = (d0).tdiv g2 := ⟨_, rfl⟩
  rw [← hWc2] at tc2 v24
  simp only [← hWa2, ← hWb2, ← hWc2] at L2
  obtain ⟨g3, hg3⟩ : ∃ g : Int, g = ((Int.gcd ((Int.gcd ((Int.gcd ((Int.gcd ((Int.gcd ((Int.gcd ((Int.gcd ((Int.gcd 0 (0 - x03) : Nat) : Int) (0 - (0 - (0 - y03))) : Nat) : Int) (0 : Int) : Nat) : Int) (0 : Int) : Nat) : Int) (0 : Int) : Nat) : Int) (0 : Int) : Nat) : Int) d0 : Nat) : Int) (0 : Int) : Nat) : Int) := ⟨_, rfl⟩
  obtain ⟨v30, v31, v32, v33, v34, v35, v36, v37⟩ := dvd_all' hg3
  have hn3 : g3 ≠ 0 := by intro h; rw [h, Int.zero_mul] at v36; omega
  have L3 := fun w => low_r (zz2 (show -1000 ≤ d0 ∧ d0 ≤ 1000 by omega) (show -1000 ≤ x03 ∧ x03 ≤ 1000 by omega) (show -1000 ≤ (0 - y03) ∧ (0 - y03) ≤ 1000 by omega)) (rpn' _) (zz1 (show -1000 ≤ d0 ∧ d0 ≤ 1000 by omega) (show -1000 ≤ x03 ∧ x03 ≤ 1000 by omega) (show -1000 ≤ (0 - y03) ∧ (0 - y03) ≤ 1000 by omega)) (rpn' _) (zz1 (show -1000 ≤ d0 ∧ d0 ≤ 1000 by omega) (show -1000 ≤ x03 ∧ x03 ≤ 1000 by omega) (show -1000 ≤ (0 - y03) ∧ (0 - y03) ≤ 1000 by omega)) (rpn' _) (rpn' _) (rpn' _) (g := g3) ⟨by omega, by omega⟩ ⟨by omega, by omega⟩ ⟨by omega, by omega⟩ ⟨by omega, by omega⟩ ⟨by omega, by omega⟩ ⟨by omega, by omega⟩ ⟨by omega, by omega⟩ ⟨by omega, by omega⟩ hg3 hn3 w
  simp only [Int.zero_tdiv] at L3
  have ta3 := tdiv_bd (g := g3) (a := (0 - x03)) (M := 1000) ⟨by omega, by omega⟩
  obtain ⟨Wa3, hWa3⟩ : ∃ t : Int, t = ((0 - x03)).tdiv g3 := ⟨_, rfl⟩
  rw [← hWa3] at ta3 v30
  have tb3 := tdiv_bd (g := g3) (a := (0 - (0 - (0 - y03)))) (M := 1000) ⟨by omega, by omega⟩
  obtain ⟨Wb3, hWb3⟩ : ∃ t : Int, t = ((0 - (0 - (0 - y03)))).tdiv g3 := ⟨_, rfl⟩
  rw [← hWb3] at tb3 v31
  have tc3 := tdiv_bd (g := g3) (a := d0) (M := 1000) ⟨by omega, by omega⟩
  obtain ⟨Wc3, hWc3⟩ : ∃ t : Int, t = (d0).tdiv g3 := ⟨_, rfl⟩
  rw [← hWc3] at tc3 v36
  simp only [← hWa3, ← hWb3, ← hWc3] at L3
  refine one_val (ph0 r0 r1 r2 r3 r4 r5 r6 r7 r8 r9 r10 r11 r12 r13 r14 r15 (Q := (· = _)) ⟨0, hct, ⟨by omega, by omega⟩, ?_⟩) w
  refine ⟨(((FloatKind.f64.nearest d0) : Nat) : Int), (((FloatKind.f64.nearest 0) : Nat) : Int), (((FloatKind.f64.nearest x01) : Nat) : Int), (((FloatKind.f64.nearest y01) : Nat) : Int), (((FloatKind.f64.nearest x02) : Nat) : Int), (((FloatKind.f64.nearest y02) : Nat) : Int), (((FloatKind.f64.nearest x03) : Nat) : Int), (((FloatKind.f64.nearest y03) : Nat) : Int), (((FloatKind.f64.nearest x01) : Nat) : Int), (((FloatKind.f64.nearest (0 - y01)) : Nat) : Int), (((FloatKind.f64.nearest d1) : Nat) : Int), (((FloatKind.f64.nearest 0) : Nat) : Int), (((FloatKind.f64.nearest x12) : Nat) : Int), (((FloatKind.f64.nearest y12) : Nat) : Int), (((FloatKind.f64.nearest x13) : Nat) : Int), (((FloatKind.f64.nearest y13) : Nat) : Int), (((FloatKind.f64.nearest x02) : Nat) : Int), (((FloatKind.f64.nearest (0 - y02)) : Nat) : Int), (((FloatKind.f64.nearest x12) : Nat) : Int), (((FloatKind.f64.nearest (0 - y12)) : Nat) : Int), (((FloatKind.f64.nearest d2) : Nat) : Int), (((FloatKind.f64.nearest 0) : Nat) : Int), (((FloatKind.f64.nearest x23) : Nat) : Int), (((FloatKind.f64.nearest y23) : Nat) : Int), (((FloatKind.f64.nearest x03) : Nat) : Int), (((FloatKind.f64.nearest (0 - y03)) : Nat) : Int), (((FloatKind.f64.nearest x13) : Nat) : Int), (((FloatKind.f64.nearest (0 - y13)) : Nat) : Int), (((FloatKind.f64.nearest x23) : Nat) : Int), (((FloatKind.f64.nearest (0 - y23)) : Nat) : Int), (((FloatKind.f64.nearest d3) : Nat) : Int), (((FloatKind.f64.nearest 0) : Nat) : Int), hK, ?_⟩
  refine ⟨d0, ⟨rpn' _, by omega⟩, ⟨by omega, by omega⟩, ?_⟩
  refine ⟨0, ⟨rpn' _, by omega⟩, ⟨by omega, by omega⟩, ?_⟩
  refine ⟨x01, ⟨rpn' _, by omega⟩, ⟨by omega, by omega⟩, ?_⟩
  refine ⟨y01, ⟨rpn' _, by omega⟩, ⟨by omega, by omega⟩, ?_⟩
  refine ⟨x02, ⟨rpn' _, by omega⟩, ⟨by omega, by omega⟩, ?_⟩
  refine ⟨y02, ⟨rpn' _, by omega⟩, ⟨by omega, by omega⟩, ?_⟩
  refine ⟨x03, ⟨rpn' _, by omega⟩, ⟨by omega, by omega⟩, ?_⟩
  refine ⟨y03, ⟨rpn' _, by omega⟩, ⟨by omega, by omega⟩, ?_⟩
  refine ⟨x01, ⟨rpn' _, by omega⟩, ⟨by omega, by omega⟩, ?_⟩
  refine ⟨(0 - y01), ⟨rpn' _, by omega⟩, ⟨by omega, by omega⟩, ?_⟩
  refine ⟨d1, ⟨rpn' _, by omega⟩, ⟨by omega, by omega⟩, ?_⟩
  refine ⟨0, ⟨rpn' _, by omega⟩, ⟨by omega, by omega⟩, ?_⟩
  refine ⟨x12, ⟨rpn' _, by omega⟩, ⟨by omega, by omega⟩, ?_⟩
  refine ⟨y12, ⟨rpn' _, by omega⟩, ⟨by omega, by omega⟩, ?_⟩
  refine ⟨x13, ⟨rpn' _, by omega⟩, ⟨by omega, by omega⟩, ?_⟩
  refine ⟨y13, ⟨rpn' _, by omega⟩, ⟨by omega, by omega⟩, ?_⟩
  refine ⟨x02, ⟨rpn' _, by omega⟩, ⟨by omega, by omega⟩, ?_⟩
  refine ⟨(0 - y02), ⟨rpn' _, by omega⟩, ⟨by omega, by omega⟩, ?_⟩
  refine ⟨x12, ⟨rpn' _, by omega⟩, ⟨by omega, by omega⟩, ?_⟩
  refine ⟨(0 - y12), ⟨rpn' _, by omega⟩, ⟨by omega, by omega⟩, ?_⟩
  refine ⟨d2, ⟨rpn' _, by omega⟩, ⟨by omega, by omega⟩, ?_⟩
  refine ⟨0, ⟨rpn' _, by omega⟩, ⟨by omega, by omega⟩, ?_⟩
  refine ⟨x23, ⟨rpn' _, by omega⟩, ⟨by omega, by omega⟩, ?_⟩
  refine ⟨y23, ⟨rpn' _, by omega⟩, ⟨by omega, by omega⟩, ?_⟩
  refine ⟨x03, ⟨rpn' _, by omega⟩, ⟨by omega, by omega⟩, ?_⟩
  refine ⟨(0 - y03), ⟨rpn' _, by omega⟩, ⟨by omega, by omega⟩, ?_⟩
  refine ⟨x13, ⟨rpn' _, by omega⟩, ⟨by omega, by omega⟩, ?_⟩
  refine ⟨(0 - y13), ⟨rpn' _, by omega⟩, ⟨by omega, by omega⟩, ?_⟩
  refine ⟨x23, ⟨rpn' _, by omega⟩, ⟨by omega, by omega⟩, ?_⟩
  refine ⟨(0 - y23), ⟨rpn' _, by omega⟩, ⟨by omega, by omega⟩, ?_⟩
  refine ⟨d3, ⟨rpn' _, by omega⟩, ⟨by omega, by omega⟩, ?_⟩
  refine ⟨0, ⟨rpn' _, by omega⟩, ⟨by omega, by omega⟩, ?_⟩
  refine ⟨((FloatKind.f64.nearest Wa1 : Nat) : Int), ((FloatKind.f64.nearest Wb1 : Nat) : Int), ((FloatKind.f64.nearest Wc1 : Nat) : Int), ((FloatKind.f64.nearest 0 : Nat) : Int), ((FloatKind.f64.nearest 0 : Nat) : Int), ((FloatKind.f64.nearest 0 : Nat) : Int), ((FloatKind.f64.nearest 0 : Nat) : Int), ((FloatKind.f64.nearest 0 : Nat) : Int), L1, ?_⟩
  refine ⟨Wa1, ⟨rpn' _, by omega⟩, ⟨by omega, by omega⟩, ?_⟩
  refine ⟨Wb1, ⟨rpn' _, by omega⟩, ⟨by omega, by omega⟩, ?_⟩
  refine ⟨Wc1, ⟨rpn' _, by omega⟩, ⟨by omega, by omega⟩, ?_⟩
  refine ⟨0, ⟨rpn' _, by omega⟩, ⟨by omega, by omega⟩, ?_⟩
  refine ⟨0, ⟨rpn' _, by omega⟩, ⟨by omega, by omega⟩, ?_⟩
  refine ⟨0, ⟨rpn' _, by omega⟩, ⟨by omega, by omega⟩, ?_⟩
  refine ⟨0, ⟨rpn' _, by omega⟩, ⟨by omega, by omega⟩, ?_⟩
  refine ⟨0, ⟨rpn' _, by omega⟩, ⟨by omega, by omega⟩, ?_⟩
  have q0 := zre (yi := y01) hn1 v10 v11 v12 hp.e2 (by omega)
  have q1 := zim (xi := x01) hn1 v10 v11 v12 hp.e3 (by omega)
  have q2 := zre (yi := 0) hn1 v10 v11 v12 hp.e10 (by omega)
  have q3 := zim (xi := d1) hn1 v10 v11 v12 hp.e11 (by omega)
  have q4 := zre (yi := (0 - y12)) hn1 v10 v11 v12 hp.e18 (by omega)
  have q5 := zim (xi := x12) hn1 v10 v11 v12 hp.e19 (by omega)
  have q6 := zre (yi := (0 - y13)) hn1 v10 v11 v12 hp.e26 (by omega)
  have q7 := zim (xi := x13) hn1 v10 v11 v12 hp.e27 (by omega)
  refine ⟨beq_iff_eq.mpr (by clear q1 q2 q3 q4 q5 q6 q7 hK hct L1 L2 L3; omega), ?_⟩
  refine ⟨beq_iff_eq.mpr (by clear q0 q2 q3 q4 q5 q6 q7 hK hct L1 L2 L3; omega), ?_⟩
  refine ⟨beq_iff_eq.mpr (by clear q0 q1 q3 q4 q5 q6 q7 hK hct L1 L2 L3; omega), ?_⟩
  refine ⟨beq_iff_eq.mpr (by clear q0 q1 q2 q4 q5 q6 q7 hK hct L1 L2 L3; omega), ?_⟩
  refine ⟨beq_iff_eq.mpr (by clear q0 q1 q2 q3 q5 q6 q7 hK hct L1 L2 L3; omega), ?_⟩
  refine ⟨beq_iff_eq.mpr (by clear q0 q1 q2 q3 q4 q6 q7 hK hct L1 L2 L3; omega), ?_⟩
  refine ⟨beq_iff_eq.mpr (by clear q0 q1 q2 q3 q4 q5 q7 hK hct L1 L2 L3; omega), ?_⟩
  refine ⟨beq_iff_eq.mpr (by clear q0 q1 q2 q3 q4 q5 q6 hK hct L1 L2 L3; omega), ?_⟩
  clear q0 q1 q2 q3 q4 q5 q6 q7
  refine ⟨((FloatKind.f64.nearest Wa2 : Nat) : Int), ((FloatKind.f64.nearest Wb2 : Nat) : Int), ((FloatKind.f64.nearest 0 : Nat) : Int), ((FloatKind.f64.nearest 0 : Nat) : Int), ((FloatKind.f64.nearest Wc2 : Nat) : Int), ((FloatKind.f64.nearest 0 : Nat) : Int), ((FloatKind.f64.nearest 0 : Nat) : Int), ((FloatKind.f64.nearest 0 : Nat) : Int), L2, ?_⟩
  refine ⟨Wa2, ⟨rpn' _, by omega⟩, ⟨by omega, by omega⟩, ?_⟩
  refine ⟨Wb2, ⟨rpn' _, by omega⟩, ⟨by omega, by omega⟩, ?_⟩
  refine ⟨0, ⟨rpn' _, by omega⟩, ⟨by omega, by omega⟩, ?_⟩
  refine ⟨0, ⟨rpn' _, by omega⟩, ⟨by omega, by omega⟩, ?_⟩
  refine ⟨Wc2, ⟨rpn' _, by omega⟩, ⟨by omega, by omega⟩, ?_⟩
  refine ⟨0, ⟨rpn' _, by omega⟩, ⟨by omega, by omega⟩, ?_⟩
  refine ⟨0, ⟨rpn' _, by omega⟩, ⟨by omega, by omega⟩, ?_⟩
  refine ⟨0, ⟨rpn' _, by omega⟩, ⟨by omega, by omega⟩, ?_⟩
  have q0 := zre (yi := y02) hn2 v20 v21 v24 hp.e4 (by omega)
  have q1 := zim (xi := x02) hn2 v20 v21 v24 hp.e5 (by omega)
  have q2 := zre (yi := y12) hn2 v20 v21 v24 hp.e12 (by omega)
  have q3 := zim (xi := x12) hn2 v20 v21 v24 hp.e13 (by omega)
  have q4 := zre (yi := 0) hn2 v20 v21 v24 hp.e20 (by omega)
  have q5 := zim (xi := d2) hn2 v20 v21 v24 hp.e21 (by omega)
  have q6 := zre (yi := (0 - y23)) hn2 v20 v21 v24 hp.e28 (by omega)
  have q7 := zim (xi := x23) hn2 v20 v21 v24 hp.e29 (by omega)
  refine ⟨beq_iff_eq.mpr (by clear q1 q2 q3 q4 q5 q6 q7 hK hct L1 L2 L3; omega), ?_⟩
  refine ⟨beq_iff_eq.mpr (by clear q0 q2 q3 q4 q5 q6 q7 hK hct L1 L2 L3; omega), ?_⟩
  refine ⟨beq_iff_eq.mpr (by clear q0 q1 q3 q4 q5 q6 q7 hK hct L1 L2 L3; omega), ?_⟩
  refine ⟨beq_iff_eq.mpr (by clear q0 q1 q2 q4 q5 q6 q7 hK hct L1 L2 L3; omega), ?_⟩
  refine ⟨beq_iff_eq.mpr (by clear q0 q1 q2 q3 q5 q6 q7 hK hct L1 L2 L3; omega), ?_⟩
  refine ⟨beq_iff_eq.mpr (by clear q0 q1 q2 q3 q4 q6 q7 hK hct L1 L2 L3; omega), ?_⟩
  refine ⟨beq_iff_eq.mpr (by clear q0 q1 q2 q3 q4 q5 q7 hK hct L1 L2 L3; omega), ?_⟩
  refine ⟨beq_iff_eq.mpr (by clear q0 q1 q2 q3 q4 q5 q6 hK hct L1 L2 L3; omega), ?_⟩
  clear q0 q1 q2 q3 q4 q5 q6 q7
  refine ⟨((FloatKind.f64.nearest Wa3 : Nat) : Int), ((FloatKind.f64.nearest Wb3 : Nat) : Int), ((FloatKind.f64.nearest 0 : Nat) : Int), ((FloatKind.f64.nearest 0 : Nat) : Int), ((FloatKind.f64.nearest 0 : Nat) : Int), ((FloatKind.f64.nearest 0 : Nat) : Int), ((FloatKind.f64.nearest Wc3 : Nat) : Int), ((FloatKind.f64.nearest 0 : Nat) : Int), L3, ?_⟩
  refine ⟨Wa3, ⟨rpn' _, by omega⟩, ⟨by omega, by omega⟩, ?_⟩
  refine ⟨Wb3, ⟨rpn' _, by omega⟩, ⟨by omega, by omega⟩, ?_⟩
  refine ⟨0, ⟨rpn' _, by omega⟩, ⟨by omega, by omega⟩, ?_⟩
  refine ⟨0, ⟨rpn' _, by omega⟩, ⟨by omega, by omega⟩, ?_⟩
  refine ⟨0, ⟨rpn' _, by omega⟩, ⟨by omega, by omega⟩, ?_⟩
  refine ⟨0, ⟨rpn' _, by omega⟩, ⟨by omega, by omega⟩, ?_⟩
  refine ⟨Wc3, ⟨rpn' _, by omega⟩, ⟨by omega, by omega⟩, ?_⟩
  refine ⟨0, ⟨rpn' _, by omega⟩, ⟨by omega, by omega⟩, ?_⟩
  have q0 := zre (yi := y03) hn3 v30 v31 v36 hp.e6 (by omega)
  have q1 := zim (xi := x03) hn3 v30 v31 v36 hp.e7 (by omega)
  have q2 := zre (yi := y13) hn3 v30 v31 v36 hp.e14 (by omega)
  have q3 := zim (xi := x13) hn3 v30 v31 v36 hp.e15 (by omega)
  have q4 := zre (yi := y23) hn3 v30 v31 v36 hp.e22 (by omega)
  have q5 := zim (xi := x23) hn3 v30 v31 v36 hp.e23 (by omega)
  have q6 := zre (yi := 0) hn3 v30 v31 v36 hp.e30 (by omega)
  have q7 := zim (xi := d3) hn3 v30 v31 v36 hp.e31 (by omega)
  refine ⟨beq_iff_eq.mpr (by clear q1 q2 q3 q4 q5 q6 q7 hK hct L1 L2 L3; omega), ?_⟩
  refine ⟨beq_iff_eq.mpr (by clear q0 q2 q3 q4 q5 q6 q7 hK hct L1 L2 L3; omega), ?_⟩
  refine ⟨beq_iff_eq.mpr (by clear q0 q1 q3 q4 q5 q6 q7 hK hct L1 L2 L3; omega), ?_⟩
  refine ⟨beq_iff_eq.mpr (by clear q0 q1 q2 q4 q5 q6 q7 hK hct L1 L2 L3; omega), ?_⟩
  refine ⟨beq_iff_eq.mpr (by clear q0 q1 q2 q3 q5 q6 q7 hK hct L1 L2 L3; omega), ?_⟩
  refine ⟨beq_iff_eq.mpr (by clear q0 q1 q2 q3 q4 q6 q7 hK hct L1 L2 L3; omega), ?_⟩
  refine ⟨beq_iff_eq.mpr (by clear q0 q1 q2 q3 q4 q5 q7 hK hct L1 L2 L3; omega), ?_⟩
  refine ⟨beq_iff_eq.mpr (by clear q0 q1 q2 q3 q4 q5 q6 hK hct L1 L2 L3; omega), ?_⟩
  clear q0 q1 q2 q3 q4 q5 q6 q7
  exact rfl
set_option maxHeartbeats 8000000 in
theorem phys_pure1 {m0 m1 m2 m3 m4 m5 m6 m7 m8 m9 m10 m11 m12 m13 m14 m15 d0 d1 d2 d3 x01 y01 x02 y02 x03 y03 x12 y12 x13 y13 x23 y23 : Int} (r0 : (-40) ≤ m0 ∧ m0 ≤ 40) (r1 : (-40) ≤ m1 ∧ m1 ≤ 40) (r2 : (-40) ≤ m2 ∧ m2 ≤ 40) (r3 : (-40) ≤ m3 ∧ m3 ≤ 40) (r4 : (-40) ≤ m4 ∧ m4 ≤ 40) (r5 : (-40) ≤ m5 ∧ m5 ≤ 40) (r6 : (-40) ≤ m6 ∧ m6 ≤ 40) (r7 : (-40) ≤ m7 ∧ m7 ≤ 40) (r8 : (-40) ≤ m8 ∧ m8 ≤ 40) (r9 : (-40) ≤ m9 ∧ m9 ≤ 40) (r10 : (-40) ≤ m10 ∧ m10 ≤ 40) (r11 : (-40) ≤ m11 ∧ m11 ≤ 40) (r12 : (-40) ≤ m12 ∧ m12 ≤ 40) (r13 : (-40) ≤ m13 ∧ m13 ≤ 40) (r14 : (-40) ≤ m14 ∧ m14 ≤ 40) (r15 : (-40) ≤ m15 ∧ m15 ≤ 40) (bd0 : -1000 ≤ d0 ∧ d0 ≤ 1000) (bd1 : -1000 ≤ d1 ∧ d1 ≤ 1000) (bd2 : -1000 ≤ d2 ∧ d2 ≤ 1000) (bd3 : -1000 ≤ d3 ∧ d3 ≤ 1000) (bx01 : -1000 ≤ x01 ∧ x01 ≤ 1000) (by01 : -1000 ≤ y01 ∧ y01 ≤ 1000) (bx02 : -1000 ≤ x02 ∧ x02 ≤ 1000) (by02 : -1000 ≤ y02 ∧ y02 ≤ 1000) (bx03 : -1000 ≤ x03 ∧ x03 ≤ 1000) (by03 : -1000 ≤ y03 ∧ y03 ≤ 1000) (bx12 : -1000 ≤ x12 ∧ x12 ≤ 1000) (by12 : -1000 ≤ y12 ∧ y12 ≤ 1000) (bx13 : -1000 ≤ x13 ∧ x13 ≤ 1000) (by13 : -1000 ≤ y13 ∧ y13 ≤ 1000) (bx23 : -1000 ≤ x23 ∧ x23 ≤ 1000) (by23 : -1000 ≤ y23 ∧ y23 ≤ 1000) (hct : (∀ w, Calls Try.prog 127 #[.agg #[.int .i64 m0, .int .i64 m1, .int .i64 m2, .int .i64 m3, .int .i64 m4, .int .i64 m5, .int .i64 m6, .int .i64 m7, .int .i64 m8, .int .i64 m9, .int .i64 m10, .int .i64 m11, .int .i64 m12, .int .i64 m13, .int .i64 m14, .int .i64 m15]] w fun e w' => e = .returned (.int .i64 0) ∧ Below w.heap.size w w')) (hK : (∀ w, Calls Try.prog 120 #[.agg #[.int .i64 m0, .int .i64 m1, .int .i64 m2, .int .i64 m3, .int .i64 m4, .int .i64 m5, .int .i64 m6, .int .i64 m7, .int .i64 m8, .int .i64 m9, .int .i64 m10, .int .i64 m11, .int .i64 m12, .int .i64 m13, .int .i64 m14, .int .i64 m15]] w fun e w' => e = .returned (.agg #[.complex .f64 (FloatKind.f64.nearest d0) (FloatKind.f64.nearest 0), .complex .f64 (FloatKind.f64.nearest x01) (FloatKind.f64.nearest y01), .complex .f64 (FloatKind.f64.nearest x02) (FloatKind.f64.nearest y02), .complex .f64 (FloatKind.f64.nearest x03) (FloatKind.f64.nearest y03), .complex .f64 (FloatKind.f64.nearest x01) (FloatKind.f64.nearest (0 - y01)), .complex .f64 (FloatKind.f64.nearest d1) (FloatKind.f64.nearest 0), .complex .f64 (FloatKind.f64.nearest x12) (FloatKind.f64.nearest y12), .complex .f64 (FloatKind.f64.nearest x13) (FloatKind.f64.nearest y13), .complex .f64 (FloatKind.f64.nearest x02) (FloatKind.f64.nearest (0 - y02)), .complex .f64 (FloatKind.f64.nearest x12) (FloatKind.f64.nearest (0 - y12)), .complex .f64 (FloatKind.f64.nearest d2) (FloatKind.f64.nearest 0), .complex .f64 (FloatKind.f64.nearest x23) (FloatKind.f64.nearest y23), .complex .f64 (FloatKind.f64.nearest x03) (FloatKind.f64.nearest (0 - y03)), .complex .f64 (FloatKind.f64.nearest x13) (FloatKind.f64.nearest (0 - y13)), .complex .f64 (FloatKind.f64.nearest x23) (FloatKind.f64.nearest (0 - y23)), .complex .f64 (FloatKind.f64.nearest d3) (FloatKind.f64.nearest 0)]) ∧ Below w.heap.size w w')) (zd0 : d0 = 0) (zx01 : x01 = 0) (zy01 : y01 = 0) (zx02 : x02 = 0) (zy02 : y02 = 0) (zx03 : x03 = 0) (zy03 : y03 = 0) (hp : Pure1 d0 d1 d2 d3 x01 y01 x02 y02 x03 y03 x12 y12 x13 y13 x23 y23) (w : World) : Calls Try.prog 67 #[.agg #[.int .i64 m0, .int .i64 m1, .int .i64 m2, .int .i64 m3, .int .i64 m4, .int .i64 m5, .int .i64 m6, .int .i64 m7, .int .i64 m8, .int .i64 m9, .int .i64 m10, .int .i64 m11, .int .i64 m12, .int .i64 m13, .int .i64 m14, .int .i64 m15]] w fun e w' => e = .returned (.tuple #[.bool true, .int .i64 0]) ∧ Below w.heap.size w w' := by
  have hpos := hp.pos
  obtain ⟨g2, hg2⟩ : ∃ g : Int, g = ((Int.gcd ((Int.gcd ((Int.gcd ((Int.gcd ((Int.gcd ((Int.gcd ((Int.gcd ((Int.gcd 0 (0 : Int) : Nat) : Int) (0 : Int) : Nat) : Int) (0 - x12) : Nat) : Int) (0 - (0 - (0 - y12))) : Nat) : Int) d1 : Nat) : Int) (0 : Int) : Nat) : Int) (0 : Int) : Nat) : Int) (0 : Int) : Nat) : Int) := ⟨_, rfl⟩
  obtain ⟨v20, v21, v22, v23, v24, v25, v26, v27⟩ := dvd_all' hg2
  have hn2 : g2 ≠ 0 := by intro h; rw [h, Int.zero_mul] at v24; omega
  have L2 := fun w => low_r (zz1 (show -1000 ≤ d1 ∧ d1 ≤ 1000 by omega) (show -1000 ≤ x12 ∧ x12 ≤ 1000 by omega) (show -1000 ≤ (0 - y12) ∧ (0 - y12) ≤ 1000 by omega)) (rpn' _) (zz2 (show -1000 ≤ d1 ∧ d1 ≤ 1000 by omega) (show -1000 ≤ x12 ∧ x12 ≤ 1000 by omega) (show -1000 ≤ (0 - y12) ∧ (0 - y12) ≤ 1000 by omega)) (rpn' _) (rpn' _) (rpn' _) (zz1 (show -1000 ≤ d1 ∧ d1 ≤ 1000 by omega) (show -1000 ≤ x12 ∧ x12 ≤ 1000 by omega) (show -1000 ≤ (0 - y12) ∧ (0 - y12) ≤ 1000 by omega)) (rpn' _) (g := g2) ⟨by omega, by omega⟩ ⟨by omega, by omega⟩ ⟨by omega, by omega⟩ ⟨by omega, by omega⟩ ⟨by omega, by omega⟩ ⟨by omega, by omega⟩ ⟨by omega, by omega⟩ ⟨by omega, by omega⟩ hg2 hn2 w
  simp only [Int.zero_tdiv] at L2
  have ta2 := tdiv_bd (g := g2) (a := (0 - x12)) (M := 1000) ⟨by omega, by omega⟩
  obtain ⟨Wa2, hWa2⟩ : ∃ t : Int, t = ((0 - x12)).tdiv g2 := ⟨_, rfl⟩
  rw [← hWa2] at ta2 v22
  have tb2 := tdiv_bd (g := g2) (a := (0 - (0 - (0 - y12)))) (M := 1000) ⟨by omega, by omega⟩
  obtain ⟨Wb2, hWb2⟩ : ∃ t : Int, t = ((0 - (0 - (0 - y12)))).tdiv g2 := ⟨_, rfl⟩
  rw [← hWb2] at tb2 v23
  have tc2 := tdiv_bd (g := g2) (a := d1) (M := 1000) ⟨by omega, by omega⟩
  obtain ⟨Wc2, hWc2⟩ : ∃ t : Int, t = (d1).tdiv g2 := ⟨_, rfl⟩
  rw [← hWc2] at tc2 v24
  simp only [← hWa2, ← hWb2, ← hWc2] at L2
  obtain ⟨g3, hg3⟩ : ∃ g : Int, g = ((Int.gcd ((Int.gcd ((Int.gcd ((Int.gcd ((Int.gcd ((Int.gcd ((Int.gcd ((Int.gcd 0 (0 : Int) : Nat) : Int) (0 : Int) : Nat) : Int) (0 - x13) : Nat) : Int) (0 - (0 - (0 - y13))) : Nat) : Int) (0 : Int) : Nat) : Int) (0 : Int) : Nat) : Int) d1 : Nat) : Int) (0 : Int) : Nat) : Int) := ⟨_, rfl⟩
  obtain ⟨v30, v31, v32, v33, v34, v35, v36, v37⟩ := dvd_all' hg3
  have hn3 : g3 ≠ 0 := by intro h; rw [h, Int.zero_mul] at v36; omega
  have L3 := fun w => low_r (zz1 (show -1000 ≤ d1 ∧ d1 ≤ 1000 by omega) (show -1000 ≤ x13 ∧ x13 ≤ 1000 by omega) (show -1000 ≤ (0 - y13) ∧ (0 - y13) ≤ 1000 by omega)) (rpn' _) (zz2 (show -1000 ≤ d1 ∧ d1 ≤ 1000 by omega) (show -1000 ≤ x13 ∧ x13 ≤ 1000 by omega) (show -1000 ≤ (0 - y13) ∧ (0 - y13) ≤ 1000 by omega)) (rpn' _) (zz1 (show -1000 ≤ d1 ∧ d1 ≤ 1000 by omega) (show -1000 ≤ x13 ∧ x13 ≤ 1000 by omega) (show -1000 ≤ (0 - y13) ∧ (0 - y13) ≤ 1000 by omega)) (rpn' _) (rpn' _) (rpn' _) (g := g3) ⟨by omega, by omega⟩ ⟨by omega, by omega⟩ ⟨by omega, by omega⟩ ⟨by omega, by omega⟩ ⟨by omega, by omega⟩ ⟨by omega, by omega⟩ ⟨by omega, by omega⟩ ⟨by omega, by omega⟩ hg3 hn3 w
  simp only [Int.zero_tdiv] at L3
  have ta3 := tdiv_bd (g := g3) (a := (0 - x13)) (M := 1000) ⟨by omega, by omega⟩
  obtain ⟨Wa3, hWa3⟩ : ∃ t : Int, t = ((0 - x13)).tdiv g3 := ⟨_, rfl⟩
  rw [← hWa3] at ta3 v32
  have tb3 := tdiv_bd (g := g3) (a := (0 - (0 - (0 - y13)))) (M := 1000) ⟨by omega, by omega⟩
  obtain ⟨Wb3, hWb3⟩ : ∃ t : Int, t = ((0 - (0 - (0 - y13)))).tdiv g3 := ⟨_, rfl⟩
  rw [← hWb3] at tb3 v33
  have tc3 := tdiv_bd (g := g3) (a := d1) (M := 1000) ⟨by omega, by omega⟩
  obtain ⟨Wc3, hWc3⟩ : ∃ t : Int, t = (d1).tdiv g3 := ⟨_, rfl⟩
  rw [← hWc3] at tc3 v36
  simp only [← hWa3, ← hWb3, ← hWc3] at L3
  refine one_val (ph1 r0 r1 r2 r3 r4 r5 r6 r7 r8 r9 r10 r11 r12 r13 r14 r15 (Q := (· = _)) ⟨0, hct, ⟨by omega, by omega⟩, ?_⟩) w
  refine ⟨(((FloatKind.f64.nearest d0) : Nat) : Int), (((FloatKind.f64.nearest 0) : Nat) : Int), (((FloatKind.f64.nearest x01) : Nat) : Int), (((FloatKind.f64.nearest y01) : Nat) : Int), (((FloatKind.f64.nearest x02) : Nat) : Int), (((FloatKind.f64.nearest y02) : Nat) : Int), (((FloatKind.f64.nearest x03) : Nat) : Int), (((FloatKind.f64.nearest y03) : Nat) : Int), (((FloatKind.f64.nearest x01) : Nat) : Int), (((FloatKind.f64.nearest (0 - y01)) : Nat) : Int), (((FloatKind.f64.nearest d1) : Nat) : Int), (((FloatKind.f64.nearest 0) : Nat) : Int), (((FloatKind.f64.nearest x12) : Nat) : Int), (((FloatKind.f64.nearest y12) : Nat) : Int), (((FloatKind.f64.nearest x13) : Nat) : Int), (((FloatKind.f64.nearest y13) : Nat) : Int), (((FloatKind.f64.nearest x02) : Nat) : Int), (((FloatKind.f64.nearest (0 - y02)) : Nat) : Int), (((FloatKind.f64.nearest x12) : Nat) : Int), (((FloatKind.f64.nearest (0 - y12)) : Nat) : Int), (((FloatKind.f64.nearest d2) : Nat) : Int), (((FloatKind.f64.nearest 0) : Nat) : Int), (((FloatKind.f64.nearest x23) : Nat) : Int), (((FloatKind.f64.nearest y23) : Nat) : Int), (((FloatKind.f64.nearest x03) : Nat) : Int), (((FloatKind.f64.nearest (0 - y03)) : Nat) : Int), (((FloatKind.f64.nearest x13) : Nat) : Int), (((FloatKind.f64.nearest (0 - y13)) : Nat) : Int), (((FloatKind.f64.nearest x23) : Nat) : Int), (((FloatKind.f64.nearest (0 - y23)) : Nat) : Int), (((FloatKind.f64.nearest d3) : Nat) : Int), (((FloatKind.f64.nearest 0) : Nat) : Int), hK, ?_⟩
  refine ⟨d0, ⟨rpn' _, by omega⟩, ⟨by omega, by omega⟩, ?_⟩
  refine ⟨0, ⟨rpn' _, by omega⟩, ⟨by omega, by omega⟩, ?_⟩
  refine ⟨x01, ⟨rpn' _, by omega⟩, ⟨by omega, by omega⟩, ?_⟩
  refine ⟨y01, ⟨rpn' _, by omega⟩, ⟨by omega, by omega⟩, ?_⟩
  refine ⟨x02, ⟨rpn' _, by omega⟩, ⟨by omega, by omega⟩, ?_⟩
  refine ⟨y02, ⟨rpn' _, by omega⟩, ⟨by omega, by omega⟩, ?_⟩
  refine ⟨x03, ⟨rpn' _, by omega⟩, ⟨by omega, by omega⟩, ?_⟩
  refine ⟨y03, ⟨rpn' _, by omega⟩, ⟨by omega, by omega⟩, ?_⟩
  refine ⟨x01, ⟨rpn' _, by omega⟩, ⟨by omega, by omega⟩, ?_⟩
  refine ⟨(0 - y01), ⟨rpn' _, by omega⟩, ⟨by omega, by omega⟩, ?_⟩
  refine ⟨d1, ⟨rpn' _, by omega⟩, ⟨by omega, by omega⟩, ?_⟩
  refine ⟨0, ⟨rpn' _, by omega⟩, ⟨by omega, by omega⟩, ?_⟩
  refine ⟨x12, ⟨rpn' _, by omega⟩, ⟨by omega, by omega⟩, ?_⟩
  refine ⟨y12, ⟨rpn' _, by omega⟩, ⟨by omega, by omega⟩, ?_⟩
  refine ⟨x13, ⟨rpn' _, by omega⟩, ⟨by omega, by omega⟩, ?_⟩
  refine ⟨y13, ⟨rpn' _, by omega⟩, ⟨by omega, by omega⟩, ?_⟩
  refine ⟨x02, ⟨rpn' _, by omega⟩, ⟨by omega, by omega⟩, ?_⟩
  refine ⟨(0 - y02), ⟨rpn' _, by omega⟩, ⟨by omega, by omega⟩, ?_⟩
  refine ⟨x12, ⟨rpn' _, by omega⟩, ⟨by omega, by omega⟩, ?_⟩
  refine ⟨(0 - y12), ⟨rpn' _, by omega⟩, ⟨by omega, by omega⟩, ?_⟩
  refine ⟨d2, ⟨rpn' _, by omega⟩, ⟨by omega, by omega⟩, ?_⟩
  refine ⟨0, ⟨rpn' _, by omega⟩, ⟨by omega, by omega⟩, ?_⟩
  refine ⟨x23, ⟨rpn' _, by omega⟩, ⟨by omega, by omega⟩, ?_⟩
  refine ⟨y23, ⟨rpn' _, by omega⟩, ⟨by omega, by omega⟩, ?_⟩
  refine ⟨x03, ⟨rpn' _, by omega⟩, ⟨by omega, by omega⟩, ?_⟩
  refine ⟨(0 - y03), ⟨rpn' _, by omega⟩, ⟨by omega, by omega⟩, ?_⟩
  refine ⟨x13, ⟨rpn' _, by omega⟩, ⟨by omega, by omega⟩, ?_⟩
  refine ⟨(0 - y13), ⟨rpn' _, by omega⟩, ⟨by omega, by omega⟩, ?_⟩
  refine ⟨x23, ⟨rpn' _, by omega⟩, ⟨by omega, by omega⟩, ?_⟩
  refine ⟨(0 - y23), ⟨rpn' _, by omega⟩, ⟨by omega, by omega⟩, ?_⟩
  refine ⟨d3, ⟨rpn' _, by omega⟩, ⟨by omega, by omega⟩, ?_⟩
  refine ⟨0, ⟨rpn' _, by omega⟩, ⟨by omega, by omega⟩, ?_⟩
  refine ⟨((FloatKind.f64.nearest 0 : Nat) : Int), ((FloatKind.f64.nearest 0 : Nat) : Int), ((FloatKind.f64.nearest Wa2 : Nat) : Int), ((FloatKind.f64.nearest Wb2 : Nat) : Int), ((FloatKind.f64.nearest Wc2 : Nat) : Int), ((FloatKind.f64.nearest 0 : Nat) : Int), ((FloatKind.f64.nearest 0 : Nat) : Int), ((FloatKind.f64.nearest 0 : Nat) : Int), L2, ?_⟩
  refine ⟨0, ⟨rpn' _, by omega⟩, ⟨by omega, by omega⟩, ?_⟩
  refine ⟨0, ⟨rpn' _, by omega⟩, ⟨by omega, by omega⟩, ?_⟩
  refine ⟨Wa2, ⟨rpn' _, by omega⟩, ⟨by omega, by omega⟩, ?_⟩
  refine ⟨Wb2, ⟨rpn' _, by omega⟩, ⟨by omega, by omega⟩, ?_⟩
  refine ⟨Wc2, ⟨rpn' _, by omega⟩, ⟨by omega, by omega⟩, ?_⟩
  refine ⟨0, ⟨rpn' _, by omega⟩, ⟨by omega, by omega⟩, ?_⟩
  refine ⟨0, ⟨rpn' _, by omega⟩, ⟨by omega, by omega⟩, ?_⟩
  refine ⟨0, ⟨rpn' _, by omega⟩, ⟨by omega, by omega⟩, ?_⟩
  have q0 := zre (yi := y02) hn2 v22 v23 v24 hp.e4 (by omega)
  have q1 := zim (xi := x02) hn2 v22 v23 v24 hp.e5 (by omega)
  have q2 := zre (yi := y12) hn2 v22 v23 v24 hp.e12 (by omega)
  have q3 := zim (xi := x12) hn2 v22 v23 v24 hp.e13 (by omega)
  have q4 := zre (yi := 0) hn2 v22 v23 v24 hp.e20 (by omega)
  have q5 := zim (xi := d2) hn2 v22 v23 v24 hp.e21 (by omega)
  have q6 := zre (yi := (0 - y23)) hn2 v22 v23 v24 hp.e28 (by omega)
  have q7 := zim (xi := x23) hn2 v22 v23 v24 hp.e29 (by omega)
  refine ⟨beq_iff_eq.mpr (by clear q0 q1 q3 q4 q5 q6 q7 hK hct L2 L3; omega), ?_⟩
  refine ⟨beq_iff_eq.mpr (by clear q0 q1 q2 q4 q5 q6 q7 hK hct L2 L3; omega), ?_⟩
  refine ⟨beq_iff_eq.mpr (by clear q0 q1 q2 q3 q5 q6 q7 hK hct L2 L3; omega), ?_⟩
  refine ⟨beq_iff_eq.mpr (by clear q0 q1 q2 q3 q4 q6 q7 hK hct L2 L3; omega), ?_⟩
  refine ⟨beq_iff_eq.mpr (by clear q0 q1 q2 q3 q4 q5 q7 hK hct L2 L3; omega), ?_⟩
  refine ⟨beq_iff_eq.mpr (by clear q0 q1 q2 q3 q4 q5 q6 hK hct L2 L3; omega), ?_⟩
  clear q0 q1 q2 q3 q4 q5 q6 q7
  refine ⟨((FloatKind.f64.nearest 0 : Nat) : Int), ((FloatKind.f64.nearest 0 : Nat) : Int), ((FloatKind.f64.nearest Wa3 : Nat) : Int), ((FloatKind.f64.nearest Wb3 : Nat) : Int), ((FloatKind.f64.nearest 0 : Nat) : Int), ((FloatKind.f64.nearest 0 : Nat) : Int), ((FloatKind.f64.nearest Wc3 : Nat) : Int), ((FloatKind.f64.nearest 0 : Nat) : Int), L3, ?_⟩
  refine ⟨0, ⟨rpn' _, by omega⟩, ⟨by omega, by omega⟩, ?_⟩
  refine ⟨0, ⟨rpn' _, by omega⟩, ⟨by omega, by omega⟩, ?_⟩
  refine ⟨Wa3, ⟨rpn' _, by omega⟩, ⟨by omega, by omega⟩, ?_⟩
  refine ⟨Wb3, ⟨rpn' _, by omega⟩, ⟨by omega, by omega⟩, ?_⟩
  refine ⟨0, ⟨rpn' _, by omega⟩, ⟨by omega, by omega⟩, ?_⟩
  refine ⟨0, ⟨rpn' _, by omega⟩, ⟨by omega, by omega⟩, ?_⟩
  refine ⟨Wc3, ⟨rpn' _, by omega⟩, ⟨by omega, by omega⟩, ?_⟩
  refine ⟨0, ⟨rpn' _, by omega⟩, ⟨by omega, by omega⟩, ?_⟩
  have q0 := zre (yi := y03) hn3 v32 v33 v36 hp.e6 (by omega)
  have q1 := zim (xi := x03) hn3 v32 v33 v36 hp.e7 (by omega)
  have q2 := zre (yi := y13) hn3 v32 v33 v36 hp.e14 (by omega)
  have q3 := zim (xi := x13) hn3 v32 v33 v36 hp.e15 (by omega)
  have q4 := zre (yi := y23) hn3 v32 v33 v36 hp.e22 (by omega)
  have q5 := zim (xi := x23) hn3 v32 v33 v36 hp.e23 (by omega)
  have q6 := zre (yi := 0) hn3 v32 v33 v36 hp.e30 (by omega)
  have q7 := zim (xi := d3) hn3 v32 v33 v36 hp.e31 (by omega)
  refine ⟨beq_iff_eq.mpr (by clear q0 q1 q3 q4 q5 q6 q7 hK hct L2 L3; omega), ?_⟩
  refine ⟨beq_iff_eq.mpr (by clear q0 q1 q2 q4 q5 q6 q7 hK hct L2 L3; omega), ?_⟩
  refine ⟨beq_iff_eq.mpr (by clear q0 q1 q2 q3 q5 q6 q7 hK hct L2 L3; omega), ?_⟩
  refine ⟨beq_iff_eq.mpr (by clear q0 q1 q2 q3 q4 q6 q7 hK hct L2 L3; omega), ?_⟩
  refine ⟨beq_iff_eq.mpr (by clear q0 q1 q2 q3 q4 q5 q7 hK hct L2 L3; omega), ?_⟩
  refine ⟨beq_iff_eq.mpr (by clear q0 q1 q2 q3 q4 q5 q6 hK hct L2 L3; omega), ?_⟩
  clear q0 q1 q2 q3 q4 q5 q6 q7
  exact rfl
set_option maxHeartbeats 8000000 in
theorem phys_pure2 {m0 m1 m2 m3 m4 m5 m6 m7 m8 m9 m10 m11 m12 m13 m14 m15 d0 d1 d2 d3 x01 y01 x02 y02 x03 y03 x12 y12 x13 y13 x23 y23 : Int} (r0 : (-40) ≤ m0 ∧ m0 ≤ 40) (r1 : (-40) ≤ m1 ∧ m1 ≤ 40) (r2 : (-40) ≤ m2 ∧ m2 ≤ 40) (r3 : (-40) ≤ m3 ∧ m3 ≤ 40) (r4 : (-40) ≤ m4 ∧ m4 ≤ 40) (r5 : (-40) ≤ m5 ∧ m5 ≤ 40) (r6 : (-40) ≤ m6 ∧ m6 ≤ 40) (r7 : (-40) ≤ m7 ∧ m7 ≤ 40) (r8 : (-40) ≤ m8 ∧ m8 ≤ 40) (r9 : (-40) ≤ m9 ∧ m9 ≤ 40) (r10 : (-40) ≤ m10 ∧ m10 ≤ 40) (r11 : (-40) ≤ m11 ∧ m11 ≤ 40) (r12 : (-40) ≤ m12 ∧ m12 ≤ 40) (r13 : (-40) ≤ m13 ∧ m13 ≤ 40) (r14 : (-40) ≤ m14 ∧ m14 ≤ 40) (r15 : (-40) ≤ m15 ∧ m15 ≤ 40) (bd0 : -1000 ≤ d0 ∧ d0 ≤ 1000) (bd1 : -1000 ≤ d1 ∧ d1 ≤ 1000) (bd2 : -1000 ≤ d2 ∧ d2 ≤ 1000) (bd3 : -1000 ≤ d3 ∧ d3 ≤ 1000) (bx01 : -1000 ≤ x01 ∧ x01 ≤ 1000) (by01 : -1000 ≤ y01 ∧ y01 ≤ 1000) (bx02 : -1000 ≤ x02 ∧ x02 ≤ 1000) (by02 : -1000 ≤ y02 ∧ y02 ≤ 1000) (bx03 : -1000 ≤ x03 ∧ x03 ≤ 1000) (by03 : -1000 ≤ y03 ∧ y03 ≤ 1000) (bx12 : -1000 ≤ x12 ∧ x12 ≤ 1000) (by12 : -1000 ≤ y12 ∧ y12 ≤ 1000) (bx13 : -1000 ≤ x13 ∧ x13 ≤ 1000) (by13 : -1000 ≤ y13 ∧ y13 ≤ 1000) (bx23 : -1000 ≤ x23 ∧ x23 ≤ 1000) (by23 : -1000 ≤ y23 ∧ y23 ≤ 1000) (hct : (∀ w, Calls Try.prog 127 #[.agg #[.int .i64 m0, .int .i64 m1, .int .i64 m2, .int .i64 m3, .int .i64 m4, .int .i64 m5, .int .i64 m6, .int .i64 m7, .int .i64 m8, .int .i64 m9, .int .i64 m10, .int .i64 m11, .int .i64 m12, .int .i64 m13, .int .i64 m14, .int .i64 m15]] w fun e w' => e = .returned (.int .i64 0) ∧ Below w.heap.size w w')) (hK : (∀ w, Calls Try.prog 120 #[.agg #[.int .i64 m0, .int .i64 m1, .int .i64 m2, .int .i64 m3, .int .i64 m4, .int .i64 m5, .int .i64 m6, .int .i64 m7, .int .i64 m8, .int .i64 m9, .int .i64 m10, .int .i64 m11, .int .i64 m12, .int .i64 m13, .int .i64 m14, .int .i64 m15]] w fun e w' => e = .returned (.agg #[.complex .f64 (FloatKind.f64.nearest d0) (FloatKind.f64.nearest 0), .complex .f64 (FloatKind.f64.nearest x01) (FloatKind.f64.nearest y01), .complex .f64 (FloatKind.f64.nearest x02) (FloatKind.f64.nearest y02), .complex .f64 (FloatKind.f64.nearest x03) (FloatKind.f64.nearest y03), .complex .f64 (FloatKind.f64.nearest x01) (FloatKind.f64.nearest (0 - y01)), .complex .f64 (FloatKind.f64.nearest d1) (FloatKind.f64.nearest 0), .complex .f64 (FloatKind.f64.nearest x12) (FloatKind.f64.nearest y12), .complex .f64 (FloatKind.f64.nearest x13) (FloatKind.f64.nearest y13), .complex .f64 (FloatKind.f64.nearest x02) (FloatKind.f64.nearest (0 - y02)), .complex .f64 (FloatKind.f64.nearest x12) (FloatKind.f64.nearest (0 - y12)), .complex .f64 (FloatKind.f64.nearest d2) (FloatKind.f64.nearest 0), .complex .f64 (FloatKind.f64.nearest x23) (FloatKind.f64.nearest y23), .complex .f64 (FloatKind.f64.nearest x03) (FloatKind.f64.nearest (0 - y03)), .complex .f64 (FloatKind.f64.nearest x13) (FloatKind.f64.nearest (0 - y13)), .complex .f64 (FloatKind.f64.nearest x23) (FloatKind.f64.nearest (0 - y23)), .complex .f64 (FloatKind.f64.nearest d3) (FloatKind.f64.nearest 0)]) ∧ Below w.heap.size w w')) (zd0 : d0 = 0) (zd1 : d1 = 0) (zx01 : x01 = 0) (zy01 : y01 = 0) (zx02 : x02 = 0) (zy02 : y02 = 0) (zx03 : x03 = 0) (zy03 : y03 = 0) (zx12 : x12 = 0) (zy12 : y12 = 0) (zx13 : x13 = 0) (zy13 : y13 = 0) (hp : Pure2 d0 d1 d2 d3 x01 y01 x02 y02 x03 y03 x12 y12 x13 y13 x23 y23) (w : World) : Calls Try.prog 67 #[.agg #[.int .i64 m0, .int .i64 m1, .int .i64 m2, .int .i64 m3, .int .i64 m4, .int .i64 m5, .int .i64 m6, .int .i64 m7, .int .i64 m8, .int .i64 m9, .int .i64 m10, .int .i64 m11, .int .i64 m12, .int .i64 m13, .int .i64 m14, .int .i64 m15]] w fun e w' => e = .returned (.tuple #[.bool true, .int .i64 0]) ∧ Below w.heap.size w w' := by
  have hpos := hp.pos
  obtain ⟨g3, hg3⟩ : ∃ g : Int, g = ((Int.gcd ((Int.gcd ((Int.gcd ((Int.gcd ((Int.gcd ((Int.gcd ((Int.gcd ((Int.gcd 0 (0 : Int) : Nat) : Int) (0 : Int) : Nat) : Int) (0 : Int) : Nat) : Int) (0 : Int) : Nat) : Int) (0 - x23) : Nat) : Int) (0 - (0 - (0 - y23))) : Nat) : Int) d2 : Nat) : Int) (0 : Int) : Nat) : Int) := ⟨_, rfl⟩
  obtain ⟨v30, v31, v32, v33, v34, v35, v36, v37⟩ := dvd_all' hg3
  have hn3 : g3 ≠ 0 := by intro h; rw [h, Int.zero_mul] at v36; omega
  have L3 := fun w => low_r (zz1 (show -1000 ≤ d2 ∧ d2 ≤ 1000 by omega) (show -1000 ≤ x23 ∧ x23 ≤ 1000 by omega) (show -1000 ≤ (0 - y23) ∧ (0 - y23) ≤ 1000 by omega)) (rpn' _) (zz1 (show -1000 ≤ d2 ∧ d2 ≤ 1000 by omega) (show -1000 ≤ x23 ∧ x23 ≤ 1000 by omega) (show -1000 ≤ (0 - y23) ∧ (0 - y23) ≤ 1000 by omega)) (rpn' _) (zz2 (show -1000 ≤ d2 ∧ d2 ≤ 1000 by omega) (show -1000 ≤ x23 ∧ x23 ≤ 1000 by omega) (show -1000 ≤ (0 - y23) ∧ (0 - y23) ≤ 1000 by omega)) (rpn' _) (rpn' _) (rpn' _) (g := g3) ⟨by omega, by omega⟩ ⟨by omega, by omega⟩ ⟨by omega, by omega⟩ ⟨by omega, by omega⟩ ⟨by omega, by omega⟩ ⟨by omega, by omega⟩ ⟨by omega, by omega⟩ ⟨by omega, by omega⟩ hg3 hn3 w
  simp only [Int.zero_tdiv] at L3
  have ta3 := tdiv_bd (g := g3) (a := (0 - x23)) (M := 1000) ⟨by omega, by omega⟩
  obtain ⟨Wa3, hWa3⟩ : ∃ t : Int, t = ((0 - x23)).tdiv g3 := ⟨_, rfl⟩
  rw [← hWa3] at ta3 v34
  have tb3 := tdiv_bd (g := g3) (a := (0 - (0 - (0 - y23)))) (M := 1000) ⟨by omega, by omega⟩
  obtain ⟨Wb3, hWb3⟩ : ∃ t : Int, t = ((0 - (0 - (0 - y23)))).tdiv g3 := ⟨_, rfl⟩
  rw [← hWb3] at tb3 v35
  have tc3 := tdiv_bd (g := g3) (a := d2) (M := 1000) ⟨by omega, by omega⟩
  obtain ⟨Wc3, hWc3⟩ : ∃ t : Int, t = (d2).tdiv g3 := ⟨_, rfl⟩
  rw [← hWc3] at tc3 v36
  simp only [← hWa3, ← hWb3, ← hWc3] at L3
  refine one_val (ph2 r0 r1 r2 r3 r4 r5 r6 r7 r8 r9 r10 r11 r12 r13 r14 r15 (Q := (· = _)) ⟨0, hct, ⟨by omega, by omega⟩, ?_⟩) w
  refine ⟨(((FloatKind.f64.nearest d0) : Nat) : Int), (((FloatKind.f64.nearest 0) : Nat) : Int), (((FloatKind.f64.nearest x01) : Nat) : Int), (((FloatKind.f64.nearest y01) : Nat) : Int), (((FloatKind.f64.nearest x02) : Nat) : Int), (((FloatKind.f64.nearest y02) : Nat) : Int), (((FloatKind.f64.nearest x03) : Nat) : Int), (((FloatKind.f64.nearest y03) : Nat) : Int), (((FloatKind.f64.nearest x01) : Nat) : Int), (((FloatKind.f64.nearest (0 - y01)) : Nat) : Int), (((FloatKind.f64.nearest d1) : Nat) : Int), (((FloatKind.f64.nearest 0) : Nat) : Int), (((FloatKind.f64.nearest x12) : Nat) : Int), (((FloatKind.f64.nearest y12) : Nat) : Int), (((FloatKind.f64.nearest x13) : Nat) : Int), (((FloatKind.f64.nearest y13) : Nat) : Int), (((FloatKind.f64.nearest x02) : Nat) : Int), (((FloatKind.f64.nearest (0 - y02)) : Nat) : Int), (((FloatKind.f64.nearest x12) : Nat) : Int), (((FloatKind.f64.nearest (0 - y12)) : Nat) : Int), (((FloatKind.f64.nearest d2) : Nat) : Int), (((FloatKind.f64.nearest 0) : Nat) : Int), (((FloatKind.f64.nearest x23) : Nat) : Int), (((FloatKind.f64.nearest y23) : Nat) : Int), (((FloatKind.f64.nearest x03) : Nat) : Int), (((FloatKind.f64.nearest (0 - y03)) : Nat) : Int), (((FloatKind.f64.nearest x13) : Nat) : Int), (((FloatKind.f64.nearest (0 - y13)) : Nat) : Int), (((FloatKind.f64.nearest x23) : Nat) : Int), (((FloatKind.f64.nearest (0 - y23)) : Nat) : Int), (((FloatKind.f64.nearest d3) : Nat) : Int), (((FloatKind.f64.nearest 0) : Nat) : Int), hK, ?_⟩
  refine ⟨d0, ⟨rpn' _, by omega⟩, ⟨by omega, by omega⟩, ?_⟩
  refine ⟨0, ⟨rpn' _, by omega⟩, ⟨by omega, by omega⟩, ?_⟩
  refine ⟨x01, ⟨rpn' _, by omega⟩, ⟨by omega, by omega⟩, ?_⟩
  refine ⟨y01, ⟨rpn' _, by omega⟩, ⟨by omega, by omega⟩, ?_⟩
  refine ⟨x02, ⟨rpn' _, by omega⟩, ⟨by omega, by omega⟩, ?_⟩
  refine ⟨y02, ⟨rpn' _, by omega⟩, ⟨by omega, by omega⟩, ?_⟩
  refine ⟨x03, ⟨rpn' _, by omega⟩, ⟨by omega, by omega⟩, ?_⟩
  refine ⟨y03, ⟨rpn' _, by omega⟩, ⟨by omega, by omega⟩, ?_⟩
  refine ⟨x01, ⟨rpn' _, by omega⟩, ⟨by omega, by omega⟩, ?_⟩
  refine ⟨(0 - y01), ⟨rpn' _, by omega⟩, ⟨by omega, by omega⟩, ?_⟩
  refine ⟨d1, ⟨rpn' _, by omega⟩, ⟨by omega, by omega⟩, ?_⟩
  refine ⟨0, ⟨rpn' _, by omega⟩, ⟨by omega, by omega⟩, ?_⟩
  refine ⟨x12, ⟨rpn' _, by omega⟩, ⟨by omega, by omega⟩, ?_⟩
  refine ⟨y12, ⟨rpn' _, by omega⟩, ⟨by omega, by omega⟩, ?_⟩
  refine ⟨x13, ⟨rpn' _, by omega⟩, ⟨by omega, by omega⟩, ?_⟩
  refine ⟨y13, ⟨rpn' _, by omega⟩, ⟨by omega, by omega⟩, ?_⟩
  refine ⟨x02, ⟨rpn' _, by omega⟩, ⟨by omega, by omega⟩, ?_⟩
  refine ⟨(0 - y02), ⟨rpn' _, by omega⟩, ⟨by omega, by omega⟩, ?_⟩
  refine ⟨x12, ⟨rpn' _, by omega⟩, ⟨by omega, by omega⟩, ?_⟩
  refine ⟨(0 - y12), ⟨rpn' _, by omega⟩, ⟨by omega, by omega⟩, ?_⟩
  refine ⟨d2, ⟨rpn' _, by omega⟩, ⟨by omega, by omega⟩, ?_⟩
  refine ⟨0, ⟨rpn' _, by omega⟩, ⟨by omega, by omega⟩, ?_⟩
  refine ⟨x23, ⟨rpn' _, by omega⟩, ⟨by omega, by omega⟩, ?_⟩
  refine ⟨y23, ⟨rpn' _, by omega⟩, ⟨by omega, by omega⟩, ?_⟩
  refine ⟨x03, ⟨rpn' _, by omega⟩, ⟨by omega, by omega⟩, ?_⟩
  refine ⟨(0 - y03), ⟨rpn' _, by omega⟩, ⟨by omega, by omega⟩, ?_⟩
  refine ⟨x13, ⟨rpn' _, by omega⟩, ⟨by omega, by omega⟩, ?_⟩
  refine ⟨(0 - y13), ⟨rpn' _, by omega⟩, ⟨by omega, by omega⟩, ?_⟩
  refine ⟨x23, ⟨rpn' _, by omega⟩, ⟨by omega, by omega⟩, ?_⟩
  refine ⟨(0 - y23), ⟨rpn' _, by omega⟩, ⟨by omega, by omega⟩, ?_⟩
  refine ⟨d3, ⟨rpn' _, by omega⟩, ⟨by omega, by omega⟩, ?_⟩
  refine ⟨0, ⟨rpn' _, by omega⟩, ⟨by omega, by omega⟩, ?_⟩
  refine ⟨((FloatKind.f64.nearest 0 : Nat) : Int), ((FloatKind.f64.nearest 0 : Nat) : Int), ((FloatKind.f64.nearest 0 : Nat) : Int), ((FloatKind.f64.nearest 0 : Nat) : Int), ((FloatKind.f64.nearest Wa3 : Nat) : Int), ((FloatKind.f64.nearest Wb3 : Nat) : Int), ((FloatKind.f64.nearest Wc3 : Nat) : Int), ((FloatKind.f64.nearest 0 : Nat) : Int), L3, ?_⟩
  refine ⟨0, ⟨rpn' _, by omega⟩, ⟨by omega, by omega⟩, ?_⟩
  refine ⟨0, ⟨rpn' _, by omega⟩, ⟨by omega, by omega⟩, ?_⟩
  refine ⟨0, ⟨rpn' _, by omega⟩, ⟨by omega, by omega⟩, ?_⟩
  refine ⟨0, ⟨rpn' _, by omega⟩, ⟨by omega, by omega⟩, ?_⟩
  refine ⟨Wa3, ⟨rpn' _, by omega⟩, ⟨by omega, by omega⟩, ?_⟩
  refine ⟨Wb3, ⟨rpn' _, by omega⟩, ⟨by omega, by omega⟩, ?_⟩
  refine ⟨Wc3, ⟨rpn' _, by omega⟩, ⟨by omega, by omega⟩, ?_⟩
  refine ⟨0, ⟨rpn' _, by omega⟩, ⟨by omega, by omega⟩, ?_⟩
  have q0 := zre (yi := y03) hn3 v34 v35 v36 hp.e6 (by omega)
  have q1 := zim (xi := x03) hn3 v34 v35 v36 hp.e7 (by omega)
  have q2 := zre (yi := y13) hn3 v34 v35 v36 hp.e14 (by omega)
  have q3 := zim (xi := x13) hn3 v34 v35 v36 hp.e15 (by omega)
  have q4 := zre (yi := y23) hn3 v34 v35 v36 hp.e22 (by omega)
  have q5 := zim (xi := x23) hn3 v34 v35 v36 hp.e23 (by omega)
  have q6 := zre (yi := 0) hn3 v34 v35 v36 hp.e30 (by omega)
  have q7 := zim (xi := d3) hn3 v34 v35 v36 hp.e31 (by omega)
  refine ⟨beq_iff_eq.mpr (by clear q0 q1 q2 q3 q5 q6 q7 hK hct L3; omega), ?_⟩
  refine ⟨beq_iff_eq.mpr (by clear q0 q1 q2 q3 q4 q6 q7 hK hct L3; omega), ?_⟩
  refine ⟨beq_iff_eq.mpr (by clear q0 q1 q2 q3 q4 q5 q7 hK hct L3; omega), ?_⟩
  refine ⟨beq_iff_eq.mpr (by clear q0 q1 q2 q3 q4 q5 q6 hK hct L3; omega), ?_⟩
  clear q0 q1 q2 q3 q4 q5 q6 q7
  exact rfl
set_option maxHeartbeats 8000000 in
theorem phys_pure3 {m0 m1 m2 m3 m4 m5 m6 m7 m8 m9 m10 m11 m12 m13 m14 m15 d0 d1 d2 d3 x01 y01 x02 y02 x03 y03 x12 y12 x13 y13 x23 y23 : Int} (r0 : (-40) ≤ m0 ∧ m0 ≤ 40) (r1 : (-40) ≤ m1 ∧ m1 ≤ 40) (r2 : (-40) ≤ m2 ∧ m2 ≤ 40) (r3 : (-40) ≤ m3 ∧ m3 ≤ 40) (r4 : (-40) ≤ m4 ∧ m4 ≤ 40) (r5 : (-40) ≤ m5 ∧ m5 ≤ 40) (r6 : (-40) ≤ m6 ∧ m6 ≤ 40) (r7 : (-40) ≤ m7 ∧ m7 ≤ 40) (r8 : (-40) ≤ m8 ∧ m8 ≤ 40) (r9 : (-40) ≤ m9 ∧ m9 ≤ 40) (r10 : (-40) ≤ m10 ∧ m10 ≤ 40) (r11 : (-40) ≤ m11 ∧ m11 ≤ 40) (r12 : (-40) ≤ m12 ∧ m12 ≤ 40) (r13 : (-40) ≤ m13 ∧ m13 ≤ 40) (r14 : (-40) ≤ m14 ∧ m14 ≤ 40) (r15 : (-40) ≤ m15 ∧ m15 ≤ 40) (bd0 : -1000 ≤ d0 ∧ d0 ≤ 1000) (bd1 : -1000 ≤ d1 ∧ d1 ≤ 1000) (bd2 : -1000 ≤ d2 ∧ d2 ≤ 1000) (bd3 : -1000 ≤ d3 ∧ d3 ≤ 1000) (bx01 : -1000 ≤ x01 ∧ x01 ≤ 1000) (by01 : -1000 ≤ y01 ∧ y01 ≤ 1000) (bx02 : -1000 ≤ x02 ∧ x02 ≤ 1000) (by02 : -1000 ≤ y02 ∧ y02 ≤ 1000) (bx03 : -1000 ≤ x03 ∧ x03 ≤ 1000) (by03 : -1000 ≤ y03 ∧ y03 ≤ 1000) (bx12 : -1000 ≤ x12 ∧ x12 ≤ 1000) (by12 : -1000 ≤ y12 ∧ y12 ≤ 1000) (bx13 : -1000 ≤ x13 ∧ x13 ≤ 1000) (by13 : -1000 ≤ y13 ∧ y13 ≤ 1000) (bx23 : -1000 ≤ x23 ∧ x23 ≤ 1000) (by23 : -1000 ≤ y23 ∧ y23 ≤ 1000) (hct : (∀ w, Calls Try.prog 127 #[.agg #[.int .i64 m0, .int .i64 m1, .int .i64 m2, .int .i64 m3, .int .i64 m4, .int .i64 m5, .int .i64 m6, .int .i64 m7, .int .i64 m8, .int .i64 m9, .int .i64 m10, .int .i64 m11, .int .i64 m12, .int .i64 m13, .int .i64 m14, .int .i64 m15]] w fun e w' => e = .returned (.int .i64 0) ∧ Below w.heap.size w w')) (hK : (∀ w, Calls Try.prog 120 #[.agg #[.int .i64 m0, .int .i64 m1, .int .i64 m2, .int .i64 m3, .int .i64 m4, .int .i64 m5, .int .i64 m6, .int .i64 m7, .int .i64 m8, .int .i64 m9, .int .i64 m10, .int .i64 m11, .int .i64 m12, .int .i64 m13, .int .i64 m14, .int .i64 m15]] w fun e w' => e = .returned (.agg #[.complex .f64 (FloatKind.f64.nearest d0) (FloatKind.f64.nearest 0), .complex .f64 (FloatKind.f64.nearest x01) (FloatKind.f64.nearest y01), .complex .f64 (FloatKind.f64.nearest x02) (FloatKind.f64.nearest y02), .complex .f64 (FloatKind.f64.nearest x03) (FloatKind.f64.nearest y03), .complex .f64 (FloatKind.f64.nearest x01) (FloatKind.f64.nearest (0 - y01)), .complex .f64 (FloatKind.f64.nearest d1) (FloatKind.f64.nearest 0), .complex .f64 (FloatKind.f64.nearest x12) (FloatKind.f64.nearest y12), .complex .f64 (FloatKind.f64.nearest x13) (FloatKind.f64.nearest y13), .complex .f64 (FloatKind.f64.nearest x02) (FloatKind.f64.nearest (0 - y02)), .complex .f64 (FloatKind.f64.nearest x12) (FloatKind.f64.nearest (0 - y12)), .complex .f64 (FloatKind.f64.nearest d2) (FloatKind.f64.nearest 0), .complex .f64 (FloatKind.f64.nearest x23) (FloatKind.f64.nearest y23), .complex .f64 (FloatKind.f64.nearest x03) (FloatKind.f64.nearest (0 - y03)), .complex .f64 (FloatKind.f64.nearest x13) (FloatKind.f64.nearest (0 - y13)), .complex .f64 (FloatKind.f64.nearest x23) (FloatKind.f64.nearest (0 - y23)), .complex .f64 (FloatKind.f64.nearest d3) (FloatKind.f64.nearest 0)]) ∧ Below w.heap.size w w')) (zd0 : d0 = 0) (zd1 : d1 = 0) (zd2 : d2 = 0) (zx01 : x01 = 0) (zy01 : y01 = 0) (zx02 : x02 = 0) (zy02 : y02 = 0) (zx03 : x03 = 0) (zy03 : y03 = 0) (zx12 : x12 = 0) (zy12 : y12 = 0) (zx13 : x13 = 0) (zy13 : y13 = 0) (zx23 : x23 = 0) (zy23 : y23 = 0) (hp : Pure3 d0 d1 d2 d3 x01 y01 x02 y02 x03 y03 x12 y12 x13 y13 x23 y23) (w : World) : Calls Try.prog 67 #[.agg #[.int .i64 m0, .int .i64 m1, .int .i64 m2, .int .i64 m3, .int .i64 m4, .int .i64 m5, .int .i64 m6, .int .i64 m7, .int .i64 m8, .int .i64 m9, .int .i64 m10, .int .i64 m11, .int .i64 m12, .int .i64 m13, .int .i64 m14, .int .i64 m15]] w fun e w' => e = .returned (.tuple #[.bool true, .int .i64 0]) ∧ Below w.heap.size w w' := by
  have hpos := hp.pos
  refine one_val (ph3 r0 r1 r2 r3 r4 r5 r6 r7 r8 r9 r10 r11 r12 r13 r14 r15 (Q := (· = _)) ⟨0, hct, ⟨by omega, by omega⟩, ?_⟩) w
  refine ⟨(((FloatKind.f64.nearest d0) : Nat) : Int), (((FloatKind.f64.nearest 0) : Nat) : Int), (((FloatKind.f64.nearest x01) : Nat) : Int), (((FloatKind.f64.nearest y01) : Nat) : Int), (((FloatKind.f64.nearest x02) : Nat) : Int), (((FloatKind.f64.nearest y02) : Nat) : Int), (((FloatKind.f64.nearest x03) : Nat) : Int), (((FloatKind.f64.nearest y03) : Nat) : Int), (((FloatKind.f64.nearest x01) : Nat) : Int), (((FloatKind.f64.nearest (0 - y01)) : Nat) : Int), (((FloatKind.f64.nearest d1) : Nat) : Int), (((FloatKind.f64.nearest 0) : Nat) : Int), (((FloatKind.f64.nearest x12) : Nat) : Int), (((FloatKind.f64.nearest y12) : Nat) : Int), (((FloatKind.f64.nearest x13) : Nat) : Int), (((FloatKind.f64.nearest y13) : Nat) : Int), (((FloatKind.f64.nearest x02) : Nat) : Int), (((FloatKind.f64.nearest (0 - y02)) : Nat) : Int), (((FloatKind.f64.nearest x12) : Nat) : Int), (((FloatKind.f64.nearest (0 - y12)) : Nat) : Int), (((FloatKind.f64.nearest d2) : Nat) : Int), (((FloatKind.f64.nearest 0) : Nat) : Int), (((FloatKind.f64.nearest x23) : Nat) : Int), (((FloatKind.f64.nearest y23) : Nat) : Int), (((FloatKind.f64.nearest x03) : Nat) : Int), (((FloatKind.f64.nearest (0 - y03)) : Nat) : Int), (((FloatKind.f64.nearest x13) : Nat) : Int), (((FloatKind.f64.nearest (0 - y13)) : Nat) : Int), (((FloatKind.f64.nearest x23) : Nat) : Int), (((FloatKind.f64.nearest (0 - y23)) : Nat) : Int), (((FloatKind.f64.nearest d3) : Nat) : Int), (((FloatKind.f64.nearest 0) : Nat) : Int), hK, ?_⟩
  refine ⟨d0, ⟨rpn' _, by omega⟩, ⟨by omega, by omega⟩, ?_⟩
  refine ⟨0, ⟨rpn' _, by omega⟩, ⟨by omega, by omega⟩, ?_⟩
  refine ⟨x01, ⟨rpn' _, by omega⟩, ⟨by omega, by omega⟩, ?_⟩
  refine ⟨y01, ⟨rpn' _, by omega⟩, ⟨by omega, by omega⟩, ?_⟩
  refine ⟨x02, ⟨rpn' _, by omega⟩, ⟨by omega, by omega⟩, ?_⟩
  refine ⟨y02, ⟨rpn' _, by omega⟩, ⟨by omega, by omega⟩, ?_⟩
  refine ⟨x03, ⟨rpn' _, by omega⟩, ⟨by omega, by omega⟩, ?_⟩
  refine ⟨y03, ⟨rpn' _, by omega⟩, ⟨by omega, by omega⟩, ?_⟩
  refine ⟨x01, ⟨rpn' _, by omega⟩, ⟨by omega, by omega⟩, ?_⟩
  refine ⟨(0 - y01), ⟨rpn' _, by omega⟩, ⟨by omega, by omega⟩, ?_⟩
  refine ⟨d1, ⟨rpn' _, by omega⟩, ⟨by omega, by omega⟩, ?_⟩
  refine ⟨0, ⟨rpn' _, by omega⟩, ⟨by omega, by omega⟩, ?_⟩
  refine ⟨x12, ⟨rpn' _, by omega⟩, ⟨by omega, by omega⟩, ?_⟩
  refine ⟨y12, ⟨rpn' _, by omega⟩, ⟨by omega, by omega⟩, ?_⟩
  refine ⟨x13, ⟨rpn' _, by omega⟩, ⟨by omega, by omega⟩, ?_⟩
  refine ⟨y13, ⟨rpn' _, by omega⟩, ⟨by omega, by omega⟩, ?_⟩
  refine ⟨x02, ⟨rpn' _, by omega⟩, ⟨by omega, by omega⟩, ?_⟩
  refine ⟨(0 - y02), ⟨rpn' _, by omega⟩, ⟨by omega, by omega⟩, ?_⟩
  refine ⟨x12, ⟨rpn' _, by omega⟩, ⟨by omega, by omega⟩, ?_⟩
  refine ⟨(0 - y12), ⟨rpn' _, by omega⟩, ⟨by omega, by omega⟩, ?_⟩
  refine ⟨d2, ⟨rpn' _, by omega⟩, ⟨by omega, by omega⟩, ?_⟩
  refine ⟨0, ⟨rpn' _, by omega⟩, ⟨by omega, by omega⟩, ?_⟩
  refine ⟨x23, ⟨rpn' _, by omega⟩, ⟨by omega, by omega⟩, ?_⟩
  refine ⟨y23, ⟨rpn' _, by omega⟩, ⟨by omega, by omega⟩, ?_⟩
  refine ⟨x03, ⟨rpn' _, by omega⟩, ⟨by omega, by omega⟩, ?_⟩
  refine ⟨(0 - y03), ⟨rpn' _, by omega⟩, ⟨by omega, by omega⟩, ?_⟩
  refine ⟨x13, ⟨rpn' _, by omega⟩, ⟨by omega, by omega⟩, ?_⟩
  refine ⟨(0 - y13), ⟨rpn' _, by omega⟩, ⟨by omega, by omega⟩, ?_⟩
  refine ⟨x23, ⟨rpn' _, by omega⟩, ⟨by omega, by omega⟩, ?_⟩
  refine ⟨(0 - y23), ⟨rpn' _, by omega⟩, ⟨by omega, by omega⟩, ?_⟩
  refine ⟨d3, ⟨rpn' _, by omega⟩, ⟨by omega, by omega⟩, ?_⟩
  refine ⟨0, ⟨rpn' _, by omega⟩, ⟨by omega, by omega⟩, ?_⟩
  exact rfl
end Go.Proofs.Ytipcoahafdolcaa.Ev
