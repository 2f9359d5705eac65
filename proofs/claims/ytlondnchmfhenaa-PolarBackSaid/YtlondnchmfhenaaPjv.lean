/- PolarBack: the reference's JonesOf, as it runs. -/
import Derived.Test.YtlondnchmfhenaaPju
import Derived.Test.YtlondnchmfhenaaPjr
namespace Go.Proofs.Ytlondnchmfhenaa.Ev
set_option linter.unusedSimpArgs false
set_option linter.unusedVariables false
open Go Go.RowKit
set_option maxRecDepth 100000
set_option maxHeartbeats 16000000 in
theorem rj_pure0 {m0 m1 m2 m3 m4 m5 m6 m7 m8 m9 m10 m11 m12 m13 m14 m15 d0 d1 d2 d3 x01 y01 x02 y02 x03 y03 x12 y12 x13 y13 x23 y23 c g : Int} {z0 z1 z2 z3 z4 z5 z6 z7 : Nat} (r0 : (-1000000000) ≤ m0 ∧ m0 ≤ 1000000000) (r1 : (-1000000000) ≤ m1 ∧ m1 ≤ 1000000000) (r2 : (-1000000000) ≤ m2 ∧ m2 ≤ 1000000000) (r3 : (-1000000000) ≤ m3 ∧ m3 ≤ 1000000000) (r4 : (-1000000000) ≤ m4 ∧ m4 ≤ 1000000000) (r5 : (-1000000000) ≤ m5 ∧ m5 ≤ 1000000000) (r6 : (-1000000000) ≤ m6 ∧ m6 ≤ 1000000000) (r7 : (-1000000000) ≤ m7 ∧ m7 ≤ 1000000000) (r8 : (-1000000000) ≤ m8 ∧ m8 ≤ 1000000000) (r9 : (-1000000000) ≤ m9 ∧ m9 ≤ 1000000000) (r10 : (-1000000000) ≤ m10 ∧ m10 ≤ 1000000000) (r11 : (-1000000000) ≤ m11 ∧ m11 ≤ 1000000000) (r12 : (-1000000000) ≤ m12 ∧ m12 ≤ 1000000000) (r13 : (-1000000000) ≤ m13 ∧ m13 ≤ 1000000000) (r14 : (-1000000000) ≤ m14 ∧ m14 ≤ 1000000000) (r15 : (-1000000000) ≤ m15 ∧ m15 ≤ 1000000000) (bd0 : (-40000000) ≤ d0 ∧ d0 ≤ 40000000) (bd1 : (-40000000) ≤ d1 ∧ d1 ≤ 40000000) (bd2 : (-40000000) ≤ d2 ∧ d2 ≤ 40000000) (bd3 : (-40000000) ≤ d3 ∧ d3 ≤ 40000000) (bx01 : (-40000000) ≤ x01 ∧ x01 ≤ 40000000) (by01 : (-40000000) ≤ y01 ∧ y01 ≤ 40000000) (bx02 : (-40000000) ≤ x02 ∧ x02 ≤ 40000000) (by02 : (-40000000) ≤ y02 ∧ y02 ≤ 40000000) (bx03 : (-40000000) ≤ x03 ∧ x03 ≤ 40000000) (by03 : (-40000000) ≤ y03 ∧ y03 ≤ 40000000) (bx12 : (-40000000) ≤ x12 ∧ x12 ≤ 40000000) (by12 : (-40000000) ≤ y12 ∧ y12 ≤ 40000000) (bx13 : (-40000000) ≤ x13 ∧ x13 ≤ 40000000) (by13 : (-40000000) ≤ y13 ∧ y13 ≤ 40000000) (bx23 : (-40000000) ≤ x23 ∧ x23 ≤ 40000000) (by23 : (-40000000) ≤ y23 ∧ y23 ≤ 40000000) (hb : (∀ w, Calls Try.prog 123 #[.agg #[.int .i64 m0, .int .i64 m1, .int .i64 m2, .int .i64 m3, .int .i64 m4, .int .i64 m5, .int .i64 m6, .int .i64 m7, .int .i64 m8, .int .i64 m9, .int .i64 m10, .int .i64 m11, .int .i64 m12, .int .i64 m13, .int .i64 m14, .int .i64 m15], .int .i64 10000000] w fun e w' => e = .returned (.bool false) ∧ Below w.heap.size w w')) (hK : (∀ w, Calls Try.prog 70 #[.agg #[.int .i64 m0, .int .i64 m1, .int .i64 m2, .int .i64 m3, .int .i64 m4, .int .i64 m5, .int .i64 m6, .int .i64 m7, .int .i64 m8, .int .i64 m9, .int .i64 m10, .int .i64 m11, .int .i64 m12, .int .i64 m13, .int .i64 m14, .int .i64 m15]] w fun e w' => e = .returned (.agg #[.int .i64 d0, .int .i64 0, .int .i64 x01, .int .i64 y01, .int .i64 x02, .int .i64 y02, .int .i64 x03, .int .i64 y03, .int .i64 x01, .int .i64 (0 - y01), .int .i64 d1, .int .i64 0, .int .i64 x12, .int .i64 y12, .int .i64 x13, .int .i64 y13, .int .i64 x02, .int .i64 (0 - y02), .int .i64 x12, .int .i64 (0 - y12), .int .i64 d2, .int .i64 0, .int .i64 x23, .int .i64 y23, .int .i64 x03, .int .i64 (0 - y03), .int .i64 x13, .int .i64 (0 - y13), .int .i64 x23, .int .i64 (0 - y23), .int .i64 d3, .int .i64 0]) ∧ Below w.heap.size w w')) (hp : Pure0 d0 d1 d2 d3 x01 y01 x02 y02 x03 y03 x12 y12 x13 y13 x23 y23) (hg : g = ((Int.gcd ((Int.gcd ((Int.gcd ((Int.gcd ((Int.gcd ((Int.gcd ((Int.gcd ((Int.gcd 0 d0 : Nat) : Int) 0 : Nat) : Int) x01 : Nat) : Int) (0 - y01) : Nat) : Int) x02 : Nat) : Int) (0 - y02) : Nat) : Int) x03 : Nat) : Int) (0 - y03) : Nat) : Int)) (hg0 : g ≠ 0) (hm : (∀ w, Calls Try.prog 34 #[.agg #[.int .i64 (d0.tdiv g), .int .i64 ((0 : Int).tdiv g), .int .i64 (x01.tdiv g), .int .i64 ((0 - y01).tdiv g), .int .i64 (x02.tdiv g), .int .i64 ((0 - y02).tdiv g), .int .i64 (x03.tdiv g), .int .i64 ((0 - y03).tdiv g)]] w fun e w' => e = .returned (.tuple #[.agg #[.complex .f64 z0 z1, .complex .f64 z2 z3, .complex .f64 z4 z5, .complex .f64 z6 z7], .int .i64 c]) ∧ Below w.heap.size w w')) (w : World) : Calls Try.prog 65 #[.agg #[.int .i64 m0, .int .i64 m1, .int .i64 m2, .int .i64 m3, .int .i64 m4, .int .i64 m5, .int .i64 m6, .int .i64 m7, .int .i64 m8, .int .i64 m9, .int .i64 m10, .int .i64 m11, .int .i64 m12, .int .i64 m13, .int .i64 m14, .int .i64 m15]] w fun e w' => e = .returned (.tuple #[.agg #[.complex .f64 z0 z1, .complex .f64 z2 z3, .complex .f64 z4 z5, .complex .f64 z6 z7], .int .i64 c]) ∧ Below w.heap.size w w' := by
  have hpos := hp.pos
  obtain ⟨g1, e1⟩ : ∃ g : Nat, g = Int.gcd 0 d0 := ⟨_, rfl⟩
  have bg1 : ((g1 : Nat) : Int) ≤ 40000000 := by rw [e1]; exact gcd_bd (by omega) (by omega)
  have c1 : (∀ w, Calls Try.prog 136 #[.int .i64 0, .int .i64 d0] w fun e w' => e = .returned (.int .i64 ((g1 : Nat) : Int)) ∧ Below w.heap.size w w') := fun w => e1 ▸ base_gcd (by omega) (by omega) w
  obtain ⟨g2, e2⟩ : ∃ g : Nat, g = Int.gcd ((g1 : Nat) : Int) 0 := ⟨_, rfl⟩
  have bg2 : ((g2 : Nat) : Int) ≤ 40000000 := by rw [e2]; exact gcd_bd (by omega) (by omega)
  have c2 : (∀ w, Calls Try.prog 136 #[.int .i64 ((g1 : Nat) : Int), .int .i64 0] w fun e w' => e = .returned (.int .i64 ((g2 : Nat) : Int)) ∧ Below w.heap.size w w') := fun w => e2 ▸ base_gcd (by omega) (by omega) w
  obtain ⟨g3, e3⟩ : ∃ g : Nat, g = Int.gcd ((g2 : Nat) : Int) x01 := ⟨_, rfl⟩
  have bg3 : ((g3 : Nat) : Int) ≤ 40000000 := by rw [e3]; exact gcd_bd (by omega) (by omega)
  have c3 : (∀ w, Calls Try.prog 136 #[.int .i64 ((g2 : Nat) : Int), .int .i64 x01] w fun e w' => e = .returned (.int .i64 ((g3 : Nat) : Int)) ∧ Below w.heap.size w w') := fun w => e3 ▸ base_gcd (by omega) (by omega) w
  obtain ⟨g4, e4⟩ : ∃ g : Nat, g = Int.gcd ((g3 : Nat) : Int) (0 - y01) := ⟨_, rfl⟩
  have bg4 : ((g4 : Nat) : Int) ≤ 40000000 := by rw [e4]; exact gcd_bd (by omega) (by omega)
  have c4 : (∀ w, Calls Try.prog 136 #[.int .i64 ((g3 : Nat) : Int), .int .i64 (0 - y01)] w fun e w' => e = .returned (.int .i64 ((g4 : Nat) : Int)) ∧ Below w.heap.size w w') := fun w => e4 ▸ base_gcd (by omega) (by omega) w
  obtain ⟨g5, e5⟩ : ∃ g : Nat, g = Int.gcd ((g4 : Nat) : Int) x02 := ⟨_, rfl⟩
  have bg5 : ((g5 : Nat) : Int) ≤ 40000000 := by rw [e5]; exact gcd_bd (by omega) (by omega)
  have c5 : (∀ w, Calls Try.prog 136 #[.int .i64 ((g4 : Nat) : Int), .int .i64 x02] w fun e w' => e = .returned (.int .i64 ((g5 : Nat) : Int)) ∧ Below w.heap.size w w') := fun w => e5 ▸ base_gcd (by omega) (by omega) w
  obtain ⟨g6, e6⟩ : ∃ g : Nat, g = Int.gcd ((g5 : Nat) : Int) (0 - y02) := ⟨_, rfl⟩
  have bg6 : ((g6 : Nat) : Int) ≤ 40000000 := by rw [e6]; exact gcd_bd (by omega) (by omega)
  have c6 : (∀ w, Calls Try.prog 136 #[.int .i64 ((g5 : Nat) : Int), .int .i64 (0 - y02)] w fun e w' => e = .returned (.int .i64 ((g6 : Nat) : Int)) ∧ Below w.heap.size w w') := fun w => e6 ▸ base_gcd (by omega) (by omega) w
  obtain ⟨g7, e7⟩ : ∃ g : Nat, g = Int.gcd ((g6 : Nat) : Int) x03 := ⟨_, rfl⟩
  have bg7 : ((g7 : Nat) : Int) ≤ 40000000 := by rw [e7]; exact gcd_bd (by omega) (by omega)
  have c7 : (∀ w, Calls Try.prog 136 #[.int .i64 ((g6 : Nat) : Int), .int .i64 x03] w fun e w' => e = .returned (.int .i64 ((g7 : Nat) : Int)) ∧ Below w.heap.size w w') := fun w => e7 ▸ base_gcd (by omega) (by omega) w
  obtain ⟨g8, e8⟩ : ∃ g : Nat, g = Int.gcd ((g7 : Nat) : Int) (0 - y03) := ⟨_, rfl⟩
  have bg8 : ((g8 : Nat) : Int) ≤ 40000000 := by rw [e8]; exact gcd_bd (by omega) (by omega)
  have c8 : (∀ w, Calls Try.prog 136 #[.int .i64 ((g7 : Nat) : Int), .int .i64 (0 - y03)] w fun e w' => e = .returned (.int .i64 ((g8 : Nat) : Int)) ∧ Below w.heap.size w w') := fun w => e8 ▸ base_gcd (by omega) (by omega) w
  have hg' : g = ((g8 : Nat) : Int) := by rw [hg]; rw [← e1]; rw [← e2]; rw [← e3]; rw [← e4]; rw [← e5]; rw [← e6]; rw [← e7]; rw [← e8]
  have hw : ∀ a : Int, (-40000000 ≤ a ∧ a ≤ 40000000) → IntKind.i64.wrap (a.tdiv g) = a.tdiv g := fun a h => tdiv_w h
  refine one_val (rp0 r0 r1 r2 r3 r4 r5 r6 r7 r8 r9 r10 r11 r12 r13 r14 r15 (Q := (· = _)) ⟨false, hb, (fun h => by cases h), fun _ => ?_⟩) w
  refine ⟨d0, 0, x01, y01, x02, y02, x03, y03, x01, (0 - y01), d1, 0, x12, y12, x13, y13, x02, (0 - y02), x12, (0 - y12), d2, 0, x23, y23, x03, (0 - y03), x13, (0 - y13), x23, (0 - y23), d3, 0, hK, ⟨by omega, by omega⟩, ⟨by omega, by omega⟩, ⟨by omega, by omega⟩, ⟨by omega, by omega⟩, ⟨by omega, by omega⟩, ⟨by omega, by omega⟩, ⟨by omega, by omega⟩, ⟨by omega, by omega⟩, ⟨by omega, by omega⟩, ⟨by omega, by omega⟩, ⟨by omega, by omega⟩, ⟨by omega, by omega⟩, ⟨by omega, by omega⟩, ⟨by omega, by omega⟩, ⟨by omega, by omega⟩, ⟨by omega, by omega⟩, ⟨by omega, by omega⟩, ⟨by omega, by omega⟩, ⟨by omega, by omega⟩, ⟨by omega, by omega⟩, ⟨by omega, by omega⟩, ⟨by omega, by omega⟩, ⟨by omega, by omega⟩, ⟨by omega, by omega⟩, ⟨by omega, by omega⟩, ⟨by omega, by omega⟩, ⟨by omega, by omega⟩, ⟨by omega, by omega⟩, ⟨by omega, by omega⟩, ⟨by omega, by omega⟩, ⟨by omega, by omega⟩, ⟨by omega, by omega⟩, ?_⟩
  refine ⟨fun _ => ?_, fun h => absurd hp.e0 (beq_eq_false_iff_ne.mp h)⟩
  refine ⟨fun _ => ?_, fun h => absurd hp.e1 (beq_eq_false_iff_ne.mp h)⟩
  refine ⟨fun _ => ?_, fun h => absurd hp.e2 (beq_eq_false_iff_ne.mp h)⟩
  refine ⟨fun _ => ?_, fun h => absurd hp.e3 (beq_eq_false_iff_ne.mp h)⟩
  refine ⟨fun _ => ?_, fun h => absurd hp.e4 (beq_eq_false_iff_ne.mp h)⟩
  refine ⟨fun _ => ?_, fun h => absurd hp.e5 (beq_eq_false_iff_ne.mp h)⟩
  refine ⟨fun _ => ?_, fun h => absurd hp.e6 (beq_eq_false_iff_ne.mp h)⟩
  refine ⟨fun _ => ?_, fun h => absurd hp.e7 (beq_eq_false_iff_ne.mp h)⟩
  refine ⟨fun _ => ?_, fun h => absurd hp.e8 (beq_eq_false_iff_ne.mp h)⟩
  refine ⟨fun _ => ?_, fun h => absurd hp.e9 (beq_eq_false_iff_ne.mp h)⟩
  refine ⟨fun _ => ?_, fun h => absurd hp.e10 (beq_eq_false_iff_ne.mp h)⟩
  refine ⟨fun _ => ?_, fun h => absurd hp.e11 (beq_eq_false_iff_ne.mp h)⟩
  refine ⟨fun _ => ?_, fun h => absurd hp.e12 (beq_eq_false_iff_ne.mp h)⟩
  refine ⟨fun _ => ?_, fun h => absurd hp.e13 (beq_eq_false_iff_ne.mp h)⟩
  refine ⟨fun _ => ?_, fun h => absurd hp.e14 (beq_eq_false_iff_ne.mp h)⟩
  refine ⟨fun _ => ?_, fun h => absurd hp.e15 (beq_eq_false_iff_ne.mp h)⟩
  refine ⟨fun _ => ?_, fun h => absurd hp.e16 (beq_eq_false_iff_ne.mp h)⟩
  refine ⟨fun _ => ?_, fun h => absurd hp.e17 (beq_eq_false_iff_ne.mp h)⟩
  refine ⟨fun _ => ?_, fun h => absurd hp.e18 (beq_eq_false_iff_ne.mp h)⟩
  refine ⟨fun _ => ?_, fun h => absurd hp.e19 (beq_eq_false_iff_ne.mp h)⟩
  refine ⟨fun _ => ?_, fun h => absurd hp.e20 (beq_eq_false_iff_ne.mp h)⟩
  refine ⟨fun _ => ?_, fun h => absurd hp.e21 (beq_eq_false_iff_ne.mp h)⟩
  refine ⟨fun _ => ?_, fun h => absurd hp.e22 (beq_eq_false_iff_ne.mp h)⟩
  refine ⟨fun _ => ?_, fun h => absurd hp.e23 (beq_eq_false_iff_ne.mp h)⟩
  refine ⟨fun _ => ?_, fun h => absurd hp.e24 (beq_eq_false_iff_ne.mp h)⟩
  refine ⟨fun _ => ?_, fun h => absurd hp.e25 (beq_eq_false_iff_ne.mp h)⟩
  refine ⟨fun _ => ?_, fun h => absurd hp.e26 (beq_eq_false_iff_ne.mp h)⟩
  refine ⟨fun _ => ?_, fun h => absurd hp.e27 (beq_eq_false_iff_ne.mp h)⟩
  refine ⟨fun _ => ?_, fun h => absurd hp.e28 (beq_eq_false_iff_ne.mp h)⟩
  refine ⟨fun _ => ?_, fun h => absurd hp.e29 (beq_eq_false_iff_ne.mp h)⟩
  refine ⟨fun _ => ?_, fun h => absurd hp.e30 (beq_eq_false_iff_ne.mp h)⟩
  refine ⟨fun _ => ?_, fun h => absurd hp.e31 (beq_eq_false_iff_ne.mp h)⟩
  refine ⟨((g1 : Nat) : Int), c1, ((g2 : Nat) : Int), c2, ((g3 : Nat) : Int), c3, ((g4 : Nat) : Int), c4, ((g5 : Nat) : Int), c5, ((g6 : Nat) : Int), c6, ((g7 : Nat) : Int), c7, ((g8 : Nat) : Int), c8, fun h => by exfalso; have := beq0 h; omega, fun _ => ?_⟩
  simp only [← hg', hw (d0) (by omega), hw (0) (by omega), hw (x01) (by omega), hw ((0 - y01)) (by omega), hw (x02) (by omega), hw ((0 - y02)) (by omega), hw (x03) (by omega), hw ((0 - y03)) (by omega)]
  exact ⟨((z0 : Nat) : Int), ((z1 : Nat) : Int), ((z2 : Nat) : Int), ((z3 : Nat) : Int), ((z4 : Nat) : Int), ((z5 : Nat) : Int), ((z6 : Nat) : Int), ((z7 : Nat) : Int), c, hm, rfl⟩
set_option maxHeartbeats 16000000 in
theorem rj_pure1 {m0 m1 m2 m3 m4 m5 m6 m7 m8 m9 m10 m11 m12 m13 m14 m15 d0 d1 d2 d3 x01 y01 x02 y02 x03 y03 x12 y12 x13 y13 x23 y23 c g : Int} {z0 z1 z2 z3 z4 z5 z6 z7 : Nat} (r0 : (-1000000000) ≤ m0 ∧ m0 ≤ 1000000000) (r1 : (-1000000000) ≤ m1 ∧ m1 ≤ 1000000000) (r2 : (-1000000000) ≤ m2 ∧ m2 ≤ 1000000000) (r3 : (-1000000000) ≤ m3 ∧ m3 ≤ 1000000000) (r4 : (-1000000000) ≤ m4 ∧ m4 ≤ 1000000000) (r5 : (-1000000000) ≤ m5 ∧ m5 ≤ 1000000000) (r6 : (-1000000000) ≤ m6 ∧ m6 ≤ 1000000000) (r7 : (-1000000000) ≤ m7 ∧ m7 ≤ 1000000000) (r8 : (-1000000000) ≤ m8 ∧ m8 ≤ 1000000000) (r9 : (-1000000000) ≤ m9 ∧ m9 ≤ 1000000000) (r10 : (-1000000000) ≤ m10 ∧ m10 ≤ 1000000000) (r11 : (-1000000000) ≤ m11 ∧ m11 ≤ 1000000000) (r12 : (-1000000000) ≤ m12 ∧ m12 ≤ 1000000000) (r13 : (-1000000000) ≤ m13 ∧ m13 ≤ 1000000000) (r14 : (-1000000000) ≤ m14 ∧ m14 ≤ 1000000000) (r15 : (-1000000000) ≤ m15 ∧ m15 ≤ 1000000000) (bd0 : (-40000000) ≤ d0 ∧ d0 ≤ 40000000) (bd1 : (-40000000) ≤ d1 ∧ d1 ≤ 40000000) (bd2 : (-40000000) ≤ d2 ∧ d2 ≤ 40000000) (bd3 : (-40000000) ≤ d3 ∧ d3 ≤ 40000000) (bx01 : (-40000000) ≤ x01 ∧ x01 ≤ 40000000) (by01 : (-40000000) ≤ y01 ∧ y01 ≤ 40000000) (bx02 : (-40000000) ≤ x02 ∧ x02 ≤ 40000000) (by02 : (-40000000) ≤ y02 ∧ y02 ≤ 40000000) (bx03 : (-40000000) ≤ x03 ∧ x03 ≤ 40000000) (by03 : (-40000000) ≤ y03 ∧ y03 ≤ 40000000) (bx12 : (-40000000) ≤ x12 ∧ x12 ≤ 40000000) (by12 : (-40000000) ≤ y12 ∧ y12 ≤ 40000000) (bx13 : (-40000000) ≤ x13 ∧ x13 ≤ 40000000) (by13 : (-40000000) ≤ y13 ∧ y13 ≤ 40000000) (bx23 : (-40000000) ≤ x23 ∧ x23 ≤ 40000000) (by23 : (-40000000) ≤ y23 ∧ y23 ≤ 40000000) (hb : (∀ w, Calls Try.prog 123 #[.agg #[.int .i64 m0, .int .i64 m1, .int .i64 m2, .int .i64 m3, .int .i64 m4, .int .i64 m5, .int .i64 m6, .int .i64 m7, .int .i64 m8, .int .i64 m9, .int .i64 m10, .int .i64 m11, .int .i64 m12, .int .i64 m13, .int .i64 m14, .int .i64 m15], .int .i64 10000000] w fun e w' => e = .returned (.bool false) ∧ Below w.heap.size w w')) (hK : (∀ w, Calls Try.prog 70 #[.agg #[.int .i64 m0, .int .i64 m1, .int .i64 m2, .int .i64 m3, .int .i64 m4, .int .i64 m5, .int .i64 m6, .int .i64 m7, .int .i64 m8, .int .i64 m9, .int .i64 m10, .int .i64 m11, .int .i64 m12, .int .i64 m13, .int .i64 m14, .int .i64 m15]] w fun e w' => e = .returned (.agg #[.int .i64 d0, .int .i64 0, .int .i64 x01, .int .i64 y01, .int .i64 x02, .int .i64 y02, .int .i64 x03, .int .i64 y03, .int .i64 x01, .int .i64 (0 - y01), .int .i64 d1, .int .i64 0, .int .i64 x12, .int .i64 y12, .int .i64 x13, .int .i64 y13, .int .i64 x02, .int .i64 (0 - y02), .int .i64 x12, .int .i64 (0 - y12), .int .i64 d2, .int .i64 0, .int .i64 x23, .int .i64 y23, .int .i64 x03, .int .i64 (0 - y03), .int .i64 x13, .int .i64 (0 - y13), .int .i64 x23, .int .i64 (0 - y23), .int .i64 d3, .int .i64 0]) ∧ Below w.heap.size w w')) (hp : Pure1 d0 d1 d2 d3 x01 y01 x02 y02 x03 y03 x12 y12 x13 y13 x23 y23) (hg : g = ((Int.gcd ((Int.gcd ((Int.gcd ((Int.gcd ((Int.gcd ((Int.gcd ((Int.gcd ((Int.gcd 0 x01 : Nat) : Int) y01 : Nat) : Int) d1 : Nat) : Int) 0 : Nat) : Int) x12 : Nat) : Int) (0 - y12) : Nat) : Int) x13 : Nat) : Int) (0 - y13) : Nat) : Int)) (hg0 : g ≠ 0) (hm : (∀ w, Calls Try.prog 34 #[.agg #[.int .i64 (x01.tdiv g), .int .i64 (y01.tdiv g), .int .i64 (d1.tdiv g), .int .i64 ((0 : Int).tdiv g), .int .i64 (x12.tdiv g), .int .i64 ((0 - y12).tdiv g), .int .i64 (x13.tdiv g), .int .i64 ((0 - y13).tdiv g)]] w fun e w' => e = .returned (.tuple #[.agg #[.complex .f64 z0 z1, .complex .f64 z2 z3, .complex .f64 z4 z5, .complex .f64 z6 z7], .int .i64 c]) ∧ Below w.heap.size w w')) (w : World) : Calls Try.prog 65 #[.agg #[.int .i64 m0, .int .i64 m1, .int .i64 m2, .int .i64 m3, .int .i64 m4, .int .i64 m5, .int .i64 m6, .int .i64 m7, .int .i64 m8, .int .i64 m9, .int .i64 m10, .int .i64 m11, .int .i64 m12, .int .i64 m13, .int .i64 m14, .int .i64 m15]] w fun e w' => e = .returned (.tuple #[.agg #[.complex .f64 z0 z1, .complex .f64 z2 z3, .complex .f64 z4 z5, .complex .f64 z6 z7], .int .i64 c]) ∧ Below w.heap.size w w' := by
  have hpos := hp.pos
  have hz0 := hp.z0
  obtain ⟨g1, e1⟩ : ∃ g : Nat, g = Int.gcd 0 x01 := ⟨_, rfl⟩
  have bg1 : ((g1 : Nat) : Int) ≤ 40000000 := by rw [e1]; exact gcd_bd (by omega) (by omega)
  have c1 : (∀ w, Calls Try.prog 136 #[.int .i64 0, .int .i64 x01] w fun e w' => e = .returned (.int .i64 ((g1 : Nat) : Int)) ∧ Below w.heap.size w w') := fun w => e1 ▸ base_gcd (by omega) (by omega) w
  obtain ⟨g2, e2⟩ : ∃ g : Nat, g = Int.gcd ((g1 : Nat) : Int) y01 := ⟨_, rfl⟩
  have bg2 : ((g2 : Nat) : Int) ≤ 40000000 := by rw [e2]; exact gcd_bd (by omega) (by omega)
  have c2 : (∀ w, Calls Try.prog 136 #[.int .i64 ((g1 : Nat) : Int), .int .i64 y01] w fun e w' => e = .returned (.int .i64 ((g2 : Nat) : Int)) ∧ Below w.heap.size w w') := fun w => e2 ▸ base_gcd (by omega) (by omega) w
  obtain ⟨g3, e3⟩ : ∃ g : Nat, g = Int.gcd ((g2 : Nat) : Int) d1 := ⟨_, rfl⟩
  have bg3 : ((g3 : Nat) : Int) ≤ 40000000 := by rw [e3]; exact gcd_bd (by omega) (by omega)
  have c3 : (∀ w, Calls Try.prog 136 #[.int .i64 ((g2 : Nat) : Int), .int .i64 d1] w fun e w' => e = .returned (.int .i64 ((g3 : Nat) : Int)) ∧ Below w.heap.size w w') := fun w => e3 ▸ base_gcd (by omega) (by omega) w
  obtain ⟨g4, e4⟩ : ∃ g : Nat, g = Int.gcd ((g3 : Nat) : Int) 0 := ⟨_, rfl⟩
  have bg4 : ((g4 : Nat) : Int) ≤ 40000000 := by rw [e4]; exact gcd_bd (by omega) (by omega)
  have c4 : (∀ w, Calls Try.prog 136 #[.int .i64 ((g3 : Nat) : Int), .int .i64 0] w fun e w' => e = .returned (.int .i64 ((g4 : Nat) : Int)) ∧ Below w.heap.size w w') := fun w => e4 ▸ base_gcd (by omega) (by omega) w
  obtain ⟨g5, e5⟩ : ∃ g : Nat, g = Int.gcd ((g4 : Nat) : Int) x12 := ⟨_, rfl⟩
  have bg5 : ((g5 : Nat) : Int) ≤ 40000000 := by rw [e5]; exact gcd_bd (by omega) (by omega)
  have c5 : (∀ w, Calls Try.prog 136 #[.int .i64 ((g4 : Nat) : Int), .int .i64 x12] w fun e w' => e = .returned (.int .i64 ((g5 : Nat) : Int)) ∧ Below w.heap.size w w') := fun w => e5 ▸ base_gcd (by omega) (by omega) w
  obtain ⟨g6, e6⟩ : ∃ g : Nat, g = Int.gcd ((g5 : Nat) : Int) (0 - y12) := ⟨_, rfl⟩
  have bg6 : ((g6 : Nat) : Int) ≤ 40000000 := by rw [e6]; exact gcd_bd (by omega) (by omega)
  have c6 : (∀ w, Calls Try.prog 136 #[.int .i64 ((g5 : Nat) : Int), .int .i64 (0 - y12)] w fun e w' => e = .returned (.int .i64 ((g6 : Nat) : Int)) ∧ Below w.heap.size w w') := fun w => e6 ▸ base_gcd (by omega) (by omega) w
  obtain ⟨g7, e7⟩ : ∃ g : Nat, g = Int.gcd ((g6 : Nat) : Int) x13 := ⟨_, rfl⟩
  have bg7 : ((g7 : Nat) : Int) ≤ 40000000 := by rw [e7]; exact gcd_bd (by omega) (by omega)
  have c7 : (∀ w, Calls Try.prog 136 #[.int .i64 ((g6 : Nat) : Int), .int .i64 x13] w fun e w' => e = .returned (.int .i64 ((g7 : Nat) : Int)) ∧ Below w.heap.size w w') := fun w => e7 ▸ base_gcd (by omega) (by omega) w
  obtain ⟨g8, e8⟩ : ∃ g : Nat, g = Int.gcd ((g7 : Nat) : Int) (0 - y13) := ⟨_, rfl⟩
  have bg8 : ((g8 : Nat) : Int) ≤ 40000000 := by rw [e8]; exact gcd_bd (by omega) (by omega)
  have c8 : (∀ w, Calls Try.prog 136 #[.int .i64 ((g7 : Nat) : Int), .int .i64 (0 - y13)] w fun e w' => e = .returned (.int .i64 ((g8 : Nat) : Int)) ∧ Below w.heap.size w w') := fun w => e8 ▸ base_gcd (by omega) (by omega) w
  have hg' : g = ((g8 : Nat) : Int) := by rw [hg]; rw [← e1]; rw [← e2]; rw [← e3]; rw [← e4]; rw [← e5]; rw [← e6]; rw [← e7]; rw [← e8]
  have hw : ∀ a : Int, (-40000000 ≤ a ∧ a ≤ 40000000) → IntKind.i64.wrap (a.tdiv g) = a.tdiv g := fun a h => tdiv_w h
  refine one_val (rp1 r0 r1 r2 r3 r4 r5 r6 r7 r8 r9 r10 r11 r12 r13 r14 r15 (Q := (· = _)) ⟨false, hb, (fun h => by cases h), fun _ => ?_⟩) w
  refine ⟨d0, 0, x01, y01, x02, y02, x03, y03, x01, (0 - y01), d1, 0, x12, y12, x13, y13, x02, (0 - y02), x12, (0 - y12), d2, 0, x23, y23, x03, (0 - y03), x13, (0 - y13), x23, (0 - y23), d3, 0, hK, ⟨by omega, by omega⟩, ⟨by omega, by omega⟩, ⟨by omega, by omega⟩, ⟨by omega, by omega⟩, ⟨by omega, by omega⟩, ⟨by omega, by omega⟩, ⟨by omega, by omega⟩, ⟨by omega, by omega⟩, ⟨by omega, by omega⟩, ⟨by omega, by omega⟩, ⟨by omega, by omega⟩, ⟨by omega, by omega⟩, ⟨by omega, by omega⟩, ⟨by omega, by omega⟩, ⟨by omega, by omega⟩, ⟨by omega, by omega⟩, ⟨by omega, by omega⟩, ⟨by omega, by omega⟩, ⟨by omega, by omega⟩, ⟨by omega, by omega⟩, ⟨by omega, by omega⟩, ⟨by omega, by omega⟩, ⟨by omega, by omega⟩, ⟨by omega, by omega⟩, ⟨by omega, by omega⟩, ⟨by omega, by omega⟩, ⟨by omega, by omega⟩, ⟨by omega, by omega⟩, ⟨by omega, by omega⟩, ⟨by omega, by omega⟩, ⟨by omega, by omega⟩, ⟨by omega, by omega⟩, ?_⟩
  refine ⟨fun _ => ?_, fun h => absurd hp.e0 (beq_eq_false_iff_ne.mp h)⟩
  refine ⟨fun _ => ?_, fun h => absurd hp.e1 (beq_eq_false_iff_ne.mp h)⟩
  refine ⟨fun _ => ?_, fun h => absurd hp.e2 (beq_eq_false_iff_ne.mp h)⟩
  refine ⟨fun _ => ?_, fun h => absurd hp.e3 (beq_eq_false_iff_ne.mp h)⟩
  refine ⟨fun _ => ?_, fun h => absurd hp.e4 (beq_eq_false_iff_ne.mp h)⟩
  refine ⟨fun _ => ?_, fun h => absurd hp.e5 (beq_eq_false_iff_ne.mp h)⟩
  refine ⟨fun _ => ?_, fun h => absurd hp.e6 (beq_eq_false_iff_ne.mp h)⟩
  refine ⟨fun _ => ?_, fun h => absurd hp.e7 (beq_eq_false_iff_ne.mp h)⟩
  refine ⟨fun _ => ?_, fun h => absurd hp.e8 (beq_eq_false_iff_ne.mp h)⟩
  refine ⟨fun _ => ?_, fun h => absurd hp.e9 (beq_eq_false_iff_ne.mp h)⟩
  refine ⟨fun _ => ?_, fun h => absurd hp.e10 (beq_eq_false_iff_ne.mp h)⟩
  refine ⟨fun _ => ?_, fun h => absurd hp.e11 (beq_eq_false_iff_ne.mp h)⟩
  refine ⟨fun _ => ?_, fun h => absurd hp.e12 (beq_eq_false_iff_ne.mp h)⟩
  refine ⟨fun _ => ?_, fun h => absurd hp.e13 (beq_eq_false_iff_ne.mp h)⟩
  refine ⟨fun _ => ?_, fun h => absurd hp.e14 (beq_eq_false_iff_ne.mp h)⟩
  refine ⟨fun _ => ?_, fun h => absurd hp.e15 (beq_eq_false_iff_ne.mp h)⟩
  refine ⟨fun _ => ?_, fun h => absurd hp.e16 (beq_eq_false_iff_ne.mp h)⟩
  refine ⟨fun _ => ?_, fun h => absurd hp.e17 (beq_eq_false_iff_ne.mp h)⟩
  refine ⟨fun _ => ?_, fun h => absurd hp.e18 (beq_eq_false_iff_ne.mp h)⟩
  refine ⟨fun _ => ?_, fun h => absurd hp.e19 (beq_eq_false_iff_ne.mp h)⟩
  refine ⟨fun _ => ?_, fun h => absurd hp.e20 (beq_eq_false_iff_ne.mp h)⟩
  refine ⟨fun _ => ?_, fun h => absurd hp.e21 (beq_eq_false_iff_ne.mp h)⟩
  refine ⟨fun _ => ?_, fun h => absurd hp.e22 (beq_eq_false_iff_ne.mp h)⟩
  refine ⟨fun _ => ?_, fun h => absurd hp.e23 (beq_eq_false_iff_ne.mp h)⟩
  refine ⟨fun _ => ?_, fun h => absurd hp.e24 (beq_eq_false_iff_ne.mp h)⟩
  refine ⟨fun _ => ?_, fun h => absurd hp.e25 (beq_eq_false_iff_ne.mp h)⟩
  refine ⟨fun _ => ?_, fun h => absurd hp.e26 (beq_eq_false_iff_ne.mp h)⟩
  refine ⟨fun _ => ?_, fun h => absurd hp.e27 (beq_eq_false_iff_ne.mp h)⟩
  refine ⟨fun _ => ?_, fun h => absurd hp.e28 (beq_eq_false_iff_ne.mp h)⟩
  refine ⟨fun _ => ?_, fun h => absurd hp.e29 (beq_eq_false_iff_ne.mp h)⟩
  refine ⟨fun _ => ?_, fun h => absurd hp.e30 (beq_eq_false_iff_ne.mp h)⟩
  refine ⟨fun _ => ?_, fun h => absurd hp.e31 (beq_eq_false_iff_ne.mp h)⟩
  refine ⟨((g1 : Nat) : Int), c1, ((g2 : Nat) : Int), c2, ((g3 : Nat) : Int), c3, ((g4 : Nat) : Int), c4, ((g5 : Nat) : Int), c5, ((g6 : Nat) : Int), c6, ((g7 : Nat) : Int), c7, ((g8 : Nat) : Int), c8, fun h => by exfalso; have := beq0 h; omega, fun _ => ?_⟩
  simp only [← hg', hw (x01) (by omega), hw (y01) (by omega), hw (d1) (by omega), hw (0) (by omega), hw (x12) (by omega), hw ((0 - y12)) (by omega), hw (x13) (by omega), hw ((0 - y13)) (by omega)]
  exact ⟨((z0 : Nat) : Int), ((z1 : Nat) : Int), ((z2 : Nat) : Int), ((z3 : Nat) : Int), ((z4 : Nat) : Int), ((z5 : Nat) : Int), ((z6 : Nat) : Int), ((z7 : Nat) : Int), c, hm, rfl⟩
set_option maxHeartbeats 16000000 in
theorem rj_pure2 {m0 m1 m2 m3 m4 m5 m6 m7 m8 m9 m10 m11 m12 m13 m14 m15 d0 d1 d2 d3 x01 y01 x02 y02 x03 y03 x12 y12 x13 y13 x23 y23 c g : Int} {z0 z1 z2 z3 z4 z5 z6 z7 : Nat} (r0 : (-1000000000) ≤ m0 ∧ m0 ≤ 1000000000) (r1 : (-1000000000) ≤ m1 ∧ m1 ≤ 1000000000) (r2 : (-1000000000) ≤ m2 ∧ m2 ≤ 1000000000) (r3 : (-1000000000) ≤ m3 ∧ m3 ≤ 1000000000) (r4 : (-1000000000) ≤ m4 ∧ m4 ≤ 1000000000) (r5 : (-1000000000) ≤ m5 ∧ m5 ≤ 1000000000) (r6 : (-1000000000) ≤ m6 ∧ m6 ≤ 1000000000) (r7 : (-1000000000) ≤ m7 ∧ m7 ≤ 1000000000) (r8 : (-1000000000) ≤ m8 ∧ m8 ≤ 1000000000) (r9 : (-1000000000) ≤ m9 ∧ m9 ≤ 1000000000) (r10 : (-1000000000) ≤ m10 ∧ m10 ≤ 1000000000) (r11 : (-1000000000) ≤ m11 ∧ m11 ≤ 1000000000) (r12 : (-1000000000) ≤ m12 ∧ m12 ≤ 1000000000) (r13 : (-1000000000) ≤ m13 ∧ m13 ≤ 1000000000) (r14 : (-1000000000) ≤ m14 ∧ m14 ≤ 1000000000) (r15 : (-1000000000) ≤ m15 ∧ m15 ≤ 1000000000) (bd0 : (-40000000) ≤ d0 ∧ d0 ≤ 40000000) (bd1 : (-40000000) ≤ d1 ∧ d1 ≤ 40000000) (bd2 : (-40000000) ≤ d2 ∧ d2 ≤ 40000000) (bd3 : (-40000000) ≤ d3 ∧ d3 ≤ 40000000) (bx01 : (-40000000) ≤ x01 ∧ x01 ≤ 40000000) (by01 : (-40000000) ≤ y01 ∧ y01 ≤ 40000000) (bx02 : (-40000000) ≤ x02 ∧ x02 ≤ 40000000) (by02 : (-40000000) ≤ y02 ∧ y02 ≤ 40000000) (bx03 : (-40000000) ≤ x03 ∧ x03 ≤ 40000000) (by03 : (-40000000) ≤ y03 ∧ y03 ≤ 40000000) (bx12 : (-40000000) ≤ x12 ∧ x12 ≤ 40000000) (by12 : (-40000000) ≤ y12 ∧ y12 ≤ 40000000) (bx13 : (-40000000) ≤ x13 ∧ x13 ≤ 40000000) (by13 : (-40000000) ≤ y13 ∧ y13 ≤ 40000000) (bx23 : (-40000000) ≤ x23 ∧ x23 ≤ 40000000) (by23 : (-40000000) ≤ y23 ∧ y23 ≤ 40000000) (hb : (∀ w, Calls Try.prog 123 #[.agg #[.int .i64 m0, .int .i64 m1, .int .i64 m2, .int .i64 m3, .int .i64 m4, .int .i64 m5, .int .i64 m6, .int .i64 m7, .int .i64 m8, .int .i64 m9, .int .i64 m10, .int .i64 m11, .int .i64 m12, .int .i64 m13, .int .i64 m14, .int .i64 m15], .int .i64 10000000] w fun e w' => e = .returned (.bool false) ∧ Below w.heap.size w w')) (hK : (∀ w, Calls Try.prog 70 #[.agg #[.int .i64 m0, .int .i64 m1, .int .i64 m2, .int .i64 m3, .int .i64 m4, .int .i64 m5, .int .i64 m6, .int .i64 m7, .int .i64 m8, .int .i64 m9, .int .i64 m10, .int .i64 m11, .int .i64 m12, .int .i64 m13, .int .i64 m14, .int .i64 m15]] w fun e w' => e = .returned (.agg #[.int .i64 d0, .int .i64 0, .int .i64 x01, .int .i64 y01, .int .i64 x02, .int .i64 y02, .int .i64 x03, .int .i64 y03, .int .i64 x01, .int .i64 (0 - y01), .int .i64 d1, .int .i64 0, .int .i64 x12, .int .i64 y12, .int .i64 x13, .int .i64 y13, .int .i64 x02, .int .i64 (0 - y02), .int .i64 x12, .int .i64 (0 - y12), .int .i64 d2, .int .i64 0, .int .i64 x23, .int .i64 y23, .int .i64 x03, .int .i64 (0 - y03), .int .i64 x13, .int .i64 (0 - y13), .int .i64 x23, .int .i64 (0 - y23), .int .i64 d3, .int .i64 0]) ∧ Below w.heap.size w w')) (hp : Pure2 d0 d1 d2 d3 x01 y01 x02 y02 x03 y03 x12 y12 x13 y13 x23 y23) (hg : g = ((Int.gcd ((Int.gcd ((Int.gcd ((Int.gcd ((Int.gcd ((Int.gcd ((Int.gcd ((Int.gcd 0 x02 : Nat) : Int) y02 : Nat) : Int) x12 : Nat) : Int) y12 : Nat) : Int) d2 : Nat) : Int) 0 : Nat) : Int) x23 : Nat) : Int) (0 - y23) : Nat) : Int)) (hg0 : g ≠ 0) (hm : (∀ w, Calls Try.prog 34 #[.agg #[.int .i64 (x02.tdiv g), .int .i64 (y02.tdiv g), .int .i64 (x12.tdiv g), .int .i64 (y12.tdiv g), .int .i64 (d2.tdiv g), .int .i64 ((0 : Int).tdiv g), .int .i64 (x23.tdiv g), .int .i64 ((0 - y23).tdiv g)]] w fun e w' => e = .returned (.tuple #[.agg #[.complex .f64 z0 z1, .complex .f64 z2 z3, .complex .f64 z4 z5, .complex .f64 z6 z7], .int .i64 c]) ∧ Below w.heap.size w w')) (w : World) : Calls Try.prog 65 #[.agg #[.int .i64 m0, .int .i64 m1, .int .i64 m2, .int .i64 m3, .int .i64 m4, .int .i64 m5, .int .i64 m6, .int .i64 m7, .int .i64 m8, .int .i64 m9, .int .i64 m10, .int .i64 m11, .int .i64 m12, .int .i64 m13, .int .i64 m14, .int .i64 m15]] w fun e w' => e = .returned (.tuple #[.agg #[.complex .f64 z0 z1, .complex .f64 z2 z3, .complex .f64 z4 z5, .complex .f64 z6 z7], .int .i64 c]) ∧ Below w.heap.size w w' := by
  have hpos := hp.pos
  have hz0 := hp.z0
  have hz1 := hp.z1
  obtain ⟨g1, e1⟩ : ∃ g : Nat, g = Int.gcd 0 x02 := ⟨_, rfl⟩
  have bg1 : ((g1 : Nat) : Int) ≤ 40000000 := by rw [e1]; exact gcd_bd (by omega) (by omega)
  have c1 : (∀ w, Calls Try.prog 136 #[.int .i64 0, .int .i64 x02] w fun e w' => e = .returned (.int .i64 ((g1 : Nat) : Int)) ∧ Below w.heap.size w w') := fun w => e1 ▸ base_gcd (by omega) (by omega) w
  obtain ⟨g2, e2⟩ : ∃ g : Nat, g = Int.gcd ((g1 : Nat) : Int) y02 := ⟨_, rfl⟩
  have bg2 : ((g2 : Nat) : Int) ≤ 40000000 := by rw [e2]; exact gcd_bd (by omega) (by omega)
  have c2 : (∀ w, Calls Try.prog 136 #[.int .i64 ((g1 : Nat) : Int), .int .i64 y02] w fun e w' => e = .returned (.int .i64 ((g2 : Nat) : Int)) ∧ Below w.heap.size w w') := fun w => e2 ▸ base_gcd (by omega) (by omega) w
  obtain ⟨g3, e3⟩ : ∃ g : Nat, g = Int.gcd ((g2 : Nat) : Int) x12 := ⟨_, rfl⟩
  have bg3 : ((g3 : Nat) : Int) ≤ 40000000 := by rw [e3]; exact gcd_bd (by omega) (by omega)
  have c3 : (∀ w, Calls Try.prog 136 #[.int .i64 ((g2 : Nat) : Int), .int .i64 x12] w fun e w' => e = .returned (.int .i64 ((g3 : Nat) : Int)) ∧ Below w.heap.size w w') := fun w => e3 ▸ base_gcd (by omega) (by omega) w
  obtain ⟨g4, e4⟩ : ∃ g : Nat, g = Int.gcd ((g3 : Nat) : Int) y12 := ⟨_, rfl⟩
  have bg4 : ((g4 : Nat) : Int) ≤ 40000000 := by rw [e4]; exact gcd_bd (by omega) (by omega)
  have c4 : (∀ w, Calls Try.prog 136 #[.int .i64 ((g3 : Nat) : Int), .int .i64 y12] w fun e w' => e = .returned (.int .i64 ((g4 : Nat) : Int)) ∧ Below w.heap.size w w') := fun w => e4 ▸ base_gcd (by omega) (by omega) w
  obtain ⟨g5, e5⟩ : ∃ g : Nat, g = Int.gcd ((g4 : Nat) : Int) d2 := ⟨_, rfl⟩
  have bg5 : ((g5 : Nat) : Int) ≤ 40000000 := by rw [e5]; exact gcd_bd (by omega) (by omega)
  have c5 : (∀ w, Calls Try.prog 136 #[.int .i64 ((g4 : Nat) : Int), .int .i64 d2] w fun e w' => e = .returned (.int .i64 ((g5 : Nat) : Int)) ∧ Below w.heap.size w w') := fun w => e5 ▸ base_gcd (by omega) (by omega) w
  obtain ⟨g6, e6⟩ : ∃ g : Nat, g = Int.gcd ((g5 : Nat) : Int) 0 := ⟨_, rfl⟩
  have bg6 : ((g6 : Nat) : Int) ≤ 40000000 := by rw [e6]; exact gcd_bd (by omega) (by omega)
  have c6 : (∀ w, Calls Try.prog 136 #[.int .i64 ((g5 : Nat) : Int), .int .i64 0] w fun e w' => e = .returned (.int .i64 ((g6 : Nat) : Int)) ∧ Below w.heap.size w w') := fun w => e6 ▸ base_gcd (by omega) (by omega) w
  obtain ⟨g7, e7⟩ : ∃ g : Nat, g = Int.gcd ((g6 : Nat) : Int) x23 := ⟨_, rfl⟩
  have bg7 : ((g7 : Nat) : Int) ≤ 40000000 := by rw [e7]; exact gcd_bd (by omega) (by omega)
  have c7 : (∀ w, Calls Try.prog 136 #[.int .i64 ((g6 : Nat) : Int), .int .i64 x23] w fun e w' => e = .returned (.int .i64 ((g7 : Nat) : Int)) ∧ Below w.heap.size w w') := fun w => e7 ▸ base_gcd (by omega) (by omega) w
  obtain ⟨g8, e8⟩ : ∃ g : Nat, g = Int.gcd ((g7 : Nat) : Int) (0 - y23) := ⟨_, rfl⟩
  have bg8 : ((g8 : Nat) : Int) ≤ 40000000 := by rw [e8]; exact gcd_bd (by omega) (by omega)
  have c8 : (∀ w, Calls Try.prog 136 #[.int .i64 ((g7 : Nat) : Int), .int .i64 (0 - y23)] w fun e w' => e = .returned (.int .i64 ((g8 : Nat) : Int)) ∧ Below w.heap.size w w') := fun w => e8 ▸ base_gcd (by omega) (by omega) w
  have hg' : g = ((g8 : Nat) : Int) := by rw [hg]; rw [← e1]; rw [← e2]; rw [← e3]; rw [← e4]; rw [← e5]; rw [← e6]; rw [← e7]; rw [← e8]
  have hw : ∀ a : Int, (-40000000 ≤ a ∧ a ≤ 40000000) → IntKind.i64.wrap (a.tdiv g) = a.tdiv g := fun a h => tdiv_w h
  refine one_val (rp2 r0 r1 r2 r3 r4 r5 r6 r7 r8 r9 r10 r11 r12 r13 r14 r15 (Q := (· = _)) ⟨false, hb, (fun h => by cases h), fun _ => ?_⟩) w
  refine ⟨d0, 0, x01, y01, x02, y02, x03, y03, x01, (0 - y01), d1, 0, x12, y12, x13, y13, x02, (0 - y02), x12, (0 - y12), d2, 0, x23, y23, x03, (0 - y03), x13, (0 - y13), x23, (0 - y23), d3, 0, hK, ⟨by omega, by omega⟩, ⟨by omega, by omega⟩, ⟨by omega, by omega⟩, ⟨by omega, by omega⟩, ⟨by omega, by omega⟩, ⟨by omega, by omega⟩, ⟨by omega, by omega⟩, ⟨by omega, by omega⟩, ⟨by omega, by omega⟩, ⟨by omega, by omega⟩, ⟨by omega, by omega⟩, ⟨by omega, by omega⟩, ⟨by omega, by omega⟩, ⟨by omega, by omega⟩, ⟨by omega, by omega⟩, ⟨by omega, by omega⟩, ⟨by omega, by omega⟩, ⟨by omega, by omega⟩, ⟨by omega, by omega⟩, ⟨by omega, by omega⟩, ⟨by omega, by omega⟩, ⟨by omega, by omega⟩, ⟨by omega, by omega⟩, ⟨by omega, by omega⟩, ⟨by omega, by omega⟩, ⟨by omega, by omega⟩, ⟨by omega, by omega⟩, ⟨by omega, by omega⟩, ⟨by omega, by omega⟩, ⟨by omega, by omega⟩, ⟨by omega, by omega⟩, ⟨by omega, by omega⟩, ?_⟩
  refine ⟨fun _ => ?_, fun h => absurd hp.e0 (beq_eq_false_iff_ne.mp h)⟩
  refine ⟨fun _ => ?_, fun h => absurd hp.e1 (beq_eq_false_iff_ne.mp h)⟩
  refine ⟨fun _ => ?_, fun h => absurd hp.e2 (beq_eq_false_iff_ne.mp h)⟩
  refine ⟨fun _ => ?_, fun h => absurd hp.e3 (beq_eq_false_iff_ne.mp h)⟩
  refine ⟨fun _ => ?_, fun h => absurd hp.e4 (beq_eq_false_iff_ne.mp h)⟩
  refine ⟨fun _ => ?_, fun h => absurd hp.e5 (beq_eq_false_iff_ne.mp h)⟩
  refine ⟨fun _ => ?_, fun h => absurd hp.e6 (beq_eq_false_iff_ne.mp h)⟩
  refine ⟨fun _ => ?_, fun h => absurd hp.e7 (beq_eq_false_iff_ne.mp h)⟩
  refine ⟨fun _ => ?_, fun h => absurd hp.e8 (beq_eq_false_iff_ne.mp h)⟩
  refine ⟨fun _ => ?_, fun h => absurd hp.e9 (beq_eq_false_iff_ne.mp h)⟩
  refine ⟨fun _ => ?_, fun h => absurd hp.e10 (beq_eq_false_iff_ne.mp h)⟩
  refine ⟨fun _ => ?_, fun h => absurd hp.e11 (beq_eq_false_iff_ne.mp h)⟩
  refine ⟨fun _ => ?_, fun h => absurd hp.e12 (beq_eq_false_iff_ne.mp h)⟩
  refine ⟨fun _ => ?_, fun h => absurd hp.e13 (beq_eq_false_iff_ne.mp h)⟩
  refine ⟨fun _ => ?_, fun h => absurd hp.e14 (beq_eq_false_iff_ne.mp h)⟩
  refine ⟨fun _ => ?_, fun h => absurd hp.e15 (beq_eq_false_iff_ne.mp h)⟩
  refine ⟨fun _ => ?_, fun h => absurd hp.e16 (beq_eq_false_iff_ne.mp h)⟩
  refine ⟨fun _ => ?_, fun h => absurd hp.e17 (beq_eq_false_iff_ne.mp h)⟩
  refine ⟨fun _ => ?_, fun h => absurd hp.e18 (beq_eq_false_iff_ne.mp h)⟩
  refine ⟨fun _ => ?_, fun h => absurd hp.e19 (beq_eq_false_iff_ne.mp h)⟩
  refine ⟨fun _ => ?_, fun h => absurd hp.e20 (beq_eq_false_iff_ne.mp h)⟩
  refine ⟨fun _ => ?_, fun h => absurd hp.e21 (beq_eq_false_iff_ne.mp h)⟩
  refine ⟨fun _ => ?_, fun h => absurd hp.e22 (beq_eq_false_iff_ne.mp h)⟩
  refine ⟨fun _ => ?_, fun h => absurd hp.e23 (beq_eq_false_iff_ne.mp h)⟩
  refine ⟨fun _ => ?_, fun h => absurd hp.e24 (beq_eq_false_iff_ne.mp h)⟩
  refine ⟨fun _ => ?_, fun h => absurd hp.e25 (beq_eq_false_iff_ne.mp h)⟩
  refine ⟨fun _ => ?_, fun h => absurd hp.e26 (beq_eq_false_iff_ne.mp h)⟩
  refine ⟨fun _ => ?_, fun h => absurd hp.e27 (beq_eq_false_iff_ne.mp h)⟩
  refine ⟨fun _ => ?_, fun h => absurd hp.e28 (beq_eq_false_iff_ne.mp h)⟩
  refine ⟨fun _ => ?_, fun h => absurd hp.e29 (beq_eq_false_iff_ne.mp h)⟩
  refine ⟨fun _ => ?_, fun h => absurd hp.e30 (beq_eq_false_iff_ne.mp h)⟩
  refine ⟨fun _ => ?_, fun h => absurd hp.e31 (beq_eq_false_iff_ne.mp h)⟩
  refine ⟨((g1 : Nat) : Int), c1, ((g2 : Nat) : Int), c2, ((g3 : Nat) : Int), c3, ((g4 : Nat) : Int), c4, ((g5 : Nat) : Int), c5, ((g6 : Nat) : Int), c6, ((g7 : Nat) : Int), c7, ((g8 : Nat) : Int), c8, fun h => by exfalso; have := beq0 h; omega, fun _ => ?_⟩
  simp only [← hg', hw (x02) (by omega), hw (y02) (by omega), hw (x12) (by omega), hw (y12) (by omega), hw (d2) (by omega), hw (0) (by omega), hw (x23) (by omega), hw ((0 - y23)) (by omega)]
  exact ⟨((z0 : Nat) : Int), ((z1 : Nat) : Int), ((z2 : Nat) : Int), ((z3 : Nat) : Int), ((z4 : Nat) : Int), ((z5 : Nat) : Int), ((z6 : Nat) : Int), ((z7 : Nat) : Int), c, hm, rfl⟩
set_option maxHeartbeats 16000000 in
theorem rj_pure3 {m0 m1 m2 m3 m4 m5 m6 m7 m8 m9 m10 m11 m12 m13 m14 m15 d0 d1 d2 d3 x01 y01 x02 y02 x03 y03 x12 y12 x13 y13 x23 y23 c g : Int} {z0 z1 z2 z3 z4 z5 z6 z7 : Nat} (r0 : (-1000000000) ≤ m0 ∧ m0 ≤ 1000000000) (r1 : (-1000000000) ≤ m1 ∧ m1 ≤ 1000000000) (r2 : (-1000000000) ≤ m2 ∧ m2 ≤ 1000000000) (r3 : (-1000000000) ≤ m3 ∧ m3 ≤ 1000000000) (r4 : (-1000000000) ≤ m4 ∧ m4 ≤ 1000000000) (r5 : (-1000000000) ≤ m5 ∧ m5 ≤ 1000000000) (r6 : (-1000000000) ≤ m6 ∧ m6 ≤ 1000000000) (r7 : (-1000000000) ≤ m7 ∧ m7 ≤ 1000000000) (r8 : (-1000000000) ≤ m8 ∧ m8 ≤ 1000000000) (r9 : (-1000000000) ≤ m9 ∧ m9 ≤ 1000000000) (r10 : (-1000000000) ≤ m10 ∧ m10 ≤ 1000000000) (r11 : (-1000000000) ≤ m11 ∧ m11 ≤ 1000000000) (r12 : (-1000000000) ≤ m12 ∧ m12 ≤ 1000000000) (r13 : (-1000000000) ≤ m13 ∧ m13 ≤ 1000000000) (r14 : (-1000000000) ≤ m14 ∧ m14 ≤ 1000000000) (r15 : (-1000000000) ≤ m15 ∧ m15 ≤ 1000000000) (bd0 : (-40000000) ≤ d0 ∧ d0 ≤ 40000000) (bd1 : (-40000000) ≤ d1 ∧ d1 ≤ 40000000) (bd2 : (-40000000) ≤ d2 ∧ d2 ≤ 40000000) (bd3 : (-40000000) ≤ d3 ∧ d3 ≤ 40000000) (bx01 : (-40000000) ≤ x01 ∧ x01 ≤ 40000000) (by01 : (-40000000) ≤ y01 ∧ y01 ≤ 40000000) (bx02 : (-40000000) ≤ x02 ∧ x02 ≤ 40000000) (by02 : (-40000000) ≤ y02 ∧ y02 ≤ 40000000) (bx03 : (-40000000) ≤ x03 ∧ x03 ≤ 40000000) (by03 : (-40000000) ≤ y03 ∧ y03 ≤ 40000000) (bx12 : (-40000000) ≤ x12 ∧ x12 ≤ 40000000) (by12 : (-40000000) ≤ y12 ∧ y12 ≤ 40000000) (bx13 : (-40000000) ≤ x13 ∧ x13 ≤ 40000000) (by13 : (-40000000) ≤ y13 ∧ y13 ≤ 40000000) (bx23 : (-40000000) ≤ x23 ∧ x23 ≤ 40000000) (by23 : (-40000000) ≤ y23 ∧ y23 ≤ 40000000) (hb : (∀ w, Calls Try.prog 123 #[.agg #[.int .i64 m0, .int .i64 m1, .int .i64 m2, .int .i64 m3, .int .i64 m4, .int .i64 m5, .int .i64 m6, .int .i64 m7, .int .i64 m8, .int .i64 m9, .int .i64 m10, .int .i64 m11, .int .i64 m12, .int .i64 m13, .int .i64 m14, .int .i64 m15], .int .i64 10000000] w fun e w' => e = .returned (.bool false) ∧ Below w.heap.size w w')) (hK : (∀ w, Calls Try.prog 70 #[.agg #[.int .i64 m0, .int .i64 m1, .int .i64 m2, .int .i64 m3, .int .i64 m4, .int .i64 m5, .int .i64 m6, .int .i64 m7, .int .i64 m8, .int .i64 m9, .int .i64 m10, .int .i64 m11, .int .i64 m12, .int .i64 m13, .int .i64 m14, .int .i64 m15]] w fun e w' => e = .returned (.agg #[.int .i64 d0, .int .i64 0, .int .i64 x01, .int .i64 y01, .int .i64 x02, .int .i64 y02, .int .i64 x03, .int .i64 y03, .int .i64 x01, .int .i64 (0 - y01), .int .i64 d1, .int .i64 0, .int .i64 x12, .int .i64 y12, .int .i64 x13, .int .i64 y13, .int .i64 x02, .int .i64 (0 - y02), .int .i64 x12, .int .i64 (0 - y12), .int .i64 d2, .int .i64 0, .int .i64 x23, .int .i64 y23, .int .i64 x03, .int .i64 (0 - y03), .int .i64 x13, .int .i64 (0 - y13), .int .i64 x23, .int .i64 (0 - y23), .int .i64 d3, .int .i64 0]) ∧ Below w.heap.size w w')) (hp : Pure3 d0 d1 d2 d3 x01 y01 x02 y02 x03 y03 x12 y12 x13 y13 x23 y23) (hg : g = ((Int.gcd ((Int.gcd ((Int.gcd ((Int.gcd ((Int.gcd ((Int.gcd ((Int.gcd ((Int.gcd 0 x03 : Nat) : Int) y03 : Nat) : Int) x13 : Nat) : Int) y13 : Nat) : Int) x23 : Nat) : Int) y23 : Nat) : Int) d3 : Nat) : Int) 0 : Nat) : Int)) (hg0 : g ≠ 0) (hm : (∀ w, Calls Try.prog 34 #[.agg #[.int .i64 (x03.tdiv g), .int .i64 (y03.tdiv g), .int .i64 (x13.tdiv g), .int .i64 (y13.tdiv g), .int .i64 (x23.tdiv g), .int .i64 (y23.tdiv g), .int .i64 (d3.tdiv g), .int .i64 ((0 : Int).tdiv g)]] w fun e w' => e = .returned (.tuple #[.agg #[.complex .f64 z0 z1, .complex .f64 z2 z3, .complex .f64 z4 z5, .complex .f64 z6 z7], .int .i64 c]) ∧ Below w.heap.size w w')) (w : World) : Calls Try.prog 65 #[.agg #[.int .i64 m0, .int .i64 m1, .int .i64 m2, .int .i64 m3, .int .i64 m4, .int .i64 m5, .int .i64 m6, .int .i64 m7, .int .i64 m8, .int .i64 m9, .int .i64 m10, .int .i64 m11, .int .i64 m12, .int .i64 m13, .int .i64 m14, .int .i64 m15]] w fun e w' => e = .returned (.tuple #[.agg #[.complex .f64 z0 z1, .complex .f64 z2 z3, .complex .f64 z4 z5, .complex .f64 z6 z7], .int .i64 c]) ∧ Below w.heap.size w w' := by
  have hpos := hp.pos
  have hz0 := hp.z0
  have hz1 := hp.z1
  have hz2 := hp.z2
  obtain ⟨g1, e1⟩ : ∃ g : Nat, g = Int.gcd 0 x03 := ⟨_, rfl⟩
  have bg1 : ((g1 : Nat) : Int) ≤ 40000000 := by rw [e1]; exact gcd_bd (by omega) (by omega)
  have c1 : (∀ w, Calls Try.prog 136 #[.int .i64 0, .int .i64 x03] w fun e w' => e = .returned (.int .i64 ((g1 : Nat) : Int)) ∧ Below w.heap.size w w') := fun w => e1 ▸ base_gcd (by omega) (by omega) w
  obtain ⟨g2, e2⟩ : ∃ g : Nat, g = Int.gcd ((g1 : Nat) : Int) y03 := ⟨_, rfl⟩
  have bg2 : ((g2 : Nat) : Int) ≤ 40000000 := by rw [e2]; exact gcd_bd (by omega) (by omega)
  have c2 : (∀ w, Calls Try.prog 136 #[.int .i64 ((g1 : Nat) : Int), .int .i64 y03] w fun e w' => e = .returned (.int .i64 ((g2 : Nat) : Int)) ∧ Below w.heap.size w w') := fun w => e2 ▸ base_gcd (by omega) (by omega) w
  obtain ⟨g3, e3⟩ : ∃ g : Nat, g = Int.gcd ((g2 : Nat) : Int) x13 := ⟨_, rfl⟩
  have bg3 : ((g3 : Nat) : Int) ≤ 40000000 := by rw [e3]; exact gcd_bd (by omega) (by omega)
  have c3 : (∀ w, Calls Try.prog 136 #[.int .i64 ((g2 : Nat) : Int), .int .i64 x13] w fun e w' => e = .returned (.int .i64 ((g3 : Nat) : Int)) ∧ Below w.heap.size w w') := fun w => e3 ▸ base_gcd (by omega) (by omega) w
  obtain ⟨g4, e4⟩ : ∃ g : Nat, g = Int.gcd ((g3 : Nat) : Int) y13 := ⟨_, rfl⟩
  have bg4 : ((g4 : Nat) : Int) ≤ 40000000 := by rw [e4]; exact gcd_bd (by omega) (by omega)
  have c4 : (∀ w, Calls Try.prog 136 #[.int .i64 ((g3 : Nat) : Int), .int .i64 y13] w fun e w' => e = .returned (.int .i64 ((g4 : Nat) : Int)) ∧ Below w.heap.size w w') := fun w => e4 ▸ base_gcd (by omega) (by omega) w
  obtain ⟨g5, e5⟩ : ∃ g : Nat, g = Int.gcd ((g4 : Nat) : Int) x23 := ⟨_, rfl⟩
  have bg5 : ((g5 : Nat) : Int) ≤ 40000000 := by rw [e5]; exact gcd_bd (by omega) (by omega)
  have c5 : (∀ w, Calls Try.prog 136 #[.int .i64 ((g4 : Nat) : Int), .int .i64 x23] w fun e w' => e = .returned (.int .i64 ((g5 : Nat) : Int)) ∧ Below w.heap.size w w') := fun w => e5 ▸ base_gcd (by omega) (by omega) w
  obtain ⟨g6, e6⟩ : ∃ g : Nat, g = Int.gcd ((g5 : Nat) : Int) y23 := ⟨_, rfl⟩
  have bg6 : ((g6 : Nat) : Int) ≤ 40000000 := by rw [e6]; exact gcd_bd (by omega) (by omega)
  have c6 : (∀ w, Calls Try.prog 136 #[.int .i64 ((g5 : Nat) : Int), .int .i64 y23] w fun e w' => e = .returned (.int .i64 ((g6 : Nat) : Int)) ∧ Below w.heap.size w w') := fun w => e6 ▸ base_gcd (by omega) (by omega) w
  obtain ⟨g7, e7⟩ : ∃ g : Nat, g = Int.gcd ((g6 : Nat) : Int) d3 := ⟨_, rfl⟩
  have bg7 : ((g7 : Nat) : Int) ≤ 40000000 := by rw [e7]; exact gcd_bd (by omega) (by omega)
  have c7 : (∀ w, Calls Try.prog 136 #[.int .i64 ((g6 : Nat) : Int), .int .i64 d3] w fun e w' => e = .returned (.int .i64 ((g7 : Nat) : Int)) ∧ Below w.heap.size w w') := fun w => e7 ▸ base_gcd (by omega) (by omega) w
  obtain ⟨g8, e8⟩ : ∃ g : Nat, g = Int.gcd ((g7 : Nat) : Int) 0 := ⟨_, rfl⟩
  have bg8 : ((g8 : Nat) : Int) ≤ 40000000 := by rw [e8]; exact gcd_bd (by omega) (by omega)
  have c8 : (∀ w, Calls Try.prog 136 #[.int .i64 ((g7 : Nat) : Int), .int .i64 0] w fun e w' => e = .returned (.int .i64 ((g8 : Nat) : Int)) ∧ Below w.heap.size w w') := fun w => e8 ▸ base_gcd (by omega) (by omega) w
  have hg' : g = ((g8 : Nat) : Int) := by rw [hg]; rw [← e1]; rw [← e2]; rw [← e3]; rw [← e4]; rw [← e5]; rw [← e6]; rw [← e7]; rw [← e8]
  have hw : ∀ a : Int, (-40000000 ≤ a ∧ a ≤ 40000000) → IntKind.i64.wrap (a.tdiv g) = a.tdiv g := fun a h => tdiv_w h
  refine one_val (rp3 r0 r1 r2 r3 r4 r5 r6 r7 r8 r9 r10 r11 r12 r13 r14 r15 (Q := (· = _)) ⟨false, hb, (fun h => by cases h), fun _ => ?_⟩) w
  refine ⟨d0, 0, x01, y01, x02, y02, x03, y03, x01, (0 - y01), d1, 0, x12, y12, x13, y13, x02, (0 - y02), x12, (0 - y12), d2, 0, x23, y23, x03, (0 - y03), x13, (0 - y13), x23, (0 - y23), d3, 0, hK, ⟨by omega, by omega⟩, ⟨by omega, by omega⟩, ⟨by omega, by omega⟩, ⟨by omega, by omega⟩, ⟨by omega, by omega⟩, ⟨by omega, by omega⟩, ⟨by omega, by omega⟩, ⟨by omega, by omega⟩, ⟨by omega, by omega⟩, ⟨by omega, by omega⟩, ⟨by omega, by omega⟩, ⟨by omega, by omega⟩, ⟨by omega, by omega⟩, ⟨by omega, by omega⟩, ⟨by omega, by omega⟩, ⟨by omega, by omega⟩, ⟨by omega, by omega⟩, ⟨by omega, by omega⟩, ⟨by omega, by omega⟩, ⟨by omega, by omega⟩, ⟨by omega, by omega⟩, ⟨by omega, by omega⟩, ⟨by omega, by omega⟩, ⟨by omega, by omega⟩, ⟨by omega, by omega⟩, ⟨by omega, by omega⟩, ⟨by omega, by omega⟩, ⟨by omega, by omega⟩, ⟨by omega, by omega⟩, ⟨by omega, by omega⟩, ⟨by omega, by omega⟩, ⟨by omega, by omega⟩, ?_⟩
  refine ⟨fun _ => ?_, fun h => absurd hp.e0 (beq_eq_false_iff_ne.mp h)⟩
  refine ⟨fun _ => ?_, fun h => absurd hp.e1 (beq_eq_false_iff_ne.mp h)⟩
  refine ⟨fun _ => ?_, fun h => absurd hp.e2 (beq_eq_false_iff_ne.mp h)⟩
  refine ⟨fun _ => ?_, fun h => absurd hp.e3 (beq_eq_false_iff_ne.mp h)⟩
  refine ⟨fun _ => ?_, fun h => absurd hp.e4 (beq_eq_false_iff_ne.mp h)⟩
  refine ⟨fun _ => ?_, fun h => absurd hp.e5 (beq_eq_false_iff_ne.mp h)⟩
  refine ⟨fun _ => ?_, fun h => absurd hp.e6 (beq_eq_false_iff_ne.mp h)⟩
  refine ⟨fun _ => ?_, fun h => absurd hp.e7 (beq_eq_false_iff_ne.mp h)⟩
  refine ⟨fun _ => ?_, fun h => absurd hp.e8 (beq_eq_false_iff_ne.mp h)⟩
  refine ⟨fun _ => ?_, fun h => absurd hp.e9 (beq_eq_false_iff_ne.mp h)⟩
  refine ⟨fun _ => ?_, fun h => absurd hp.e10 (beq_eq_false_iff_ne.mp h)⟩
  refine ⟨fun _ => ?_, fun h => absurd hp.e11 (beq_eq_false_iff_ne.mp h)⟩
  refine ⟨fun _ => ?_, fun h => absurd hp.e12 (beq_eq_false_iff_ne.mp h)⟩
  refine ⟨fun _ => ?_, fun h => absurd hp.e13 (beq_eq_false_iff_ne.mp h)⟩
  refine ⟨fun _ => ?_, fun h => absurd hp.e14 (beq_eq_false_iff_ne.mp h)⟩
  refine ⟨fun _ => ?_, fun h => absurd hp.e15 (beq_eq_false_iff_ne.mp h)⟩
  refine ⟨fun _ => ?_, fun h => absurd hp.e16 (beq_eq_false_iff_ne.mp h)⟩
  refine ⟨fun _ => ?_, fun h => absurd hp.e17 (beq_eq_false_iff_ne.mp h)⟩
  refine ⟨fun _ => ?_, fun h => absurd hp.e18 (beq_eq_false_iff_ne.mp h)⟩
  refine ⟨fun _ => ?_, fun h => absurd hp.e19 (beq_eq_false_iff_ne.mp h)⟩
  refine ⟨fun _ => ?_, fun h => absurd hp.e20 (beq_eq_false_iff_ne.mp h)⟩
  refine ⟨fun _ => ?_, fun h => absurd hp.e21 (beq_eq_false_iff_ne.mp h)⟩
  refine ⟨fun _ => ?_, fun h => absurd hp.e22 (beq_eq_false_iff_ne.mp h)⟩
  refine ⟨fun _ => ?_, fun h => absurd hp.e23 (beq_eq_false_iff_ne.mp h)⟩
  refine ⟨fun _ => ?_, fun h => absurd hp.e24 (beq_eq_false_iff_ne.mp h)⟩
  refine ⟨fun _ => ?_, fun h => absurd hp.e25 (beq_eq_false_iff_ne.mp h)⟩
  refine ⟨fun _ => ?_, fun h => absurd hp.e26 (beq_eq_false_iff_ne.mp h)⟩
  refine ⟨fun _ => ?_, fun h => absurd hp.e27 (beq_eq_false_iff_ne.mp h)⟩
  refine ⟨fun _ => ?_, fun h => absurd hp.e28 (beq_eq_false_iff_ne.mp h)⟩
  refine ⟨fun _ => ?_, fun h => absurd hp.e29 (beq_eq_false_iff_ne.mp h)⟩
  refine ⟨fun _ => ?_, fun h => absurd hp.e30 (beq_eq_false_iff_ne.mp h)⟩
  refine ⟨fun _ => ?_, fun h => absurd hp.e31 (beq_eq_false_iff_ne.mp h)⟩
  refine ⟨((g1 : Nat) : Int), c1, ((g2 : Nat) : Int), c2, ((g3 : Nat) : Int), c3, ((g4 : Nat) : Int), c4, ((g5 : Nat) : Int), c5, ((g6 : Nat) : Int), c6, ((g7 : Nat) : Int), c7, ((g8 : Nat) : Int), c8, fun h => by exfalso; have := beq0 h; omega, fun _ => ?_⟩
  simp only [← hg', hw (x03) (by omega), hw (y03) (by omega), hw (x13) (by omega), hw (y13) (by omega), hw (x23) (by omega), hw (y23) (by omega), hw (d3) (by omega), hw (0) (by omega)]
  exact ⟨((z0 : Nat) : Int), ((z1 : Nat) : Int), ((z2 : Nat) : Int), ((z3 : Nat) : Int), ((z4 : Nat) : Int), ((z5 : Nat) : Int), ((z6 : Nat) : Int), ((z7 : Nat) : Int), c, hm, rfl⟩
set_option maxHeartbeats 16000000 in
theorem rj_none {m0 m1 m2 m3 m4 m5 m6 m7 m8 m9 m10 m11 m12 m13 m14 m15 d0 d1 d2 d3 x01 y01 x02 y02 x03 y03 x12 y12 x13 y13 x23 y23 : Int} (r0 : (-1000000000) ≤ m0 ∧ m0 ≤ 1000000000) (r1 : (-1000000000) ≤ m1 ∧ m1 ≤ 1000000000) (r2 : (-1000000000) ≤ m2 ∧ m2 ≤ 1000000000) (r3 : (-1000000000) ≤ m3 ∧ m3 ≤ 1000000000) (r4 : (-1000000000) ≤ m4 ∧ m4 ≤ 1000000000) (r5 : (-1000000000) ≤ m5 ∧ m5 ≤ 1000000000) (r6 : (-1000000000) ≤ m6 ∧ m6 ≤ 1000000000) (r7 : (-1000000000) ≤ m7 ∧ m7 ≤ 1000000000) (r8 : (-1000000000) ≤ m8 ∧ m8 ≤ 1000000000) (r9 : (-1000000000) ≤ m9 ∧ m9 ≤ 1000000000) (r10 : (-1000000000) ≤ m10 ∧ m10 ≤ 1000000000) (r11 : (-1000000000) ≤ m11 ∧ m11 ≤ 1000000000) (r12 : (-1000000000) ≤ m12 ∧ m12 ≤ 1000000000) (r13 : (-1000000000) ≤ m13 ∧ m13 ≤ 1000000000) (r14 : (-1000000000) ≤ m14 ∧ m14 ≤ 1000000000) (r15 : (-1000000000) ≤ m15 ∧ m15 ≤ 1000000000) (bd0 : (-40000000) ≤ d0 ∧ d0 ≤ 40000000) (bd1 : (-40000000) ≤ d1 ∧ d1 ≤ 40000000) (bd2 : (-40000000) ≤ d2 ∧ d2 ≤ 40000000) (bd3 : (-40000000) ≤ d3 ∧ d3 ≤ 40000000) (bx01 : (-40000000) ≤ x01 ∧ x01 ≤ 40000000) (by01 : (-40000000) ≤ y01 ∧ y01 ≤ 40000000) (bx02 : (-40000000) ≤ x02 ∧ x02 ≤ 40000000) (by02 : (-40000000) ≤ y02 ∧ y02 ≤ 40000000) (bx03 : (-40000000) ≤ x03 ∧ x03 ≤ 40000000) (by03 : (-40000000) ≤ y03 ∧ y03 ≤ 40000000) (bx12 : (-40000000) ≤ x12 ∧ x12 ≤ 40000000) (by12 : (-40000000) ≤ y12 ∧ y12 ≤ 40000000) (bx13 : (-40000000) ≤ x13 ∧ x13 ≤ 40000000) (by13 : (-40000000) ≤ y13 ∧ y13 ≤ 40000000) (bx23 : (-40000000) ≤ x23 ∧ x23 ≤ 40000000) (by23 : (-40000000) ≤ y23 ∧ y23 ≤ 40000000) (hb : (∀ w, Calls Try.prog 123 #[.agg #[.int .i64 m0, .int .i64 m1, .int .i64 m2, .int .i64 m3, .int .i64 m4, .int .i64 m5, .int .i64 m6, .int .i64 m7, .int .i64 m8, .int .i64 m9, .int .i64 m10, .int .i64 m11, .int .i64 m12, .int .i64 m13, .int .i64 m14, .int .i64 m15], .int .i64 10000000] w fun e w' => e = .returned (.bool false) ∧ Below w.heap.size w w')) (hK : (∀ w, Calls Try.prog 70 #[.agg #[.int .i64 m0, .int .i64 m1, .int .i64 m2, .int .i64 m3, .int .i64 m4, .int .i64 m5, .int .i64 m6, .int .i64 m7, .int .i64 m8, .int .i64 m9, .int .i64 m10, .int .i64 m11, .int .i64 m12, .int .i64 m13, .int .i64 m14, .int .i64 m15]] w fun e w' => e = .returned (.agg #[.int .i64 d0, .int .i64 0, .int .i64 x01, .int .i64 y01, .int .i64 x02, .int .i64 y02, .int .i64 x03, .int .i64 y03, .int .i64 x01, .int .i64 (0 - y01), .int .i64 d1, .int .i64 0, .int .i64 x12, .int .i64 y12, .int .i64 x13, .int .i64 y13, .int .i64 x02, .int .i64 (0 - y02), .int .i64 x12, .int .i64 (0 - y12), .int .i64 d2, .int .i64 0, .int .i64 x23, .int .i64 y23, .int .i64 x03, .int .i64 (0 - y03), .int .i64 x13, .int .i64 (0 - y13), .int .i64 x23, .int .i64 (0 - y23), .int .i64 d3, .int .i64 0]) ∧ Below w.heap.size w w')) (hn0 : ¬ Pure0 d0 d1 d2 d3 x01 y01 x02 y02 x03 y03 x12 y12 x13 y13 x23 y23) (hn1 : ¬ Pure1 d0 d1 d2 d3 x01 y01 x02 y02 x03 y03 x12 y12 x13 y13 x23 y23) (hn2 : ¬ Pure2 d0 d1 d2 d3 x01 y01 x02 y02 x03 y03 x12 y12 x13 y13 x23 y23) (hn3 : ¬ Pure3 d0 d1 d2 d3 x01 y01 x02 y02 x03 y03 x12 y12 x13 y13 x23 y23) (w : World) : Calls Try.prog 65 #[.agg #[.int .i64 m0, .int .i64 m1, .int .i64 m2, .int .i64 m3, .int .i64 m4, .int .i64 m5, .int .i64 m6, .int .i64 m7, .int .i64 m8, .int .i64 m9, .int .i64 m10, .int .i64 m11, .int .i64 m12, .int .i64 m13, .int .i64 m14, .int .i64 m15]] w fun e w' => e = .returned (.tuple #[.agg #[.complex .f64 0 0, .complex .f64 0 0, .complex .f64 0 0, .complex .f64 0 0], .int .i64 17]) ∧ Below w.heap.size w w' := by
  by_cases s0 : 0 < d0
  · refine one_val (rp0 r0 r1 r2 r3 r4 r5 r6 r7 r8 r9 r10 r11 r12 r13 r14 r15 (Q := (· = _)) ⟨false, hb, (fun h => by cases h), fun _ => ?_⟩) w
    refine ⟨d0, 0, x01, y01, x02, y02, x03, y03, x01, (0 - y01), d1, 0, x12, y12, x13, y13, x02, (0 - y02), x12, (0 - y12), d2, 0, x23, y23, x03, (0 - y03), x13, (0 - y13), x23, (0 - y23), d3, 0, hK, ⟨by omega, by omega⟩, ⟨by omega, by omega⟩, ⟨by omega, by omega⟩, ⟨by omega, by omega⟩, ⟨by omega, by omega⟩, ⟨by omega, by omega⟩, ⟨by omega, by omega⟩, ⟨by omega, by omega⟩, ⟨by omega, by omega⟩, ⟨by omega, by omega⟩, ⟨by omega, by omega⟩, ⟨by omega, by omega⟩, ⟨by omega, by omega⟩, ⟨by omega, by omega⟩, ⟨by omega, by omega⟩, ⟨by omega, by omega⟩, ⟨by omega, by omega⟩, ⟨by omega, by omega⟩, ⟨by omega, by omega⟩, ⟨by omega, by omega⟩, ⟨by omega, by omega⟩, ⟨by omega, by omega⟩, ⟨by omega, by omega⟩, ⟨by omega, by omega⟩, ⟨by omega, by omega⟩, ⟨by omega, by omega⟩, ⟨by omega, by omega⟩, ⟨by omega, by omega⟩, ⟨by omega, by omega⟩, ⟨by omega, by omega⟩, ⟨by omega, by omega⟩, ⟨by omega, by omega⟩, ?_⟩
    refine ⟨fun h0 => ?_, fun _ => rfl⟩
    refine ⟨fun h1 => ?_, fun _ => rfl⟩
    refine ⟨fun h2 => ?_, fun _ => rfl⟩
    refine ⟨fun h3 => ?_, fun _ => rfl⟩
    refine ⟨fun h4 => ?_, fun _ => rfl⟩
    refine ⟨fun h5 => ?_, fun _ => rfl⟩
    refine ⟨fun h6 => ?_, fun _ => rfl⟩
    refine ⟨fun h7 => ?_, fun _ => rfl⟩
    refine ⟨fun h8 => ?_, fun _ => rfl⟩
    refine ⟨fun h9 => ?_, fun _ => rfl⟩
    refine ⟨fun h10 => ?_, fun _ => rfl⟩
    refine ⟨fun h11 => ?_, fun _ => rfl⟩
    refine ⟨fun h12 => ?_, fun _ => rfl⟩
    refine ⟨fun h13 => ?_, fun _ => rfl⟩
    refine ⟨fun h14 => ?_, fun _ => rfl⟩
    refine ⟨fun h15 => ?_, fun _ => rfl⟩
    refine ⟨fun h16 => ?_, fun _ => rfl⟩
    refine ⟨fun h17 => ?_, fun _ => rfl⟩
    refine ⟨fun h18 => ?_, fun _ => rfl⟩
    refine ⟨fun h19 => ?_, fun _ => rfl⟩
    refine ⟨fun h20 => ?_, fun _ => rfl⟩
    refine ⟨fun h21 => ?_, fun _ => rfl⟩
    refine ⟨fun h22 => ?_, fun _ => rfl⟩
    refine ⟨fun h23 => ?_, fun _ => rfl⟩
    refine ⟨fun h24 => ?_, fun _ => rfl⟩
    refine ⟨fun h25 => ?_, fun _ => rfl⟩
    refine ⟨fun h26 => ?_, fun _ => rfl⟩
    refine ⟨fun h27 => ?_, fun _ => rfl⟩
    refine ⟨fun h28 => ?_, fun _ => rfl⟩
    refine ⟨fun h29 => ?_, fun _ => rfl⟩
    refine ⟨fun h30 => ?_, fun _ => rfl⟩
    refine ⟨fun h31 => ?_, fun _ => rfl⟩
    exfalso; clear hK hb; simp only [beq_iff_eq] at h0 h1 h2 h3 h4 h5 h6 h7 h8 h9 h10 h11 h12 h13 h14 h15 h16 h17 h18 h19 h20 h21 h22 h23 h24 h25 h26 h27 h28 h29 h30 h31
    exact hn0 { pos := s0, e0 := h0, e1 := h1, e2 := h2, e3 := h3, e4 := h4, e5 := h5, e6 := h6, e7 := h7, e8 := h8, e9 := h9, e10 := h10, e11 := h11, e12 := h12, e13 := h13, e14 := h14, e15 := h15, e16 := h16, e17 := h17, e18 := h18, e19 := h19, e20 := h20, e21 := h21, e22 := h22, e23 := h23, e24 := h24, e25 := h25, e26 := h26, e27 := h27, e28 := h28, e29 := h29, e30 := h30, e31 := h31 }
  by_cases t0 : d0 < 0
  · refine one_val (rn0 r0 r1 r2 r3 r4 r5 r6 r7 r8 r9 r10 r11 r12 r13 r14 r15 (Q := (· = _)) ⟨false, hb, (fun h => by cases h), fun _ => ?_⟩) w
    exact ⟨d0, 0, x01, y01, x02, y02, x03, y03, x01, (0 - y01), d1, 0, x12, y12, x13, y13, x02, (0 - y02), x12, (0 - y12), d2, 0, x23, y23, x03, (0 - y03), x13, (0 - y13), x23, (0 - y23), d3, 0, hK, ⟨by omega, by omega⟩, ⟨by omega, by omega⟩, ⟨by omega, by omega⟩, ⟨by omega, by omega⟩, ⟨by omega, by omega⟩, ⟨by omega, by omega⟩, ⟨by omega, by omega⟩, ⟨by omega, by omega⟩, ⟨by omega, by omega⟩, ⟨by omega, by omega⟩, ⟨by omega, by omega⟩, ⟨by omega, by omega⟩, ⟨by omega, by omega⟩, ⟨by omega, by omega⟩, ⟨by omega, by omega⟩, ⟨by omega, by omega⟩, ⟨by omega, by omega⟩, ⟨by omega, by omega⟩, ⟨by omega, by omega⟩, ⟨by omega, by omega⟩, ⟨by omega, by omega⟩, ⟨by omega, by omega⟩, ⟨by omega, by omega⟩, ⟨by omega, by omega⟩, ⟨by omega, by omega⟩, ⟨by omega, by omega⟩, ⟨by omega, by omega⟩, ⟨by omega, by omega⟩, ⟨by omega, by omega⟩, ⟨by omega, by omega⟩, ⟨by omega, by omega⟩, ⟨by omega, by omega⟩, rfl⟩
  have z0 : d0 = 0 := by omega
  by_cases s1 : 0 < d1
  · refine one_val (rp1 r0 r1 r2 r3 r4 r5 r6 r7 r8 r9 r10 r11 r12 r13 r14 r15 (Q := (· = _)) ⟨false, hb, (fun h => by cases h), fun _ => ?_⟩) w
    refine ⟨d0, 0, x01, y01, x02, y02, x03, y03, x01, (0 - y01), d1, 0, x12, y12, x13, y13, x02, (0 - y02), x12, (0 - y12), d2, 0, x23, y23, x03, (0 - y03), x13, (0 - y13), x23, (0 - y23), d3, 0, hK, ⟨by omega, by omega⟩, ⟨by omega, by omega⟩, ⟨by omega, by omega⟩, ⟨by omega, by omega⟩, ⟨by omega, by omega⟩, ⟨by omega, by omega⟩, ⟨by omega, by omega⟩, ⟨by omega, by omega⟩, ⟨by omega, by omega⟩, ⟨by omega, by omega⟩, ⟨by omega, by omega⟩, ⟨by omega, by omega⟩, ⟨by omega, by omega⟩, ⟨by omega, by omega⟩, ⟨by omega, by omega⟩, ⟨by omega, by omega⟩, ⟨by omega, by omega⟩, ⟨by omega, by omega⟩, ⟨by omega, by omega⟩, ⟨by omega, by omega⟩, ⟨by omega, by omega⟩, ⟨by omega, by omega⟩, ⟨by omega, by omega⟩, ⟨by omega, by omega⟩, ⟨by omega, by omega⟩, ⟨by omega, by omega⟩, ⟨by omega, by omega⟩, ⟨by omega, by omega⟩, ⟨by omega, by omega⟩, ⟨by omega, by omega⟩, ⟨by omega, by omega⟩, ⟨by omega, by omega⟩, ?_⟩
    refine ⟨fun h0 => ?_, fun _ => rfl⟩
    refine ⟨fun h1 => ?_, fun _ => rfl⟩
    refine ⟨fun h2 => ?_, fun _ => rfl⟩
    refine ⟨fun h3 => ?_, fun _ => rfl⟩
    refine ⟨fun h4 => ?_, fun _ => rfl⟩
    refine ⟨fun h5 => ?_, fun _ => rfl⟩
    refine ⟨fun h6 => ?_, fun _ => rfl⟩
    refine ⟨fun h7 => ?_, fun _ => rfl⟩
    refine ⟨fun h8 => ?_, fun _ => rfl⟩
    refine ⟨fun h9 => ?_, fun _ => rfl⟩
    refine ⟨fun h10 => ?_, fun _ => rfl⟩
    refine ⟨fun h11 => ?_, fun _ => rfl⟩
    refine ⟨fun h12 => ?_, fun _ => rfl⟩
    refine ⟨fun h13 => ?_, fun _ => rfl⟩
    refine ⟨fun h14 => ?_, fun _ => rfl⟩
    refine ⟨fun h15 => ?_, fun _ => rfl⟩
    refine ⟨fun h16 => ?_, fun _ => rfl⟩
    refine ⟨fun h17 => ?_, fun _ => rfl⟩
    refine ⟨fun h18 => ?_, fun _ => rfl⟩
    refine ⟨fun h19 => ?_, fun _ => rfl⟩
    refine ⟨fun h20 => ?_, fun _ => rfl⟩
    refine ⟨fun h21 => ?_, fun _ => rfl⟩
    refine ⟨fun h22 => ?_, fun _ => rfl⟩
    refine ⟨fun h23 => ?_, fun _ => rfl⟩
    refine ⟨fun h24 => ?_, fun _ => rfl⟩
    refine ⟨fun h25 => ?_, fun _ => rfl⟩
    refine ⟨fun h26 => ?_, fun _ => rfl⟩
    refine ⟨fun h27 => ?_, fun _ => rfl⟩
    refine ⟨fun h28 => ?_, fun _ => rfl⟩
    refine ⟨fun h29 => ?_, fun _ => rfl⟩
    refine ⟨fun h30 => ?_, fun _ => rfl⟩
    refine ⟨fun h31 => ?_, fun _ => rfl⟩
    exfalso; clear hK hb; simp only [beq_iff_eq] at h0 h1 h2 h3 h4 h5 h6 h7 h8 h9 h10 h11 h12 h13 h14 h15 h16 h17 h18 h19 h20 h21 h22 h23 h24 h25 h26 h27 h28 h29 h30 h31
    exact hn1 { z0 := by omega, pos := s1, e0 := h0, e1 := h1, e2 := h2, e3 := h3, e4 := h4, e5 := h5, e6 := h6, e7 := h7, e8 := h8, e9 := h9, e10 := h10, e11 := h11, e12 := h12, e13 := h13, e14 := h14, e15 := h15, e16 := h16, e17 := h17, e18 := h18, e19 := h19, e20 := h20, e21 := h21, e22 := h22, e23 := h23, e24 := h24, e25 := h25, e26 := h26, e27 := h27, e28 := h28, e29 := h29, e30 := h30, e31 := h31 }
  by_cases t1 : d1 < 0
  · refine one_val (rn1 r0 r1 r2 r3 r4 r5 r6 r7 r8 r9 r10 r11 r12 r13 r14 r15 (Q := (· = _)) ⟨false, hb, (fun h => by cases h), fun _ => ?_⟩) w
    exact ⟨d0, 0, x01, y01, x02, y02, x03, y03, x01, (0 - y01), d1, 0, x12, y12, x13, y13, x02, (0 - y02), x12, (0 - y12), d2, 0, x23, y23, x03, (0 - y03), x13, (0 - y13), x23, (0 - y23), d3, 0, hK, ⟨by omega, by omega⟩, ⟨by omega, by omega⟩, ⟨by omega, by omega⟩, ⟨by omega, by omega⟩, ⟨by omega, by omega⟩, ⟨by omega, by omega⟩, ⟨by omega, by omega⟩, ⟨by omega, by omega⟩, ⟨by omega, by omega⟩, ⟨by omega, by omega⟩, ⟨by omega, by omega⟩, ⟨by omega, by omega⟩, ⟨by omega, by omega⟩, ⟨by omega, by omega⟩, ⟨by omega, by omega⟩, ⟨by omega, by omega⟩, ⟨by omega, by omega⟩, ⟨by omega, by omega⟩, ⟨by omega, by omega⟩, ⟨by omega, by omega⟩, ⟨by omega, by omega⟩, ⟨by omega, by omega⟩, ⟨by omega, by omega⟩, ⟨by omega, by omega⟩, ⟨by omega, by omega⟩, ⟨by omega, by omega⟩, ⟨by omega, by omega⟩, ⟨by omega, by omega⟩, ⟨by omega, by omega⟩, ⟨by omega, by omega⟩, ⟨by omega, by omega⟩, ⟨by omega, by omega⟩, rfl⟩
  have z1 : d1 = 0 := by omega
  by_cases s2 : 0 < d2
  · refine one_val (rp2 r0 r1 r2 r3 r4 r5 r6 r7 r8 r9 r10 r11 r12 r13 r14 r15 (Q := (· = _)) ⟨false, hb, (fun h => by cases h), fun _ => ?_⟩) w
    refine ⟨d0, 0, x01, y01, x02, y02, x03, y03, x01, (0 - y01), d1, 0, x12, y12, x13, y13, x02, (0 - y02), x12, (0 - y12), d2, 0, x23, y23, x03, (0 - y03), x13, (0 - y13), x23, (0 - y23), d3, 0, hK, ⟨by omega, by omega⟩, ⟨by omega, by omega⟩, ⟨by omega, by omega⟩, ⟨by omega, by omega⟩, ⟨by omega, by omega⟩, ⟨by omega, by omega⟩, ⟨by omega, by omega⟩, ⟨by omega, by omega⟩, ⟨by omega, by omega⟩, ⟨by omega, by omega⟩, ⟨by omega, by omega⟩, ⟨by omega, by omega⟩, ⟨by omega, by omega⟩, ⟨by omega, by omega⟩, ⟨by omega, by omega⟩, ⟨by omega, by omega⟩, ⟨by omega, by omega⟩, ⟨by omega, by omega⟩, ⟨by omega, by omega⟩, ⟨by omega, by omega⟩, ⟨by omega, by omega⟩, ⟨by omega, by omega⟩, ⟨by omega, by omega⟩, ⟨by omega, by omega⟩, ⟨by omega, by omega⟩, ⟨by omega, by omega⟩, ⟨by omega, by omega⟩, ⟨by omega, by omega⟩, ⟨by omega, by omega⟩, ⟨by omega, by omega⟩, ⟨by omega, by omega⟩, ⟨by omega, by omega⟩, ?_⟩
    refine ⟨fun h0 => ?_, fun _ => rfl⟩
    refine ⟨fun h1 => ?_, fun _ => rfl⟩
    refine ⟨fun h2 => ?_, fun _ => rfl⟩
    refine ⟨fun h3 => ?_, fun _ => rfl⟩
    refine ⟨fun h4 => ?_, fun _ => rfl⟩
    refine ⟨fun h5 => ?_, fun _ => rfl⟩
    refine ⟨fun h6 => ?_, fun _ => rfl⟩
    refine ⟨fun h7 => ?_, fun _ => rfl⟩
    refine ⟨fun h8 => ?_, fun _ => rfl⟩
    refine ⟨fun h9 => ?_, fun _ => rfl⟩
    refine ⟨fun h10 => ?_, fun _ => rfl⟩
    refine ⟨fun h11 => ?_, fun _ => rfl⟩
    refine ⟨fun h12 => ?_, fun _ => rfl⟩
    refine ⟨fun h13 => ?_, fun _ => rfl⟩
    refine ⟨fun h14 => ?_, fun _ => rfl⟩
    refine ⟨fun h15 => ?_, fun _ => rfl⟩
    refine ⟨fun h16 => ?_, fun _ => rfl⟩
    refine ⟨fun h17 => ?_, fun _ => rfl⟩
    refine ⟨fun h18 => ?_, fun _ => rfl⟩
    refine ⟨fun h19 => ?_, fun _ => rfl⟩
    refine ⟨fun h20 => ?_, fun _ => rfl⟩
    refine ⟨fun h21 => ?_, fun _ => rfl⟩
    refine ⟨fun h22 => ?_, fun _ => rfl⟩
    refine ⟨fun h23 => ?_, fun _ => rfl⟩
    refine ⟨fun h24 => ?_, fun _ => rfl⟩
    refine ⟨fun h25 => ?_, fun _ => rfl⟩
    refine ⟨fun h26 => ?_, fun _ => rfl⟩
    refine ⟨fun h27 => ?_, fun _ => rfl⟩
    refine ⟨fun h28 => ?_, fun _ => rfl⟩
    refine ⟨fun h29 => ?_, fun _ => rfl⟩
    refine ⟨fun h30 => ?_, fun _ => rfl⟩
    refine ⟨fun h31 => ?_, fun _ => rfl⟩
    exfalso; clear hK hb; simp only [beq_iff_eq] at h0 h1 h2 h3 h4 h5 h6 h7 h8 h9 h10 h11 h12 h13 h14 h15 h16 h17 h18 h19 h20 h21 h22 h23 h24 h25 h26 h27 h28 h29 h30 h31
    exact hn2 { z0 := by omega, z1 := by omega, pos := s2, e0 := h0, e1 := h1, e2 := h2, e3 := h3, e4 := h4, e5 := h5, e6 := h6, e7 := h7, e8 := h8, e9 := h9, e10 := h10, e11 := h11, e12 := h12, e13 := h13, e14 := h14, e15 := h15, e16 := h16, e17 := h17, e18 := h18, e19 := h19, e20 := h20, e21 := h21, e22 := h22, e23 := h23, e24 := h24, e25 := h25, e26 := h26, e27 := h27, e28 := h28, e29 := h29, e30 := h30, e31 := h31 }
  by_cases t2 : d2 < 0
  · refine one_val (rn2 r0 r1 r2 r3 r4 r5 r6 r7 r8 r9 r10 r11 r12 r13 r14 r15 (Q := (· = _)) ⟨false, hb, (fun h => by cases h), fun _ => ?_⟩) w
    exact ⟨d0, 0, x01, y01, x02, y02, x03, y03, x01, (0 - y01), d1, 0, x12, y12, x13, y13, x02, (0 - y02), x12, (0 - y12), d2, 0, x23, y23, x03, (0 - y03), x13, (0 - y13), x23, (0 - y23), d3, 0, hK, ⟨by omega, by omega⟩, ⟨by omega, by omega⟩, ⟨by omega, by omega⟩, ⟨by omega, by omega⟩, ⟨by omega, by omega⟩, ⟨by omega, by omega⟩, ⟨by omega, by omega⟩, ⟨by omega, by omega⟩, ⟨by omega, by omega⟩, ⟨by omega, by omega⟩, ⟨by omega, by omega⟩, ⟨by omega, by omega⟩, ⟨by omega, by omega⟩, ⟨by omega, by omega⟩, ⟨by omega, by omega⟩, ⟨by omega, by omega⟩, ⟨by omega, by omega⟩, ⟨by omega, by omega⟩, ⟨by omega, by omega⟩, ⟨by omega, by omega⟩, ⟨by omega, by omega⟩, ⟨by omega, by omega⟩, ⟨by omega, by omega⟩, ⟨by omega, by omega⟩, ⟨by omega, by omega⟩, ⟨by omega, by omega⟩, ⟨by omega, by omega⟩, ⟨by omega, by omega⟩, ⟨by omega, by omega⟩, ⟨by omega, by omega⟩, ⟨by omega, by omega⟩, ⟨by omega, by omega⟩, rfl⟩
  have z2 : d2 = 0 := by omega
  by_cases s3 : 0 < d3
  · refine one_val (rp3 r0 r1 r2 r3 r4 r5 r6 r7 r8 r9 r10 r11 r12 r13 r14 r15 (Q := (· = _)) ⟨false, hb, (fun h => by cases h), fun _ => ?_⟩) w
    refine ⟨d0, 0, x01, y01, x02, y02, x03, y03, x01, (0 - y01), d1, 0, x12, y12, x13, y13, x02, (0 - y02), x12, (0 - y12), d2, 0, x23, y23, x03, (0 - y03), x13, (0 - y13), x23, (0 - y23), d3, 0, hK, ⟨by omega, by omega⟩, ⟨by omega, by omega⟩, ⟨by omega, by omega⟩, ⟨by omega, by omega⟩, ⟨by omega, by omega⟩, ⟨by omega, by omega⟩, ⟨by omega, by omega⟩, ⟨by omega, by omega⟩, ⟨by omega, by omega⟩, ⟨by omega, by omega⟩, ⟨by omega, by omega⟩, ⟨by omega, by omega⟩, ⟨by omega, by omega⟩, ⟨by omega, by omega⟩, ⟨by omega, by omega⟩, ⟨by omega, by omega⟩, ⟨by omega, by omega⟩, ⟨by omega, by omega⟩, ⟨by omega, by omega⟩, ⟨by omega, by omega⟩, ⟨by omega, by omega⟩, ⟨by omega, by omega⟩, ⟨by omega, by omega⟩, ⟨by omega, by omega⟩, ⟨by omega, by omega⟩, ⟨by omega, by omega⟩, ⟨by omega, by omega⟩, ⟨by omega, by omega⟩, ⟨by omega, by omega⟩, ⟨by omega, by omega⟩, ⟨by omega, by omega⟩, ⟨by omega, by omega⟩, ?_⟩
    refine ⟨fun h0 => ?_, fun _ => rfl⟩
    refine ⟨fun h1 => ?_, fun _ => rfl⟩
    refine ⟨fun h2 => ?_, fun _ => rfl⟩
    refine ⟨fun h3 => ?_, fun _ => rfl⟩
    refine ⟨fun h4 => ?_, fun _ => rfl⟩
    refine ⟨fun h5 => ?_, fun _ => rfl⟩
    refine ⟨fun h6 => ?_, fun _ => rfl⟩
    refine ⟨fun h7 => ?_, fun _ => rfl⟩
    refine ⟨fun h8 => ?_, fun _ => rfl⟩
    refine ⟨fun h9 => ?_, fun _ => rfl⟩
    refine ⟨fun h10 => ?_, fun _ => rfl⟩
    refine ⟨fun h11 => ?_, fun _ => rfl⟩
    refine ⟨fun h12 => ?_, fun _ => rfl⟩
    refine ⟨fun h13 => ?_, fun _ => rfl⟩
    refine ⟨fun h14 => ?_, fun _ => rfl⟩
    refine ⟨fun h15 => ?_, fun _ => rfl⟩
    refine ⟨fun h16 => ?_, fun _ => rfl⟩
    refine ⟨fun h17 => ?_, fun _ => rfl⟩
    refine ⟨fun h18 => ?_, fun _ => rfl⟩
    refine ⟨fun h19 => ?_, fun _ => rfl⟩
    refine ⟨fun h20 => ?_, fun _ => rfl⟩
    refine ⟨fun h21 => ?_, fun _ => rfl⟩
    refine ⟨fun h22 => ?_, fun _ => rfl⟩
    refine ⟨fun h23 => ?_, fun _ => rfl⟩
    refine ⟨fun h24 => ?_, fun _ => rfl⟩
    refine ⟨fun h25 => ?_, fun _ => rfl⟩
    refine ⟨fun h26 => ?_, fun _ => rfl⟩
    refine ⟨fun h27 => ?_, fun _ => rfl⟩
    refine ⟨fun h28 => ?_, fun _ => rfl⟩
    refine ⟨fun h29 => ?_, fun _ => rfl⟩
    refine ⟨fun h30 => ?_, fun _ => rfl⟩
    refine ⟨fun h31 => ?_, fun _ => rfl⟩
    exfalso; clear hK hb; simp only [beq_iff_eq] at h0 h1 h2 h3 h4 h5 h6 h7 h8 h9 h10 h11 h12 h13 h14 h15 h16 h17 h18 h19 h20 h21 h22 h23 h24 h25 h26 h27 h28 h29 h30 h31
    exact hn3 { z0 := by omega, z1 := by omega, z2 := by omega, pos := s3, e0 := h0, e1 := h1, e2 := h2, e3 := h3, e4 := h4, e5 := h5, e6 := h6, e7 := h7, e8 := h8, e9 := h9, e10 := h10, e11 := h11, e12 := h12, e13 := h13, e14 := h14, e15 := h15, e16 := h16, e17 := h17, e18 := h18, e19 := h19, e20 := h20, e21 := h21, e22 := h22, e23 := h23, e24 := h24, e25 := h25, e26 := h26, e27 := h27, e28 := h28, e29 := h29, e30 := h30, e31 := h31 }
  by_cases t3 : d3 < 0
  · refine one_val (rn3 r0 r1 r2 r3 r4 r5 r6 r7 r8 r9 r10 r11 r12 r13 r14 r15 (Q := (· = _)) ⟨false, hb, (fun h => by cases h), fun _ => ?_⟩) w
    exact ⟨d0, 0, x01, y01, x02, y02, x03, y03, x01, (0 - y01), d1, 0, x12, y12, x13, y13, x02, (0 - y02), x12, (0 - y12), d2, 0, x23, y23, x03, (0 - y03), x13, (0 - y13), x23, (0 - y23), d3, 0, hK, ⟨by omega, by omega⟩, ⟨by omega, by omega⟩, ⟨by omega, by omega⟩, ⟨by omega, by omega⟩, ⟨by omega, by omega⟩, ⟨by omega, by omega⟩, ⟨by omega, by omega⟩, ⟨by omega, by omega⟩, ⟨by omega, by omega⟩, ⟨by omega, by omega⟩, ⟨by omega, by omega⟩, ⟨by omega, by omega⟩, ⟨by omega, by omega⟩, ⟨by omega, by omega⟩, ⟨by omega, by omega⟩, ⟨by omega, by omega⟩, ⟨by omega, by omega⟩, ⟨by omega, by omega⟩, ⟨by omega, by omega⟩, ⟨by omega, by omega⟩, ⟨by omega, by omega⟩, ⟨by omega, by omega⟩, ⟨by omega, by omega⟩, ⟨by omega, by omega⟩, ⟨by omega, by omega⟩, ⟨by omega, by omega⟩, ⟨by omega, by omega⟩, ⟨by omega, by omega⟩, ⟨by omega, by omega⟩, ⟨by omega, by omega⟩, ⟨by omega, by omega⟩, ⟨by omega, by omega⟩, rfl⟩
  have z3 : d3 = 0 := by omega
  refine one_val (rz r0 r1 r2 r3 r4 r5 r6 r7 r8 r9 r10 r11 r12 r13 r14 r15 (Q := (· = _)) ⟨false, hb, (fun h => by cases h), fun _ => ?_⟩) w
  exact ⟨d0, 0, x01, y01, x02, y02, x03, y03, x01, (0 - y01), d1, 0, x12, y12, x13, y13, x02, (0 - y02), x12, (0 - y12), d2, 0, x23, y23, x03, (0 - y03), x13, (0 - y13), x23, (0 - y23), d3, 0, hK, ⟨by omega, by omega⟩, ⟨by omega, by omega⟩, ⟨by omega, by omega⟩, ⟨by omega, by omega⟩, ⟨by omega, by omega⟩, ⟨by omega, by omega⟩, ⟨by omega, by omega⟩, ⟨by omega, by omega⟩, ⟨by omega, by omega⟩, ⟨by omega, by omega⟩, ⟨by omega, by omega⟩, ⟨by omega, by omega⟩, ⟨by omega, by omega⟩, ⟨by omega, by omega⟩, ⟨by omega, by omega⟩, ⟨by omega, by omega⟩, ⟨by omega, by omega⟩, ⟨by omega, by omega⟩, ⟨by omega, by omega⟩, ⟨by omega, by omega⟩, ⟨by omega, by omega⟩, ⟨by omega, by omega⟩, ⟨by omega, by omega⟩, ⟨by omega, by omega⟩, ⟨by omega, by omega⟩, ⟨by omega, by omega⟩, ⟨by omega, by omega⟩, ⟨by omega, by omega⟩, ⟨by omega, by omega⟩, ⟨by omega, by omega⟩, ⟨by omega, by omega⟩, ⟨by omega, by omega⟩, rfl⟩
end Go.Proofs.Ytlondnchmfhenaa.Ev
