/- PolarBack: divisors, the lowest column, the coherency matrix by 16 numbers; JonesOf as it runs; the matrix that comes back. -/
import Derived.Test.YtipcoahafdolcaaPja
import Derived.Test.YtipcoahafdolcaaPco
import Derived.Test.YtipcoahafdolcaaPrc
import Derived.Test.YtipcoahafdolcaaPjo
namespace Go.Proofs.Ytipcoahafdolcaa.Ev
set_option linter.unusedSimpArgs false
set_option linter.unusedVariables false
open Go Go.RowKit
set_option maxRecDepth 100000
theorem rpn' (k : Int) : Rp (FloatKind.f64.nearest k) k := Rp_fi k
theorem gcd_bd {a b M : Int} (ha : -M ≤ a ∧ a ≤ M) (hb : -M ≤ b ∧ b ≤ M) : ((Int.gcd a b : Nat) : Int) ≤ M := by
  by_cases h : b = 0
  · subst h; rw [Int.gcd_zero_right]; omega
  · have h1 : Int.gcd a b ∣ b.natAbs := Nat.gcd_dvd_right _ _
    have h2 := Nat.le_of_dvd (by omega) h1
    omega
theorem gcd_abs {a b c : Int} (h : a.natAbs = c.natAbs) : Int.gcd a b = Int.gcd c b := by unfold Int.gcd; rw [h]
theorem gl {a b : Int} {K : Int → Prop} (ha : -9223372036854775807 ≤ a ∧ a ≤ 9223372036854775807) (hb : -9223372036854775807 ≤ b ∧ b ≤ 9223372036854775807)
    (h : ∀ x : Int, x.natAbs = Int.gcd a b → ((-9223372036854775808) ≤ x ∧ x ≤ 9223372036854775807) → K x) :
    ∃ (I : Int → Int → Prop) (rk : Int → Int → Nat), I a b ∧ (∀ x y : Int, I x y → (((-9223372036854775808) ≤ x ∧ x ≤ 9223372036854775807) ∧ (((-9223372036854775808) ≤ y ∧ y ≤ 9223372036854775807) ∧ ((((y : Int) == 0) = true → (((-9223372036854775808) ≤ x ∧ x ≤ 9223372036854775807) ∧ K x)) ∧ (((y : Int) == 0) = false → (I y ((x : Int).tmod y) ∧ rk y ((x : Int).tmod y) < rk x y)))))) := by
  refine ⟨fun x y => Int.gcd x y = Int.gcd a b ∧ (-9223372036854775807 ≤ x ∧ x ≤ 9223372036854775807) ∧ (-9223372036854775807 ≤ y ∧ y ≤ 9223372036854775807), fun _ y => y.natAbs, ⟨rfl, ha, hb⟩, fun x y ⟨hg, hx, hy⟩ => ⟨by omega, by omega, fun e => ⟨by omega, h x ?_ (by omega)⟩, fun e => ⟨⟨?_, hy, ?_⟩, ?_⟩⟩⟩
  · have h0 : y = 0 := by simpa using e
    subst h0; rw [← hg, Int.gcd_zero_right]
  · rw [tmod_gcd]; exact hg
  · have h0 : y ≠ 0 := by simpa using e
    have := Int.natAbs_tmod x y
    have := Nat.mod_lt x.natAbs (show 0 < y.natAbs by omega)
    omega
  · have h0 : y ≠ 0 := by simpa using e
    have := Int.natAbs_tmod x y
    have := Nat.mod_lt x.natAbs (show 0 < y.natAbs by omega)
    show (x.tmod y).natAbs < y.natAbs
    omega
theorem dmax {x : Int} {g : Nat} (h : x.natAbs = g) (hg : (g : Int) ≤ 9223372036854775807) : (if (IntKind.i64.wrap (0 - x) : Int) > x then IntKind.i64.wrap (0 - x) else x) = (g : Int) := by
  rw [IntWalk.i64_in _ (by omega)]
  split <;> omega
theorem tdiv_bd {a g M : Int} (ha : -M ≤ a ∧ a ≤ M) : -M ≤ a.tdiv g ∧ a.tdiv g ≤ M := by
  have h1 : (a.tdiv g).natAbs ≤ a.natAbs := by rw [Int.natAbs_tdiv]; exact Nat.div_le_self _ _
  omega
theorem tdiv_w {a g : Int} (ha : -40000000 ≤ a ∧ a ≤ 40000000) : IntKind.i64.wrap (a.tdiv g) = a.tdiv g := by
  have := tdiv_bd (g := g) ha
  exact IntWalk.i64_in _ (by omega)
set_option maxHeartbeats 4000000 in
theorem low_c {A0 A1 B0 B1 C0 C1 D0 D1 : Int} {g : Int} (kA0 : (-40000000) ≤ A0 ∧ A0 ≤ 40000000) (kA1 : (-40000000) ≤ A1 ∧ A1 ≤ 40000000) (kB0 : (-40000000) ≤ B0 ∧ B0 ≤ 40000000) (kB1 : (-40000000) ≤ B1 ∧ B1 ≤ 40000000) (kC0 : (-40000000) ≤ C0 ∧ C0 ≤ 40000000) (kC1 : (-40000000) ≤ C1 ∧ C1 ≤ 40000000) (kD0 : (-40000000) ≤ D0 ∧ D0 ≤ 40000000) (kD1 : (-40000000) ≤ D1 ∧ D1 ≤ 40000000) (hg : g = ((Int.gcd ((Int.gcd ((Int.gcd ((Int.gcd ((Int.gcd ((Int.gcd ((Int.gcd ((Int.gcd 0 A0 : Nat) : Int) A1 : Nat) : Int) B0 : Nat) : Int) B1 : Nat) : Int) C0 : Nat) : Int) C1 : Nat) : Int) D0 : Nat) : Int) D1 : Nat) : Int)) (hp : g ≠ 0) (w : World) : Calls Try.prog 122 #[.agg #[.complex .f64 (FloatKind.f64.nearest A0) (FloatKind.f64.nearest A1), .complex .f64 (FloatKind.f64.nearest B0) (FloatKind.f64.nearest B1), .complex .f64 (FloatKind.f64.nearest C0) (FloatKind.f64.nearest C1), .complex .f64 (FloatKind.f64.nearest D0) (FloatKind.f64.nearest D1)]] w fun e w' => e = .returned (.agg #[.complex .f64 (FloatKind.f64.nearest (A0.tdiv g)) (FloatKind.f64.nearest (A1.tdiv g)), .complex .f64 (FloatKind.f64.nearest (B0.tdiv g)) (FloatKind.f64.nearest (B1.tdiv g)), .complex .f64 (FloatKind.f64.nearest (C0.tdiv g)) (FloatKind.f64.nearest (C1.tdiv g)), .complex .f64 (FloatKind.f64.nearest (D0.tdiv g)) (FloatKind.f64.nearest (D1.tdiv g))]) ∧ Below w.heap.size w w' := by
  obtain ⟨g1, e1⟩ : ∃ g : Nat, g = Int.gcd 0 A0 := ⟨_, rfl⟩
  have b1 : ((g1 : Nat) : Int) ≤ 40000000 := by rw [e1]; exact gcd_bd (by omega) (by omega)
  obtain ⟨g2, e2⟩ : ∃ g : Nat, g = Int.gcd ((g1 : Nat) : Int) A1 := ⟨_, rfl⟩
  have b2 : ((g2 : Nat) : Int) ≤ 40000000 := by rw [e2]; exact gcd_bd (by omega) (by omega)
  obtain ⟨g3, e3⟩ : ∃ g : Nat, g = Int.gcd ((g2 : Nat) : Int) B0 := ⟨_, rfl⟩
  have b3 : ((g3 : Nat) : Int) ≤ 40000000 := by rw [e3]; exact gcd_bd (by omega) (by omega)
  obtain ⟨g4, e4⟩ : ∃ g : Nat, g = Int.gcd ((g3 : Nat) : Int) B1 := ⟨_, rfl⟩
  have b4 : ((g4 : Nat) : Int) ≤ 40000000 := by rw [e4]; exact gcd_bd (by omega) (by omega)
  obtain ⟨g5, e5⟩ : ∃ g : Nat, g = Int.gcd ((g4 : Nat) : Int) C0 := ⟨_, rfl⟩
  have b5 : ((g5 : Nat) : Int) ≤ 40000000 := by rw [e5]; exact gcd_bd (by omega) (by omega)
  obtain ⟨g6, e6⟩ : ∃ g : Nat, g = Int.gcd ((g5 : Nat) : Int) C1 := ⟨_, rfl⟩
  have b6 : ((g6 : Nat) : Int) ≤ 40000000 := by rw [e6]; exact gcd_bd (by omega) (by omega)
  obtain ⟨g7, e7⟩ : ∃ g : Nat, g = Int.gcd ((g6 : Nat) : Int) D0 := ⟨_, rfl⟩
  have b7 : ((g7 : Nat) : Int) ≤ 40000000 := by rw [e7]; exact gcd_bd (by omega) (by omega)
  obtain ⟨g8, e8⟩ : ∃ g : Nat, g = Int.gcd ((g7 : Nat) : Int) D1 := ⟨_, rfl⟩
  have b8 : ((g8 : Nat) : Int) ≤ 40000000 := by rw [e8]; exact gcd_bd (by omega) (by omega)
  have hg' : g = ((g8 : Nat) : Int) := by rw [hg]; rw [← e1]; rw [← e2]; rw [← e3]; rw [← e4]; rw [← e5]; rw [← e6]; rw [← e7]; rw [← e8]
  have hr := fun x => rpn' x
  refine one_val (jlw kA0 kA1 kB0 kB1 kC0 kC1 kD0 kD1 (rpn' _) (rpn' _) (rpn' _) (rpn' _) (rpn' _) (rpn' _) (rpn' _) (rpn' _) (Q := (· = _)) ?_) w
  refine ⟨True, 0, trivial, fun _ => ?_⟩
  refine gl (by omega) (by omega) fun z1 n1 q1 => ?_
  have f1 : z1.natAbs = g1 := by rw [n1, e1]
  refine gl (by omega) (by omega) fun z2 n2 q2 => ?_
  have f2 : z2.natAbs = g2 := by rw [n2, e2]; exact gcd_abs (by omega)
  simp only [dmax f2 (show ((g2 : Nat) : Int) ≤ 9223372036854775807 by omega)]
  refine gl (by omega) (by omega) fun y1 l1 s1 => ?_
  have t1 : y1.natAbs = g2 := by rw [l1, Int.gcd_zero_left]; omega
  refine gl (by omega) (by omega) fun z3 n3 q3 => ?_
  have f3 : z3.natAbs = g3 := by rw [n3, e3]; exact gcd_abs (by omega)
  refine gl (by omega) (by omega) fun z4 n4 q4 => ?_
  have f4 : z4.natAbs = g4 := by rw [n4, e4]; exact gcd_abs (by omega)
  simp only [dmax f4 (show ((g4 : Nat) : Int) ≤ 9223372036854775807 by omega)]
  refine gl (by omega) (by omega) fun y2 l2 s2 => ?_
  have t2 : y2.natAbs = g4 := by rw [l2, Int.gcd_zero_left]; omega
  refine gl (by omega) (by omega) fun z5 n5 q5 => ?_
  have f5 : z5.natAbs = g5 := by rw [n5, e5]; exact gcd_abs (by omega)
  refine gl (by omega) (by omega) fun z6 n6 q6 => ?_
  have f6 : z6.natAbs = g6 := by rw [n6, e6]; exact gcd_abs (by omega)
  simp only [dmax f6 (show ((g6 : Nat) : Int) ≤ 9223372036854775807 by omega)]
  refine gl (by omega) (by omega) fun y3 l3 s3 => ?_
  have t3 : y3.natAbs = g6 := by rw [l3, Int.gcd_zero_left]; omega
  refine gl (by omega) (by omega) fun z7 n7 q7 => ?_
  have f7 : z7.natAbs = g7 := by rw [n7, e7]; exact gcd_abs (by omega)
  refine gl (by omega) (by omega) fun z8 n8 q8 => ?_
  have f8 : z8.natAbs = g8 := by rw [n8, e8]; exact gcd_abs (by omega)
  simp only [dmax f8 (show ((g8 : Nat) : Int) ≤ 9223372036854775807 by omega), ← hg', tdiv_w (g := g) kA0, tdiv_w (g := g) kA1, tdiv_w (g := g) kB0, tdiv_w (g := g) kB1, tdiv_w (g := g) kC0, tdiv_w (g := g) kC1, tdiv_w (g := g) kD0, tdiv_w (g := g) kD1]
  exact ⟨fun h => absurd (by simpa using h) hp, fun _ => trivial⟩
theorem aggc32 {u0 u1 u2 u3 u4 u5 u6 u7 u8 u9 u10 u11 u12 u13 u14 u15 u16 u17 u18 u19 u20 u21 u22 u23 u24 u25 u26 u27 u28 u29 u30 u31 v0 v1 v2 v3 v4 v5 v6 v7 v8 v9 v10 v11 v12 v13 v14 v15 v16 v17 v18 v19 v20 v21 v22 v23 v24 v25 v26 v27 v28 v29 v30 v31 : Int} (e0 : u0 = v0) (e1 : u1 = v1) (e2 : u2 = v2) (e3 : u3 = v3) (e4 : u4 = v4) (e5 : u5 = v5) (e6 : u6 = v6) (e7 : u7 = v7) (e8 : u8 = v8) (e9 : u9 = v9) (e10 : u10 = v10) (e11 : u11 = v11) (e12 : u12 = v12) (e13 : u13 = v13) (e14 : u14 = v14) (e15 : u15 = v15) (e16 : u16 = v16) (e17 : u17 = v17) (e18 : u18 = v18) (e19 : u19 = v19) (e20 : u20 = v20) (e21 : u21 = v21) (e22 : u22 = v22) (e23 : u23 = v23) (e24 : u24 = v24) (e25 : u25 = v25) (e26 : u26 = v26) (e27 : u27 = v27) (e28 : u28 = v28) (e29 : u29 = v29) (e30 : u30 = v30) (e31 : u31 = v31) : Value.agg #[.complex .f64 (FloatKind.f64.nearest u0) (FloatKind.f64.nearest u1), .complex .f64 (FloatKind.f64.nearest u2) (FloatKind.f64.nearest u3), .complex .f64 (FloatKind.f64.nearest u4) (FloatKind.f64.nearest u5), .complex .f64 (FloatKind.f64.nearest u6) (FloatKind.f64.nearest u7), .complex .f64 (FloatKind.f64.nearest u8) (FloatKind.f64.nearest u9), .complex .f64 (FloatKind.f64.nearest u10) (FloatKind.f64.nearest u11), .complex .f64 (FloatKind.f64.nearest u12) (FloatKind.f64.nearest u13), .complex .f64 (FloatKind.f64.nearest u14) (FloatKind.f64.nearest u15), .complex .f64 (FloatKind.f64.nearest u16) (FloatKind.f64.nearest u17), .complex .f64 (FloatKind.f64.nearest u18) (FloatKind.f64.nearest u19), .complex .f64 (FloatKind.f64.nearest u20) (FloatKind.f64.nearest u21), .complex .f64 (FloatKind.f64.nearest u22) (FloatKind.f64.nearest u23), .complex .f64 (FloatKind.f64.nearest u24) (FloatKind.f64.nearest u25), .complex .f64 (FloatKind.f64.nearest u26) (FloatKind.f64.nearest u27), .complex .f64 (FloatKind.f64.nearest u28) (FloatKind.f64.nearest u29), .complex .f64 (FloatKind.f64.nearest u30) (FloatKind.f64.nearest u31)] = .agg #[.complex .f64 (FloatKind.f64.nearest v0) (FloatKind.f64.nearest v1), .complex .f64 (FloatKind.f64.nearest v2) (FloatKind.f64.nearest v3), .complex .f64 (FloatKind.f64.nearest v4) (FloatKind.f64.nearest v5), .complex .f64 (FloatKind.f64.nearest v6) (FloatKind.f64.nearest v7), .complex .f64 (FloatKind.f64.nearest v8) (FloatKind.f64.nearest v9), .complex .f64 (FloatKind.f64.nearest v10) (FloatKind.f64.nearest v11), .complex .f64 (FloatKind.f64.nearest v12) (FloatKind.f64.nearest v13), .complex .f64 (FloatKind.f64.nearest v14) (FloatKind.f64.nearest v15), .complex .f64 (FloatKind.f64.nearest v16) (FloatKind.f64.nearest v17), .complex .f64 (FloatKind.f64.nearest v18) (FloatKind.f64.nearest v19), .complex .f64 (FloatKind.f64.nearest v20) (FloatKind.f64.nearest v21), .complex .f64 (FloatKind.f64.nearest v22) (FloatKind.f64.nearest v23), .complex .f64 (FloatKind.f64.nearest v24) (FloatKind.f64.nearest v25), .complex .f64 (FloatKind.f64.nearest v26) (FloatKind.f64.nearest v27), .complex .f64 (FloatKind.f64.nearest v28) (FloatKind.f64.nearest v29), .complex .f64 (FloatKind.f64.nearest v30) (FloatKind.f64.nearest v31)] := by
  subst e0 e1 e2 e3 e4 e5 e6 e7 e8 e9 e10 e11 e12 e13 e14 e15 e16 e17 e18 e19 e20 e21 e22 e23 e24 e25 e26 e27 e28 e29 e30 e31; rfl
theorem agg32 {u0 u1 u2 u3 u4 u5 u6 u7 u8 u9 u10 u11 u12 u13 u14 u15 u16 u17 u18 u19 u20 u21 u22 u23 u24 u25 u26 u27 u28 u29 u30 u31 v0 v1 v2 v3 v4 v5 v6 v7 v8 v9 v10 v11 v12 v13 v14 v15 v16 v17 v18 v19 v20 v21 v22 v23 v24 v25 v26 v27 v28 v29 v30 v31 : Int} (e0 : u0 = v0) (e1 : u1 = v1) (e2 : u2 = v2) (e3 : u3 = v3) (e4 : u4 = v4) (e5 : u5 = v5) (e6 : u6 = v6) (e7 : u7 = v7) (e8 : u8 = v8) (e9 : u9 = v9) (e10 : u10 = v10) (e11 : u11 = v11) (e12 : u12 = v12) (e13 : u13 = v13) (e14 : u14 = v14) (e15 : u15 = v15) (e16 : u16 = v16) (e17 : u17 = v17) (e18 : u18 = v18) (e19 : u19 = v19) (e20 : u20 = v20) (e21 : u21 = v21) (e22 : u22 = v22) (e23 : u23 = v23) (e24 : u24 = v24) (e25 : u25 = v25) (e26 : u26 = v26) (e27 : u27 = v27) (e28 : u28 = v28) (e29 : u29 = v29) (e30 : u30 = v30) (e31 : u31 = v31) : Value.agg #[.int .i64 u0, .int .i64 u1, .int .i64 u2, .int .i64 u3, .int .i64 u4, .int .i64 u5, .int .i64 u6, .int .i64 u7, .int .i64 u8, .int .i64 u9, .int .i64 u10, .int .i64 u11, .int .i64 u12, .int .i64 u13, .int .i64 u14, .int .i64 u15, .int .i64 u16, .int .i64 u17, .int .i64 u18, .int .i64 u19, .int .i64 u20, .int .i64 u21, .int .i64 u22, .int .i64 u23, .int .i64 u24, .int .i64 u25, .int .i64 u26, .int .i64 u27, .int .i64 u28, .int .i64 u29, .int .i64 u30, .int .i64 u31] = .agg #[.int .i64 v0, .int .i64 v1, .int .i64 v2, .int .i64 v3, .int .i64 v4, .int .i64 v5, .int .i64 v6, .int .i64 v7, .int .i64 v8, .int .i64 v9, .int .i64 v10, .int .i64 v11, .int .i64 v12, .int .i64 v13, .int .i64 v14, .int .i64 v15, .int .i64 v16, .int .i64 v17, .int .i64 v18, .int .i64 v19, .int .i64 v20, .int .i64 v21, .int .i64 v22, .int .i64 v23, .int .i64 v24, .int .i64 v25, .int .i64 v26, .int .i64 v27, .int .i64 v28, .int .i64 v29, .int .i64 v30, .int .i64 v31] := by
  subst e0 e1 e2 e3 e4 e5 e6 e7 e8 e9 e10 e11 e12 e13 e14 e15 e16 e17 e18 e19 e20 e21 e22 e23 e24 e25 e26 e27 e28 e29 e30 e31; rfl
set_option maxHeartbeats 4000000 in
theorem khm {m0 m1 m2 m3 m4 m5 m6 m7 m8 m9 m10 m11 m12 m13 m14 m15 : Int} (r0 : (-10000000) ≤ m0 ∧ m0 ≤ 10000000) (r1 : (-10000000) ≤ m1 ∧ m1 ≤ 10000000) (r2 : (-10000000) ≤ m2 ∧ m2 ≤ 10000000) (r3 : (-10000000) ≤ m3 ∧ m3 ≤ 10000000) (r4 : (-10000000) ≤ m4 ∧ m4 ≤ 10000000) (r5 : (-10000000) ≤ m5 ∧ m5 ≤ 10000000) (r6 : (-10000000) ≤ m6 ∧ m6 ≤ 10000000) (r7 : (-10000000) ≤ m7 ∧ m7 ≤ 10000000) (r8 : (-10000000) ≤ m8 ∧ m8 ≤ 10000000) (r9 : (-10000000) ≤ m9 ∧ m9 ≤ 10000000) (r10 : (-10000000) ≤ m10 ∧ m10 ≤ 10000000) (r11 : (-10000000) ≤ m11 ∧ m11 ≤ 10000000) (r12 : (-10000000) ≤ m12 ∧ m12 ≤ 10000000) (r13 : (-10000000) ≤ m13 ∧ m13 ≤ 10000000) (r14 : (-10000000) ≤ m14 ∧ m14 ≤ 10000000) (r15 : (-10000000) ≤ m15 ∧ m15 ≤ 10000000) : ∃ d0 d1 d2 d3 x01 y01 x02 y02 x03 y03 x12 y12 x13 y13 x23 y23 : Int, (d0 = (((m0 + m1) + m4) + m5) ∧ x01 = (m2 + m6) ∧ y01 = (m3 + m7) ∧ x02 = (m8 + m9) ∧ y02 = ((m12 * (-1)) + (m13 * (-1))) ∧ x03 = (m10 + (0 - (m15 * (-1)))) ∧ y03 = (m11 + (m14 * (-1))) ∧ d1 = (((m0 + (m1 * (-1))) + m4) + (m5 * (-1))) ∧ x12 = (m10 + (0 - ((m15 * (-1)) * (-1)))) ∧ y12 = ((m11 * (-1)) + (m14 * (-1))) ∧ x13 = (m8 + (m9 * (-1))) ∧ y13 = ((m12 * (-1)) + ((m13 * (-1)) * (-1))) ∧ d2 = (((m0 + m1) + (m4 * (-1))) + (m5 * (-1))) ∧ x23 = (m2 + (m6 * (-1))) ∧ y23 = (m3 + (m7 * (-1))) ∧ d3 = (((m0 + (m1 * (-1))) + (m4 * (-1))) + ((m5 * (-1)) * (-1)))) ∧ (((-40000000) ≤ d0 ∧ d0 ≤ 40000000) ∧ ((-40000000) ≤ d1 ∧ d1 ≤ 40000000) ∧ ((-40000000) ≤ d2 ∧ d2 ≤ 40000000) ∧ ((-40000000) ≤ d3 ∧ d3 ≤ 40000000) ∧ ((-40000000) ≤ x01 ∧ x01 ≤ 40000000) ∧ ((-40000000) ≤ y01 ∧ y01 ≤ 40000000) ∧ ((-40000000) ≤ x02 ∧ x02 ≤ 40000000) ∧ ((-40000000) ≤ y02 ∧ y02 ≤ 40000000) ∧ ((-40000000) ≤ x03 ∧ x03 ≤ 40000000) ∧ ((-40000000) ≤ y03 ∧ y03 ≤ 40000000) ∧ ((-40000000) ≤ x12 ∧ x12 ≤ 40000000) ∧ ((-40000000) ≤ y12 ∧ y12 ≤ 40000000) ∧ ((-40000000) ≤ x13 ∧ x13 ≤ 40000000) ∧ ((-40000000) ≤ y13 ∧ y13 ≤ 40000000) ∧ ((-40000000) ≤ x23 ∧ x23 ≤ 40000000) ∧ ((-40000000) ≤ y23 ∧ y23 ≤ 40000000)) ∧ (∀ w, Calls Try.prog 120 #[.agg #[.int .i64 m0, .int .i64 m1, .int .i64 m2, .int .i64 m3, .int .i64 m4, .int .i64 m5, .int .i64 m6, .int .i64 m7, .int .i64 m8, .int .i64 m9, .int .i64 m10, .int .i64 m11, .int .i64 m12, .int .i64 m13, .int .i64 m14, .int .i64 m15]] w fun e w' => e = .returned (.agg #[.complex .f64 (FloatKind.f64.nearest d0) (FloatKind.f64.nearest 0), .complex .f64 (FloatKind.f64.nearest x01) (FloatKind.f64.nearest y01), .complex .f64 (FloatKind.f64.nearest x02) (FloatKind.f64.nearest y02), .complex .f64 (FloatKind.f64.nearest x03) (FloatKind.f64.nearest y03), .complex .f64 (FloatKind.f64.nearest x01) (FloatKind.f64.nearest (0 - y01)), .complex .f64 (FloatKind.f64.nearest d1) (FloatKind.f64.nearest 0), .complex .f64 (FloatKind.f64.nearest x12) (FloatKind.f64.nearest y12), .complex .f64 (FloatKind.f64.nearest x13) (FloatKind.f64.nearest y13), .complex .f64 (FloatKind.f64.nearest x02) (FloatKind.f64.nearest (0 - y02)), .complex .f64 (FloatKind.f64.nearest x12) (FloatKind.f64.nearest (0 - y12)), .complex .f64 (FloatKind.f64.nearest d2) (FloatKind.f64.nearest 0), .complex .f64 (FloatKind.f64.nearest x23) (FloatKind.f64.nearest y23), .complex .f64 (FloatKind.f64.nearest x03) (FloatKind.f64.nearest (0 - y03)), .complex .f64 (FloatKind.f64.nearest x13) (FloatKind.f64.nearest (0 - y13)), .complex .f64 (FloatKind.f64.nearest x23) (FloatKind.f64.nearest (0 - y23)), .complex .f64 (FloatKind.f64.nearest d3) (FloatKind.f64.nearest 0)]) ∧ Below w.heap.size w w') ∧ (∀ w, Calls Try.prog 70 #[.agg #[.int .i64 m0, .int .i64 m1, .int .i64 m2, .int .i64 m3, .int .i64 m4, .int .i64 m5, .int .i64 m6, .int .i64 m7, .int .i64 m8, .int .i64 m9, .int .i64 m10, .int .i64 m11, .int .i64 m12, .int .i64 m13, .int .i64 m14, .int .i64 m15]] w fun e w' => e = .returned (.agg #[.int .i64 d0, .int .i64 0, .int .i64 x01, .int .i64 y01, .int .i64 x02, .int .i64 y02, .int .i64 x03, .int .i64 y03, .int .i64 x01, .int .i64 (0 - y01), .int .i64 d1, .int .i64 0, .int .i64 x12, .int .i64 y12, .int .i64 x13, .int .i64 y13, .int .i64 x02, .int .i64 (0 - y02), .int .i64 x12, .int .i64 (0 - y12), .int .i64 d2, .int .i64 0, .int .i64 x23, .int .i64 y23, .int .i64 x03, .int .i64 (0 - y03), .int .i64 x13, .int .i64 (0 - y13), .int .i64 x23, .int .i64 (0 - y23), .int .i64 d3, .int .i64 0]) ∧ Below w.heap.size w w') := by
  obtain ⟨d0, hd0⟩ : ∃ t : Int, t = (((m0 + m1) + m4) + m5) := ⟨_, rfl⟩
  obtain ⟨x01, hx01⟩ : ∃ t : Int, t = (m2 + m6) := ⟨_, rfl⟩
  obtain ⟨y01, hy01⟩ : ∃ t : Int, t = (m3 + m7) := ⟨_, rfl⟩
  obtain ⟨x02, hx02⟩ : ∃ t : Int, t = (m8 + m9) := ⟨_, rfl⟩
  obtain ⟨y02, hy02⟩ : ∃ t : Int, t = ((m12 * (-1)) + (m13 * (-1))) := ⟨_, rfl⟩
  obtain ⟨x03, hx03⟩ : ∃ t : Int, t = (m10 + (0 - (m15 * (-1)))) := ⟨_, rfl⟩
  obtain ⟨y03, hy03⟩ : ∃ t : Int, t = (m11 + (m14 * (-1))) := ⟨_, rfl⟩
  obtain ⟨d1, hd1⟩ : ∃ t : Int, t = (((m0 + (m1 * (-1))) + m4) + (m5 * (-1))) := ⟨_, rfl⟩
  obtain ⟨x12, hx12⟩ : ∃ t : Int, t = (m10 + (0 - ((m15 * (-1)) * (-1)))) := ⟨_, rfl⟩
  obtain ⟨y12, hy12⟩ : ∃ t : Int, t = ((m11 * (-1)) + (m14 * (-1))) := ⟨_, rfl⟩
  obtain ⟨x13, hx13⟩ : ∃ t : Int, t = (m8 + (m9 * (-1))) := ⟨_, rfl⟩
  obtain ⟨y13, hy13⟩ : ∃ t : Int, t = ((m12 * (-1)) + ((m13 * (-1)) * (-1))) := ⟨_, rfl⟩
  obtain ⟨d2, hd2⟩ : ∃ t : Int, t = (((m0 + m1) + (m4 * (-1))) + (m5 * (-1))) := ⟨_, rfl⟩
  obtain ⟨x23, hx23⟩ : ∃ t : Int, t = (m2 + (m6 * (-1))) := ⟨_, rfl⟩
  obtain ⟨y23, hy23⟩ : ∃ t : Int, t = (m3 + (m7 * (-1))) := ⟨_, rfl⟩
  obtain ⟨d3, hd3⟩ : ∃ t : Int, t = (((m0 + (m1 * (-1))) + (m4 * (-1))) + ((m5 * (-1)) * (-1))) := ⟨_, rfl⟩
  refine ⟨d0, d1, d2, d3, x01, y01, x02, y02, x03, y03, x12, y12, x13, y13, x23, y23, ⟨hd0, hx01, hy01, hx02, hy02, hx03, hy03, hd1, hx12, hy12, hx13, hy13, hd2, hx23, hy23, hd3⟩, ⟨⟨by omega, by omega⟩, ⟨by omega, by omega⟩, ⟨by omega, by omega⟩, ⟨by omega, by omega⟩, ⟨by omega, by omega⟩, ⟨by omega, by omega⟩, ⟨by omega, by omega⟩, ⟨by omega, by omega⟩, ⟨by omega, by omega⟩, ⟨by omega, by omega⟩, ⟨by omega, by omega⟩, ⟨by omega, by omega⟩, ⟨by omega, by omega⟩, ⟨by omega, by omega⟩, ⟨by omega, by omega⟩, ⟨by omega, by omega⟩⟩, fun w => ?_, fun w => ?_⟩
  · exact Calls.mono (coh ⟨by omega, by omega⟩ ⟨by omega, by omega⟩ ⟨by omega, by omega⟩ ⟨by omega, by omega⟩ ⟨by omega, by omega⟩ ⟨by omega, by omega⟩ ⟨by omega, by omega⟩ ⟨by omega, by omega⟩ ⟨by omega, by omega⟩ ⟨by omega, by omega⟩ ⟨by omega, by omega⟩ ⟨by omega, by omega⟩ ⟨by omega, by omega⟩ ⟨by omega, by omega⟩ ⟨by omega, by omega⟩ ⟨by omega, by omega⟩ w) fun e w' h => ⟨h.1.trans (congrArg Ending.returned (aggc32 (by omega) (by omega) (by omega) (by omega) (by omega) (by omega) (by omega) (by omega) (by omega) (by omega) (by omega) (by omega) (by omega) (by omega) (by omega) (by omega) (by omega) (by omega) (by omega) (by omega) (by omega) (by omega) (by omega) (by omega) (by omega) (by omega) (by omega) (by omega) (by omega) (by omega) (by omega) (by omega))), h.2⟩
  · exact Calls.mono (rcoh ⟨by omega, by omega⟩ ⟨by omega, by omega⟩ ⟨by omega, by omega⟩ ⟨by omega, by omega⟩ ⟨by omega, by omega⟩ ⟨by omega, by omega⟩ ⟨by omega, by omega⟩ ⟨by omega, by omega⟩ ⟨by omega, by omega⟩ ⟨by omega, by omega⟩ ⟨by omega, by omega⟩ ⟨by omega, by omega⟩ ⟨by omega, by omega⟩ ⟨by omega, by omega⟩ ⟨by omega, by omega⟩ ⟨by omega, by omega⟩ w) fun e w' h => ⟨h.1.trans (congrArg Ending.returned (agg32 (by omega) (by omega) (by omega) (by omega) (by omega) (by omega) (by omega) (by omega) (by omega) (by omega) (by omega) (by omega) (by omega) (by omega) (by omega) (by omega) (by omega) (by omega) (by omega) (by omega) (by omega) (by omega) (by omega) (by omega) (by omega) (by omega) (by omega) (by omega) (by omega) (by omega) (by omega) (by omega))), h.2⟩
theorem beq0 {c : Int} : ((c : Int) == 0) = true → c = 0 := fun h => by simpa using h
theorem bne0 {c : Int} : ((c : Int) == 0) = false → c ≠ 0 := fun h => by simpa using h
theorem re_rp {a b c d d' D x : Int} (h : x * D = a * c - b * d') (hd : d' = 0 - d) : a * c - b * (0 - d) = D * x := by subst hd; grind
theorem im_rp {a b c d d' D y : Int} (h : y * D = a * d' + b * c) (hd : d' = 0 - d) : a * (0 - d) + b * c = D * y := by subst hd; grind
theorem re_pr {a b c d d' D x : Int} (h : a * c - b * (0 - d) = D * x) (hd : d' = 0 - d) : x * D = a * c - b * d' := by subst hd; grind
theorem im_pr {a b c d d' D y : Int} (h : a * (0 - d) + b * c = D * y) (hd : d' = 0 - d) : y * D = a * d' + b * c := by subst hd; grind
theorem re_k {x D a b c d' g p q r s : Int} (h : x * D = a * c - b * d') (ha : a = g * p) (hb : b = g * q) (hc : c = g * r) (hd : d' = 0 - g * s) : D * x = g * g * (p * r + q * s) := by subst ha hb hc hd; grind
theorem im_k {y D a b c d' g p q r s : Int} (h : y * D = a * d' + b * c) (ha : a = g * p) (hb : b = g * q) (hc : c = g * r) (hd : d' = 0 - g * s) : D * y = g * g * (q * r - p * s) := by subst ha hb hc hd; grind
theorem lw4 {d m g c1 c2 c3 c4 X1 X2 X3 X4 b1 b2 b3 b4 : Int} (q : 4 * m = c1 * X1 + c2 * X2 + c3 * X3 + c4 * X4) (k1 : d * X1 = g * b1) (k2 : d * X2 = g * b2) (k3 : d * X3 = g * b3) (k4 : d * X4 = g * b4) : 4 * d * m = g * (c1 * b1 + c2 * b2 + c3 * b3 + c4 * b4) := by
  have e : 4 * d * m = d * (4 * m) := by grind
  have e2 : d * (c1 * X1 + c2 * X2 + c3 * X3 + c4 * X4) = c1 * (d * X1) + c2 * (d * X2) + c3 * (d * X3) + c4 * (d * X4) := by grind
  rw [e, q, e2, k1, k2, k3, k4]; grind
theorem lw2 {d m g c1 c2 X1 X2 b1 b2 : Int} (q : 4 * m = c1 * X1 + c2 * X2) (k1 : d * X1 = g * b1) (k2 : d * X2 = g * b2) : 4 * d * m = g * (c1 * b1 + c2 * b2) := by
  have e : 4 * d * m = d * (4 * m) := by grind
  have e2 : d * (c1 * X1 + c2 * X2) = c1 * (d * X1) + c2 * (d * X2) := by grind
  rw [e, q, e2, k1, k2]; grind
/-- The matrix is pure, and 0 is its first place. -/
structure Pure0 (d0 d1 d2 d3 x01 y01 x02 y02 x03 y03 x12 y12 x13 y13 x23 y23 : Int) : Prop where
  pos : 0 < d0
  e0 : d0 * d0 = d0 * d0 - 0 * 0
  e1 : 0 * d0 = d0 * 0 + 0 * d0
  e2 : x01 * d0 = d0 * x01 - 0 * y01
  e3 : y01 * d0 = d0 * y01 + 0 * x01
  e4 : x02 * d0 = d0 * x02 - 0 * y02
  e5 : y02 * d0 = d0 * y02 + 0 * x02
  e6 : x03 * d0 = d0 * x03 - 0 * y03
  e7 : y03 * d0 = d0 * y03 + 0 * x03
  e8 : x01 * d0 = x01 * d0 - (0 - y01) * 0
  e9 : (0 - y01) * d0 = x01 * 0 + (0 - y01) * d0
  e10 : d1 * d0 = x01 * x01 - (0 - y01) * y01
  e11 : 0 * d0 = x01 * y01 + (0 - y01) * x01
  e12 : x12 * d0 = x01 * x02 - (0 - y01) * y02
  e13 : y12 * d0 = x01 * y02 + (0 - y01) * x02
  e14 : x13 * d0 = x01 * x03 - (0 - y01) * y03
  e15 : y13 * d0 = x01 * y03 + (0 - y01) * x03
  e16 : x02 * d0 = x02 * d0 - (0 - y02) * 0
  e17 : (0 - y02) * d0 = x02 * 0 + (0 - y02) * d0
  e18 : x12 * d0 = x02 * x01 - (0 - y02) * y01
  e19 : (0 - y12) * d0 = x02 * y01 + (0 - y02) * x01
  e20 : d2 * d0 = x02 * x02 - (0 - y02) * y02
  e21 : 0 * d0 = x02 * y02 + (0 - y02) * x02
  e22 : x23 * d0 = x02 * x03 - (0 - y02) * y03
  e23 : y23 * d0 = x02 * y03 + (0 - y02) * x03
  e24 : x03 * d0 = x03 * d0 - (0 - y03) * 0
  e25 : (0 - y03) * d0 = x03 * 0 + (0 - y03) * d0
  e26 : x13 * d0 = x03 * x01 - (0 - y03) * y01
  e27 : (0 - y13) * d0 = x03 * y01 + (0 - y03) * x01
  e28 : x23 * d0 = x03 * x02 - (0 - y03) * y02
  e29 : (0 - y23) * d0 = x03 * y02 + (0 - y03) * x02
  e30 : d3 * d0 = x03 * x03 - (0 - y03) * y03
  e31 : 0 * d0 = x03 * y03 + (0 - y03) * x03
/-- The matrix is pure, and 1 is its first place. -/
structure Pure1 (d0 d1 d2 d3 x01 y01 x02 y02 x03 y03 x12 y12 x13 y13 x23 y23 : Int) : Prop where
  z0 : d0 = 0
  pos : 0 < d1
  e0 : d0 * d1 = x01 * x01 - y01 * (0 - y01)
  e1 : 0 * d1 = x01 * (0 - y01) + y01 * x01
  e2 : x01 * d1 = x01 * d1 - y01 * 0
  e3 : y01 * d1 = x01 * 0 + y01 * d1
  e4 : x02 * d1 = x01 * x12 - y01 * y12
  e5 : y02 * d1 = x01 * y12 + y01 * x12
  e6 : x03 * d1 = x01 * x13 - y01 * y13
  e7 : y03 * d1 = x01 * y13 + y01 * x13
  e8 : x01 * d1 = d1 * x01 - 0 * (0 - y01)
  e9 : (0 - y01) * d1 = d1 * (0 - y01) + 0 * x01
  e10 : d1 * d1 = d1 * d1 - 0 * 0
  e11 : 0 * d1 = d1 * 0 + 0 * d1
  e12 : x12 * d1 = d1 * x12 - 0 * y12
  e13 : y12 * d1 = d1 * y12 + 0 * x12
  e14 : x13 * d1 = d1 * x13 - 0 * y13
  e15 : y13 * d1 = d1 * y13 + 0 * x13
  e16 : x02 * d1 = x12 * x01 - (0 - y12) * (0 - y01)
  e17 : (0 - y02) * d1 = x12 * (0 - y01) + (0 - y12) * x01
  e18 : x12 * d1 = x12 * d1 - (0 - y12) * 0
  e19 : (0 - y12) * d1 = x12 * 0 + (0 - y12) * d1
  e20 : d2 * d1 = x12 * x12 - (0 - y12) * y12
  e21 : 0 * d1 = x12 * y12 + (0 - y12) * x12
  e22 : x23 * d1 = x12 * x13 - (0 - y12) * y13
  e23 : y23 * d1 = x12 * y13 + (0 - y12) * x13
  e24 : x03 * d1 = x13 * x01 - (0 - y13) * (0 - y01)
  e25 : (0 - y03) * d1 = x13 * (0 - y01) + (0 - y13) * x01
  e26 : x13 * d1 = x13 * d1 - (0 - y13) * 0
  e27 : (0 - y13) * d1 = x13 * 0 + (0 - y13) * d1
  e28 : x23 * d1 = x13 * x12 - (0 - y13) * y12
  e29 : (0 - y23) * d1 = x13 * y12 + (0 - y13) * x12
  e30 : d3 * d1 = x13 * x13 - (0 - y13) * y13
  e31 : 0 * d1 = x13 * y13 + (0 - y13) * x13
/-- The matrix is pure, and 2 is its first place. -/
structure Pure2 (d0 d1 d2 d3 x01 y01 x02 y02 x03 y03 x12 y12 x13 y13 x23 y23 : Int) : Prop where
  z0 : d0 = 0
  z1 : d1 = 0
  pos : 0 < d2
  e0 : d0 * d2 = x02 * x02 - y02 * (0 - y02)
  e1 : 0 * d2 = x02 * (0 - y02) + y02 * x02
  e2 : x01 * d2 = x02 * x12 - y02 * (0 - y12)
  e3 : y01 * d2 = x02 * (0 - y12) + y02 * x12
  e4 : x02 * d2 = x02 * d2 - y02 * 0
  e5 : y02 * d2 = x02 * 0 + y02 * d2
  e6 : x03 * d2 = x02 * x23 - y02 * y23
  e7 : y03 * d2 = x02 * y23 + y02 * x23
  e8 : x01 * d2 = x12 * x02 - y12 * (0 - y02)
  e9 : (0 - y01) * d2 = x12 * (0 - y02) + y12 * x02
  e10 : d1 * d2 = x12 * x12 - y12 * (0 - y12)
  e11 : 0 * d2 = x12 * (0 - y12) + y12 * x12
  e12 : x12 * d2 = x12 * d2 - y12 * 0
  e13 : y12 * d2 = x12 * 0 + y12 * d2
  e14 : x13 * d2 = x12 * x23 - y12 * y23
  e15 : y13 * d2 = x12 * y23 + y12 * x23
  e16 : x02 * d2 = d2 * x02 - 0 * (0 - y02)
  e17 : (0 - y02) * d2 = d2 * (0 - y02) + 0 * x02
  e18 : x12 * d2 = d2 * x12 - 0 * (0 - y12)
  e19 : (0 - y12) * d2 = d2 * (0 - y12) + 0 * x12
  e20 : d2 * d2 = d2 * d2 - 0 * 0
  e21 : 0 * d2 = d2 * 0 + 0 * d2
  e22 : x23 * d2 = d2 * x23 - 0 * y23
  e23 : y23 * d2 = d2 * y23 + 0 * x23
  e24 : x03 * d2 = x23 * x02 - (0 - y23) * (0 - y02)
  e25 : (0 - y03) * d2 = x23 * (0 - y02) + (0 - y23) * x02
  e26 : x13 * d2 = x23 * x12 - (0 - y23) * (0 - y12)
  e27 : (0 - y13) * d2 = x23 * (0 - y12) + (0 - y23) * x12
  e28 : x23 * d2 = x23 * d2 - (0 - y23) * 0
  e29 : (0 - y23) * d2 = x23 * 0 + (0 - y23) * d2
  e30 : d3 * d2 = x23 * x23 - (0 - y23) * y23
  e31 : 0 * d2 = x23 * y23 + (0 - y23) * x23
/-- The matrix is pure, and 3 is its first place. -/
structure Pure3 (d0 d1 d2 d3 x01 y01 x02 y02 x03 y03 x12 y12 x13 y13 x23 y23 : Int) : Prop where
  z0 : d0 = 0
  z1 : d1 = 0
  z2 : d2 = 0
  pos : 0 < d3
  e0 : d0 * d3 = x03 * x03 - y03 * (0 - y03)
  e1 : 0 * d3 = x03 * (0 - y03) + y03 * x03
  e2 : x01 * d3 = x03 * x13 - y03 * (0 - y13)
  e3 : y01 * d3 = x03 * (0 - y13) + y03 * x13
  e4 : x02 * d3 = x03 * x23 - y03 * (0 - y23)
  e5 : y02 * d3 = x03 * (0 - y23) + y03 * x23
  e6 : x03 * d3 = x03 * d3 - y03 * 0
  e7 : y03 * d3 = x03 * 0 + y03 * d3
  e8 : x01 * d3 = x13 * x03 - y13 * (0 - y03)
  e9 : (0 - y01) * d3 = x13 * (0 - y03) + y13 * x03
  e10 : d1 * d3 = x13 * x13 - y13 * (0 - y13)
  e11 : 0 * d3 = x13 * (0 - y13) + y13 * x13
  e12 : x12 * d3 = x13 * x23 - y13 * (0 - y23)
  e13 : y12 * d3 = x13 * (0 - y23) + y13 * x23
  e14 : x13 * d3 = x13 * d3 - y13 * 0
  e15 : y13 * d3 = x13 * 0 + y13 * d3
  e16 : x02 * d3 = x23 * x03 - y23 * (0 - y03)
  e17 : (0 - y02) * d3 = x23 * (0 - y03) + y23 * x03
  e18 : x12 * d3 = x23 * x13 - y23 * (0 - y13)
  e19 : (0 - y12) * d3 = x23 * (0 - y13) + y23 * x13
  e20 : d2 * d3 = x23 * x23 - y23 * (0 - y23)
  e21 : 0 * d3 = x23 * (0 - y23) + y23 * x23
  e22 : x23 * d3 = x23 * d3 - y23 * 0
  e23 : y23 * d3 = x23 * 0 + y23 * d3
  e24 : x03 * d3 = d3 * x03 - 0 * (0 - y03)
  e25 : (0 - y03) * d3 = d3 * (0 - y03) + 0 * x03
  e26 : x13 * d3 = d3 * x13 - 0 * (0 - y13)
  e27 : (0 - y13) * d3 = d3 * (0 - y13) + 0 * x13
  e28 : x23 * d3 = d3 * x23 - 0 * (0 - y23)
  e29 : (0 - y23) * d3 = d3 * (0 - y23) + 0 * x23
  e30 : d3 * d3 = d3 * d3 - 0 * 0
  e31 : 0 * d3 = d3 * 0 + 0 * d3
set_option maxHeartbeats 8000000 in
theorem jo_pure0 {m0 m1 m2 m3 m4 m5 m6 m7 m8 m9 m10 m11 m12 m13 m14 m15 d0 d1 d2 d3 x01 y01 x02 y02 x03 y03 x12 y12 x13 y13 x23 y23 c : Int} {z0 z1 z2 z3 z4 z5 z6 z7 q0 q1 q2 q3 q4 q5 q6 q7 : Nat} (r0 : (-1000000000) ≤ m0 ∧ m0 ≤ 1000000000) (r1 : (-1000000000) ≤ m1 ∧ m1 ≤ 1000000000) (r2 : (-1000000000) ≤ m2 ∧ m2 ≤ 1000000000) (r3 : (-1000000000) ≤ m3 ∧ m3 ≤ 1000000000) (r4 : (-1000000000) ≤ m4 ∧ m4 ≤ 1000000000) (r5 : (-1000000000) ≤ m5 ∧ m5 ≤ 1000000000) (r6 : (-1000000000) ≤ m6 ∧ m6 ≤ 1000000000) (r7 : (-1000000000) ≤ m7 ∧ m7 ≤ 1000000000) (r8 : (-1000000000) ≤ m8 ∧ m8 ≤ 1000000000) (r9 : (-1000000000) ≤ m9 ∧ m9 ≤ 1000000000) (r10 : (-1000000000) ≤ m10 ∧ m10 ≤ 1000000000) (r11 : (-1000000000) ≤ m11 ∧ m11 ≤ 1000000000) (r12 : (-1000000000) ≤ m12 ∧ m12 ≤ 1000000000) (r13 : (-1000000000) ≤ m13 ∧ m13 ≤ 1000000000) (r14 : (-1000000000) ≤ m14 ∧ m14 ≤ 1000000000) (r15 : (-1000000000) ≤ m15 ∧ m15 ≤ 1000000000) (bd0 : (-40000000) ≤ d0 ∧ d0 ≤ 40000000) (bd1 : (-40000000) ≤ d1 ∧ d1 ≤ 40000000) (bd2 : (-40000000) ≤ d2 ∧ d2 ≤ 40000000) (bd3 : (-40000000) ≤ d3 ∧ d3 ≤ 40000000) (bx01 : (-40000000) ≤ x01 ∧ x01 ≤ 40000000) (by01 : (-40000000) ≤ y01 ∧ y01 ≤ 40000000) (bx02 : (-40000000) ≤ x02 ∧ x02 ≤ 40000000) (by02 : (-40000000) ≤ y02 ∧ y02 ≤ 40000000) (bx03 : (-40000000) ≤ x03 ∧ x03 ≤ 40000000) (by03 : (-40000000) ≤ y03 ∧ y03 ≤ 40000000) (bx12 : (-40000000) ≤ x12 ∧ x12 ≤ 40000000) (by12 : (-40000000) ≤ y12 ∧ y12 ≤ 40000000) (bx13 : (-40000000) ≤ x13 ∧ x13 ≤ 40000000) (by13 : (-40000000) ≤ y13 ∧ y13 ≤ 40000000) (bx23 : (-40000000) ≤ x23 ∧ x23 ≤ 40000000) (by23 : (-40000000) ≤ y23 ∧ y23 ≤ 40000000) (hcu : (∀ w, Calls Try.prog 119 #[.int .i64 10000000, .agg #[.int .i64 m0, .int .i64 m1, .int .i64 m2, .int .i64 m3, .int .i64 m4, .int .i64 m5, .int .i64 m6, .int .i64 m7, .int .i64 m8, .int .i64 m9, .int .i64 m10, .int .i64 m11, .int .i64 m12, .int .i64 m13, .int .i64 m14, .int .i64 m15]] w fun e w' => e = .returned (.int .i64 0) ∧ Below w.heap.size w w')) (hK : (∀ w, Calls Try.prog 120 #[.agg #[.int .i64 m0, .int .i64 m1, .int .i64 m2, .int .i64 m3, .int .i64 m4, .int .i64 m5, .int .i64 m6, .int .i64 m7, .int .i64 m8, .int .i64 m9, .int .i64 m10, .int .i64 m11, .int .i64 m12, .int .i64 m13, .int .i64 m14, .int .i64 m15]] w fun e w' => e = .returned (.agg #[.complex .f64 (FloatKind.f64.nearest d0) (FloatKind.f64.nearest 0), .complex .f64 (FloatKind.f64.nearest x01) (FloatKind.f64.nearest y01), .complex .f64 (FloatKind.f64.nearest x02) (FloatKind.f64.nearest y02), .complex .f64 (FloatKind.f64.nearest x03) (FloatKind.f64.nearest y03), .complex .f64 (FloatKind.f64.nearest x01) (FloatKind.f64.nearest (0 - y01)), .complex .f64 (FloatKind.f64.nearest d1) (FloatKind.f64.nearest 0), .complex .f64 (FloatKind.f64.nearest x12) (FloatKind.f64.nearest y12), .complex .f64 (FloatKind.f64.nearest x13) (FloatKind.f64.nearest y13), .complex .f64 (FloatKind.f64.nearest x02) (FloatKind.f64.nearest (0 - y02)), .complex .f64 (FloatKind.f64.nearest x12) (FloatKind.f64.nearest (0 - y12)), .complex .f64 (FloatKind.f64.nearest d2) (FloatKind.f64.nearest 0), .complex .f64 (FloatKind.f64.nearest x23) (FloatKind.f64.nearest y23), .complex .f64 (FloatKind.f64.nearest x03) (FloatKind.f64.nearest (0 - y03)), .complex .f64 (FloatKind.f64.nearest x13) (FloatKind.f64.nearest (0 - y13)), .complex .f64 (FloatKind.f64.nearest x23) (FloatKind.f64.nearest (0 - y23)), .complex .f64 (FloatKind.f64.nearest d3) (FloatKind.f64.nearest 0)]) ∧ Below w.heap.size w w')) (hp : Pure0 d0 d1 d2 d3 x01 y01 x02 y02 x03 y03 x12 y12 x13 y13 x23 y23) (hl : (∀ w, Calls Try.prog 122 #[.agg #[.complex .f64 (FloatKind.f64.nearest d0) (FloatKind.f64.nearest 0), .complex .f64 (FloatKind.f64.nearest x01) (FloatKind.f64.nearest (0 - y01)), .complex .f64 (FloatKind.f64.nearest x02) (FloatKind.f64.nearest (0 - y02)), .complex .f64 (FloatKind.f64.nearest x03) (FloatKind.f64.nearest (0 - y03))]] w fun e w' => e = .returned (.agg #[.complex .f64 z0 z1, .complex .f64 z2 z3, .complex .f64 z4 z5, .complex .f64 z6 z7]) ∧ Below w.heap.size w w')) (hm : (∀ w, Calls Try.prog 100 #[.agg #[.complex .f64 z0 z1, .complex .f64 z2 z3, .complex .f64 z4 z5, .complex .f64 z6 z7]] w fun e w' => e = .returned (.tuple #[.agg #[.complex .f64 q0 q1, .complex .f64 q2 q3, .complex .f64 q4 q5, .complex .f64 q6 q7], .int .i64 c]) ∧ Below w.heap.size w w')) (w : World) : Calls Try.prog 64 #[.agg #[.int .i64 m0, .int .i64 m1, .int .i64 m2, .int .i64 m3, .int .i64 m4, .int .i64 m5, .int .i64 m6, .int .i64 m7, .int .i64 m8, .int .i64 m9, .int .i64 m10, .int .i64 m11, .int .i64 m12, .int .i64 m13, .int .i64 m14, .int .i64 m15]] w fun e w' => e = .returned (.tuple #[.agg #[.complex .f64 q0 q1, .complex .f64 q2 q3, .complex .f64 q4 q5, .complex .f64 q6 q7], .int .i64 c]) ∧ Below w.heap.size w w' := by
  have hpos := hp.pos
  refine one_val (jo r0 r1 r2 r3 r4 r5 r6 r7 r8 r9 r10 r11 r12 r13 r14 r15 (Q := (· = _)) ⟨0, hcu, ⟨by omega, by omega⟩, fun _ => ?_, fun h => absurd rfl (bne0 h)⟩) w
  refine ⟨(((FloatKind.f64.nearest d0) : Nat) : Int), (((FloatKind.f64.nearest 0) : Nat) : Int), (((FloatKind.f64.nearest x01) : Nat) : Int), (((FloatKind.f64.nearest y01) : Nat) : Int), (((FloatKind.f64.nearest x02) : Nat) : Int), (((FloatKind.f64.nearest y02) : Nat) : Int), (((FloatKind.f64.nearest x03) : Nat) : Int), (((FloatKind.f64.nearest y03) : Nat) : Int), (((FloatKind.f64.nearest x01) : Nat) : Int), (((FloatKind.f64.nearest (0 - y01)) : Nat) : Int), (((FloatKind.f64.nearest d1) : Nat) : Int), (((FloatKind.f64.nearest 0) : Nat) : Int), (((FloatKind.f64.nearest x12) : Nat) : Int), (((FloatKind.f64.nearest y12) : Nat) : Int), (((FloatKind.f64.nearest x13) : Nat) : Int), (((FloatKind.f64.nearest y13) : Nat) : Int), (((FloatKind.f64.nearest x02) : Nat) : Int), (((FloatKind.f64.nearest (0 - y02)) : Nat) : Int), (((FloatKind.f64.nearest x12) : Nat) : Int), (((FloatKind.f64.nearest (0 - y12)) : Nat) : Int), (((FloatKind.f64.nearest d2) : Nat) : Int), (((FloatKind.f64.nearest 0) : Nat) : Int), (((FloatKind.f64.nearest x23) : Nat) : Int), (((FloatKind.f64.nearest y23) : Nat) : Int), (((FloatKind.f64.nearest x03) : Nat) : Int), (((FloatKind.f64.nearest (0 - y03)) : Nat) : Int), (((FloatKind.f64.nearest x13) : Nat) : Int), (((FloatKind.f64.nearest (0 - y13)) : Nat) : Int), (((FloatKind.f64.nearest x23) : Nat) : Int), (((FloatKind.f64.nearest (0 - y23)) : Nat) : Int), (((FloatKind.f64.nearest d3) : Nat) : Int), (((FloatKind.f64.nearest 0) : Nat) : Int), hK, ?_⟩
  refine ⟨d0, ⟨rpn' _, by omega⟩, ⟨by omega, by omega⟩, ?_⟩
  refine ⟨0, ⟨rpn' _, by omega⟩, ⟨by omega, by omega⟩, ?_⟩
  refine ⟨x01, ⟨rpn' _, by omega⟩, ⟨by omega, by omega⟩, ?_⟩
  refine ⟨y01, ⟨rpn' _, by omega⟩, ⟨by omega, by omega⟩, ?_⟩
  refine ⟨x02, ⟨rpn' _, by omega⟩, ⟨by omega, by omega⟩, ?_⟩
  refine ⟨y02, ⟨rpn' _, by omega⟩, ⟨by omega, by omega⟩, ?_⟩
  refine ⟨x03, ⟨rpn' _, by omega⟩, ⟨by omega, by omega⟩, ?_⟩
  refine ⟨y03, ⟨rpn' _, by omega⟩, ⟨by omega, by omega⟩, ?_⟩
  refine ⟨x01, ⟨rpn' _, by omega⟩, ⟨by omega, by omega⟩, ?_⟩
  refine ⟨(0 - y01), ⟨rpn' _, by omega⟩, ⟨by omega, by omega⟩, ?_⟩
  refine ⟨d1, ⟨rpn' _, by omega⟩, ⟨by omega, by omega⟩, ?_⟩
  refine ⟨0, ⟨rpn' _, by omega⟩, ⟨by omega, by omega⟩, ?_⟩
  refine ⟨x12, ⟨rpn' _, by omega⟩, ⟨by omega, by omega⟩, ?_⟩
  refine ⟨y12, ⟨rpn' _, by omega⟩, ⟨by omega, by omega⟩, ?_⟩
  refine ⟨x13, ⟨rpn' _, by omega⟩, ⟨by omega, by omega⟩, ?_⟩
  refine ⟨y13, ⟨rpn' _, by omega⟩, ⟨by omega, by omega⟩, ?_⟩
  refine ⟨x02, ⟨rpn' _, by omega⟩, ⟨by omega, by omega⟩, ?_⟩
  refine ⟨(0 - y02), ⟨rpn' _, by omega⟩, ⟨by omega, by omega⟩, ?_⟩
  refine ⟨x12, ⟨rpn' _, by omega⟩, ⟨by omega, by omega⟩, ?_⟩
  refine ⟨(0 - y12), ⟨rpn' _, by omega⟩, ⟨by omega, by omega⟩, ?_⟩
  refine ⟨d2, ⟨rpn' _, by omega⟩, ⟨by omega, by omega⟩, ?_⟩
  refine ⟨0, ⟨rpn' _, by omega⟩, ⟨by omega, by omega⟩, ?_⟩
  refine ⟨x23, ⟨rpn' _, by omega⟩, ⟨by omega, by omega⟩, ?_⟩
  refine ⟨y23, ⟨rpn' _, by omega⟩, ⟨by omega, by omega⟩, ?_⟩
  refine ⟨x03, ⟨rpn' _, by omega⟩, ⟨by omega, by omega⟩, ?_⟩
  refine ⟨(0 - y03), ⟨rpn' _, by omega⟩, ⟨by omega, by omega⟩, ?_⟩
  refine ⟨x13, ⟨rpn' _, by omega⟩, ⟨by omega, by omega⟩, ?_⟩
  refine ⟨(0 - y13), ⟨rpn' _, by omega⟩, ⟨by omega, by omega⟩, ?_⟩
  refine ⟨x23, ⟨rpn' _, by omega⟩, ⟨by omega, by omega⟩, ?_⟩
  refine ⟨(0 - y23), ⟨rpn' _, by omega⟩, ⟨by omega, by omega⟩, ?_⟩
  refine ⟨d3, ⟨rpn' _, by omega⟩, ⟨by omega, by omega⟩, ?_⟩
  refine ⟨0, ⟨rpn' _, by omega⟩, ⟨by omega, by omega⟩, ?_⟩
  refine ⟨fun h => by exfalso; have := of_decide_eq_true h; omega, fun _ => ?_⟩
  refine ⟨fun _ => ?_, fun h => absurd (re_rp hp.e0 (by omega)) (beq_eq_false_iff_ne.mp h)⟩
  refine ⟨fun _ => ?_, fun h => absurd (im_rp hp.e1 (by omega)) (beq_eq_false_iff_ne.mp h)⟩
  refine ⟨fun _ => ?_, fun h => absurd (re_rp hp.e2 (by omega)) (beq_eq_false_iff_ne.mp h)⟩
  refine ⟨fun _ => ?_, fun h => absurd (im_rp hp.e3 (by omega)) (beq_eq_false_iff_ne.mp h)⟩
  refine ⟨fun _ => ?_, fun h => absurd (re_rp hp.e4 (by omega)) (beq_eq_false_iff_ne.mp h)⟩
  refine ⟨fun _ => ?_, fun h => absurd (im_rp hp.e5 (by omega)) (beq_eq_false_iff_ne.mp h)⟩
  refine ⟨fun _ => ?_, fun h => absurd (re_rp hp.e6 (by omega)) (beq_eq_false_iff_ne.mp h)⟩
  refine ⟨fun _ => ?_, fun h => absurd (im_rp hp.e7 (by omega)) (beq_eq_false_iff_ne.mp h)⟩
  refine ⟨fun _ => ?_, fun h => absurd (re_rp hp.e8 (by omega)) (beq_eq_false_iff_ne.mp h)⟩
  refine ⟨fun _ => ?_, fun h => absurd (im_rp hp.e9 (by omega)) (beq_eq_false_iff_ne.mp h)⟩
  refine ⟨fun _ => ?_, fun h => absurd (re_rp hp.e10 (by omega)) (beq_eq_false_iff_ne.mp h)⟩
  refine ⟨fun _ => ?_, fun h => absurd (im_rp hp.e11 (by omega)) (beq_eq_false_iff_ne.mp h)⟩
  refine ⟨fun _ => ?_, fun h => absurd (re_rp hp.e12 (by omega)) (beq_eq_false_iff_ne.mp h)⟩
  refine ⟨fun _ => ?_, fun h => absurd (im_rp hp.e13 (by omega)) (beq_eq_false_iff_ne.mp h)⟩
  refine ⟨fun _ => ?_, fun h => absurd (re_rp hp.e14 (by omega)) (beq_eq_false_iff_ne.mp h)⟩
  refine ⟨fun _ => ?_, fun h => absurd (im_rp hp.e15 (by omega)) (beq_eq_false_iff_ne.mp h)⟩
  refine ⟨fun _ => ?_, fun h => absurd (re_rp hp.e16 (by omega)) (beq_eq_false_iff_ne.mp h)⟩
  refine ⟨fun _ => ?_, fun h => absurd (im_rp hp.e17 (by omega)) (beq_eq_false_iff_ne.mp h)⟩
  refine ⟨fun _ => ?_, fun h => absurd (re_rp hp.e18 (by omega)) (beq_eq_false_iff_ne.mp h)⟩
  refine ⟨fun _ => ?_, fun h => absurd (im_rp hp.e19 (by omega)) (beq_eq_false_iff_ne.mp h)⟩
  refine ⟨fun _ => ?_, fun h => absurd (re_rp hp.e20 (by omega)) (beq_eq_false_iff_ne.mp h)⟩
  refine ⟨fun _ => ?_, fun h => absurd (im_rp hp.e21 (by omega)) (beq_eq_false_iff_ne.mp h)⟩
  refine ⟨fun _ => ?_, fun h => absurd (re_rp hp.e22 (by omega)) (beq_eq_false_iff_ne.mp h)⟩
  refine ⟨fun _ => ?_, fun h => absurd (im_rp hp.e23 (by omega)) (beq_eq_false_iff_ne.mp h)⟩
  refine ⟨fun _ => ?_, fun h => absurd (re_rp hp.e24 (by omega)) (beq_eq_false_iff_ne.mp h)⟩
  refine ⟨fun _ => ?_, fun h => absurd (im_rp hp.e25 (by omega)) (beq_eq_false_iff_ne.mp h)⟩
  refine ⟨fun _ => ?_, fun h => absurd (re_rp hp.e26 (by omega)) (beq_eq_false_iff_ne.mp h)⟩
  refine ⟨fun _ => ?_, fun h => absurd (im_rp hp.e27 (by omega)) (beq_eq_false_iff_ne.mp h)⟩
  refine ⟨fun _ => ?_, fun h => absurd (re_rp hp.e28 (by omega)) (beq_eq_false_iff_ne.mp h)⟩
  refine ⟨fun _ => ?_, fun h => absurd (im_rp hp.e29 (by omega)) (beq_eq_false_iff_ne.mp h)⟩
  refine ⟨fun _ => ?_, fun h => absurd (re_rp hp.e30 (by omega)) (beq_eq_false_iff_ne.mp h)⟩
  refine ⟨fun _ => ?_, fun h => absurd (im_rp hp.e31 (by omega)) (beq_eq_false_iff_ne.mp h)⟩
  exact ⟨((z0 : Nat) : Int), ((z1 : Nat) : Int), ((z2 : Nat) : Int), ((z3 : Nat) : Int), ((z4 : Nat) : Int), ((z5 : Nat) : Int), ((z6 : Nat) : Int), ((z7 : Nat) : Int), hl, ((q0 : Nat) : Int), ((q1 : Nat) : Int), ((q2 : Nat) : Int), ((q3 : Nat) : Int), ((q4 : Nat) : Int), ((q5 : Nat) : Int), ((q6 : Nat) : Int), ((q7 : Nat) : Int), c, hm, rfl⟩
set_option maxHeartbeats 8000000 in
theorem jo_pure1 {m0 m1 m2 m3 m4 m5 m6 m7 m8 m9 m10 m11 m12 m13 m14 m15 d0 d1 d2 d3 x01 y01 x02 y02 x03 y03 x12 y12 x13 y13 x23 y23 c : Int} {z0 z1 z2 z3 z4 z5 z6 z7 q0 q1 q2 q3 q4 q5 q6 q7 : Nat} (r0 : (-1000000000) ≤ m0 ∧ m0 ≤ 1000000000) (r1 : (-1000000000) ≤ m1 ∧ m1 ≤ 1000000000) (r2 : (-1000000000) ≤ m2 ∧ m2 ≤ 1000000000) (r3 : (-1000000000) ≤ m3 ∧ m3 ≤ 1000000000) (r4 : (-1000000000) ≤ m4 ∧ m4 ≤ 1000000000) (r5 : (-1000000000) ≤ m5 ∧ m5 ≤ 1000000000) (r6 : (-1000000000) ≤ m6 ∧ m6 ≤ 1000000000) (r7 : (-1000000000) ≤ m7 ∧ m7 ≤ 1000000000) (r8 : (-1000000000) ≤ m8 ∧ m8 ≤ 1000000000) (r9 : (-1000000000) ≤ m9 ∧ m9 ≤ 1000000000) (r10 : (-1000000000) ≤ m10 ∧ m10 ≤ 1000000000) (r11 : (-1000000000) ≤ m11 ∧ m11 ≤ 1000000000) (r12 : (-1000000000) ≤ m12 ∧ m12 ≤ 1000000000) (r13 : (-1000000000) ≤ m13 ∧ m13 ≤ 1000000000) (r14 : (-1000000000) ≤ m14 ∧ m14 ≤ 1000000000) (r15 : (-1000000000) ≤ m15 ∧ m15 ≤ 1000000000) (bd0 : (-40000000) ≤ d0 ∧ d0 ≤ 40000000) (bd1 : (-40000000) ≤ d1 ∧ d1 ≤ 40000000) (bd2 : (-40000000) ≤ d2 ∧ d2 ≤ 40000000) (bd3 : (-40000000) ≤ d3 ∧ d3 ≤ 40000000) (bx01 : (-40000000) ≤ x01 ∧ x01 ≤ 40000000) (by01 : (-40000000) ≤ y01 ∧ y01 ≤ 40000000) (bx02 : (-40000000) ≤ x02 ∧ x02 ≤ 40000000) (by02 : (-40000000) ≤ y02 ∧ y02 ≤ 40000000) (bx03 : (-40000000) ≤ x03 ∧ x03 ≤ 40000000) (by03 : (-40000000) ≤ y03 ∧ y03 ≤ 40000000) (bx12 : (-40000000) ≤ x12 ∧ x12 ≤ 40000000) (by12 : (-40000000) ≤ y12 ∧ y12 ≤ 40000000) (bx13 : (-40000000) ≤ x13 ∧ x13 ≤ 40000000) (by13 : (-40000000) ≤ y13 ∧ y13 ≤ 40000000) (bx23 : (-40000000) ≤ x23 ∧ x23 ≤ 40000000) (by23 : (-40000000) ≤ y23 ∧ y23 ≤ 40000000) (hcu : (∀ w, Calls Try.prog 119 #[.int .i64 10000000, .agg #[.int .i64 m0, .int .i64 m1, .int .i64 m2, .int .i64 m3, .int .i64 m4, .int .i64 m5, .int .i64 m6, .int .i64 m7, .int .i64 m8, .int .i64 m9, .int .i64 m10, .int .i64 m11, .int .i64 m12, .int .i64 m13, .int .i64 m14, .int .i64 m15]] w fun e w' => e = .returned (.int .i64 0) ∧ Below w.heap.size w w')) (hK : (∀ w, Calls Try.prog 120 #[.agg #[.int .i64 m0, .int .i64 m1, .int .i64 m2, .int .i64 m3, .int .i64 m4, .int .i64 m5, .int .i64 m6, .int .i64 m7, .int .i64 m8, .int .i64 m9, .int .i64 m10, .int .i64 m11, .int .i64 m12, .int .i64 m13, .int .i64 m14, .int .i64 m15]] w fun e w' => e = .returned (.agg #[.complex .f64 (FloatKind.f64.nearest d0) (FloatKind.f64.nearest 0), .complex .f64 (FloatKind.f64.nearest x01) (FloatKind.f64.nearest y01), .complex .f64 (FloatKind.f64.nearest x02) (FloatKind.f64.nearest y02), .complex .f64 (FloatKind.f64.nearest x03) (FloatKind.f64.nearest y03), .complex .f64 (FloatKind.f64.nearest x01) (FloatKind.f64.nearest (0 - y01)), .complex .f64 (FloatKind.f64.nearest d1) (FloatKind.f64.nearest 0), .complex .f64 (FloatKind.f64.nearest x12) (FloatKind.f64.nearest y12), .complex .f64 (FloatKind.f64.nearest x13) (FloatKind.f64.nearest y13), .complex .f64 (FloatKind.f64.nearest x02) (FloatKind.f64.nearest (0 - y02)), .complex .f64 (FloatKind.f64.nearest x12) (FloatKind.f64.nearest (0 - y12)), .complex .f64 (FloatKind.f64.nearest d2) (FloatKind.f64.nearest 0), .complex .f64 (FloatKind.f64.nearest x23) (FloatKind.f64.nearest y23), .complex .f64 (FloatKind.f64.nearest x03) (FloatKind.f64.nearest (0 - y03)), .complex .f64 (FloatKind.f64.nearest x13) (FloatKind.f64.nearest (0 - y13)), .complex .f64 (FloatKind.f64.nearest x23) (FloatKind.f64.nearest (0 - y23)), .complex .f64 (FloatKind.f64.nearest d3) (FloatKind.f64.nearest 0)]) ∧ Below w.heap.size w w')) (hp : Pure1 d0 d1 d2 d3 x01 y01 x02 y02 x03 y03 x12 y12 x13 y13 x23 y23) (hl : (∀ w, Calls Try.prog 122 #[.agg #[.complex .f64 (FloatKind.f64.nearest x01) (FloatKind.f64.nearest y01), .complex .f64 (FloatKind.f64.nearest d1) (FloatKind.f64.nearest 0), .complex .f64 (FloatKind.f64.nearest x12) (FloatKind.f64.nearest (0 - y12)), .complex .f64 (FloatKind.f64.nearest x13) (FloatKind.f64.nearest (0 - y13))]] w fun e w' => e = .returned (.agg #[.complex .f64 z0 z1, .complex .f64 z2 z3, .complex .f64 z4 z5, .complex .f64 z6 z7]) ∧ Below w.heap.size w w')) (hm : (∀ w, Calls Try.prog 100 #[.agg #[.complex .f64 z0 z1, .complex .f64 z2 z3, .complex .f64 z4 z5, .complex .f64 z6 z7]] w fun e w' => e = .returned (.tuple #[.agg #[.complex .f64 q0 q1, .complex .f64 q2 q3, .complex .f64 q4 q5, .complex .f64 q6 q7], .int .i64 c]) ∧ Below w.heap.size w w')) (w : World) : Calls Try.prog 64 #[.agg #[.int .i64 m0, .int .i64 m1, .int .i64 m2, .int .i64 m3, .int .i64 m4, .int .i64 m5, .int .i64 m6, .int .i64 m7, .int .i64 m8, .int .i64 m9, .int .i64 m10, .int .i64 m11, .int .i64 m12, .int .i64 m13, .int .i64 m14, .int .i64 m15]] w fun e w' => e = .returned (.tuple #[.agg #[.complex .f64 q0 q1, .complex .f64 q2 q3, .complex .f64 q4 q5, .complex .f64 q6 q7], .int .i64 c]) ∧ Below w.heap.size w w' := by
  have hpos := hp.pos
  have hz0 := hp.z0
  refine one_val (jo r0 r1 r2 r3 r4 r5 r6 r7 r8 r9 r10 r11 r12 r13 r14 r15 (Q := (· = _)) ⟨0, hcu, ⟨by omega, by omega⟩, fun _ => ?_, fun h => absurd rfl (bne0 h)⟩) w
  refine ⟨(((FloatKind.f64.nearest d0) : Nat) : Int), (((FloatKind.f64.nearest 0) : Nat) : Int), (((FloatKind.f64.nearest x01) : Nat) : Int), (((FloatKind.f64.nearest y01) : Nat) : Int), (((FloatKind.f64.nearest x02) : Nat) : Int), (((FloatKind.f64.nearest y02) : Nat) : Int), (((FloatKind.f64.nearest x03) : Nat) : Int), (((FloatKind.f64.nearest y03) : Nat) : Int), (((FloatKind.f64.nearest x01) : Nat) : Int), (((FloatKind.f64.nearest (0 - y01)) : Nat) : Int), (((FloatKind.f64.nearest d1) : Nat) : Int), (((FloatKind.f64.nearest 0) : Nat) : Int), (((FloatKind.f64.nearest x12) : Nat) : Int), (((FloatKind.f64.nearest y12) : Nat) : Int), (((FloatKind.f64.nearest x13) : Nat) : Int), (((FloatKind.f64.nearest y13) : Nat) : Int), (((FloatKind.f64.nearest x02) : Nat) : Int), (((FloatKind.f64.nearest (0 - y02)) : Nat) : Int), (((FloatKind.f64.nearest x12) : Nat) : Int), (((FloatKind.f64.nearest (0 - y12)) : Nat) : Int), (((FloatKind.f64.nearest d2) : Nat) : Int), (((FloatKind.f64.nearest 0) : Nat) : Int), (((FloatKind.f64.nearest x23) : Nat) : Int), (((FloatKind.f64.nearest y23) : Nat) : Int), (((FloatKind.f64.nearest x03) : Nat) : Int), (((FloatKind.f64.nearest (0 - y03)) : Nat) : Int), (((FloatKind.f64.nearest x13) : Nat) : Int), (((FloatKind.f64.nearest (0 - y13)) : Nat) : Int), (((FloatKind.f64.nearest x23) : Nat) : Int), (((FloatKind.f64.nearest (0 - y23)) : Nat) : Int), (((FloatKind.f64.nearest d3) : Nat) : Int), (((FloatKind.f64.nearest 0) : Nat) : Int), hK, ?_⟩
  refine ⟨d0, ⟨rpn' _, by omega⟩, ⟨by omega, by omega⟩, ?_⟩
  refine ⟨0, ⟨rpn' _, by omega⟩, ⟨by omega, by omega⟩, ?_⟩
  refine ⟨x01, ⟨rpn' _, by omega⟩, ⟨by omega, by omega⟩, ?_⟩
  refine ⟨y01, ⟨rpn' _, by omega⟩, ⟨by omega, by omega⟩, ?_⟩
  refine ⟨x02, ⟨rpn' _, by omega⟩, ⟨by omega, by omega⟩, ?_⟩
  refine ⟨y02, ⟨rpn' _, by omega⟩, ⟨by omega, by omega⟩, ?_⟩
  refine ⟨x03, ⟨rpn' _, by omega⟩, ⟨by omega, by omega⟩, ?_⟩
  refine ⟨y03, ⟨rpn' _, by omega⟩, ⟨by omega, by omega⟩, ?_⟩
  refine ⟨x01, ⟨rpn' _, by omega⟩, ⟨by omega, by omega⟩, ?_⟩
  refine ⟨(0 - y01), ⟨rpn' _, by omega⟩, ⟨by omega, by omega⟩, ?_⟩
  refine ⟨d1, ⟨rpn' _, by omega⟩, ⟨by omega, by omega⟩, ?_⟩
  refine ⟨0, ⟨rpn' _, by omega⟩, ⟨by omega, by omega⟩, ?_⟩
  refine ⟨x12, ⟨rpn' _, by omega⟩, ⟨by omega, by omega⟩, ?_⟩
  refine ⟨y12, ⟨rpn' _, by omega⟩, ⟨by omega, by omega⟩, ?_⟩
  refine ⟨x13, ⟨rpn' _, by omega⟩, ⟨by omega, by omega⟩, ?_⟩
  refine ⟨y13, ⟨rpn' _, by omega⟩, ⟨by omega, by omega⟩, ?_⟩
  refine ⟨x02, ⟨rpn' _, by omega⟩, ⟨by omega, by omega⟩, ?_⟩
  refine ⟨(0 - y02), ⟨rpn' _, by omega⟩, ⟨by omega, by omega⟩, ?_⟩
  refine ⟨x12, ⟨rpn' _, by omega⟩, ⟨by omega, by omega⟩, ?_⟩
  refine ⟨(0 - y12), ⟨rpn' _, by omega⟩, ⟨by omega, by omega⟩, ?_⟩
  refine ⟨d2, ⟨rpn' _, by omega⟩, ⟨by omega, by omega⟩, ?_⟩
  refine ⟨0, ⟨rpn' _, by omega⟩, ⟨by omega, by omega⟩, ?_⟩
  refine ⟨x23, ⟨rpn' _, by omega⟩, ⟨by omega, by omega⟩, ?_⟩
  refine ⟨y23, ⟨rpn' _, by omega⟩, ⟨by omega, by omega⟩, ?_⟩
  refine ⟨x03, ⟨rpn' _, by omega⟩, ⟨by omega, by omega⟩, ?_⟩
  refine ⟨(0 - y03), ⟨rpn' _, by omega⟩, ⟨by omega, by omega⟩, ?_⟩
  refine ⟨x13, ⟨rpn' _, by omega⟩, ⟨by omega, by omega⟩, ?_⟩
  refine ⟨(0 - y13), ⟨rpn' _, by omega⟩, ⟨by omega, by omega⟩, ?_⟩
  refine ⟨x23, ⟨rpn' _, by omega⟩, ⟨by omega, by omega⟩, ?_⟩
  refine ⟨(0 - y23), ⟨rpn' _, by omega⟩, ⟨by omega, by omega⟩, ?_⟩
  refine ⟨d3, ⟨rpn' _, by omega⟩, ⟨by omega, by omega⟩, ?_⟩
  refine ⟨0, ⟨rpn' _, by omega⟩, ⟨by omega, by omega⟩, ?_⟩
  refine ⟨fun _ => ?_, fun h => by exfalso; have := of_decide_eq_false h; omega⟩
  refine ⟨fun h => by exfalso; have := of_decide_eq_true h; omega, fun _ => ?_⟩
  refine ⟨fun _ => ?_, fun h => absurd (re_rp hp.e0 (by omega)) (beq_eq_false_iff_ne.mp h)⟩
  refine ⟨fun _ => ?_, fun h => absurd (im_rp hp.e1 (by omega)) (beq_eq_false_iff_ne.mp h)⟩
  refine ⟨fun _ => ?_, fun h => absurd (re_rp hp.e2 (by omega)) (beq_eq_false_iff_ne.mp h)⟩
  refine ⟨fun _ => ?_, fun h => absurd (im_rp hp.e3 (by omega)) (beq_eq_false_iff_ne.mp h)⟩
  refine ⟨fun _ => ?_, fun h => absurd (re_rp hp.e4 (by omega)) (beq_eq_false_iff_ne.mp h)⟩
  refine ⟨fun _ => ?_, fun h => absurd (im_rp hp.e5 (by omega)) (beq_eq_false_iff_ne.mp h)⟩
  refine ⟨fun _ => ?_, fun h => absurd (re_rp hp.e6 (by omega)) (beq_eq_false_iff_ne.mp h)⟩
  refine ⟨fun _ => ?_, fun h => absurd (im_rp hp.e7 (by omega)) (beq_eq_false_iff_ne.mp h)⟩
  refine ⟨fun _ => ?_, fun h => absurd (re_rp hp.e8 (by omega)) (beq_eq_false_iff_ne.mp h)⟩
  refine ⟨fun _ => ?_, fun h => absurd (im_rp hp.e9 (by omega)) (beq_eq_false_iff_ne.mp h)⟩
  refine ⟨fun _ => ?_, fun h => absurd (re_rp hp.e10 (by omega)) (beq_eq_false_iff_ne.mp h)⟩
  refine ⟨fun _ => ?_, fun h => absurd (im_rp hp.e11 (by omega)) (beq_eq_false_iff_ne.mp h)⟩
  refine ⟨fun _ => ?_, fun h => absurd (re_rp hp.e12 (by omega)) (beq_eq_false_iff_ne.mp h)⟩
  refine ⟨fun _ => ?_, fun h => absurd (im_rp hp.e13 (by omega)) (beq_eq_false_iff_ne.mp h)⟩
  refine ⟨fun _ => ?_, fun h => absurd (re_rp hp.e14 (by omega)) (beq_eq_false_iff_ne.mp h)⟩
  refine ⟨fun _ => ?_, fun h => absurd (im_rp hp.e15 (by omega)) (beq_eq_false_iff_ne.mp h)⟩
  refine ⟨fun _ => ?_, fun h => absurd (re_rp hp.e16 (by omega)) (beq_eq_false_iff_ne.mp h)⟩
  refine ⟨fun _ => ?_, fun h => absurd (im_rp hp.e17 (by omega)) (beq_eq_false_iff_ne.mp h)⟩
  refine ⟨fun _ => ?_, fun h => absurd (re_rp hp.e18 (by omega)) (beq_eq_false_iff_ne.mp h)⟩
  refine ⟨fun _ => ?_, fun h => absurd (im_rp hp.e19 (by omega)) (beq_eq_false_iff_ne.mp h)⟩
  refine ⟨fun _ => ?_, fun h => absurd (re_rp hp.e20 (by omega)) (beq_eq_false_iff_ne.mp h)⟩
  refine ⟨fun _ => ?_, fun h => absurd (im_rp hp.e21 (by omega)) (beq_eq_false_iff_ne.mp h)⟩
  refine ⟨fun _ => ?_, fun h => absurd (re_rp hp.e22 (by omega)) (beq_eq_false_iff_ne.mp h)⟩
  refine ⟨fun _ => ?_, fun h => absurd (im_rp hp.e23 (by omega)) (beq_eq_false_iff_ne.mp h)⟩
  refine ⟨fun _ => ?_, fun h => absurd (re_rp hp.e24 (by omega)) (beq_eq_false_iff_ne.mp h)⟩
  refine ⟨fun _ => ?_, fun h => absurd (im_rp hp.e25 (by omega)) (beq_eq_false_iff_ne.mp h)⟩
  refine ⟨fun _ => ?_, fun h => absurd (re_rp hp.e26 (by omega)) (beq_eq_false_iff_ne.mp h)⟩
  refine ⟨fun _ => ?_, fun h => absurd (im_rp hp.e27 (by omega)) (beq_eq_false_iff_ne.mp h)⟩
  refine ⟨fun _ => ?_, fun h => absurd (re_rp hp.e28 (by omega)) (beq_eq_false_iff_ne.mp h)⟩
  refine ⟨fun _ => ?_, fun h => absurd (im_rp hp.e29 (by omega)) (beq_eq_false_iff_ne.mp h)⟩
  refine ⟨fun _ => ?_, fun h => absurd (re_rp hp.e30 (by omega)) (beq_eq_false_iff_ne.mp h)⟩
  refine ⟨fun _ => ?_, fun h => absurd (im_rp hp.e31 (by omega)) (beq_eq_false_iff_ne.mp h)⟩
  exact ⟨((z0 : Nat) : Int), ((z1 : Nat) : Int), ((z2 : Nat) : Int), ((z3 : Nat) : Int), ((z4 : Nat) : Int), ((z5 : Nat) : Int), ((z6 : Nat) : Int), ((z7 : Nat) : Int), hl, ((q0 : Nat) : Int), ((q1 : Nat) : Int), ((q2 : Nat) : Int), ((q3 : Nat) : Int), ((q4 : Nat) : Int), ((q5 : Nat) : Int), ((q6 : Nat) : Int), ((q7 : Nat) : Int), c, hm, rfl⟩
set_option maxHeartbeats 8000000 in
theorem jo_pure2 {m0 m1 m2 m3 m4 m5 m6 m7 m8 m9 m10 m11 m12 m13 m14 m15 d0 d1 d2 d3 x01 y01 x02 y02 x03 y03 x12 y12 x13 y13 x23 y23 c : Int} {z0 z1 z2 z3 z4 z5 z6 z7 q0 q1 q2 q3 q4 q5 q6 q7 : Nat} (r0 : (-1000000000) ≤ m0 ∧ m0 ≤ 1000000000) (r1 : (-1000000000) ≤ m1 ∧ m1 ≤ 1000000000) (r2 : (-1000000000) ≤ m2 ∧ m2 ≤ 1000000000) (r3 : (-1000000000) ≤ m3 ∧ m3 ≤ 1000000000) (r4 : (-1000000000) ≤ m4 ∧ m4 ≤ 1000000000) (r5 : (-1000000000) ≤ m5 ∧ m5 ≤ 1000000000) (r6 : (-1000000000) ≤ m6 ∧ m6 ≤ 1000000000) (r7 : (-1000000000) ≤ m7 ∧ m7 ≤ 1000000000) (r8 : (-1000000000) ≤ m8 ∧ m8 ≤ 1000000000) (r9 : (-1000000000) ≤ m9 ∧ m9 ≤ 1000000000) (r10 : (-1000000000) ≤ m10 ∧ m10 ≤ 1000000000) (r11 : (-1000000000) ≤ m11 ∧ m11 ≤ 1000000000) (r12 : (-1000000000) ≤ m12 ∧ m12 ≤ 1000000000) (r13 : (-1000000000) ≤ m13 ∧ m13 ≤ 1000000000) (r14 : (-1000000000) ≤ m14 ∧ m14 ≤ 1000000000) (r15 : (-1000000000) ≤ m15 ∧ m15 ≤ 1000000000) (bd0 : (-40000000) ≤ d0 ∧ d0 ≤ 40000000) (bd1 : (-40000000) ≤ d1 ∧ d1 ≤ 40000000) (bd2 : (-40000000) ≤ d2 ∧ d2 ≤ 40000000) (bd3 : (-40000000) ≤ d3 ∧ d3 ≤ 40000000) (bx01 : (-40000000) ≤ x01 ∧ x01 ≤ 40000000) (by01 : (-40000000) ≤ y01 ∧ y01 ≤ 40000000) (bx02 : (-40000000) ≤ x02 ∧ x02 ≤ 40000000) (by02 : (-40000000) ≤ y02 ∧ y02 ≤ 40000000) (bx03 : (-40000000) ≤ x03 ∧ x03 ≤ 40000000) (by03 : (-40000000) ≤ y03 ∧ y03 ≤ 40000000) (bx12 : (-40000000) ≤ x12 ∧ x12 ≤ 40000000) (by12 : (-40000000) ≤ y12 ∧ y12 ≤ 40000000) (bx13 : (-40000000) ≤ x13 ∧ x13 ≤ 40000000) (by13 : (-40000000) ≤ y13 ∧ y13 ≤ 40000000) (bx23 : (-40000000) ≤ x23 ∧ x23 ≤ 40000000) (by23 : (-40000000) ≤ y23 ∧ y23 ≤ 40000000) (hcu : (∀ w, Calls Try.prog 119 #[.int .i64 10000000, .agg #[.int .i64 m0, .int .i64 m1, .int .i64 m2, .int .i64 m3, .int .i64 m4, .int .i64 m5, .int .i64 m6, .int .i64 m7, .int .i64 m8, .int .i64 m9, .int .i64 m10, .int .i64 m11, .int .i64 m12, .int .i64 m13, .int .i64 m14, .int .i64 m15]] w fun e w' => e = .returned (.int .i64 0) ∧ Below w.heap.size w w')) (hK : (∀ w, Calls Try.prog 120 #[.agg #[.int .i64 m0, .int .i64 m1, .int .i64 m2, .int .i64 m3, .int .i64 m4, .int .i64 m5, .int .i64 m6, .int .i64 m7, .int .i64 m8, .int .i64 m9, .int .i64 m10, .int .i64 m11, .int .i64 m12, .int .i64 m13, .int .i64 m14, .int .i64 m15]] w fun e w' => e = .returned (.agg #[.complex .f64 (FloatKind.f64.nearest d0) (FloatKind.f64.nearest 0), .complex .f64 (FloatKind.f64.nearest x01) (FloatKind.f64.nearest y01), .complex .f64 (FloatKind.f64.nearest x02) (FloatKind.f64.nearest y02), .complex .f64 (FloatKind.f64.nearest x03) (FloatKind.f64.nearest y03), .complex .f64 (FloatKind.f64.nearest x01) (FloatKind.f64.nearest (0 - y01)), .complex .f64 (FloatKind.f64.nearest d1) (FloatKind.f64.nearest 0), .complex .f64 (FloatKind.f64.nearest x12) (FloatKind.f64.nearest y12), .complex .f64 (FloatKind.f64.nearest x13) (FloatKind.f64.nearest y13), .complex .f64 (FloatKind.f64.nearest x02) (FloatKind.f64.nearest (0 - y02)), .complex .f64 (FloatKind.f64.nearest x12) (FloatKind.f64.nearest (0 - y12)), .complex .f64 (FloatKind.f64.nearest d2) (FloatKind.f64.nearest 0), .complex .f64 (FloatKind.f64.nearest x23) (FloatKind.f64.nearest y23), .complex .f64 (FloatKind.f64.nearest x03) (FloatKind.f64.nearest (0 - y03)), .complex .f64 (FloatKind.f64.nearest x13) (FloatKind.f64.nearest (0 - y13)), .complex .f64 (FloatKind.f64.nearest x23) (FloatKind.f64.nearest (0 - y23)), .complex .f64 (FloatKind.f64.nearest d3) (FloatKind.f64.nearest 0)]) ∧ Below w.heap.size w w')) (hp : Pure2 d0 d1 d2 d3 x01 y01 x02 y02 x03 y03 x12 y12 x13 y13 x23 y23) (hl : (∀ w, Calls Try.prog 122 #[.agg #[.complex .f64 (FloatKind.f64.nearest x02) (FloatKind.f64.nearest y02), .complex .f64 (FloatKind.f64.nearest x12) (FloatKind.f64.nearest y12), .complex .f64 (FloatKind.f64.nearest d2) (FloatKind.f64.nearest 0), .complex .f64 (FloatKind.f64.nearest x23) (FloatKind.f64.nearest (0 - y23))]] w fun e w' => e = .returned (.agg #[.complex .f64 z0 z1, .complex .f64 z2 z3, .complex .f64 z4 z5, .complex .f64 z6 z7]) ∧ Below w.heap.size w w')) (hm : (∀ w, Calls Try.prog 100 #[.agg #[.complex .f64 z0 z1, .complex .f64 z2 z3, .complex .f64 z4 z5, .complex .f64 z6 z7]] w fun e w' => e = .returned (.tuple #[.agg #[.complex .f64 q0 q1, .complex .f64 q2 q3, .complex .f64 q4 q5, .complex .f64 q6 q7], .int .i64 c]) ∧ Below w.heap.size w w')) (w : World) : Calls Try.prog 64 #[.agg #[.int .i64 m0, .int .i64 m1, .int .i64 m2, .int .i64 m3, .int .i64 m4, .int .i64 m5, .int .i64 m6, .int .i64 m7, .int .i64 m8, .int .i64 m9, .int .i64 m10, .int .i64 m11, .int .i64 m12, .int .i64 m13, .int .i64 m14, .int .i64 m15]] w fun e w' => e = .returned (.tuple #[.agg #[.complex .f64 q0 q1, .complex .f64 q2 q3, .complex .f64 q4 q5, .complex .f64 q6 q7], .int .i64 c]) ∧ Below w.heap.size w w' := by
  have hpos := hp.pos
  have hz0 := hp.z0
  have hz1 := hp.z1
  refine one_val (jo r0 r1 r2 r3 r4 r5 r6 r7 r8 r9 r10 r11 r12 r13 r14 r15 (Q := (· = _)) ⟨0, hcu, ⟨by omega, by omega⟩, fun _ => ?_, fun h => absurd rfl (bne0 h)⟩) w
  refine ⟨(((FloatKind.f64.nearest d0) : Nat) : Int), (((FloatKind.f64.nearest 0) : Nat) : Int), (((FloatKind.f64.nearest x01) : Nat) : Int), (((FloatKind.f64.nearest y01) : Nat) : Int), (((FloatKind.f64.nearest x02) : Nat) : Int), (((FloatKind.f64.nearest y02) : Nat) : Int), (((FloatKind.f64.nearest x03) : Nat) : Int), (((FloatKind.f64.nearest y03) : Nat) : Int), (((FloatKind.f64.nearest x01) : Nat) : Int), (((FloatKind.f64.nearest (0 - y01)) : Nat) : Int), (((FloatKind.f64.nearest d1) : Nat) : Int), (((FloatKind.f64.nearest 0) : Nat) : Int), (((FloatKind.f64.nearest x12) : Nat) : Int), (((FloatKind.f64.nearest y12) : Nat) : Int), (((FloatKind.f64.nearest x13) : Nat) : Int), (((FloatKind.f64.nearest y13) : Nat) : Int), (((FloatKind.f64.nearest x02) : Nat) : Int), (((FloatKind.f64.nearest (0 - y02)) : Nat) : Int), (((FloatKind.f64.nearest x12) : Nat) : Int), (((FloatKind.f64.nearest (0 - y12)) : Nat) : Int), (((FloatKind.f64.nearest d2) : Nat) : Int), (((FloatKind.f64.nearest 0) : Nat) : Int), (((FloatKind.f64.nearest x23) : Nat) : Int), (((FloatKind.f64.nearest y23) : Nat) : Int), (((FloatKind.f64.nearest x03) : Nat) : Int), (((FloatKind.f64.nearest (0 - y03)) : Nat) : Int), (((FloatKind.f64.nearest x13) : Nat) : Int), (((FloatKind.f64.nearest (0 - y13)) : Nat) : Int), (((FloatKind.f64.nearest x23) : Nat) : Int), (((FloatKind.f64.nearest (0 - y23)) : Nat) : Int), (((FloatKind.f64.nearest d3) : Nat) : Int), (((FloatKind.f64.nearest 0) : Nat) : Int), hK, ?_⟩
  refine ⟨d0, ⟨rpn' _, by omega⟩, ⟨by omega, by omega⟩, ?_⟩
  refine ⟨0, ⟨rpn' _, by omega⟩, ⟨by omega, by omega⟩, ?_⟩
  refine ⟨x01, ⟨rpn' _, by omega⟩, ⟨by omega, by omega⟩, ?_⟩
  refine ⟨y01, ⟨rpn' _, by omega⟩, ⟨by omega, by omega⟩, ?_⟩
  refine ⟨x02, ⟨rpn' _, by omega⟩, ⟨by omega, by omega⟩, ?_⟩
  refine ⟨y02, ⟨rpn' _, by omega⟩, ⟨by omega, by omega⟩, ?_⟩
  refine ⟨x03, ⟨rpn' _, by omega⟩, ⟨by omega, by omega⟩, ?_⟩
  refine ⟨y03, ⟨rpn' _, by omega⟩, ⟨by omega, by omega⟩, ?_⟩
  refine ⟨x01, ⟨rpn' _, by omega⟩, ⟨by omega, by omega⟩, ?_⟩
  refine ⟨(0 - y01), ⟨rpn' _, by omega⟩, ⟨by omega, by omega⟩, ?_⟩
  refine ⟨d1, ⟨rpn' _, by omega⟩, ⟨by omega, by omega⟩, ?_⟩
  refine ⟨0, ⟨rpn' _, by omega⟩, ⟨by omega, by omega⟩, ?_⟩
  refine ⟨x12, ⟨rpn' _, by omega⟩, ⟨by omega, by omega⟩, ?_⟩
  refine ⟨y12, ⟨rpn' _, by omega⟩, ⟨by omega, by omega⟩, ?_⟩
  refine ⟨x13, ⟨rpn' _, by omega⟩, ⟨by omega, by omega⟩, ?_⟩
  refine ⟨y13, ⟨rpn' _, by omega⟩, ⟨by omega, by omega⟩, ?_⟩
  refine ⟨x02, ⟨rpn' _, by omega⟩, ⟨by omega, by omega⟩, ?_⟩
  refine ⟨(0 - y02), ⟨rpn' _, by omega⟩, ⟨by omega, by omega⟩, ?_⟩
  refine ⟨x12, ⟨rpn' _, by omega⟩, ⟨by omega, by omega⟩, ?_⟩
  refine ⟨(0 - y12), ⟨rpn' _, by omega⟩, ⟨by omega, by omega⟩, ?_⟩
  refine ⟨d2, ⟨rpn' _, by omega⟩, ⟨by omega, by omega⟩, ?_⟩
  refine ⟨0, ⟨rpn' _, by omega⟩, ⟨by omega, by omega⟩, ?_⟩
  refine ⟨x23, ⟨rpn' _, by omega⟩, ⟨by omega, by omega⟩, ?_⟩
  refine ⟨y23, ⟨rpn' _, by omega⟩, ⟨by omega, by omega⟩, ?_⟩
  refine ⟨x03, ⟨rpn' _, by omega⟩, ⟨by omega, by omega⟩, ?_⟩
  refine ⟨(0 - y03), ⟨rpn' _, by omega⟩, ⟨by omega, by omega⟩, ?_⟩
  refine ⟨x13, ⟨rpn' _, by omega⟩, ⟨by omega, by omega⟩, ?_⟩
  refine ⟨(0 - y13), ⟨rpn' _, by omega⟩, ⟨by omega, by omega⟩, ?_⟩
  refine ⟨x23, ⟨rpn' _, by omega⟩, ⟨by omega, by omega⟩, ?_⟩
  refine ⟨(0 - y23), ⟨rpn' _, by omega⟩, ⟨by omega, by omega⟩, ?_⟩
  refine ⟨d3, ⟨rpn' _, by omega⟩, ⟨by omega, by omega⟩, ?_⟩
  refine ⟨0, ⟨rpn' _, by omega⟩, ⟨by omega, by omega⟩, ?_⟩
  refine ⟨fun _ => ?_, fun h => by exfalso; have := of_decide_eq_false h; omega⟩
  refine ⟨fun _ => ?_, fun h => by exfalso; have := of_decide_eq_false h; omega⟩
  refine ⟨fun h => by exfalso; have := of_decide_eq_true h; omega, fun _ => ?_⟩
  refine ⟨fun _ => ?_, fun h => absurd (re_rp hp.e0 (by omega)) (beq_eq_false_iff_ne.mp h)⟩
  refine ⟨fun _ => ?_, fun h => absurd (im_rp hp.e1 (by omega)) (beq_eq_false_iff_ne.mp h)⟩
  refine ⟨fun _ => ?_, fun h => absurd (re_rp hp.e2 (by omega)) (beq_eq_false_iff_ne.mp h)⟩
  refine ⟨fun _ => ?_, fun h => absurd (im_rp hp.e3 (by omega)) (beq_eq_false_iff_ne.mp h)⟩
  refine ⟨fun _ => ?_, fun h => absurd (re_rp hp.e4 (by omega)) (beq_eq_false_iff_ne.mp h)⟩
  refine ⟨fun _ => ?_, fun h => absurd (im_rp hp.e5 (by omega)) (beq_eq_false_iff_ne.mp h)⟩
  refine ⟨fun _ => ?_, fun h => absurd (re_rp hp.e6 (by omega)) (beq_eq_false_iff_ne.mp h)⟩
  refine ⟨fun _ => ?_, fun h => absurd (im_rp hp.e7 (by omega)) (beq_eq_false_iff_ne.mp h)⟩
  refine ⟨fun _ => ?_, fun h => absurd (re_rp hp.e8 (by omega)) (beq_eq_false_iff_ne.mp h)⟩
  refine ⟨fun _ => ?_, fun h => absurd (im_rp hp.e9 (by omega)) (beq_eq_false_iff_ne.mp h)⟩
  refine ⟨fun _ => ?_, fun h => absurd (re_rp hp.e10 (by omega)) (beq_eq_false_iff_ne.mp h)⟩
  refine ⟨fun _ => ?_, fun h => absurd (im_rp hp.e11 (by omega)) (beq_eq_false_iff_ne.mp h)⟩
  refine ⟨fun _ => ?_, fun h => absurd (re_rp hp.e12 (by omega)) (beq_eq_false_iff_ne.mp h)⟩
  refine ⟨fun _ => ?_, fun h => absurd (im_rp hp.e13 (by omega)) (beq_eq_false_iff_ne.mp h)⟩
  refine ⟨fun _ => ?_, fun h => absurd (re_rp hp.e14 (by omega)) (beq_eq_false_iff_ne.mp h)⟩
  refine ⟨fun _ => ?_, fun h => absurd (im_rp hp.e15 (by omega)) (beq_eq_false_iff_ne.mp h)⟩
  refine ⟨fun _ => ?_, fun h => absurd (re_rp hp.e16 (by omega)) (beq_eq_false_iff_ne.mp h)⟩
  refine ⟨fun _ => ?_, fun h => absurd (im_rp hp.e17 (by omega)) (beq_eq_false_iff_ne.mp h)⟩
  refine ⟨fun _ => ?_, fun h => absurd (re_rp hp.e18 (by omega)) (beq_eq_false_iff_ne.mp h)⟩
  refine ⟨fun _ => ?_, fun h => absurd (im_rp hp.e19 (by omega)) (beq_eq_false_iff_ne.mp h)⟩
  refine ⟨fun _ => ?_, fun h => absurd (re_rp hp.e20 (by omega)) (beq_eq_false_iff_ne.mp h)⟩
  refine ⟨fun _ => ?_, fun h => absurd (im_rp hp.e21 (by omega)) (beq_eq_false_iff_ne.mp h)⟩
  refine ⟨fun _ => ?_, fun h => absurd (re_rp hp.e22 (by omega)) (beq_eq_false_iff_ne.mp h)⟩
  refine ⟨fun _ => ?_, fun h => absurd (im_rp hp.e23 (by omega)) (beq_eq_false_iff_ne.mp h)⟩
  refine ⟨fun _ => ?_, fun h => absurd (re_rp hp.e24 (by omega)) (beq_eq_false_iff_ne.mp h)⟩
  refine ⟨fun _ => ?_, fun h => absurd (im_rp hp.e25 (by omega)) (beq_eq_false_iff_ne.mp h)⟩
  refine ⟨fun _ => ?_, fun h => absurd (re_rp hp.e26 (by omega)) (beq_eq_false_iff_ne.mp h)⟩
  refine ⟨fun _ => ?_, fun h => absurd (im_rp hp.e27 (by omega)) (beq_eq_false_iff_ne.mp h)⟩
  refine ⟨fun _ => ?_, fun h => absurd (re_rp hp.e28 (by omega)) (beq_eq_false_iff_ne.mp h)⟩
  refine ⟨fun _ => ?_, fun h => absurd (im_rp hp.e29 (by omega)) (beq_eq_false_iff_ne.mp h)⟩
  refine ⟨fun _ => ?_, fun h => absurd (re_rp hp.e30 (by omega)) (beq_eq_false_iff_ne.mp h)⟩
  refine ⟨fun _ => ?_, fun h => absurd (im_rp hp.e31 (by omega)) (beq_eq_false_iff_ne.mp h)⟩
  exact ⟨((z0 : Nat) : Int), ((z1 : Nat) : Int), ((z2 : Nat) : Int), ((z3 : Nat) : Int), ((z4 : Nat) : Int), ((z5 : Nat) : Int), ((z6 : Nat) : Int), ((z7 : Nat) : Int), hl, ((q0 : Nat) : Int), ((q1 : Nat) : Int), ((q2 : Nat) : Int), ((q3 : Nat) : Int), ((q4 : Nat) : Int), ((q5 : Nat) : Int), ((q6 : Nat) : Int), ((q7 : Nat) : Int), c, hm, rfl⟩
set_option maxHeartbeats 8000000 in
theorem jo_pure3 {m0 m1 m2 m3 m4 m5 m6 m7 m8 m9 m10 m11 m12 m13 m14 m15 d0 d1 d2 d3 x01 y01 x02 y02 x03 y03 x12 y12 x13 y13 x23 y23 c : Int} {z0 z1 z2 z3 z4 z5 z6 z7 q0 q1 q2 q3 q4 q5 q6 q7 : Nat} (r0 : (-1000000000) ≤ m0 ∧ m0 ≤ 1000000000) (r1 : (-1000000000) ≤ m1 ∧ m1 ≤ 1000000000) (r2 : (-1000000000) ≤ m2 ∧ m2 ≤ 1000000000) (r3 : (-1000000000) ≤ m3 ∧ m3 ≤ 1000000000) (r4 : (-1000000000) ≤ m4 ∧ m4 ≤ 1000000000) (r5 : (-1000000000) ≤ m5 ∧ m5 ≤ 1000000000) (r6 : (-1000000000) ≤ m6 ∧ m6 ≤ 1000000000) (r7 : (-1000000000) ≤ m7 ∧ m7 ≤ 1000000000) (r8 : (-1000000000) ≤ m8 ∧ m8 ≤ 1000000000) (r9 : (-1000000000) ≤ m9 ∧ m9 ≤ 1000000000) (r10 : (-1000000000) ≤ m10 ∧ m10 ≤ 1000000000) (r11 : (-1000000000) ≤ m11 ∧ m11 ≤ 1000000000) (r12 : (-1000000000) ≤ m12 ∧ m12 ≤ 1000000000) (r13 : (-1000000000) ≤ m13 ∧ m13 ≤ 1000000000) (r14 : (-1000000000) ≤ m14 ∧ m14 ≤ 1000000000) (r15 : (-1000000000) ≤ m15 ∧ m15 ≤ 1000000000) (bd0 : (-40000000) ≤ d0 ∧ d0 ≤ 40000000) (bd1 : (-40000000) ≤ d1 ∧ d1 ≤ 40000000) (bd2 : (-40000000) ≤ d2 ∧ d2 ≤ 40000000) (bd3 : (-40000000) ≤ d3 ∧ d3 ≤ 40000000) (bx01 : (-40000000) ≤ x01 ∧ x01 ≤ 40000000) (by01 : (-40000000) ≤ y01 ∧ y01 ≤ 40000000) (bx02 : (-40000000) ≤ x02 ∧ x02 ≤ 40000000) (by02 : (-40000000) ≤ y02 ∧ y02 ≤ 40000000) (bx03 : (-40000000) ≤ x03 ∧ x03 ≤ 40000000) (by03 : (-40000000) ≤ y03 ∧ y03 ≤ 40000000) (bx12 : (-40000000) ≤ x12 ∧ x12 ≤ 40000000) (by12 : (-40000000) ≤ y12 ∧ y12 ≤ 40000000) (bx13 : (-40000000) ≤ x13 ∧ x13 ≤ 40000000) (by13 : (-40000000) ≤ y13 ∧ y13 ≤ 40000000) (bx23 : (-40000000) ≤ x23 ∧ x23 ≤ 40000000) (by23 : (-40000000) ≤ y23 ∧ y23 ≤ 40000000) (hcu : (∀ w, Calls Try.prog 119 #[.int .i64 10000000, .agg #[.int .i64 m0, .int .i64 m1, .int .i64 m2, .int .i64 m3, .int .i64 m4, .int .i64 m5, .int .i64 m6, .int .i64 m7, .int .i64 m8, .int .i64 m9, .int .i64 m10, .int .i64 m11, .int .i64 m12, .int .i64 m13, .int .i64 m14, .int .i64 m15]] w fun e w' => e = .returned (.int .i64 0) ∧ Below w.heap.size w w')) (hK : (∀ w, Calls Try.prog 120 #[.agg #[.int .i64 m0, .int .i64 m1, .int .i64 m2, .int .i64 m3, .int .i64 m4, .int .i64 m5, .int .i64 m6, .int .i64 m7, .int .i64 m8, .int .i64 m9, .int .i64 m10, .int .i64 m11, .int .i64 m12, .int .i64 m13, .int .i64 m14, .int .i64 m15]] w fun e w' => e = .returned (.agg #[.complex .f64 (FloatKind.f64.nearest d0) (FloatKind.f64.nearest 0), .complex .f64 (FloatKind.f64.nearest x01) (FloatKind.f64.nearest y01), .complex .f64 (FloatKind.f64.nearest x02) (FloatKind.f64.nearest y02), .complex .f64 (FloatKind.f64.nearest x03) (FloatKind.f64.nearest y03), .complex .f64 (FloatKind.f64.nearest x01) (FloatKind.f64.nearest (0 - y01)), .complex .f64 (FloatKind.f64.nearest d1) (FloatKind.f64.nearest 0), .complex .f64 (FloatKind.f64.nearest x12) (FloatKind.f64.nearest y12), .complex .f64 (FloatKind.f64.nearest x13) (FloatKind.f64.nearest y13), .complex .f64 (FloatKind.f64.nearest x02) (FloatKind.f64.nearest (0 - y02)), .complex .f64 (FloatKind.f64.nearest x12) (FloatKind.f64.nearest (0 - y12)), .complex .f64 (FloatKind.f64.nearest d2) (FloatKind.f64.nearest 0), .complex .f64 (FloatKind.f64.nearest x23) (FloatKind.f64.nearest y23), .complex .f64 (FloatKind.f64.nearest x03) (FloatKind.f64.nearest (0 - y03)), .complex .f64 (FloatKind.f64.nearest x13) (FloatKind.f64.nearest (0 - y13)), .complex .f64 (FloatKind.f64.nearest x23) (FloatKind.f64.nearest (0 - y23)), .complex .f64 (FloatKind.f64.nearest d3) (FloatKind.f64.nearest 0)]) ∧ Below w.heap.size w w')) (hp : Pure3 d0 d1 d2 d3 x01 y01 x02 y02 x03 y03 x12 y12 x13 y13 x23 y23) (hl : (∀ w, Calls Try.prog 122 #[.agg #[.complex .f64 (FloatKind.f64.nearest x03) (FloatKind.f64.nearest y03), .complex .f64 (FloatKind.f64.nearest x13) (FloatKind.f64.nearest y13), .complex .f64 (FloatKind.f64.nearest x23) (FloatKind.f64.nearest y23), .complex .f64 (FloatKind.f64.nearest d3) (FloatKind.f64.nearest 0)]] w fun e w' => e = .returned (.agg #[.complex .f64 z0 z1, .complex .f64 z2 z3, .complex .f64 z4 z5, .complex .f64 z6 z7]) ∧ Below w.heap.size w w')) (hm : (∀ w, Calls Try.prog 100 #[.agg #[.complex .f64 z0 z1, .complex .f64 z2 z3, .complex .f64 z4 z5, .complex .f64 z6 z7]] w fun e w' => e = .returned (.tuple #[.agg #[.complex .f64 q0 q1, .complex .f64 q2 q3, .complex .f64 q4 q5, .complex .f64 q6 q7], .int .i64 c]) ∧ Below w.heap.size w w')) (w : World) : Calls Try.prog 64 #[.agg #[.int .i64 m0, .int .i64 m1, .int .i64 m2, .int .i64 m3, .int .i64 m4, .int .i64 m5, .int .i64 m6, .int .i64 m7, .int .i64 m8, .int .i64 m9, .int .i64 m10, .int .i64 m11, .int .i64 m12, .int .i64 m13, .int .i64 m14, .int .i64 m15]] w fun e w' => e = .returned (.tuple #[.agg #[.complex .f64 q0 q1, .complex .f64 q2 q3, .complex .f64 q4 q5, .complex .f64 q6 q7], .int .i64 c]) ∧ Below w.heap.size w w' := by
  have hpos := hp.pos
  have hz0 := hp.z0
  have hz1 := hp.z1
  have hz2 := hp.z2
  refine one_val (jo r0 r1 r2 r3 r4 r5 r6 r7 r8 r9 r10 r11 r12 r13 r14 r15 (Q := (· = _)) ⟨0, hcu, ⟨by omega, by omega⟩, fun _ => ?_, fun h => absurd rfl (bne0 h)⟩) w
  refine ⟨(((FloatKind.f64.nearest d0) : Nat) : Int), (((FloatKind.f64.nearest 0) : Nat) : Int), (((FloatKind.f64.nearest x01) : Nat) : Int), (((FloatKind.f64.nearest y01) : Nat) : Int), (((FloatKind.f64.nearest x02) : Nat) : Int), (((FloatKind.f64.nearest y02) : Nat) : Int), (((FloatKind.f64.nearest x03) : Nat) : Int), (((FloatKind.f64.nearest y03) : Nat) : Int), (((FloatKind.f64.nearest x01) : Nat) : Int), (((FloatKind.f64.nearest (0 - y01)) : Nat) : Int), (((FloatKind.f64.nearest d1) : Nat) : Int), (((FloatKind.f64.nearest 0) : Nat) : Int), (((FloatKind.f64.nearest x12) : Nat) : Int), (((FloatKind.f64.nearest y12) : Nat) : Int), (((FloatKind.f64.nearest x13) : Nat) : Int), (((FloatKind.f64.nearest y13) : Nat) : Int), (((FloatKind.f64.nearest x02) : Nat) : Int), (((FloatKind.f64.nearest (0 - y02)) : Nat) : Int), (((FloatKind.f64.nearest x12) : Nat) : Int), (((FloatKind.f64.nearest (0 - y12)) : Nat) : Int), (((FloatKind.f64.nearest d2) : Nat) : Int), (((FloatKind.f64.nearest 0) : Nat) : Int), (((FloatKind.f64.nearest x23) : Nat) : Int), (((FloatKind.f64.nearest y23) : Nat) : Int), (((FloatKind.f64.nearest x03) : Nat) : Int), (((FloatKind.f64.nearest (0 - y03)) : Nat) : Int), (((FloatKind.f64.nearest x13) : Nat) : Int), (((FloatKind.f64.nearest (0 - y13)) : Nat) : Int), (((FloatKind.f64.nearest x23) : Nat) : Int), (((FloatKind.f64.nearest (0 - y23)) : Nat) : Int), (((FloatKind.f64.nearest d3) : Nat) : Int), (((FloatKind.f64.nearest 0) : Nat) : Int), hK, ?_⟩
  refine ⟨d0, ⟨rpn' _, by omega⟩, ⟨by omega, by omega⟩, ?_⟩
  refine ⟨0, ⟨rpn' _, by omega⟩, ⟨by omega, by omega⟩, ?_⟩
  refine ⟨x01, ⟨rpn' _, by omega⟩, ⟨by omega, by omega⟩, ?_⟩
  refine ⟨y01, ⟨rpn' _, by omega⟩, ⟨by omega, by omega⟩, ?_⟩
  refine ⟨x02, ⟨rpn' _, by omega⟩, ⟨by omega, by omega⟩, ?_⟩
  refine ⟨y02, ⟨rpn' _, by omega⟩, ⟨by omega, by omega⟩, ?_⟩
  refine ⟨x03, ⟨rpn' _, by omega⟩, ⟨by omega, by omega⟩, ?_⟩
  refine ⟨y03, ⟨rpn' _, by omega⟩, ⟨by omega, by omega⟩, ?_⟩
  refine ⟨x01, ⟨rpn' _, by omega⟩, ⟨by omega, by omega⟩, ?_⟩
  refine ⟨(0 - y01), ⟨rpn' _, by omega⟩, ⟨by omega, by omega⟩, ?_⟩
  refine ⟨d1, ⟨rpn' _, by omega⟩, ⟨by omega, by omega⟩, ?_⟩
  refine ⟨0, ⟨rpn' _, by omega⟩, ⟨by omega, by omega⟩, ?_⟩
  refine ⟨x12, ⟨rpn' _, by omega⟩, ⟨by omega, by omega⟩, ?_⟩
  refine ⟨y12, ⟨rpn' _, by omega⟩, ⟨by omega, by omega⟩, ?_⟩
  refine ⟨x13, ⟨rpn' _, by omega⟩, ⟨by omega, by omega⟩, ?_⟩
  refine ⟨y13, ⟨rpn' _, by omega⟩, ⟨by omega, by omega⟩, ?_⟩
  refine ⟨x02, ⟨rpn' _, by omega⟩, ⟨by omega, by omega⟩, ?_⟩
  refine ⟨(0 - y02), ⟨rpn' _, by omega⟩, ⟨by omega, by omega⟩, ?_⟩
  refine ⟨x12, ⟨rpn' _, by omega⟩, ⟨by omega, by omega⟩, ?_⟩
  refine ⟨(0 - y12), ⟨rpn' _, by omega⟩, ⟨by omega, by omega⟩, ?_⟩
  refine ⟨d2, ⟨rpn' _, by omega⟩, ⟨by omega, by omega⟩, ?_⟩
  refine ⟨0, ⟨rpn' _, by omega⟩, ⟨by omega, by omega⟩, ?_⟩
  refine ⟨x23, ⟨rpn' _, by omega⟩, ⟨by omega, by omega⟩, ?_⟩
  refine ⟨y23, ⟨rpn' _, by omega⟩, ⟨by omega, by omega⟩, ?_⟩
  refine ⟨x03, ⟨rpn' _, by omega⟩, ⟨by omega, by omega⟩, ?_⟩
  refine ⟨(0 - y03), ⟨rpn' _, by omega⟩, ⟨by omega, by omega⟩, ?_⟩
  refine ⟨x13, ⟨rpn' _, by omega⟩, ⟨by omega, by omega⟩, ?_⟩
  refine ⟨(0 - y13), ⟨rpn' _, by omega⟩, ⟨by omega, by omega⟩, ?_⟩
  refine ⟨x23, ⟨rpn' _, by omega⟩, ⟨by omega, by omega⟩, ?_⟩
  refine ⟨(0 - y23), ⟨rpn' _, by omega⟩, ⟨by omega, by omega⟩, ?_⟩
  refine ⟨d3, ⟨rpn' _, by omega⟩, ⟨by omega, by omega⟩, ?_⟩
  refine ⟨0, ⟨rpn' _, by omega⟩, ⟨by omega, by omega⟩, ?_⟩
  refine ⟨fun _ => ?_, fun h => by exfalso; have := of_decide_eq_false h; omega⟩
  refine ⟨fun _ => ?_, fun h => by exfalso; have := of_decide_eq_false h; omega⟩
  refine ⟨fun _ => ?_, fun h => by exfalso; have := of_decide_eq_false h; omega⟩
  refine ⟨fun h => by exfalso; have := of_decide_eq_true h; omega, fun _ => ?_⟩
  refine ⟨fun _ => ?_, fun h => absurd (re_rp hp.e0 (by omega)) (beq_eq_false_iff_ne.mp h)⟩
  refine ⟨fun _ => ?_, fun h => absurd (im_rp hp.e1 (by omega)) (beq_eq_false_iff_ne.mp h)⟩
  refine ⟨fun _ => ?_, fun h => absurd (re_rp hp.e2 (by omega)) (beq_eq_false_iff_ne.mp h)⟩
  refine ⟨fun _ => ?_, fun h => absurd (im_rp hp.e3 (by omega)) (beq_eq_false_iff_ne.mp h)⟩
  refine ⟨fun _ => ?_, fun h => absurd (re_rp hp.e4 (by omega)) (beq_eq_false_iff_ne.mp h)⟩
  refine ⟨fun _ => ?_, fun h => absurd (im_rp hp.e5 (by omega)) (beq_eq_false_iff_ne.mp h)⟩
  refine ⟨fun _ => ?_, fun h => absurd (re_rp hp.e6 (by omega)) (beq_eq_false_iff_ne.mp h)⟩
  refine ⟨fun _ => ?_, fun h => absurd (im_rp hp.e7 (by omega)) (beq_eq_false_iff_ne.mp h)⟩
  refine ⟨fun _ => ?_, fun h => absurd (re_rp hp.e8 (by omega)) (beq_eq_false_iff_ne.mp h)⟩
  refine ⟨fun _ => ?_, fun h => absurd (im_rp hp.e9 (by omega)) (beq_eq_false_iff_ne.mp h)⟩
  refine ⟨fun _ => ?_, fun h => absurd (re_rp hp.e10 (by omega)) (beq_eq_false_iff_ne.mp h)⟩
  refine ⟨fun _ => ?_, fun h => absurd (im_rp hp.e11 (by omega)) (beq_eq_false_iff_ne.mp h)⟩
  refine ⟨fun _ => ?_, fun h => absurd (re_rp hp.e12 (by omega)) (beq_eq_false_iff_ne.mp h)⟩
  refine ⟨fun _ => ?_, fun h => absurd (im_rp hp.e13 (by omega)) (beq_eq_false_iff_ne.mp h)⟩
  refine ⟨fun _ => ?_, fun h => absurd (re_rp hp.e14 (by omega)) (beq_eq_false_iff_ne.mp h)⟩
  refine ⟨fun _ => ?_, fun h => absurd (im_rp hp.e15 (by omega)) (beq_eq_false_iff_ne.mp h)⟩
  refine ⟨fun _ => ?_, fun h => absurd (re_rp hp.e16 (by omega)) (beq_eq_false_iff_ne.mp h)⟩
  refine ⟨fun _ => ?_, fun h => absurd (im_rp hp.e17 (by omega)) (beq_eq_false_iff_ne.mp h)⟩
  refine ⟨fun _ => ?_, fun h => absurd (re_rp hp.e18 (by omega)) (beq_eq_false_iff_ne.mp h)⟩
  refine ⟨fun _ => ?_, fun h => absurd (im_rp hp.e19 (by omega)) (beq_eq_false_iff_ne.mp h)⟩
  refine ⟨fun _ => ?_, fun h => absurd (re_rp hp.e20 (by omega)) (beq_eq_false_iff_ne.mp h)⟩
  refine ⟨fun _ => ?_, fun h => absurd (im_rp hp.e21 (by omega)) (beq_eq_false_iff_ne.mp h)⟩
  refine ⟨fun _ => ?_, fun h => absurd (re_rp hp.e22 (by omega)) (beq_eq_false_iff_ne.mp h)⟩
  refine ⟨fun _ => ?_, fun h => absurd (im_rp hp.e23 (by omega)) (beq_eq_false_iff_ne.mp h)⟩
  refine ⟨fun _ => ?_, fun h => absurd (re_rp hp.e24 (by omega)) (beq_eq_false_iff_ne.mp h)⟩
  refine ⟨fun _ => ?_, fun h => absurd (im_rp hp.e25 (by omega)) (beq_eq_false_iff_ne.mp h)⟩
  refine ⟨fun _ => ?_, fun h => absurd (re_rp hp.e26 (by omega)) (beq_eq_false_iff_ne.mp h)⟩
  refine ⟨fun _ => ?_, fun h => absurd (im_rp hp.e27 (by omega)) (beq_eq_false_iff_ne.mp h)⟩
  refine ⟨fun _ => ?_, fun h => absurd (re_rp hp.e28 (by omega)) (beq_eq_false_iff_ne.mp h)⟩
  refine ⟨fun _ => ?_, fun h => absurd (im_rp hp.e29 (by omega)) (beq_eq_false_iff_ne.mp h)⟩
  refine ⟨fun _ => ?_, fun h => absurd (re_rp hp.e30 (by omega)) (beq_eq_false_iff_ne.mp h)⟩
  refine ⟨fun _ => ?_, fun h => absurd (im_rp hp.e31 (by omega)) (beq_eq_false_iff_ne.mp h)⟩
  exact ⟨((z0 : Nat) : Int), ((z1 : Nat) : Int), ((z2 : Nat) : Int), ((z3 : Nat) : Int), ((z4 : Nat) : Int), ((z5 : Nat) : Int), ((z6 : Nat) : Int), ((z7 : Nat) : Int), hl, ((q0 : Nat) : Int), ((q1 : Nat) : Int), ((q2 : Nat) : Int), ((q3 : Nat) : Int), ((q4 : Nat) : Int), ((q5 : Nat) : Int), ((q6 : Nat) : Int), ((q7 : Nat) : Int), c, hm, rfl⟩
theorem sqn (a : Int) : 0 ≤ a * a := by
  rcases Int.le_total 0 a with h | h
  · exact Int.mul_nonneg h h
  · have := Int.mul_nonneg (a := -a) (b := -a) (by omega) (by omega)
    rwa [Int.neg_mul_neg] at this
theorem nn_sq (a b : Int) : 0 ≤ a * a - b * (0 - b) := by
  have h1 := sqn a
  have h2 := sqn b
  have e : b * (0 - b) = 0 - b * b := by grind
  rw [e]; omega
theorem zero_of {a b d x : Int} (h : a * a - b * (0 - b) = d * x) (hd : 0 < d) (hx : x ≤ 0) : x = 0 := by
  have h1 := nn_sq a b
  rw [h] at h1
  rcases Int.lt_or_eq_of_le hx with h2 | h2
  · have := Int.mul_pos hd (show 0 < -x by omega)
    have e : d * -x = -(d * x) := by grind
    omega
  · exact h2
set_option maxHeartbeats 8000000 in
theorem jo_none {m0 m1 m2 m3 m4 m5 m6 m7 m8 m9 m10 m11 m12 m13 m14 m15 d0 d1 d2 d3 x01 y01 x02 y02 x03 y03 x12 y12 x13 y13 x23 y23 : Int} (r0 : (-1000000000) ≤ m0 ∧ m0 ≤ 1000000000) (r1 : (-1000000000) ≤ m1 ∧ m1 ≤ 1000000000) (r2 : (-1000000000) ≤ m2 ∧ m2 ≤ 1000000000) (r3 : (-1000000000) ≤ m3 ∧ m3 ≤ 1000000000) (r4 : (-1000000000) ≤ m4 ∧ m4 ≤ 1000000000) (r5 : (-1000000000) ≤ m5 ∧ m5 ≤ 1000000000) (r6 : (-1000000000) ≤ m6 ∧ m6 ≤ 1000000000) (r7 : (-1000000000) ≤ m7 ∧ m7 ≤ 1000000000) (r8 : (-1000000000) ≤ m8 ∧ m8 ≤ 1000000000) (r9 : (-1000000000) ≤ m9 ∧ m9 ≤ 1000000000) (r10 : (-1000000000) ≤ m10 ∧ m10 ≤ 1000000000) (r11 : (-1000000000) ≤ m11 ∧ m11 ≤ 1000000000) (r12 : (-1000000000) ≤ m12 ∧ m12 ≤ 1000000000) (r13 : (-1000000000) ≤ m13 ∧ m13 ≤ 1000000000) (r14 : (-1000000000) ≤ m14 ∧ m14 ≤ 1000000000) (r15 : (-1000000000) ≤ m15 ∧ m15 ≤ 1000000000) (bd0 : (-40000000) ≤ d0 ∧ d0 ≤ 40000000) (bd1 : (-40000000) ≤ d1 ∧ d1 ≤ 40000000) (bd2 : (-40000000) ≤ d2 ∧ d2 ≤ 40000000) (bd3 : (-40000000) ≤ d3 ∧ d3 ≤ 40000000) (bx01 : (-40000000) ≤ x01 ∧ x01 ≤ 40000000) (by01 : (-40000000) ≤ y01 ∧ y01 ≤ 40000000) (bx02 : (-40000000) ≤ x02 ∧ x02 ≤ 40000000) (by02 : (-40000000) ≤ y02 ∧ y02 ≤ 40000000) (bx03 : (-40000000) ≤ x03 ∧ x03 ≤ 40000000) (by03 : (-40000000) ≤ y03 ∧ y03 ≤ 40000000) (bx12 : (-40000000) ≤ x12 ∧ x12 ≤ 40000000) (by12 : (-40000000) ≤ y12 ∧ y12 ≤ 40000000) (bx13 : (-40000000) ≤ x13 ∧ x13 ≤ 40000000) (by13 : (-40000000) ≤ y13 ∧ y13 ≤ 40000000) (bx23 : (-40000000) ≤ x23 ∧ x23 ≤ 40000000) (by23 : (-40000000) ≤ y23 ∧ y23 ≤ 40000000) (hcu : (∀ w, Calls Try.prog 119 #[.int .i64 10000000, .agg #[.int .i64 m0, .int .i64 m1, .int .i64 m2, .int .i64 m3, .int .i64 m4, .int .i64 m5, .int .i64 m6, .int .i64 m7, .int .i64 m8, .int .i64 m9, .int .i64 m10, .int .i64 m11, .int .i64 m12, .int .i64 m13, .int .i64 m14, .int .i64 m15]] w fun e w' => e = .returned (.int .i64 0) ∧ Below w.heap.size w w')) (hK : (∀ w, Calls Try.prog 120 #[.agg #[.int .i64 m0, .int .i64 m1, .int .i64 m2, .int .i64 m3, .int .i64 m4, .int .i64 m5, .int .i64 m6, .int .i64 m7, .int .i64 m8, .int .i64 m9, .int .i64 m10, .int .i64 m11, .int .i64 m12, .int .i64 m13, .int .i64 m14, .int .i64 m15]] w fun e w' => e = .returned (.agg #[.complex .f64 (FloatKind.f64.nearest d0) (FloatKind.f64.nearest 0), .complex .f64 (FloatKind.f64.nearest x01) (FloatKind.f64.nearest y01), .complex .f64 (FloatKind.f64.nearest x02) (FloatKind.f64.nearest y02), .complex .f64 (FloatKind.f64.nearest x03) (FloatKind.f64.nearest y03), .complex .f64 (FloatKind.f64.nearest x01) (FloatKind.f64.nearest (0 - y01)), .complex .f64 (FloatKind.f64.nearest d1) (FloatKind.f64.nearest 0), .complex .f64 (FloatKind.f64.nearest x12) (FloatKind.f64.nearest y12), .complex .f64 (FloatKind.f64.nearest x13) (FloatKind.f64.nearest y13), .complex .f64 (FloatKind.f64.nearest x02) (FloatKind.f64.nearest (0 - y02)), .complex .f64 (FloatKind.f64.nearest x12) (FloatKind.f64.nearest (0 - y12)), .complex .f64 (FloatKind.f64.nearest d2) (FloatKind.f64.nearest 0), .complex .f64 (FloatKind.f64.nearest x23) (FloatKind.f64.nearest y23), .complex .f64 (FloatKind.f64.nearest x03) (FloatKind.f64.nearest (0 - y03)), .complex .f64 (FloatKind.f64.nearest x13) (FloatKind.f64.nearest (0 - y13)), .complex .f64 (FloatKind.f64.nearest x23) (FloatKind.f64.nearest (0 - y23)), .complex .f64 (FloatKind.f64.nearest d3) (FloatKind.f64.nearest 0)]) ∧ Below w.heap.size w w')) (hn0 : ¬ Pure0 d0 d1 d2 d3 x01 y01 x02 y02 x03 y03 x12 y12 x13 y13 x23 y23) (hn1 : ¬ Pure1 d0 d1 d2 d3 x01 y01 x02 y02 x03 y03 x12 y12 x13 y13 x23 y23) (hn2 : ¬ Pure2 d0 d1 d2 d3 x01 y01 x02 y02 x03 y03 x12 y12 x13 y13 x23 y23) (hn3 : ¬ Pure3 d0 d1 d2 d3 x01 y01 x02 y02 x03 y03 x12 y12 x13 y13 x23 y23) (w : World) : Calls Try.prog 64 #[.agg #[.int .i64 m0, .int .i64 m1, .int .i64 m2, .int .i64 m3, .int .i64 m4, .int .i64 m5, .int .i64 m6, .int .i64 m7, .int .i64 m8, .int .i64 m9, .int .i64 m10, .int .i64 m11, .int .i64 m12, .int .i64 m13, .int .i64 m14, .int .i64 m15]] w fun e w' => e = .returned (.tuple #[.agg #[.complex .f64 0 0, .complex .f64 0 0, .complex .f64 0 0, .complex .f64 0 0], .int .i64 17]) ∧ Below w.heap.size w w' := by
  refine one_val (jo r0 r1 r2 r3 r4 r5 r6 r7 r8 r9 r10 r11 r12 r13 r14 r15 (Q := (· = _)) ⟨0, hcu, ⟨by omega, by omega⟩, fun _ => ?_, fun h => absurd rfl (bne0 h)⟩) w
  refine ⟨(((FloatKind.f64.nearest d0) : Nat) : Int), (((FloatKind.f64.nearest 0) : Nat) : Int), (((FloatKind.f64.nearest x01) : Nat) : Int), (((FloatKind.f64.nearest y01) : Nat) : Int), (((FloatKind.f64.nearest x02) : Nat) : Int), (((FloatKind.f64.nearest y02) : Nat) : Int), (((FloatKind.f64.nearest x03) : Nat) : Int), (((FloatKind.f64.nearest y03) : Nat) : Int), (((FloatKind.f64.nearest x01) : Nat) : Int), (((FloatKind.f64.nearest (0 - y01)) : Nat) : Int), (((FloatKind.f64.nearest d1) : Nat) : Int), (((FloatKind.f64.nearest 0) : Nat) : Int), (((FloatKind.f64.nearest x12) : Nat) : Int), (((FloatKind.f64.nearest y12) : Nat) : Int), (((FloatKind.f64.nearest x13) : Nat) : Int), (((FloatKind.f64.nearest y13) : Nat) : Int), (((FloatKind.f64.nearest x02) : Nat) : Int), (((FloatKind.f64.nearest (0 - y02)) : Nat) : Int), (((FloatKind.f64.nearest x12) : Nat) : Int), (((FloatKind.f64.nearest (0 - y12)) : Nat) : Int), (((FloatKind.f64.nearest d2) : Nat) : Int), (((FloatKind.f64.nearest 0) : Nat) : Int), (((FloatKind.f64.nearest x23) : Nat) : Int), (((FloatKind.f64.nearest y23) : Nat) : Int), (((FloatKind.f64.nearest x03) : Nat) : Int), (((FloatKind.f64.nearest (0 - y03)) : Nat) : Int), (((FloatKind.f64.nearest x13) : Nat) : Int), (((FloatKind.f64.nearest (0 - y13)) : Nat) : Int), (((FloatKind.f64.nearest x23) : Nat) : Int), (((FloatKind.f64.nearest (0 - y23)) : Nat) : Int), (((FloatKind.f64.nearest d3) : Nat) : Int), (((FloatKind.f64.nearest 0) : Nat) : Int), hK, ?_⟩
  refine ⟨d0, ⟨rpn' _, by omega⟩, ⟨by omega, by omega⟩, ?_⟩
  refine ⟨0, ⟨rpn' _, by omega⟩, ⟨by omega, by omega⟩, ?_⟩
  refine ⟨x01, ⟨rpn' _, by omega⟩, ⟨by omega, by omega⟩, ?_⟩
  refine ⟨y01, ⟨rpn' _, by omega⟩, ⟨by omega, by omega⟩, ?_⟩
  refine ⟨x02, ⟨rpn' _, by omega⟩, ⟨by omega, by omega⟩, ?_⟩
  refine ⟨y02, ⟨rpn' _, by omega⟩, ⟨by omega, by omega⟩, ?_⟩
  refine ⟨x03, ⟨rpn' _, by omega⟩, ⟨by omega, by omega⟩, ?_⟩
  refine ⟨y03, ⟨rpn' _, by omega⟩, ⟨by omega, by omega⟩, ?_⟩
  refine ⟨x01, ⟨rpn' _, by omega⟩, ⟨by omega, by omega⟩, ?_⟩
  refine ⟨(0 - y01), ⟨rpn' _, by omega⟩, ⟨by omega, by omega⟩, ?_⟩
  refine ⟨d1, ⟨rpn' _, by omega⟩, ⟨by omega, by omega⟩, ?_⟩
  refine ⟨0, ⟨rpn' _, by omega⟩, ⟨by omega, by omega⟩, ?_⟩
  refine ⟨x12, ⟨rpn' _, by omega⟩, ⟨by omega, by omega⟩, ?_⟩
  refine ⟨y12, ⟨rpn' _, by omega⟩, ⟨by omega, by omega⟩, ?_⟩
  refine ⟨x13, ⟨rpn' _, by omega⟩, ⟨by omega, by omega⟩, ?_⟩
  refine ⟨y13, ⟨rpn' _, by omega⟩, ⟨by omega, by omega⟩, ?_⟩
  refine ⟨x02, ⟨rpn' _, by omega⟩, ⟨by omega, by omega⟩, ?_⟩
  refine ⟨(0 - y02), ⟨rpn' _, by omega⟩, ⟨by omega, by omega⟩, ?_⟩
  refine ⟨x12, ⟨rpn' _, by omega⟩, ⟨by omega, by omega⟩, ?_⟩
  refine ⟨(0 - y12), ⟨rpn' _, by omega⟩, ⟨by omega, by omega⟩, ?_⟩
  refine ⟨d2, ⟨rpn' _, by omega⟩, ⟨by omega, by omega⟩, ?_⟩
  refine ⟨0, ⟨rpn' _, by omega⟩, ⟨by omega, by omega⟩, ?_⟩
  refine ⟨x23, ⟨rpn' _, by omega⟩, ⟨by omega, by omega⟩, ?_⟩
  refine ⟨y23, ⟨rpn' _, by omega⟩, ⟨by omega, by omega⟩, ?_⟩
  refine ⟨x03, ⟨rpn' _, by omega⟩, ⟨by omega, by omega⟩, ?_⟩
  refine ⟨(0 - y03), ⟨rpn' _, by omega⟩, ⟨by omega, by omega⟩, ?_⟩
  refine ⟨x13, ⟨rpn' _, by omega⟩, ⟨by omega, by omega⟩, ?_⟩
  refine ⟨(0 - y13), ⟨rpn' _, by omega⟩, ⟨by omega, by omega⟩, ?_⟩
  refine ⟨x23, ⟨rpn' _, by omega⟩, ⟨by omega, by omega⟩, ?_⟩
  refine ⟨(0 - y23), ⟨rpn' _, by omega⟩, ⟨by omega, by omega⟩, ?_⟩
  refine ⟨d3, ⟨rpn' _, by omega⟩, ⟨by omega, by omega⟩, ?_⟩
  refine ⟨0, ⟨rpn' _, by omega⟩, ⟨by omega, by omega⟩, ?_⟩
  refine ⟨fun s0 => ?_, fun s0 => ?_⟩
  · have t0 := of_decide_eq_true s0
    refine ⟨fun s1 => ?_, fun s1 => ?_⟩
    · have t1 := of_decide_eq_true s1
      refine ⟨fun s2 => ?_, fun s2 => ?_⟩
      · have t2 := of_decide_eq_true s2
        refine ⟨fun s3 => ?_, fun s3 => ?_⟩
        · have t3 := of_decide_eq_true s3
          exact rfl
        · have t3 := of_decide_eq_false s3
          refine ⟨fun h0 => ?_, fun _ => rfl⟩
          refine ⟨fun h1 => ?_, fun _ => rfl⟩
          refine ⟨fun h2 => ?_, fun _ => rfl⟩
          refine ⟨fun h3 => ?_, fun _ => rfl⟩
          refine ⟨fun h4 => ?_, fun _ => rfl⟩
          refine ⟨fun h5 => ?_, fun _ => rfl⟩
          refine ⟨fun h6 => ?_, fun _ => rfl⟩
          refine ⟨fun h7 => ?_, fun _ => rfl⟩
          refine ⟨fun h8 => ?_, fun _ => rfl⟩
          refine ⟨fun h9 => ?_, fun _ => rfl⟩
          refine ⟨fun h10 => ?_, fun _ => rfl⟩
          refine ⟨fun h11 => ?_, fun _ => rfl⟩
          refine ⟨fun h12 => ?_, fun _ => rfl⟩
          refine ⟨fun h13 => ?_, fun _ => rfl⟩
          refine ⟨fun h14 => ?_, fun _ => rfl⟩
          refine ⟨fun h15 => ?_, fun _ => rfl⟩
          refine ⟨fun h16 => ?_, fun _ => rfl⟩
          refine ⟨fun h17 => ?_, fun _ => rfl⟩
          refine ⟨fun h18 => ?_, fun _ => rfl⟩
          refine ⟨fun h19 => ?_, fun _ => rfl⟩
          refine ⟨fun h20 => ?_, fun _ => rfl⟩
          refine ⟨fun h21 => ?_, fun _ => rfl⟩
          refine ⟨fun h22 => ?_, fun _ => rfl⟩
          refine ⟨fun h23 => ?_, fun _ => rfl⟩
          refine ⟨fun h24 => ?_, fun _ => rfl⟩
          refine ⟨fun h25 => ?_, fun _ => rfl⟩
          refine ⟨fun h26 => ?_, fun _ => rfl⟩
          refine ⟨fun h27 => ?_, fun _ => rfl⟩
          refine ⟨fun h28 => ?_, fun _ => rfl⟩
          refine ⟨fun h29 => ?_, fun _ => rfl⟩
          refine ⟨fun h30 => ?_, fun _ => rfl⟩
          refine ⟨fun h31 => ?_, fun _ => rfl⟩
          exfalso; simp only [beq_iff_eq] at h0 h1 h2 h3 h4 h5 h6 h7 h8 h9 h10 h11 h12 h13 h14 h15 h16 h17 h18 h19 h20 h21 h22 h23 h24 h25 h26 h27 h28 h29 h30 h31
          clear hK hcu
          exact hn3 { z0 := zero_of h0 (by omega) t0, z1 := zero_of h10 (by omega) t1, z2 := zero_of h20 (by omega) t2, pos := by omega, e0 := re_pr h0 (by omega), e1 := im_pr h1 (by omega), e2 := re_pr h2 (by omega), e3 := im_pr h3 (by omega), e4 := re_pr h4 (by omega), e5 := im_pr h5 (by omega), e6 := re_pr h6 (by omega), e7 := im_pr h7 (by omega), e8 := re_pr h8 (by omega), e9 := im_pr h9 (by omega), e10 := re_pr h10 (by omega), e11 := im_pr h11 (by omega), e12 := re_pr h12 (by omega), e13 := im_pr h13 (by omega), e14 := re_pr h14 (by omega), e15 := im_pr h15 (by omega), e16 := re_pr h16 (by omega), e17 := im_pr h17 (by omega), e18 := re_pr h18 (by omega), e19 := im_pr h19 (by omega), e20 := re_pr h20 (by omega), e21 := im_pr h21 (by omega), e22 := re_pr h22 (by omega), e23 := im_pr h23 (by omega), e24 := re_pr h24 (by omega), e25 := im_pr h25 (by omega), e26 := re_pr h26 (by omega), e27 := im_pr h27 (by omega), e28 := re_pr h28 (by omega), e29 := im_pr h29 (by omega), e30 := re_pr h30 (by omega), e31 := im_pr h31 (by omega) }
      · have t2 := of_decide_eq_false s2
        refine ⟨fun h0 => ?_, fun _ => rfl⟩
        refine ⟨fun h1 => ?_, fun _ => rfl⟩
        refine ⟨fun h2 => ?_, fun _ => rfl⟩
        refine ⟨fun h3 => ?_, fun _ => rfl⟩
        refine ⟨fun h4 => ?_, fun _ => rfl⟩
        refine ⟨fun h5 => ?_, fun _ => rfl⟩
        refine ⟨fun h6 => ?_, fun _ => rfl⟩
        refine ⟨fun h7 => ?_, fun _ => rfl⟩
        refine ⟨fun h8 => ?_, fun _ => rfl⟩
        refine ⟨fun h9 => ?_, fun _ => rfl⟩
        refine ⟨fun h10 => ?_, fun _ => rfl⟩
        refine ⟨fun h11 => ?_, fun _ => rfl⟩
        refine ⟨fun h12 => ?_, fun _ => rfl⟩
        refine ⟨fun h13 => ?_, fun _ => rfl⟩
        refine ⟨fun h14 => ?_, fun _ => rfl⟩
        refine ⟨fun h15 => ?_, fun _ => rfl⟩
        refine ⟨fun h16 => ?_, fun _ => rfl⟩
        refine ⟨fun h17 => ?_, fun _ => rfl⟩
        refine ⟨fun h18 => ?_, fun _ => rfl⟩
        refine ⟨fun h19 => ?_, fun _ => rfl⟩
        refine ⟨fun h20 => ?_, fun _ => rfl⟩
        refine ⟨fun h21 => ?_, fun _ => rfl⟩
        refine ⟨fun h22 => ?_, fun _ => rfl⟩
        refine ⟨fun h23 => ?_, fun _ => rfl⟩
        refine ⟨fun h24 => ?_, fun _ => rfl⟩
        refine ⟨fun h25 => ?_, fun _ => rfl⟩
        refine ⟨fun h26 => ?_, fun _ => rfl⟩
        refine ⟨fun h27 => ?_, fun _ => rfl⟩
        refine ⟨fun h28 => ?_, fun _ => rfl⟩
        refine ⟨fun h29 => ?_, fun _ => rfl⟩
        refine ⟨fun h30 => ?_, fun _ => rfl⟩
        refine ⟨fun h31 => ?_, fun _ => rfl⟩
        exfalso; simp only [beq_iff_eq] at h0 h1 h2 h3 h4 h5 h6 h7 h8 h9 h10 h11 h12 h13 h14 h15 h16 h17 h18 h19 h20 h21 h22 h23 h24 h25 h26 h27 h28 h29 h30 h31
        clear hK hcu
        exact hn2 { z0 := zero_of h0 (by omega) t0, z1 := zero_of h10 (by omega) t1, pos := by omega, e0 := re_pr h0 (by omega), e1 := im_pr h1 (by omega), e2 := re_pr h2 (by omega), e3 := im_pr h3 (by omega), e4 := re_pr h4 (by omega), e5 := im_pr h5 (by omega), e6 := re_pr h6 (by omega), e7 := im_pr h7 (by omega), e8 := re_pr h8 (by omega), e9 := im_pr h9 (by omega), e10 := re_pr h10 (by omega), e11 := im_pr h11 (by omega), e12 := re_pr h12 (by omega), e13 := im_pr h13 (by omega), e14 := re_pr h14 (by omega), e15 := im_pr h15 (by omega), e16 := re_pr h16 (by omega), e17 := im_pr h17 (by omega), e18 := re_pr h18 (by omega), e19 := im_pr h19 (by omega), e20 := re_pr h20 (by omega), e21 := im_pr h21 (by omega), e22 := re_pr h22 (by omega), e23 := im_pr h23 (by omega), e24 := re_pr h24 (by omega), e25 := im_pr h25 (by omega), e26 := re_pr h26 (by omega), e27 := im_pr h27 (by omega), e28 := re_pr h28 (by omega), e29 := im_pr h29 (by omega), e30 := re_pr h30 (by omega), e31 := im_pr h31 (by omega) }
    · have t1 := of_decide_eq_false s1
      refine ⟨fun h0 => ?_, fun _ => rfl⟩
      refine ⟨fun h1 => ?_, fun _ => rfl⟩
      refine ⟨fun h2 => ?_, fun _ => rfl⟩
      refine ⟨fun h3 => ?_, fun _ => rfl⟩
      refine ⟨fun h4 => ?_, fun _ => rfl⟩
      refine ⟨fun h5 => ?_, fun _ => rfl⟩
      refine ⟨fun h6 => ?_, fun _ => rfl⟩
      refine ⟨fun h7 => ?_, fun _ => rfl⟩
      refine ⟨fun h8 => ?_, fun _ => rfl⟩
      refine ⟨fun h9 => ?_, fun _ => rfl⟩
      refine ⟨fun h10 => ?_, fun _ => rfl⟩
      refine ⟨fun h11 => ?_, fun _ => rfl⟩
      refine ⟨fun h12 => ?_, fun _ => rfl⟩
      refine ⟨fun h13 => ?_, fun _ => rfl⟩
      refine ⟨fun h14 => ?_, fun _ => rfl⟩
      refine ⟨fun h15 => ?_, fun _ => rfl⟩
      refine ⟨fun h16 => ?_, fun _ => rfl⟩
      refine ⟨fun h17 => ?_, fun _ => rfl⟩
      refine ⟨fun h18 => ?_, fun _ => rfl⟩
      refine ⟨fun h19 => ?_, fun _ => rfl⟩
      refine ⟨fun h20 => ?_, fun _ => rfl⟩
      refine ⟨fun h21 => ?_, fun _ => rfl⟩
      refine ⟨fun h22 => ?_, fun _ => rfl⟩
      refine ⟨fun h23 => ?_, fun _ => rfl⟩
      refine ⟨fun h24 => ?_, fun _ => rfl⟩
      refine ⟨fun h25 => ?_, fun _ => rfl⟩
      refine ⟨fun h26 => ?_, fun _ => rfl⟩
      refine ⟨fun h27 => ?_, fun _ => rfl⟩
      refine ⟨fun h28 => ?_, fun _ => rfl⟩
      refine ⟨fun h29 => ?_, fun _ => rfl⟩
      refine ⟨fun h30 => ?_, fun _ => rfl⟩
      refine ⟨fun h31 => ?_, fun _ => rfl⟩
      exfalso; simp only [beq_iff_eq] at h0 h1 h2 h3 h4 h5 h6 h7 h8 h9 h10 h11 h12 h13 h14 h15 h16 h17 h18 h19 h20 h21 h22 h23 h24 h25 h26 h27 h28 h29 h30 h31
      clear hK hcu
      exact hn1 { z0 := zero_of h0 (by omega) t0, pos := by omega, e0 := re_pr h0 (by omega), e1 := im_pr h1 (by omega), e2 := re_pr h2 (by omega), e3 := im_pr h3 (by omega), e4 := re_pr h4 (by omega), e5 := im_pr h5 (by omega), e6 := re_pr h6 (by omega), e7 := im_pr h7 (by omega), e8 := re_pr h8 (by omega), e9 := im_pr h9 (by omega), e10 := re_pr h10 (by omega), e11 := im_pr h11 (by omega), e12 := re_pr h12 (by omega), e13 := im_pr h13 (by omega), e14 := re_pr h14 (by omega), e15 := im_pr h15 (by omega), e16 := re_pr h16 (by omega), e17 := im_pr h17 (by omega), e18 := re_pr h18 (by omega), e19 := im_pr h19 (by omega), e20 := re_pr h20 (by omega), e21 := im_pr h21 (by omega), e22 := re_pr h22 (by omega), e23 := im_pr h23 (by omega), e24 := re_pr h24 (by omega), e25 := im_pr h25 (by omega), e26 := re_pr h26 (by omega), e27 := im_pr h27 (by omega), e28 := re_pr h28 (by omega), e29 := im_pr h29 (by omega), e30 := re_pr h30 (by omega), e31 := im_pr h31 (by omega) }
  · have t0 := of_decide_eq_false s0
    refine ⟨fun h0 => ?_, fun _ => rfl⟩
    refine ⟨fun h1 => ?_, fun _ => rfl⟩
    refine ⟨fun h2 => ?_, fun _ => rfl⟩
    refine ⟨fun h3 => ?_, fun _ => rfl⟩
    refine ⟨fun h4 => ?_, fun _ => rfl⟩
    refine ⟨fun h5 => ?_, fun _ => rfl⟩
    refine ⟨fun h6 => ?_, fun _ => rfl⟩
    refine ⟨fun h7 => ?_, fun _ => rfl⟩
    refine ⟨fun h8 => ?_, fun _ => rfl⟩
    refine ⟨fun h9 => ?_, fun _ => rfl⟩
    refine ⟨fun h10 => ?_, fun _ => rfl⟩
    refine ⟨fun h11 => ?_, fun _ => rfl⟩
    refine ⟨fun h12 => ?_, fun _ => rfl⟩
    refine ⟨fun h13 => ?_, fun _ => rfl⟩
    refine ⟨fun h14 => ?_, fun _ => rfl⟩
    refine ⟨fun h15 => ?_, fun _ => rfl⟩
    refine ⟨fun h16 => ?_, fun _ => rfl⟩
    refine ⟨fun h17 => ?_, fun _ => rfl⟩
    refine ⟨fun h18 => ?_, fun _ => rfl⟩
    refine ⟨fun h19 => ?_, fun _ => rfl⟩
    refine ⟨fun h20 => ?_, fun _ => rfl⟩
    refine ⟨fun h21 => ?_, fun _ => rfl⟩
    refine ⟨fun h22 => ?_, fun _ => rfl⟩
    refine ⟨fun h23 => ?_, fun _ => rfl⟩
    refine ⟨fun h24 => ?_, fun _ => rfl⟩
    refine ⟨fun h25 => ?_, fun _ => rfl⟩
    refine ⟨fun h26 => ?_, fun _ => rfl⟩
    refine ⟨fun h27 => ?_, fun _ => rfl⟩
    refine ⟨fun h28 => ?_, fun _ => rfl⟩
    refine ⟨fun h29 => ?_, fun _ => rfl⟩
    refine ⟨fun h30 => ?_, fun _ => rfl⟩
    refine ⟨fun h31 => ?_, fun _ => rfl⟩
    exfalso; simp only [beq_iff_eq] at h0 h1 h2 h3 h4 h5 h6 h7 h8 h9 h10 h11 h12 h13 h14 h15 h16 h17 h18 h19 h20 h21 h22 h23 h24 h25 h26 h27 h28 h29 h30 h31
    clear hK hcu
    exact hn0 { pos := by omega, e0 := re_pr h0 (by omega), e1 := im_pr h1 (by omega), e2 := re_pr h2 (by omega), e3 := im_pr h3 (by omega), e4 := re_pr h4 (by omega), e5 := im_pr h5 (by omega), e6 := re_pr h6 (by omega), e7 := im_pr h7 (by omega), e8 := re_pr h8 (by omega), e9 := im_pr h9 (by omega), e10 := re_pr h10 (by omega), e11 := im_pr h11 (by omega), e12 := re_pr h12 (by omega), e13 := im_pr h13 (by omega), e14 := re_pr h14 (by omega), e15 := im_pr h15 (by omega), e16 := re_pr h16 (by omega), e17 := im_pr h17 (by omega), e18 := re_pr h18 (by omega), e19 := im_pr h19 (by omega), e20 := re_pr h20 (by omega), e21 := im_pr h21 (by omega), e22 := re_pr h22 (by omega), e23 := im_pr h23 (by omega), e24 := re_pr h24 (by omega), e25 := im_pr h25 (by omega), e26 := re_pr h26 (by omega), e27 := im_pr h27 (by omega), e28 := re_pr h28 (by omega), e29 := im_pr h29 (by omega), e30 := re_pr h30 (by omega), e31 := im_pr h31 (by omega) }
theorem prop_of {D G M0 Ma N0 Na : Int} (hD : D ≠ 0) (h0 : D * M0 = G * N0) (ha : D * Ma = G * Na) : Na * M0 = Ma * N0 := by
  apply Int.eq_of_mul_eq_mul_left hD
  have e1 : D * (Na * M0) = Na * (D * M0) := by grind
  have e2 : D * (Ma * N0) = (D * Ma) * N0 := by grind
  rw [e1, e2, h0, ha]
  grind
/-- A Jones matrix of whole numbers whose Mueller matrix is the given one, but for a factor. -/
structure JBack (m0 m1 m2 m3 m4 m5 m6 m7 m8 m9 m10 m11 m12 m13 m14 m15 j0 j1 j2 j3 j4 j5 j6 j7 : Int) : Prop where
  b0 : -1000 ≤ j0 ∧ j0 ≤ 1000
  b1 : -1000 ≤ j1 ∧ j1 ≤ 1000
  b2 : -1000 ≤ j2 ∧ j2 ≤ 1000
  b3 : -1000 ≤ j3 ∧ j3 ≤ 1000
  b4 : -1000 ≤ j4 ∧ j4 ≤ 1000
  b5 : -1000 ≤ j5 ∧ j5 ≤ 1000
  b6 : -1000 ≤ j6 ∧ j6 ≤ 1000
  b7 : -1000 ≤ j7 ∧ j7 ≤ 1000
  npos : 0 < (1) * (j0 * j0 + j1 * j1) + (1) * (j2 * j2 + j3 * j3) + (1) * (j4 * j4 + j5 * j5) + (1) * (j6 * j6 + j7 * j7)
  mpos : 0 < m0
  e0 : ((1) * (j0 * j0 + j1 * j1) + (1) * (j2 * j2 + j3 * j3) + (1) * (j4 * j4 + j5 * j5) + (1) * (j6 * j6 + j7 * j7)) * m0 = m0 * ((1) * (j0 * j0 + j1 * j1) + (1) * (j2 * j2 + j3 * j3) + (1) * (j4 * j4 + j5 * j5) + (1) * (j6 * j6 + j7 * j7))
  l0 : 0 - ((1) * (j0 * j0 + j1 * j1) + (1) * (j2 * j2 + j3 * j3) + (1) * (j4 * j4 + j5 * j5) + (1) * (j6 * j6 + j7 * j7)) ≤ (1) * (j0 * j0 + j1 * j1) + (1) * (j2 * j2 + j3 * j3) + (1) * (j4 * j4 + j5 * j5) + (1) * (j6 * j6 + j7 * j7) ∧ (1) * (j0 * j0 + j1 * j1) + (1) * (j2 * j2 + j3 * j3) + (1) * (j4 * j4 + j5 * j5) + (1) * (j6 * j6 + j7 * j7) ≤ (1) * (j0 * j0 + j1 * j1) + (1) * (j2 * j2 + j3 * j3) + (1) * (j4 * j4 + j5 * j5) + (1) * (j6 * j6 + j7 * j7)
  e1 : ((1) * (j0 * j0 + j1 * j1) + (-1) * (j2 * j2 + j3 * j3) + (1) * (j4 * j4 + j5 * j5) + (-1) * (j6 * j6 + j7 * j7)) * m0 = m1 * ((1) * (j0 * j0 + j1 * j1) + (1) * (j2 * j2 + j3 * j3) + (1) * (j4 * j4 + j5 * j5) + (1) * (j6 * j6 + j7 * j7))
  l1 : 0 - ((1) * (j0 * j0 + j1 * j1) + (1) * (j2 * j2 + j3 * j3) + (1) * (j4 * j4 + j5 * j5) + (1) * (j6 * j6 + j7 * j7)) ≤ (1) * (j0 * j0 + j1 * j1) + (-1) * (j2 * j2 + j3 * j3) + (1) * (j4 * j4 + j5 * j5) + (-1) * (j6 * j6 + j7 * j7) ∧ (1) * (j0 * j0 + j1 * j1) + (-1) * (j2 * j2 + j3 * j3) + (1) * (j4 * j4 + j5 * j5) + (-1) * (j6 * j6 + j7 * j7) ≤ (1) * (j0 * j0 + j1 * j1) + (1) * (j2 * j2 + j3 * j3) + (1) * (j4 * j4 + j5 * j5) + (1) * (j6 * j6 + j7 * j7)
  e2 : ((2) * (j0 * j2 + j1 * j3) + (2) * (j4 * j6 + j5 * j7)) * m0 = m2 * ((1) * (j0 * j0 + j1 * j1) + (1) * (j2 * j2 + j3 * j3) + (1) * (j4 * j4 + j5 * j5) + (1) * (j6 * j6 + j7 * j7))
  l2 : 0 - ((1) * (j0 * j0 + j1 * j1) + (1) * (j2 * j2 + j3 * j3) + (1) * (j4 * j4 + j5 * j5) + (1) * (j6 * j6 + j7 * j7)) ≤ (2) * (j0 * j2 + j1 * j3) + (2) * (j4 * j6 + j5 * j7) ∧ (2) * (j0 * j2 + j1 * j3) + (2) * (j4 * j6 + j5 * j7) ≤ (1) * (j0 * j0 + j1 * j1) + (1) * (j2 * j2 + j3 * j3) + (1) * (j4 * j4 + j5 * j5) + (1) * (j6 * j6 + j7 * j7)
  e3 : ((2) * (j1 * j2 - j0 * j3) + (2) * (j5 * j6 - j4 * j7)) * m0 = m3 * ((1) * (j0 * j0 + j1 * j1) + (1) * (j2 * j2 + j3 * j3) + (1) * (j4 * j4 + j5 * j5) + (1) * (j6 * j6 + j7 * j7))
  l3 : 0 - ((1) * (j0 * j0 + j1 * j1) + (1) * (j2 * j2 + j3 * j3) + (1) * (j4 * j4 + j5 * j5) + (1) * (j6 * j6 + j7 * j7)) ≤ (2) * (j1 * j2 - j0 * j3) + (2) * (j5 * j6 - j4 * j7) ∧ (2) * (j1 * j2 - j0 * j3) + (2) * (j5 * j6 - j4 * j7) ≤ (1) * (j0 * j0 + j1 * j1) + (1) * (j2 * j2 + j3 * j3) + (1) * (j4 * j4 + j5 * j5) + (1) * (j6 * j6 + j7 * j7)
  e4 : ((1) * (j0 * j0 + j1 * j1) + (1) * (j2 * j2 + j3 * j3) + (-1) * (j4 * j4 + j5 * j5) + (-1) * (j6 * j6 + j7 * j7)) * m0 = m4 * ((1) * (j0 * j0 + j1 * j1) + (1) * (j2 * j2 + j3 * j3) + (1) * (j4 * j4 + j5 * j5) + (1) * (j6 * j6 + j7 * j7))
  l4 : 0 - ((1) * (j0 * j0 + j1 * j1) + (1) * (j2 * j2 + j3 * j3) + (1) * (j4 * j4 + j5 * j5) + (1) * (j6 * j6 + j7 * j7)) ≤ (1) * (j0 * j0 + j1 * j1) + (1) * (j2 * j2 + j3 * j3) + (-1) * (j4 * j4 + j5 * j5) + (-1) * (j6 * j6 + j7 * j7) ∧ (1) * (j0 * j0 + j1 * j1) + (1) * (j2 * j2 + j3 * j3) + (-1) * (j4 * j4 + j5 * j5) + (-1) * (j6 * j6 + j7 * j7) ≤ (1) * (j0 * j0 + j1 * j1) + (1) * (j2 * j2 + j3 * j3) + (1) * (j4 * j4 + j5 * j5) + (1) * (j6 * j6 + j7 * j7)
  e5 : ((1) * (j0 * j0 + j1 * j1) + (-1) * (j2 * j2 + j3 * j3) + (-1) * (j4 * j4 + j5 * j5) + (1) * (j6 * j6 + j7 * j7)) * m0 = m5 * ((1) * (j0 * j0 + j1 * j1) + (1) * (j2 * j2 + j3 * j3) + (1) * (j4 * j4 + j5 * j5) + (1) * (j6 * j6 + j7 * j7))
  l5 : 0 - ((1) * (j0 * j0 + j1 * j1) + (1) * (j2 * j2 + j3 * j3) + (1) * (j4 * j4 + j5 * j5) + (1) * (j6 * j6 + j7 * j7)) ≤ (1) * (j0 * j0 + j1 * j1) + (-1) * (j2 * j2 + j3 * j3) + (-1) * (j4 * j4 + j5 * j5) + (1) * (j6 * j6 + j7 * j7) ∧ (1) * (j0 * j0 + j1 * j1) + (-1) * (j2 * j2 + j3 * j3) + (-1) * (j4 * j4 + j5 * j5) + (1) * (j6 * j6 + j7 * j7) ≤ (1) * (j0 * j0 + j1 * j1) + (1) * (j2 * j2 + j3 * j3) + (1) * (j4 * j4 + j5 * j5) + (1) * (j6 * j6 + j7 * j7)
  e6 : ((2) * (j0 * j2 + j1 * j3) + (-2) * (j4 * j6 + j5 * j7)) * m0 = m6 * ((1) * (j0 * j0 + j1 * j1) + (1) * (j2 * j2 + j3 * j3) + (1) * (j4 * j4 + j5 * j5) + (1) * (j6 * j6 + j7 * j7))
  l6 : 0 - ((1) * (j0 * j0 + j1 * j1) + (1) * (j2 * j2 + j3 * j3) + (1) * (j4 * j4 + j5 * j5) + (1) * (j6 * j6 + j7 * j7)) ≤ (2) * (j0 * j2 + j1 * j3) + (-2) * (j4 * j6 + j5 * j7) ∧ (2) * (j0 * j2 + j1 * j3) + (-2) * (j4 * j6 + j5 * j7) ≤ (1) * (j0 * j0 + j1 * j1) + (1) * (j2 * j2 + j3 * j3) + (1) * (j4 * j4 + j5 * j5) + (1) * (j6 * j6 + j7 * j7)
  e7 : ((2) * (j1 * j2 - j0 * j3) + (-2) * (j5 * j6 - j4 * j7)) * m0 = m7 * ((1) * (j0 * j0 + j1 * j1) + (1) * (j2 * j2 + j3 * j3) + (1) * (j4 * j4 + j5 * j5) + (1) * (j6 * j6 + j7 * j7))
  l7 : 0 - ((1) * (j0 * j0 + j1 * j1) + (1) * (j2 * j2 + j3 * j3) + (1) * (j4 * j4 + j5 * j5) + (1) * (j6 * j6 + j7 * j7)) ≤ (2) * (j1 * j2 - j0 * j3) + (-2) * (j5 * j6 - j4 * j7) ∧ (2) * (j1 * j2 - j0 * j3) + (-2) * (j5 * j6 - j4 * j7) ≤ (1) * (j0 * j0 + j1 * j1) + (1) * (j2 * j2 + j3 * j3) + (1) * (j4 * j4 + j5 * j5) + (1) * (j6 * j6 + j7 * j7)
  e8 : ((2) * (j0 * j4 + j1 * j5) + (2) * (j2 * j6 + j3 * j7)) * m0 = m8 * ((1) * (j0 * j0 + j1 * j1) + (1) * (j2 * j2 + j3 * j3) + (1) * (j4 * j4 + j5 * j5) + (1) * (j6 * j6 + j7 * j7))
  l8 : 0 - ((1) * (j0 * j0 + j1 * j1) + (1) * (j2 * j2 + j3 * j3) + (1) * (j4 * j4 + j5 * j5) + (1) * (j6 * j6 + j7 * j7)) ≤ (2) * (j0 * j4 + j1 * j5) + (2) * (j2 * j6 + j3 * j7) ∧ (2) * (j0 * j4 + j1 * j5) + (2) * (j2 * j6 + j3 * j7) ≤ (1) * (j0 * j0 + j1 * j1) + (1) * (j2 * j2 + j3 * j3) + (1) * (j4 * j4 + j5 * j5) + (1) * (j6 * j6 + j7 * j7)
  e9 : ((2) * (j0 * j4 + j1 * j5) + (-2) * (j2 * j6 + j3 * j7)) * m0 = m9 * ((1) * (j0 * j0 + j1 * j1) + (1) * (j2 * j2 + j3 * j3) + (1) * (j4 * j4 + j5 * j5) + (1) * (j6 * j6 + j7 * j7))
  l9 : 0 - ((1) * (j0 * j0 + j1 * j1) + (1) * (j2 * j2 + j3 * j3) + (1) * (j4 * j4 + j5 * j5) + (1) * (j6 * j6 + j7 * j7)) ≤ (2) * (j0 * j4 + j1 * j5) + (-2) * (j2 * j6 + j3 * j7) ∧ (2) * (j0 * j4 + j1 * j5) + (-2) * (j2 * j6 + j3 * j7) ≤ (1) * (j0 * j0 + j1 * j1) + (1) * (j2 * j2 + j3 * j3) + (1) * (j4 * j4 + j5 * j5) + (1) * (j6 * j6 + j7 * j7)
  e10 : ((2) * (j0 * j6 + j1 * j7) + (2) * (j2 * j4 + j3 * j5)) * m0 = m10 * ((1) * (j0 * j0 + j1 * j1) + (1) * (j2 * j2 + j3 * j3) + (1) * (j4 * j4 + j5 * j5) + (1) * (j6 * j6 + j7 * j7))
  l10 : 0 - ((1) * (j0 * j0 + j1 * j1) + (1) * (j2 * j2 + j3 * j3) + (1) * (j4 * j4 + j5 * j5) + (1) * (j6 * j6 + j7 * j7)) ≤ (2) * (j0 * j6 + j1 * j7) + (2) * (j2 * j4 + j3 * j5) ∧ (2) * (j0 * j6 + j1 * j7) + (2) * (j2 * j4 + j3 * j5) ≤ (1) * (j0 * j0 + j1 * j1) + (1) * (j2 * j2 + j3 * j3) + (1) * (j4 * j4 + j5 * j5) + (1) * (j6 * j6 + j7 * j7)
  e11 : ((2) * (j1 * j6 - j0 * j7) + (-2) * (j3 * j4 - j2 * j5)) * m0 = m11 * ((1) * (j0 * j0 + j1 * j1) + (1) * (j2 * j2 + j3 * j3) + (1) * (j4 * j4 + j5 * j5) + (1) * (j6 * j6 + j7 * j7))
  l11 : 0 - ((1) * (j0 * j0 + j1 * j1) + (1) * (j2 * j2 + j3 * j3) + (1) * (j4 * j4 + j5 * j5) + (1) * (j6 * j6 + j7 * j7)) ≤ (2) * (j1 * j6 - j0 * j7) + (-2) * (j3 * j4 - j2 * j5) ∧ (2) * (j1 * j6 - j0 * j7) + (-2) * (j3 * j4 - j2 * j5) ≤ (1) * (j0 * j0 + j1 * j1) + (1) * (j2 * j2 + j3 * j3) + (1) * (j4 * j4 + j5 * j5) + (1) * (j6 * j6 + j7 * j7)
  e12 : ((-2) * (j1 * j4 - j0 * j5) + (-2) * (j3 * j6 - j2 * j7)) * m0 = m12 * ((1) * (j0 * j0 + j1 * j1) + (1) * (j2 * j2 + j3 * j3) + (1) * (j4 * j4 + j5 * j5) + (1) * (j6 * j6 + j7 * j7))
  l12 : 0 - ((1) * (j0 * j0 + j1 * j1) + (1) * (j2 * j2 + j3 * j3) + (1) * (j4 * j4 + j5 * j5) + (1) * (j6 * j6 + j7 * j7)) ≤ (-2) * (j1 * j4 - j0 * j5) + (-2) * (j3 * j6 - j2 * j7) ∧ (-2) * (j1 * j4 - j0 * j5) + (-2) * (j3 * j6 - j2 * j7) ≤ (1) * (j0 * j0 + j1 * j1) + (1) * (j2 * j2 + j3 * j3) + (1) * (j4 * j4 + j5 * j5) + (1) * (j6 * j6 + j7 * j7)
  e13 : ((-2) * (j1 * j4 - j0 * j5) + (2) * (j3 * j6 - j2 * j7)) * m0 = m13 * ((1) * (j0 * j0 + j1 * j1) + (1) * (j2 * j2 + j3 * j3) + (1) * (j4 * j4 + j5 * j5) + (1) * (j6 * j6 + j7 * j7))
  l13 : 0 - ((1) * (j0 * j0 + j1 * j1) + (1) * (j2 * j2 + j3 * j3) + (1) * (j4 * j4 + j5 * j5) + (1) * (j6 * j6 + j7 * j7)) ≤ (-2) * (j1 * j4 - j0 * j5) + (2) * (j3 * j6 - j2 * j7) ∧ (-2) * (j1 * j4 - j0 * j5) + (2) * (j3 * j6 - j2 * j7) ≤ (1) * (j0 * j0 + j1 * j1) + (1) * (j2 * j2 + j3 * j3) + (1) * (j4 * j4 + j5 * j5) + (1) * (j6 * j6 + j7 * j7)
  e14 : ((-2) * (j1 * j6 - j0 * j7) + (-2) * (j3 * j4 - j2 * j5)) * m0 = m14 * ((1) * (j0 * j0 + j1 * j1) + (1) * (j2 * j2 + j3 * j3) + (1) * (j4 * j4 + j5 * j5) + (1) * (j6 * j6 + j7 * j7))
  l14 : 0 - ((1) * (j0 * j0 + j1 * j1) + (1) * (j2 * j2 + j3 * j3) + (1) * (j4 * j4 + j5 * j5) + (1) * (j6 * j6 + j7 * j7)) ≤ (-2) * (j1 * j6 - j0 * j7) + (-2) * (j3 * j4 - j2 * j5) ∧ (-2) * (j1 * j6 - j0 * j7) + (-2) * (j3 * j4 - j2 * j5) ≤ (1) * (j0 * j0 + j1 * j1) + (1) * (j2 * j2 + j3 * j3) + (1) * (j4 * j4 + j5 * j5) + (1) * (j6 * j6 + j7 * j7)
  e15 : ((2) * (j0 * j6 + j1 * j7) + (-2) * (j2 * j4 + j3 * j5)) * m0 = m15 * ((1) * (j0 * j0 + j1 * j1) + (1) * (j2 * j2 + j3 * j3) + (1) * (j4 * j4 + j5 * j5) + (1) * (j6 * j6 + j7 * j7))
  l15 : 0 - ((1) * (j0 * j0 + j1 * j1) + (1) * (j2 * j2 + j3 * j3) + (1) * (j4 * j4 + j5 * j5) + (1) * (j6 * j6 + j7 * j7)) ≤ (2) * (j0 * j6 + j1 * j7) + (-2) * (j2 * j4 + j3 * j5) ∧ (2) * (j0 * j6 + j1 * j7) + (-2) * (j2 * j4 + j3 * j5) ≤ (1) * (j0 * j0 + j1 * j1) + (1) * (j2 * j2 + j3 * j3) + (1) * (j4 * j4 + j5 * j5) + (1) * (j6 * j6 + j7 * j7)
theorem bdsq {p0 p1 p2 p3 p4 p5 p6 p7 q0 q1 q2 q3 q4 q5 q6 q7 A B : Int} (e1 : 2 * (A + B) = p0 * p0 + p1 * p1 + p2 * p2 + p3 * p3 + p4 * p4 + p5 * p5 + p6 * p6 + p7 * p7) (e2 : 2 * (A - B) = q0 * q0 + q1 * q1 + q2 * q2 + q3 * q3 + q4 * q4 + q5 * q5 + q6 * q6 + q7 * q7) : 0 - A ≤ B ∧ B ≤ A := by
  have u0 := sqn p0
  have v0 := sqn q0
  have u1 := sqn p1
  have v1 := sqn q1
  have u2 := sqn p2
  have v2 := sqn q2
  have u3 := sqn p3
  have v3 := sqn q3
  have u4 := sqn p4
  have v4 := sqn q4
  have u5 := sqn p5
  have v5 := sqn q5
  have u6 := sqn p6
  have v6 := sqn q6
  have u7 := sqn p7
  have v7 := sqn q7
  constructor <;> omega
theorem bd0 (j0 j1 j2 j3 j4 j5 j6 j7 : Int) : 0 - ((1) * (j0 * j0 + j1 * j1) + (1) * (j2 * j2 + j3 * j3) + (1) * (j4 * j4 + j5 * j5) + (1) * (j6 * j6 + j7 * j7)) ≤ (1) * (j0 * j0 + j1 * j1) + (1) * (j2 * j2 + j3 * j3) + (1) * (j4 * j4 + j5 * j5) + (1) * (j6 * j6 + j7 * j7) ∧ (1) * (j0 * j0 + j1 * j1) + (1) * (j2 * j2 + j3 * j3) + (1) * (j4 * j4 + j5 * j5) + (1) * (j6 * j6 + j7 * j7) ≤ (1) * (j0 * j0 + j1 * j1) + (1) * (j2 * j2 + j3 * j3) + (1) * (j4 * j4 + j5 * j5) + (1) * (j6 * j6 + j7 * j7) :=
  bdsq (p0 := j0 + j0) (p1 := j1 + j1) (p2 := j2 + j2) (p3 := j3 + j3) (p4 := j4 + j4) (p5 := j5 + j5) (p6 := j6 + j6) (p7 := j7 + j7) (q0 := j0 - j0) (q1 := j1 - j1) (q2 := j2 - j2) (q3 := j3 - j3) (q4 := j4 - j4) (q5 := j5 - j5) (q6 := j6 - j6) (q7 := j7 - j7) (by grind) (by grind)
theorem bd1 (j0 j1 j2 j3 j4 j5 j6 j7 : Int) : 0 - ((1) * (j0 * j0 + j1 * j1) + (1) * (j2 * j2 + j3 * j3) + (1) * (j4 * j4 + j5 * j5) + (1) * (j6 * j6 + j7 * j7)) ≤ (1) * (j0 * j0 + j1 * j1) + (-1) * (j2 * j2 + j3 * j3) + (1) * (j4 * j4 + j5 * j5) + (-1) * (j6 * j6 + j7 * j7) ∧ (1) * (j0 * j0 + j1 * j1) + (-1) * (j2 * j2 + j3 * j3) + (1) * (j4 * j4 + j5 * j5) + (-1) * (j6 * j6 + j7 * j7) ≤ (1) * (j0 * j0 + j1 * j1) + (1) * (j2 * j2 + j3 * j3) + (1) * (j4 * j4 + j5 * j5) + (1) * (j6 * j6 + j7 * j7) :=
  bdsq (p0 := j0 + j0) (p1 := j1 + j1) (p2 := j2 - j2) (p3 := j3 - j3) (p4 := j4 + j4) (p5 := j5 + j5) (p6 := j6 - j6) (p7 := j7 - j7) (q0 := j0 - j0) (q1 := j1 - j1) (q2 := j2 + j2) (q3 := j3 + j3) (q4 := j4 - j4) (q5 := j5 - j5) (q6 := j6 + j6) (q7 := j7 + j7) (by grind) (by grind)
theorem bd2 (j0 j1 j2 j3 j4 j5 j6 j7 : Int) : 0 - ((1) * (j0 * j0 + j1 * j1) + (1) * (j2 * j2 + j3 * j3) + (1) * (j4 * j4 + j5 * j5) + (1) * (j6 * j6 + j7 * j7)) ≤ (2) * (j0 * j2 + j1 * j3) + (2) * (j4 * j6 + j5 * j7) ∧ (2) * (j0 * j2 + j1 * j3) + (2) * (j4 * j6 + j5 * j7) ≤ (1) * (j0 * j0 + j1 * j1) + (1) * (j2 * j2 + j3 * j3) + (1) * (j4 * j4 + j5 * j5) + (1) * (j6 * j6 + j7 * j7) :=
  bdsq (p0 := j0 + j2) (p1 := j1 + j3) (p2 := j2 + j0) (p3 := j3 + j1) (p4 := j4 + j6) (p5 := j5 + j7) (p6 := j6 + j4) (p7 := j7 + j5) (q0 := j0 - j2) (q1 := j1 - j3) (q2 := j2 - j0) (q3 := j3 - j1) (q4 := j4 - j6) (q5 := j5 - j7) (q6 := j6 - j4) (q7 := j7 - j5) (by grind) (by grind)
theorem bd3 (j0 j1 j2 j3 j4 j5 j6 j7 : Int) : 0 - ((1) * (j0 * j0 + j1 * j1) + (1) * (j2 * j2 + j3 * j3) + (1) * (j4 * j4 + j5 * j5) + (1) * (j6 * j6 + j7 * j7)) ≤ (2) * (j1 * j2 - j0 * j3) + (2) * (j5 * j6 - j4 * j7) ∧ (2) * (j1 * j2 - j0 * j3) + (2) * (j5 * j6 - j4 * j7) ≤ (1) * (j0 * j0 + j1 * j1) + (1) * (j2 * j2 + j3 * j3) + (1) * (j4 * j4 + j5 * j5) + (1) * (j6 * j6 + j7 * j7) :=
  bdsq (p0 := j0 - j3) (p1 := j1 + j2) (p2 := j2 + j1) (p3 := j3 - j0) (p4 := j4 - j7) (p5 := j5 + j6) (p6 := j6 + j5) (p7 := j7 - j4) (q0 := j0 + j3) (q1 := j1 - j2) (q2 := j2 - j1) (q3 := j3 + j0) (q4 := j4 + j7) (q5 := j5 - j6) (q6 := j6 - j5) (q7 := j7 + j4) (by grind) (by grind)
theorem bd4 (j0 j1 j2 j3 j4 j5 j6 j7 : Int) : 0 - ((1) * (j0 * j0 + j1 * j1) + (1) * (j2 * j2 + j3 * j3) + (1) * (j4 * j4 + j5 * j5) + (1) * (j6 * j6 + j7 * j7)) ≤ (1) * (j0 * j0 + j1 * j1) + (1) * (j2 * j2 + j3 * j3) + (-1) * (j4 * j4 + j5 * j5) + (-1) * (j6 * j6 + j7 * j7) ∧ (1) * (j0 * j0 + j1 * j1) + (1) * (j2 * j2 + j3 * j3) + (-1) * (j4 * j4 + j5 * j5) + (-1) * (j6 * j6 + j7 * j7) ≤ (1) * (j0 * j0 + j1 * j1) + (1) * (j2 * j2 + j3 * j3) + (1) * (j4 * j4 + j5 * j5) + (1) * (j6 * j6 + j7 * j7) :=
  bdsq (p0 := j0 + j0) (p1 := j1 + j1) (p2 := j2 + j2) (p3 := j3 + j3) (p4 := j4 - j4) (p5 := j5 - j5) (p6 := j6 - j6) (p7 := j7 - j7) (q0 := j0 - j0) (q1 := j1 - j1) (q2 := j2 - j2) (q3 := j3 - j3) (q4 := j4 + j4) (q5 := j5 + j5) (q6 := j6 + j6) (q7 := j7 + j7) (by grind) (by grind)
theorem bd5 (j0 j1 j2 j3 j4 j5 j6 j7 : Int) : 0 - ((1) * (j0 * j0 + j1 * j1) + (1) * (j2 * j2 + j3 * j3) + (1) * (j4 * j4 + j5 * j5) + (1) * (j6 * j6 + j7 * j7)) ≤ (1) * (j0 * j0 + j1 * j1) + (-1) * (j2 * j2 + j3 * j3) + (-1) * (j4 * j4 + j5 * j5) + (1) * (j6 * j6 + j7 * j7) ∧ (1) * (j0 * j0 + j1 * j1) + (-1) * (j2 * j2 + j3 * j3) + (-1) * (j4 * j4 + j5 * j5) + (1) * (j6 * j6 + j7 * j7) ≤ (1) * (j0 * j0 + j1 * j1) + (1) * (j2 * j2 + j3 * j3) + (1) * (j4 * j4 + j5 * j5) + (1) * (j6 * j6 + j7 * j7) :=
  bdsq (p0 := j0 + j0) (p1 := j1 + j1) (p2 := j2 - j2) (p3 := j3 - j3) (p4 := j4 - j4) (p5 := j5 - j5) (p6 := j6 + j6) (p7 := j7 + j7) (q0 := j0 - j0) (q1 := j1 - j1) (q2 := j2 + j2) (q3 := j3 + j3) (q4 := j4 + j4) (q5 := j5 + j5) (q6 := j6 - j6) (q7 := j7 - j7) (by grind) (by grind)
theorem bd6 (j0 j1 j2 j3 j4 j5 j6 j7 : Int) : 0 - ((1) * (j0 * j0 + j1 * j1) + (1) * (j2 * j2 + j3 * j3) + (1) * (j4 * j4 + j5 * j5) + (1) * (j6 * j6 + j7 * j7)) ≤ (2) * (j0 * j2 + j1 * j3) + (-2) * (j4 * j6 + j5 * j7) ∧ (2) * (j0 * j2 + j1 * j3) + (-2) * (j4 * j6 + j5 * j7) ≤ (1) * (j0 * j0 + j1 * j1) + (1) * (j2 * j2 + j3 * j3) + (1) * (j4 * j4 + j5 * j5) + (1) * (j6 * j6 + j7 * j7) :=
  bdsq (p0 := j0 + j2) (p1 := j1 + j3) (p2 := j2 + j0) (p3 := j3 + j1) (p4 := j4 - j6) (p5 := j5 - j7) (p6 := j6 - j4) (p7 := j7 - j5) (q0 := j0 - j2) (q1 := j1 - j3) (q2 := j2 - j0) (q3 := j3 - j1) (q4 := j4 + j6) (q5 := j5 + j7) (q6 := j6 + j4) (q7 := j7 + j5) (by grind) (by grind)
theorem bd7 (j0 j1 j2 j3 j4 j5 j6 j7 : Int) : 0 - ((1) * (j0 * j0 + j1 * j1) + (1) * (j2 * j2 + j3 * j3) + (1) * (j4 * j4 + j5 * j5) + (1) * (j6 * j6 + j7 * j7)) ≤ (2) * (j1 * j2 - j0 * j3) + (-2) * (j5 * j6 - j4 * j7) ∧ (2) * (j1 * j2 - j0 * j3) + (-2) * (j5 * j6 - j4 * j7) ≤ (1) * (j0 * j0 + j1 * j1) + (1) * (j2 * j2 + j3 * j3) + (1) * (j4 * j4 + j5 * j5) + (1) * (j6 * j6 + j7 * j7) :=
  bdsq (p0 := j0 - j3) (p1 := j1 + j2) (p2 := j2 + j1) (p3 := j3 - j0) (p4 := j4 + j7) (p5 := j5 - j6) (p6 := j6 - j5) (p7 := j7 + j4) (q0 := j0 + j3) (q1 := j1 - j2) (q2 := j2 - j1) (q3 := j3 + j0) (q4 := j4 - j7) (q5 := j5 + j6) (q6 := j6 + j5) (q7 := j7 - j4) (by grind) (by grind)
theorem bd8 (j0 j1 j2 j3 j4 j5 j6 j7 : Int) : 0 - ((1) * (j0 * j0 + j1 * j1) + (1) * (j2 * j2 + j3 * j3) + (1) * (j4 * j4 + j5 * j5) + (1) * (j6 * j6 + j7 * j7)) ≤ (2) * (j0 * j4 + j1 * j5) + (2) * (j2 * j6 + j3 * j7) ∧ (2) * (j0 * j4 + j1 * j5) + (2) * (j2 * j6 + j3 * j7) ≤ (1) * (j0 * j0 + j1 * j1) + (1) * (j2 * j2 + j3 * j3) + (1) * (j4 * j4 + j5 * j5) + (1) * (j6 * j6 + j7 * j7) :=
  bdsq (p0 := j0 + j4) (p1 := j1 + j5) (p2 := j2 + j6) (p3 := j3 + j7) (p4 := j4 + j0) (p5 := j5 + j1) (p6 := j6 + j2) (p7 := j7 + j3) (q0 := j0 - j4) (q1 := j1 - j5) (q2 := j2 - j6) (q3 := j3 - j7) (q4 := j4 - j0) (q5 := j5 - j1) (q6 := j6 - j2) (q7 := j7 - j3) (by grind) (by grind)
theorem bd9 (j0 j1 j2 j3 j4 j5 j6 j7 : Int) : 0 - ((1) * (j0 * j0 + j1 * j1) + (1) * (j2 * j2 + j3 * j3) + (1) * (j4 * j4 + j5 * j5) + (1) * (j6 * j6 + j7 * j7)) ≤ (2) * (j0 * j4 + j1 * j5) + (-2) * (j2 * j6 + j3 * j7) ∧ (2) * (j0 * j4 + j1 * j5) + (-2) * (j2 * j6 + j3 * j7) ≤ (1) * (j0 * j0 + j1 * j1) + (1) * (j2 * j2 + j3 * j3) + (1) * (j4 * j4 + j5 * j5) + (1) * (j6 * j6 + j7 * j7) :=
  bdsq (p0 := j0 + j4) (p1 := j1 + j5) (p2 := j2 - j6) (p3 := j3 - j7) (p4 := j4 + j0) (p5 := j5 + j1) (p6 := j6 - j2) (p7 := j7 - j3) (q0 := j0 - j4) (q1 := j1 - j5) (q2 := j2 + j6) (q3 := j3 + j7) (q4 := j4 - j0) (q5 := j5 - j1) (q6 := j6 + j2) (q7 := j7 + j3) (by grind) (by grind)
theorem bd10 (j0 j1 j2 j3 j4 j5 j6 j7 : Int) : 0 - ((1) * (j0 * j0 + j1 * j1) + (1) * (j2 * j2 + j3 * j3) + (1) * (j4 * j4 + j5 * j5) + (1) * (j6 * j6 + j7 * j7)) ≤ (2) * (j0 * j6 + j1 * j7) + (2) * (j2 * j4 + j3 * j5) ∧ (2) * (j0 * j6 + j1 * j7) + (2) * (j2 * j4 + j3 * j5) ≤ (1) * (j0 * j0 + j1 * j1) + (1) * (j2 * j2 + j3 * j3) + (1) * (j4 * j4 + j5 * j5) + (1) * (j6 * j6 + j7 * j7) :=
  bdsq (p0 := j0 + j6) (p1 := j1 + j7) (p2 := j2 + j4) (p3 := j3 + j5) (p4 := j4 + j2) (p5 := j5 + j3) (p6 := j6 + j0) (p7 := j7 + j1) (q0 := j0 - j6) (q1 := j1 - j7) (q2 := j2 - j4) (q3 := j3 - j5) (q4 := j4 - j2) (q5 := j5 - j3) (q6 := j6 - j0) (q7 := j7 - j1) (by grind) (by grind)
theorem bd11 (j0 j1 j2 j3 j4 j5 j6 j7 : Int) : 0 - ((1) * (j0 * j0 + j1 * j1) + (1) * (j2 * j2 + j3 * j3) + (1) * (j4 * j4 + j5 * j5) + (1) * (j6 * j6 + j7 * j7)) ≤ (2) * (j1 * j6 - j0 * j7) + (-2) * (j3 * j4 - j2 * j5) ∧ (2) * (j1 * j6 - j0 * j7) + (-2) * (j3 * j4 - j2 * j5) ≤ (1) * (j0 * j0 + j1 * j1) + (1) * (j2 * j2 + j3 * j3) + (1) * (j4 * j4 + j5 * j5) + (1) * (j6 * j6 + j7 * j7) :=
  bdsq (p0 := j0 - j7) (p1 := j1 + j6) (p2 := j2 + j5) (p3 := j3 - j4) (p4 := j4 - j3) (p5 := j5 + j2) (p6 := j6 + j1) (p7 := j7 - j0) (q0 := j0 + j7) (q1 := j1 - j6) (q2 := j2 - j5) (q3 := j3 + j4) (q4 := j4 + j3) (q5 := j5 - j2) (q6 := j6 - j1) (q7 := j7 + j0) (by grind) (by grind)
theorem bd12 (j0 j1 j2 j3 j4 j5 j6 j7 : Int) : 0 - ((1) * (j0 * j0 + j1 * j1) + (1) * (j2 * j2 + j3 * j3) + (1) * (j4 * j4 + j5 * j5) + (1) * (j6 * j6 + j7 * j7)) ≤ (-2) * (j1 * j4 - j0 * j5) + (-2) * (j3 * j6 - j2 * j7) ∧ (-2) * (j1 * j4 - j0 * j5) + (-2) * (j3 * j6 - j2 * j7) ≤ (1) * (j0 * j0 + j1 * j1) + (1) * (j2 * j2 + j3 * j3) + (1) * (j4 * j4 + j5 * j5) + (1) * (j6 * j6 + j7 * j7) :=
  bdsq (p0 := j0 + j5) (p1 := j1 - j4) (p2 := j2 + j7) (p3 := j3 - j6) (p4 := j4 - j1) (p5 := j5 + j0) (p6 := j6 - j3) (p7 := j7 + j2) (q0 := j0 - j5) (q1 := j1 + j4) (q2 := j2 - j7) (q3 := j3 + j6) (q4 := j4 + j1) (q5 := j5 - j0) (q6 := j6 + j3) (q7 := j7 - j2) (by grind) (by grind)
theorem bd13 (j0 j1 j2 j3 j4 j5 j6 j7 : Int) : 0 - ((1) * (j0 * j0 + j1 * j1) + (1) * (j2 * j2 + j3 * j3) + (1) * (j4 * j4 + j5 * j5) + (1) * (j6 * j6 + j7 * j7)) ≤ (-2) * (j1 * j4 - j0 * j5) + (2) * (j3 * j6 - j2 * j7) ∧ (-2) * (j1 * j4 - j0 * j5) + (2) * (j3 * j6 - j2 * j7) ≤ (1) * (j0 * j0 + j1 * j1) + (1) * (j2 * j2 + j3 * j3) + (1) * (j4 * j4 + j5 * j5) + (1) * (j6 * j6 + j7 * j7) :=
  bdsq (p0 := j0 + j5) (p1 := j1 - j4) (p2 := j2 - j7) (p3 := j3 + j6) (p4 := j4 - j1) (p5 := j5 + j0) (p6 := j6 + j3) (p7 := j7 - j2) (q0 := j0 - j5) (q1 := j1 + j4) (q2 := j2 + j7) (q3 := j3 - j6) (q4 := j4 + j1) (q5 := j5 - j0) (q6 := j6 - j3) (q7 := j7 + j2) (by grind) (by grind)
theorem bd14 (j0 j1 j2 j3 j4 j5 j6 j7 : Int) : 0 - ((1) * (j0 * j0 + j1 * j1) + (1) * (j2 * j2 + j3 * j3) + (1) * (j4 * j4 + j5 * j5) + (1) * (j6 * j6 + j7 * j7)) ≤ (-2) * (j1 * j6 - j0 * j7) + (-2) * (j3 * j4 - j2 * j5) ∧ (-2) * (j1 * j6 - j0 * j7) + (-2) * (j3 * j4 - j2 * j5) ≤ (1) * (j0 * j0 + j1 * j1) + (1) * (j2 * j2 + j3 * j3) + (1) * (j4 * j4 + j5 * j5) + (1) * (j6 * j6 + j7 * j7) :=
  bdsq (p0 := j0 + j7) (p1 := j1 - j6) (p2 := j2 + j5) (p3 := j3 - j4) (p4 := j4 - j3) (p5 := j5 + j2) (p6 := j6 - j1) (p7 := j7 + j0) (q0 := j0 - j7) (q1 := j1 + j6) (q2 := j2 - j5) (q3 := j3 + j4) (q4 := j4 + j3) (q5 := j5 - j2) (q6 := j6 + j1) (q7 := j7 - j0) (by grind) (by grind)
theorem bd15 (j0 j1 j2 j3 j4 j5 j6 j7 : Int) : 0 - ((1) * (j0 * j0 + j1 * j1) + (1) * (j2 * j2 + j3 * j3) + (1) * (j4 * j4 + j5 * j5) + (1) * (j6 * j6 + j7 * j7)) ≤ (2) * (j0 * j6 + j1 * j7) + (-2) * (j2 * j4 + j3 * j5) ∧ (2) * (j0 * j6 + j1 * j7) + (-2) * (j2 * j4 + j3 * j5) ≤ (1) * (j0 * j0 + j1 * j1) + (1) * (j2 * j2 + j3 * j3) + (1) * (j4 * j4 + j5 * j5) + (1) * (j6 * j6 + j7 * j7) :=
  bdsq (p0 := j0 + j6) (p1 := j1 + j7) (p2 := j2 - j4) (p3 := j3 - j5) (p4 := j4 - j2) (p5 := j5 - j3) (p6 := j6 + j0) (p7 := j7 + j1) (q0 := j0 - j6) (q1 := j1 - j7) (q2 := j2 + j4) (q3 := j3 + j5) (q4 := j4 + j2) (q5 := j5 + j3) (q6 := j6 - j0) (q7 := j7 - j1) (by grind) (by grind)
set_option maxHeartbeats 8000000 in
theorem comes0 {m0 m1 m2 m3 m4 m5 m6 m7 m8 m9 m10 m11 m12 m13 m14 m15 d0 d1 d2 d3 x01 y01 x02 y02 x03 y03 x12 y12 x13 y13 x23 y23 g j0 j1 j2 j3 j4 j5 j6 j7 : Int} (hd0 : d0 = (((m0 + m1) + m4) + m5)) (hx01 : x01 = (m2 + m6)) (hy01 : y01 = (m3 + m7)) (hx02 : x02 = (m8 + m9)) (hy02 : y02 = ((m12 * (-1)) + (m13 * (-1)))) (hx03 : x03 = (m10 + (0 - (m15 * (-1))))) (hy03 : y03 = (m11 + (m14 * (-1)))) (hd1 : d1 = (((m0 + (m1 * (-1))) + m4) + (m5 * (-1)))) (hx12 : x12 = (m10 + (0 - ((m15 * (-1)) * (-1))))) (hy12 : y12 = ((m11 * (-1)) + (m14 * (-1)))) (hx13 : x13 = (m8 + (m9 * (-1)))) (hy13 : y13 = ((m12 * (-1)) + ((m13 * (-1)) * (-1)))) (hd2 : d2 = (((m0 + m1) + (m4 * (-1))) + (m5 * (-1)))) (hx23 : x23 = (m2 + (m6 * (-1)))) (hy23 : y23 = (m3 + (m7 * (-1)))) (hd3 : d3 = (((m0 + (m1 * (-1))) + (m4 * (-1))) + ((m5 * (-1)) * (-1)))) (hp : Pure0 d0 d1 d2 d3 x01 y01 x02 y02 x03 y03 x12 y12 x13 y13 x23 y23) (hg : 0 < g) (c0 : d0 = g * j0) (c1 : 0 = g * j1) (c2 : x01 = g * j2) (c3 : (0 - y01) = g * j3) (c4 : x02 = g * j4) (c5 : (0 - y02) = g * j5) (c6 : x03 = g * j6) (c7 : (0 - y03) = g * j7) (b0 : -1000 ≤ j0 ∧ j0 ≤ 1000) (b1 : -1000 ≤ j1 ∧ j1 ≤ 1000) (b2 : -1000 ≤ j2 ∧ j2 ≤ 1000) (b3 : -1000 ≤ j3 ∧ j3 ≤ 1000) (b4 : -1000 ≤ j4 ∧ j4 ≤ 1000) (b5 : -1000 ≤ j5 ∧ j5 ≤ 1000) (b6 : -1000 ≤ j6 ∧ j6 ≤ 1000) (b7 : -1000 ≤ j7 ∧ j7 ≤ 1000)   : JBack m0 m1 m2 m3 m4 m5 m6 m7 m8 m9 m10 m11 m12 m13 m14 m15 j0 j1 j2 j3 j4 j5 j6 j7 := by
  have hpos := hp.pos
  have kd0 : d0 * d0 = g * g * (j0 * j0 + j1 * j1) := re_k hp.e0 c0 c1 c0 (by omega)
  have kx01 : d0 * x01 = g * g * (j0 * j2 + j1 * j3) := re_k hp.e2 c0 c1 c2 (by omega)
  have ky01 : d0 * y01 = g * g * (j1 * j2 - j0 * j3) := im_k hp.e3 c0 c1 c2 (by omega)
  have kx02 : d0 * x02 = g * g * (j0 * j4 + j1 * j5) := re_k hp.e4 c0 c1 c4 (by omega)
  have ky02 : d0 * y02 = g * g * (j1 * j4 - j0 * j5) := im_k hp.e5 c0 c1 c4 (by omega)
  have kx03 : d0 * x03 = g * g * (j0 * j6 + j1 * j7) := re_k hp.e6 c0 c1 c6 (by omega)
  have ky03 : d0 * y03 = g * g * (j1 * j6 - j0 * j7) := im_k hp.e7 c0 c1 c6 (by omega)
  have kd1 : d0 * d1 = g * g * (j2 * j2 + j3 * j3) := re_k hp.e10 c2 c3 c2 (by omega)
  have kx12 : d0 * x12 = g * g * (j2 * j4 + j3 * j5) := re_k hp.e12 c2 c3 c4 (by omega)
  have ky12 : d0 * y12 = g * g * (j3 * j4 - j2 * j5) := im_k hp.e13 c2 c3 c4 (by omega)
  have kx13 : d0 * x13 = g * g * (j2 * j6 + j3 * j7) := re_k hp.e14 c2 c3 c6 (by omega)
  have ky13 : d0 * y13 = g * g * (j3 * j6 - j2 * j7) := im_k hp.e15 c2 c3 c6 (by omega)
  have kd2 : d0 * d2 = g * g * (j4 * j4 + j5 * j5) := re_k hp.e20 c4 c5 c4 (by omega)
  have kx23 : d0 * x23 = g * g * (j4 * j6 + j5 * j7) := re_k hp.e22 c4 c5 c6 (by omega)
  have ky23 : d0 * y23 = g * g * (j5 * j6 - j4 * j7) := im_k hp.e23 c4 c5 c6 (by omega)
  have kd3 : d0 * d3 = g * g * (j6 * j6 + j7 * j7) := re_k hp.e30 c6 c7 c6 (by omega)
  have q0 : 4 * m0 = (1) * d0 + (1) * d1 + (1) * d2 + (1) * d3 := by omega
  have q1 : 4 * m1 = (1) * d0 + (-1) * d1 + (1) * d2 + (-1) * d3 := by omega
  have q2 : 4 * m2 = (2) * x01 + (2) * x23 := by omega
  have q3 : 4 * m3 = (2) * y01 + (2) * y23 := by omega
  have q4 : 4 * m4 = (1) * d0 + (1) * d1 + (-1) * d2 + (-1) * d3 := by omega
  have q5 : 4 * m5 = (1) * d0 + (-1) * d1 + (-1) * d2 + (1) * d3 := by omega
  have q6 : 4 * m6 = (2) * x01 + (-2) * x23 := by omega
  have q7 : 4 * m7 = (2) * y01 + (-2) * y23 := by omega
  have q8 : 4 * m8 = (2) * x02 + (2) * x13 := by omega
  have q9 : 4 * m9 = (2) * x02 + (-2) * x13 := by omega
  have q10 : 4 * m10 = (2) * x03 + (2) * x12 := by omega
  have q11 : 4 * m11 = (2) * y03 + (-2) * y12 := by omega
  have q12 : 4 * m12 = (-2) * y02 + (-2) * y13 := by omega
  have q13 : 4 * m13 = (-2) * y02 + (2) * y13 := by omega
  have q14 : 4 * m14 = (-2) * y03 + (-2) * y12 := by omega
  have q15 : 4 * m15 = (2) * x03 + (-2) * x12 := by omega
  clear hd0 hx01 hy01 hx02 hy02 hx03 hy03 hd1 hx12 hy12 hx13 hy13 hd2 hx23 hy23 hd3
  have w0 : 4 * d0 * m0 = g * g * ((1) * (j0 * j0 + j1 * j1) + (1) * (j2 * j2 + j3 * j3) + (1) * (j4 * j4 + j5 * j5) + (1) * (j6 * j6 + j7 * j7)) := lw4 q0 kd0 kd1 kd2 kd3
  have w1 : 4 * d0 * m1 = g * g * ((1) * (j0 * j0 + j1 * j1) + (-1) * (j2 * j2 + j3 * j3) + (1) * (j4 * j4 + j5 * j5) + (-1) * (j6 * j6 + j7 * j7)) := lw4 q1 kd0 kd1 kd2 kd3
  have w2 : 4 * d0 * m2 = g * g * ((2) * (j0 * j2 + j1 * j3) + (2) * (j4 * j6 + j5 * j7)) := lw2 q2 kx01 kx23
  have w3 : 4 * d0 * m3 = g * g * ((2) * (j1 * j2 - j0 * j3) + (2) * (j5 * j6 - j4 * j7)) := lw2 q3 ky01 ky23
  have w4 : 4 * d0 * m4 = g * g * ((1) * (j0 * j0 + j1 * j1) + (1) * (j2 * j2 + j3 * j3) + (-1) * (j4 * j4 + j5 * j5) + (-1) * (j6 * j6 + j7 * j7)) := lw4 q4 kd0 kd1 kd2 kd3
  have w5 : 4 * d0 * m5 = g * g * ((1) * (j0 * j0 + j1 * j1) + (-1) * (j2 * j2 + j3 * j3) + (-1) * (j4 * j4 + j5 * j5) + (1) * (j6 * j6 + j7 * j7)) := lw4 q5 kd0 kd1 kd2 kd3
  have w6 : 4 * d0 * m6 = g * g * ((2) * (j0 * j2 + j1 * j3) + (-2) * (j4 * j6 + j5 * j7)) := lw2 q6 kx01 kx23
  have w7 : 4 * d0 * m7 = g * g * ((2) * (j1 * j2 - j0 * j3) + (-2) * (j5 * j6 - j4 * j7)) := lw2 q7 ky01 ky23
  have w8 : 4 * d0 * m8 = g * g * ((2) * (j0 * j4 + j1 * j5) + (2) * (j2 * j6 + j3 * j7)) := lw2 q8 kx02 kx13
  have w9 : 4 * d0 * m9 = g * g * ((2) * (j0 * j4 + j1 * j5) + (-2) * (j2 * j6 + j3 * j7)) := lw2 q9 kx02 kx13
  have w10 : 4 * d0 * m10 = g * g * ((2) * (j0 * j6 + j1 * j7) + (2) * (j2 * j4 + j3 * j5)) := lw2 q10 kx03 kx12
  have w11 : 4 * d0 * m11 = g * g * ((2) * (j1 * j6 - j0 * j7) + (-2) * (j3 * j4 - j2 * j5)) := lw2 q11 ky03 ky12
  have w12 : 4 * d0 * m12 = g * g * ((-2) * (j1 * j4 - j0 * j5) + (-2) * (j3 * j6 - j2 * j7)) := lw2 q12 ky02 ky13
  have w13 : 4 * d0 * m13 = g * g * ((-2) * (j1 * j4 - j0 * j5) + (2) * (j3 * j6 - j2 * j7)) := lw2 q13 ky02 ky13
  have w14 : 4 * d0 * m14 = g * g * ((-2) * (j1 * j6 - j0 * j7) + (-2) * (j3 * j4 - j2 * j5)) := lw2 q14 ky03 ky12
  have w15 : 4 * d0 * m15 = g * g * ((2) * (j0 * j6 + j1 * j7) + (-2) * (j2 * j4 + j3 * j5)) := lw2 q15 kx03 kx12
  clear kd0 kx01 ky01 kx02 ky02 kx03 ky03 kd1 kx12 ky12 kx13 ky13 kd2 kx23 ky23 kd3 q0 q1 q2 q3 q4 q5 q6 q7 q8 q9 q10 q11 q12 q13 q14 q15
  have hj : j0 ≠ 0 := by intro h; rw [h, Int.mul_zero] at c0; omega
  have n0 : 0 < (1) * (j0 * j0 + j1 * j1) + (1) * (j2 * j2 + j3 * j3) + (1) * (j4 * j4 + j5 * j5) + (1) * (j6 * j6 + j7 * j7) := by
    have s0 := sqn j0
    have s1 := sqn j1
    have s2 := sqn j2
    have s3 := sqn j3
    have s4 := sqn j4
    have s5 := sqn j5
    have s6 := sqn j6
    have s7 := sqn j7
    have sp : 0 < j0 * j0 := by
      rcases Int.lt_or_gt_of_ne hj with h | h
      · have := Int.mul_pos (show 0 < -j0 by omega) (show 0 < -j0 by omega)
        rwa [Int.neg_mul_neg] at this
      · exact Int.mul_pos h h
    omega
  have gg : 0 < g * g := Int.mul_pos hg hg
  have hm : 0 < m0 := by
    have h1 := Int.mul_pos gg n0
    rw [← w0] at h1
    by_cases h : 0 < m0
    · exact h
    · have := Int.mul_nonneg (show 0 ≤ 4 * d0 by omega) (show 0 ≤ -m0 by omega)
      rw [Int.mul_neg] at this; omega
  have E0 := prop_of (show (4 * d0 : Int) ≠ 0 by omega) w0 w0
  have E1 := prop_of (show (4 * d0 : Int) ≠ 0 by omega) w0 w1
  have E2 := prop_of (show (4 * d0 : Int) ≠ 0 by omega) w0 w2
  have E3 := prop_of (show (4 * d0 : Int) ≠ 0 by omega) w0 w3
  have E4 := prop_of (show (4 * d0 : Int) ≠ 0 by omega) w0 w4
  have E5 := prop_of (show (4 * d0 : Int) ≠ 0 by omega) w0 w5
  have E6 := prop_of (show (4 * d0 : Int) ≠ 0 by omega) w0 w6
  have E7 := prop_of (show (4 * d0 : Int) ≠ 0 by omega) w0 w7
  have E8 := prop_of (show (4 * d0 : Int) ≠ 0 by omega) w0 w8
  have E9 := prop_of (show (4 * d0 : Int) ≠ 0 by omega) w0 w9
  have E10 := prop_of (show (4 * d0 : Int) ≠ 0 by omega) w0 w10
  have E11 := prop_of (show (4 * d0 : Int) ≠ 0 by omega) w0 w11
  have E12 := prop_of (show (4 * d0 : Int) ≠ 0 by omega) w0 w12
  have E13 := prop_of (show (4 * d0 : Int) ≠ 0 by omega) w0 w13
  have E14 := prop_of (show (4 * d0 : Int) ≠ 0 by omega) w0 w14
  have E15 := prop_of (show (4 * d0 : Int) ≠ 0 by omega) w0 w15
  exact { b0 := b0, b1 := b1, b2 := b2, b3 := b3, b4 := b4, b5 := b5, b6 := b6, b7 := b7, npos := n0, mpos := hm, e0 := E0, l0 := bd0 j0 j1 j2 j3 j4 j5 j6 j7, e1 := E1, l1 := bd1 j0 j1 j2 j3 j4 j5 j6 j7, e2 := E2, l2 := bd2 j0 j1 j2 j3 j4 j5 j6 j7, e3 := E3, l3 := bd3 j0 j1 j2 j3 j4 j5 j6 j7, e4 := E4, l4 := bd4 j0 j1 j2 j3 j4 j5 j6 j7, e5 := E5, l5 := bd5 j0 j1 j2 j3 j4 j5 j6 j7, e6 := E6, l6 := bd6 j0 j1 j2 j3 j4 j5 j6 j7, e7 := E7, l7 := bd7 j0 j1 j2 j3 j4 j5 j6 j7, e8 := E8, l8 := bd8 j0 j1 j2 j3 j4 j5 j6 j7, e9 := E9, l9 := bd9 j0 j1 j2 j3 j4 j5 j6 j7, e10 := E10, l10 := bd10 j0 j1 j2 j3 j4 j5 j6 j7, e11 := E11, l11 := bd11 j0 j1 j2 j3 j4 j5 j6 j7, e12 := E12, l12 := bd12 j0 j1 j2 j3 j4 j5 j6 j7, e13 := E13, l13 := bd13 j0 j1 j2 j3 j4 j5 j6 j7, e14 := E14, l14 := bd14 j0 j1 j2 j3 j4 j5 j6 j7, e15 := E15, l15 := bd15 j0 j1 j2 j3 j4 j5 j6 j7 }
set_option maxHeartbeats 8000000 in
theorem comes1 {m0 m1 m2 m3 m4 m5 m6 m7 m8 m9 m10 m11 m12 m13 m14 m15 d0 d1 d2 d3 x01 y01 x02 y02 x03 y03 x12 y12 x13 y13 x23 y23 g j0 j1 j2 j3 j4 j5 j6 j7 : Int} (hd0 : d0 = (((m0 + m1) + m4) + m5)) (hx01 : x01 = (m2 + m6)) (hy01 : y01 = (m3 + m7)) (hx02 : x02 = (m8 + m9)) (hy02 : y02 = ((m12 * (-1)) + (m13 * (-1)))) (hx03 : x03 = (m10 + (0 - (m15 * (-1))))) (hy03 : y03 = (m11 + (m14 * (-1)))) (hd1 : d1 = (((m0 + (m1 * (-1))) + m4) + (m5 * (-1)))) (hx12 : x12 = (m10 + (0 - ((m15 * (-1)) * (-1))))) (hy12 : y12 = ((m11 * (-1)) + (m14 * (-1)))) (hx13 : x13 = (m8 + (m9 * (-1)))) (hy13 : y13 = ((m12 * (-1)) + ((m13 * (-1)) * (-1)))) (hd2 : d2 = (((m0 + m1) + (m4 * (-1))) + (m5 * (-1)))) (hx23 : x23 = (m2 + (m6 * (-1)))) (hy23 : y23 = (m3 + (m7 * (-1)))) (hd3 : d3 = (((m0 + (m1 * (-1))) + (m4 * (-1))) + ((m5 * (-1)) * (-1)))) (hp : Pure1 d0 d1 d2 d3 x01 y01 x02 y02 x03 y03 x12 y12 x13 y13 x23 y23) (hg : 0 < g) (c0 : x01 = g * j0) (c1 : y01 = g * j1) (c2 : d1 = g * j2) (c3 : 0 = g * j3) (c4 : x12 = g * j4) (c5 : (0 - y12) = g * j5) (c6 : x13 = g * j6) (c7 : (0 - y13) = g * j7) (b0 : -1000 ≤ j0 ∧ j0 ≤ 1000) (b1 : -1000 ≤ j1 ∧ j1 ≤ 1000) (b2 : -1000 ≤ j2 ∧ j2 ≤ 1000) (b3 : -1000 ≤ j3 ∧ j3 ≤ 1000) (b4 : -1000 ≤ j4 ∧ j4 ≤ 1000) (b5 : -1000 ≤ j5 ∧ j5 ≤ 1000) (b6 : -1000 ≤ j6 ∧ j6 ≤ 1000) (b7 : -1000 ≤ j7 ∧ j7 ≤ 1000)   : JBack m0 m1 m2 m3 m4 m5 m6 m7 m8 m9 m10 m11 m12 m13 m14 m15 j0 j1 j2 j3 j4 j5 j6 j7 := by
  have hpos := hp.pos
  have kd0 : d1 * d0 = g * g * (j0 * j0 + j1 * j1) := re_k hp.e0 c0 c1 c0 (by omega)
  have kx01 : d1 * x01 = g * g * (j0 * j2 + j1 * j3) := re_k hp.e2 c0 c1 c2 (by omega)
  have ky01 : d1 * y01 = g * g * (j1 * j2 - j0 * j3) := im_k hp.e3 c0 c1 c2 (by omega)
  have kx02 : d1 * x02 = g * g * (j0 * j4 + j1 * j5) := re_k hp.e4 c0 c1 c4 (by omega)
  have ky02 : d1 * y02 = g * g * (j1 * j4 - j0 * j5) := im_k hp.e5 c0 c1 c4 (by omega)
  have kx03 : d1 * x03 = g * g * (j0 * j6 + j1 * j7) := re_k hp.e6 c0 c1 c6 (by omega)
  have ky03 : d1 * y03 = g * g * (j1 * j6 - j0 * j7) := im_k hp.e7 c0 c1 c6 (by omega)
  have kd1 : d1 * d1 = g * g * (j2 * j2 + j3 * j3) := re_k hp.e10 c2 c3 c2 (by omega)
  have kx12 : d1 * x12 = g * g * (j2 * j4 + j3 * j5) := re_k hp.e12 c2 c3 c4 (by omega)
  have ky12 : d1 * y12 = g * g * (j3 * j4 - j2 * j5) := im_k hp.e13 c2 c3 c4 (by omega)
  have kx13 : d1 * x13 = g * g * (j2 * j6 + j3 * j7) := re_k hp.e14 c2 c3 c6 (by omega)
  have ky13 : d1 * y13 = g * g * (j3 * j6 - j2 * j7) := im_k hp.e15 c2 c3 c6 (by omega)
  have kd2 : d1 * d2 = g * g * (j4 * j4 + j5 * j5) := re_k hp.e20 c4 c5 c4 (by omega)
  have kx23 : d1 * x23 = g * g * (j4 * j6 + j5 * j7) := re_k hp.e22 c4 c5 c6 (by omega)
  have ky23 : d1 * y23 = g * g * (j5 * j6 - j4 * j7) := im_k hp.e23 c4 c5 c6 (by omega)
  have kd3 : d1 * d3 = g * g * (j6 * j6 + j7 * j7) := re_k hp.e30 c6 c7 c6 (by omega)
  have q0 : 4 * m0 = (1) * d0 + (1) * d1 + (1) * d2 + (1) * d3 := by omega
  have q1 : 4 * m1 = (1) * d0 + (-1) * d1 + (1) * d2 + (-1) * d3 := by omega
  have q2 : 4 * m2 = (2) * x01 + (2) * x23 := by omega
  have q3 : 4 * m3 = (2) * y01 + (2) * y23 := by omega
  have q4 : 4 * m4 = (1) * d0 + (1) * d1 + (-1) * d2 + (-1) * d3 := by omega
  have q5 : 4 * m5 = (1) * d0 + (-1) * d1 + (-1) * d2 + (1) * d3 := by omega
  have q6 : 4 * m6 = (2) * x01 + (-2) * x23 := by omega
  have q7 : 4 * m7 = (2) * y01 + (-2) * y23 := by omega
  have q8 : 4 * m8 = (2) * x02 + (2) * x13 := by omega
  have q9 : 4 * m9 = (2) * x02 + (-2) * x13 := by omega
  have q10 : 4 * m10 = (2) * x03 + (2) * x12 := by omega
  have q11 : 4 * m11 = (2) * y03 + (-2) * y12 := by omega
  have q12 : 4 * m12 = (-2) * y02 + (-2) * y13 := by omega
  have q13 : 4 * m13 = (-2) * y02 + (2) * y13 := by omega
  have q14 : 4 * m14 = (-2) * y03 + (-2) * y12 := by omega
  have q15 : 4 * m15 = (2) * x03 + (-2) * x12 := by omega
  clear hd0 hx01 hy01 hx02 hy02 hx03 hy03 hd1 hx12 hy12 hx13 hy13 hd2 hx23 hy23 hd3
  have w0 : 4 * d1 * m0 = g * g * ((1) * (j0 * j0 + j1 * j1) + (1) * (j2 * j2 + j3 * j3) + (1) * (j4 * j4 + j5 * j5) + (1) * (j6 * j6 + j7 * j7)) := lw4 q0 kd0 kd1 kd2 kd3
  have w1 : 4 * d1 * m1 = g * g * ((1) * (j0 * j0 + j1 * j1) + (-1) * (j2 * j2 + j3 * j3) + (1) * (j4 * j4 + j5 * j5) + (-1) * (j6 * j6 + j7 * j7)) := lw4 q1 kd0 kd1 kd2 kd3
  have w2 : 4 * d1 * m2 = g * g * ((2) * (j0 * j2 + j1 * j3) + (2) * (j4 * j6 + j5 * j7)) := lw2 q2 kx01 kx23
  have w3 : 4 * d1 * m3 = g * g * ((2) * (j1 * j2 - j0 * j3) + (2) * (j5 * j6 - j4 * j7)) := lw2 q3 ky01 ky23
  have w4 : 4 * d1 * m4 = g * g * ((1) * (j0 * j0 + j1 * j1) + (1) * (j2 * j2 + j3 * j3) + (-1) * (j4 * j4 + j5 * j5) + (-1) * (j6 * j6 + j7 * j7)) := lw4 q4 kd0 kd1 kd2 kd3
  have w5 : 4 * d1 * m5 = g * g * ((1) * (j0 * j0 + j1 * j1) + (-1) * (j2 * j2 + j3 * j3) + (-1) * (j4 * j4 + j5 * j5) + (1) * (j6 * j6 + j7 * j7)) := lw4 q5 kd0 kd1 kd2 kd3
  have w6 : 4 * d1 * m6 = g * g * ((2) * (j0 * j2 + j1 * j3) + (-2) * (j4 * j6 + j5 * j7)) := lw2 q6 kx01 kx23
  have w7 : 4 * d1 * m7 = g * g * ((2) * (j1 * j2 - j0 * j3) + (-2) * (j5 * j6 - j4 * j7)) := lw2 q7 ky01 ky23
  have w8 : 4 * d1 * m8 = g * g * ((2) * (j0 * j4 + j1 * j5) + (2) * (j2 * j6 + j3 * j7)) := lw2 q8 kx02 kx13
  have w9 : 4 * d1 * m9 = g * g * ((2) * (j0 * j4 + j1 * j5) + (-2) * (j2 * j6 + j3 * j7)) := lw2 q9 kx02 kx13
  have w10 : 4 * d1 * m10 = g * g * ((2) * (j0 * j6 + j1 * j7) + (2) * (j2 * j4 + j3 * j5)) := lw2 q10 kx03 kx12
  have w11 : 4 * d1 * m11 = g * g * ((2) * (j1 * j6 - j0 * j7) + (-2) * (j3 * j4 - j2 * j5)) := lw2 q11 ky03 ky12
  have w12 : 4 * d1 * m12 = g * g * ((-2) * (j1 * j4 - j0 * j5) + (-2) * (j3 * j6 - j2 * j7)) := lw2 q12 ky02 ky13
  have w13 : 4 * d1 * m13 = g * g * ((-2) * (j1 * j4 - j0 * j5) + (2) * (j3 * j6 - j2 * j7)) := lw2 q13 ky02 ky13
  have w14 : 4 * d1 * m14 = g * g * ((-2) * (j1 * j6 - j0 * j7) + (-2) * (j3 * j4 - j2 * j5)) := lw2 q14 ky03 ky12
  have w15 : 4 * d1 * m15 = g * g * ((2) * (j0 * j6 + j1 * j7) + (-2) * (j2 * j4 + j3 * j5)) := lw2 q15 kx03 kx12
  clear kd0 kx01 ky01 kx02 ky02 kx03 ky03 kd1 kx12 ky12 kx13 ky13 kd2 kx23 ky23 kd3 q0 q1 q2 q3 q4 q5 q6 q7 q8 q9 q10 q11 q12 q13 q14 q15
  have hj : j2 ≠ 0 := by intro h; rw [h, Int.mul_zero] at c2; omega
  have n0 : 0 < (1) * (j0 * j0 + j1 * j1) + (1) * (j2 * j2 + j3 * j3) + (1) * (j4 * j4 + j5 * j5) + (1) * (j6 * j6 + j7 * j7) := by
    have s0 := sqn j0
    have s1 := sqn j1
    have s2 := sqn j2
    have s3 := sqn j3
    have s4 := sqn j4
    have s5 := sqn j5
    have s6 := sqn j6
    have s7 := sqn j7
    have sp : 0 < j2 * j2 := by
      rcases Int.lt_or_gt_of_ne hj with h | h
      · have := Int.mul_pos (show 0 < -j2 by omega) (show 0 < -j2 by omega)
        rwa [Int.neg_mul_neg] at this
      · exact Int.mul_pos h h
    omega
  have gg : 0 < g * g := Int.mul_pos hg hg
  have hm : 0 < m0 := by
    have h1 := Int.mul_pos gg n0
    rw [← w0] at h1
    by_cases h : 0 < m0
    · exact h
    · have := Int.mul_nonneg (show 0 ≤ 4 * d1 by omega) (show 0 ≤ -m0 by omega)
      rw [Int.mul_neg] at this; omega
  have E0 := prop_of (show (4 * d1 : Int) ≠ 0 by omega) w0 w0
  have E1 := prop_of (show (4 * d1 : Int) ≠ 0 by omega) w0 w1
  have E2 := prop_of (show (4 * d1 : Int) ≠ 0 by omega) w0 w2
  have E3 := prop_of (show (4 * d1 : Int) ≠ 0 by omega) w0 w3
  have E4 := prop_of (show (4 * d1 : Int) ≠ 0 by omega) w0 w4
  have E5 := prop_of (show (4 * d1 : Int) ≠ 0 by omega) w0 w5
  have E6 := prop_of (show (4 * d1 : Int) ≠ 0 by omega) w0 w6
  have E7 := prop_of (show (4 * d1 : Int) ≠ 0 by omega) w0 w7
  have E8 := prop_of (show (4 * d1 : Int) ≠ 0 by omega) w0 w8
  have E9 := prop_of (show (4 * d1 : Int) ≠ 0 by omega) w0 w9
  have E10 := prop_of (show (4 * d1 : Int) ≠ 0 by omega) w0 w10
  have E11 := prop_of (show (4 * d1 : Int) ≠ 0 by omega) w0 w11
  have E12 := prop_of (show (4 * d1 : Int) ≠ 0 by omega) w0 w12
  have E13 := prop_of (show (4 * d1 : Int) ≠ 0 by omega) w0 w13
  have E14 := prop_of (show (4 * d1 : Int) ≠ 0 by omega) w0 w14
  have E15 := prop_of (show (4 * d1 : Int) ≠ 0 by omega) w0 w15
  exact { b0 := b0, b1 := b1, b2 := b2, b3 := b3, b4 := b4, b5 := b5, b6 := b6, b7 := b7, npos := n0, mpos := hm, e0 := E0, l0 := bd0 j0 j1 j2 j3 j4 j5 j6 j7, e1 := E1, l1 := bd1 j0 j1 j2 j3 j4 j5 j6 j7, e2 := E2, l2 := bd2 j0 j1 j2 j3 j4 j5 j6 j7, e3 := E3, l3 := bd3 j0 j1 j2 j3 j4 j5 j6 j7, e4 := E4, l4 := bd4 j0 j1 j2 j3 j4 j5 j6 j7, e5 := E5, l5 := bd5 j0 j1 j2 j3 j4 j5 j6 j7, e6 := E6, l6 := bd6 j0 j1 j2 j3 j4 j5 j6 j7, e7 := E7, l7 := bd7 j0 j1 j2 j3 j4 j5 j6 j7, e8 := E8, l8 := bd8 j0 j1 j2 j3 j4 j5 j6 j7, e9 := E9, l9 := bd9 j0 j1 j2 j3 j4 j5 j6 j7, e10 := E10, l10 := bd10 j0 j1 j2 j3 j4 j5 j6 j7, e11 := E11, l11 := bd11 j0 j1 j2 j3 j4 j5 j6 j7, e12 := E12, l12 := bd12 j0 j1 j2 j3 j4 j5 j6 j7, e13 := E13, l13 := bd13 j0 j1 j2 j3 j4 j5 j6 j7, e14 := E14, l14 := bd14 j0 j1 j2 j3 j4 j5 j6 j7, e15 := E15, l15 := bd15 j0 j1 j2 j3 j4 j5 j6 j7 }
set_option maxHeartbeats 8000000 in
theorem comes2 {m0 m1 m2 m3 m4 m5 m6 m7 m8 m9 m10 m11 m12 m13 m14 m15 d0 d1 d2 d3 x01 y01 x02 y02 x03 y03 x12 y12 x13 y13 x23 y23 g j0 j1 j2 j3 j4 j5 j6 j7 : Int} (hd0 : d0 = (((m0 + m1) + m4) + m5)) (hx01 : x01 = (m2 + m6)) (hy01 : y01 = (m3 + m7)) (hx02 : x02 = (m8 + m9)) (hy02 : y02 = ((m12 * (-1)) + (m13 * (-1)))) (hx03 : x03 = (m10 + (0 - (m15 * (-1))))) (hy03 : y03 = (m11 + (m14 * (-1)))) (hd1 : d1 = (((m0 + (m1 * (-1))) + m4) + (m5 * (-1)))) (hx12 : x12 = (m10 + (0 - ((m15 * (-1)) * (-1))))) (hy12 : y12 = ((m11 * (-1)) + (m14 * (-1)))) (hx13 : x13 = (m8 + (m9 * (-1)))) (hy13 : y13 = ((m12 * (-1)) + ((m13 * (-1)) * (-1)))) (hd2 : d2 = (((m0 + m1) + (m4 * (-1))) + (m5 * (-1)))) (hx23 : x23 = (m2 + (m6 * (-1)))) (hy23 : y23 = (m3 + (m7 * (-1)))) (hd3 : d3 = (((m0 + (m1 * (-1))) + (m4 * (-1))) + ((m5 * (-1)) * (-1)))) (hp : Pure2 d0 d1 d2 d3 x01 y01 x02 y02 x03 y03 x12 y12 x13 y13 x23 y23) (hg : 0 < g) (c0 : x02 = g * j0) (c1 : y02 = g * j1) (c2 : x12 = g * j2) (c3 : y12 = g * j3) (c4 : d2 = g * j4) (c5 : 0 = g * j5) (c6 : x23 = g * j6) (c7 : (0 - y23) = g * j7) (b0 : -1000 ≤ j0 ∧ j0 ≤ 1000) (b1 : -1000 ≤ j1 ∧ j1 ≤ 1000) (b2 : -1000 ≤ j2 ∧ j2 ≤ 1000) (b3 : -1000 ≤ j3 ∧ j3 ≤ 1000) (b4 : -1000 ≤ j4 ∧ j4 ≤ 1000) (b5 : -1000 ≤ j5 ∧ j5 ≤ 1000) (b6 : -1000 ≤ j6 ∧ j6 ≤ 1000) (b7 : -1000 ≤ j7 ∧ j7 ≤ 1000)   : JBack m0 m1 m2 m3 m4 m5 m6 m7 m8 m9 m10 m11 m12 m13 m14 m15 j0 j1 j2 j3 j4 j5 j6 j7 := by
  have hpos := hp.pos
  have kd0 : d2 * d0 = g * g * (j0 * j0 + j1 * j1) := re_k hp.e0 c0 c1 c0 (by omega)
  have kx01 : d2 * x01 = g * g * (j0 * j2 + j1 * j3) := re_k hp.e2 c0 c1 c2 (by omega)
  have ky01 : d2 * y01 = g * g * (j1 * j2 - j0 * j3) := im_k hp.e3 c0 c1 c2 (by omega)
  have kx02 : d2 * x02 = g * g * (j0 * j4 + j1 * j5) := re_k hp.e4 c0 c1 c4 (by omega)
  have ky02 : d2 * y02 = g * g * (j1 * j4 - j0 * j5) := im_k hp.e5 c0 c1 c4 (by omega)
  have kx03 : d2 * x03 = g * g * (j0 * j6 + j1 * j7) := re_k hp.e6 c0 c1 c6 (by omega)
  have ky03 : d2 * y03 = g * g * (j1 * j6 - j0 * j7) := im_k hp.e7 c0 c1 c6 (by omega)
  have kd1 : d2 * d1 = g * g * (j2 * j2 + j3 * j3) := re_k hp.e10 c2 c3 c2 (by omega)
  have kx12 : d2 * x12 = g * g * (j2 * j4 + j3 * j5) := re_k hp.e12 c2 c3 c4 (by omega)
  have ky12 : d2 * y12 = g * g * (j3 * j4 - j2 * j5) := im_k hp.e13 c2 c3 c4 (by omega)
  have kx13 : d2 * x13 = g * g * (j2 * j6 + j3 * j7) := re_k hp.e14 c2 c3 c6 (by omega)
  have ky13 : d2 * y13 = g * g * (j3 * j6 - j2 * j7) := im_k hp.e15 c2 c3 c6 (by omega)
  have kd2 : d2 * d2 = g * g * (j4 * j4 + j5 * j5) := re_k hp.e20 c4 c5 c4 (by omega)
  have kx23 : d2 * x23 = g * g * (j4 * j6 + j5 * j7) := re_k hp.e22 c4 c5 c6 (by omega)
  have ky23 : d2 * y23 = g * g * (j5 * j6 - j4 * j7) := im_k hp.e23 c4 c5 c6 (by omega)
  have kd3 : d2 * d3 = g * g * (j6 * j6 + j7 * j7) := re_k hp.e30 c6 c7 c6 (by omega)
  have q0 : 4 * m0 = (1) * d0 + (1) * d1 + (1) * d2 + (1) * d3 := by omega
  have q1 : 4 * m1 = (1) * d0 + (-1) * d1 + (1) * d2 + (-1) * d3 := by omega
  have q2 : 4 * m2 = (2) * x01 + (2) * x23 := by omega
  have q3 : 4 * m3 = (2) * y01 + (2) * y23 := by omega
  have q4 : 4 * m4 = (1) * d0 + (1) * d1 + (-1) * d2 + (-1) * d3 := by omega
  have q5 : 4 * m5 = (1) * d0 + (-1) * d1 + (-1) * d2 + (1) * d3 := by omega
  have q6 : 4 * m6 = (2) * x01 + (-2) * x23 := by omega
  have q7 : 4 * m7 = (2) * y01 + (-2) * y23 := by omega
  have q8 : 4 * m8 = (2) * x02 + (2) * x13 := by omega
  have q9 : 4 * m9 = (2) * x02 + (-2) * x13 := by omega
  have q10 : 4 * m10 = (2) * x03 + (2) * x12 := by omega
  have q11 : 4 * m11 = (2) * y03 + (-2) * y12 := by omega
  have q12 : 4 * m12 = (-2) * y02 + (-2) * y13 := by omega
  have q13 : 4 * m13 = (-2) * y02 + (2) * y13 := by omega
  have q14 : 4 * m14 = (-2) * y03 + (-2) * y12 := by omega
  have q15 : 4 * m15 = (2) * x03 + (-2) * x12 := by omega
  clear hd0 hx01 hy01 hx02 hy02 hx03 hy03 hd1 hx12 hy12 hx13 hy13 hd2 hx23 hy23 hd3
  have w0 : 4 * d2 * m0 = g * g * ((1) * (j0 * j0 + j1 * j1) + (1) * (j2 * j2 + j3 * j3) + (1) * (j4 * j4 + j5 * j5) + (1) * (j6 * j6 + j7 * j7)) := lw4 q0 kd0 kd1 kd2 kd3
  have w1 : 4 * d2 * m1 = g * g * ((1) * (j0 * j0 + j1 * j1) + (-1) * (j2 * j2 + j3 * j3) + (1) * (j4 * j4 + j5 * j5) + (-1) * (j6 * j6 + j7 * j7)) := lw4 q1 kd0 kd1 kd2 kd3
  have w2 : 4 * d2 * m2 = g * g * ((2) * (j0 * j2 + j1 * j3) + (2) * (j4 * j6 + j5 * j7)) := lw2 q2 kx01 kx23
  have w3 : 4 * d2 * m3 = g * g * ((2) * (j1 * j2 - j0 * j3) + (2) * (j5 * j6 - j4 * j7)) := lw2 q3 ky01 ky23
  have w4 : 4 * d2 * m4 = g * g * ((1) * (j0 * j0 + j1 * j1) + (1) * (j2 * j2 + j3 * j3) + (-1) * (j4 * j4 + j5 * j5) + (-1) * (j6 * j6 + j7 * j7)) := lw4 q4 kd0 kd1 kd2 kd3
  have w5 : 4 * d2 * m5 = g * g * ((1) * (j0 * j0 + j1 * j1) + (-1) * (j2 * j2 + j3 * j3) + (-1) * (j4 * j4 + j5 * j5) + (1) * (j6 * j6 + j7 * j7)) := lw4 q5 kd0 kd1 kd2 kd3
  have w6 : 4 * d2 * m6 = g * g * ((2) * (j0 * j2 + j1 * j3) + (-2) * (j4 * j6 + j5 * j7)) := lw2 q6 kx01 kx23
  have w7 : 4 * d2 * m7 = g * g * ((2) * (j1 * j2 - j0 * j3) + (-2) * (j5 * j6 - j4 * j7)) := lw2 q7 ky01 ky23
  have w8 : 4 * d2 * m8 = g * g * ((2) * (j0 * j4 + j1 * j5) + (2) * (j2 * j6 + j3 * j7)) := lw2 q8 kx02 kx13
  have w9 : 4 * d2 * m9 = g * g * ((2) * (j0 * j4 + j1 * j5) + (-2) * (j2 * j6 + j3 * j7)) := lw2 q9 kx02 kx13
  have w10 : 4 * d2 * m10 = g * g * ((2) * (j0 * j6 + j1 * j7) + (2) * (j2 * j4 + j3 * j5)) := lw2 q10 kx03 kx12
  have w11 : 4 * d2 * m11 = g * g * ((2) * (j1 * j6 - j0 * j7) + (-2) * (j3 * j4 - j2 * j5)) := lw2 q11 ky03 ky12
  have w12 : 4 * d2 * m12 = g * g * ((-2) * (j1 * j4 - j0 * j5) + (-2) * (j3 * j6 - j2 * j7)) := lw2 q12 ky02 ky13
  have w13 : 4 * d2 * m13 = g * g * ((-2) * (j1 * j4 - j0 * j5) + (2) * (j3 * j6 - j2 * j7)) := lw2 q13 ky02 ky13
  have w14 : 4 * d2 * m14 = g * g * ((-2) * (j1 * j6 - j0 * j7) + (-2) * (j3 * j4 - j2 * j5)) := lw2 q14 ky03 ky12
  have w15 : 4 * d2 * m15 = g * g * ((2) * (j0 * j6 + j1 * j7) + (-2) * (j2 * j4 + j3 * j5)) := lw2 q15 kx03 kx12
  clear kd0 kx01 ky01 kx02 ky02 kx03 ky03 kd1 kx12 ky12 kx13 ky13 kd2 kx23 ky23 kd3 q0 q1 q2 q3 q4 q5 q6 q7 q8 q9 q10 q11 q12 q13 q14 q15
  have hj : j4 ≠ 0 := by intro h; rw [h, Int.mul_zero] at c4; omega
  have n0 : 0 < (1) * (j0 * j0 + j1 * j1) + (1) * (j2 * j2 + j3 * j3) + (1) * (j4 * j4 + j5 * j5) + (1) * (j6 * j6 + j7 * j7) := by
    have s0 := sqn j0
    have s1 := sqn j1
    have s2 := sqn j2
    have s3 := sqn j3
    have s4 := sqn j4
    have s5 := sqn j5
    have s6 := sqn j6
    have s7 := sqn j7
    have sp : 0 < j4 * j4 := by
      rcases Int.lt_or_gt_of_ne hj with h | h
      · have := Int.mul_pos (show 0 < -j4 by omega) (show 0 < -j4 by omega)
        rwa [Int.neg_mul_neg] at this
      · exact Int.mul_pos h h
    omega
  have gg : 0 < g * g := Int.mul_pos hg hg
  have hm : 0 < m0 := by
    have h1 := Int.mul_pos gg n0
    rw [← w0] at h1
    by_cases h : 0 < m0
    · exact h
    · have := Int.mul_nonneg (show 0 ≤ 4 * d2 by omega) (show 0 ≤ -m0 by omega)
      rw [Int.mul_neg] at this; omega
  have E0 := prop_of (show (4 * d2 : Int) ≠ 0 by omega) w0 w0
  have E1 := prop_of (show (4 * d2 : Int) ≠ 0 by omega) w0 w1
  have E2 := prop_of (show (4 * d2 : Int) ≠ 0 by omega) w0 w2
  have E3 := prop_of (show (4 * d2 : Int) ≠ 0 by omega) w0 w3
  have E4 := prop_of (show (4 * d2 : Int) ≠ 0 by omega) w0 w4
  have E5 := prop_of (show (4 * d2 : Int) ≠ 0 by omega) w0 w5
  have E6 := prop_of (show (4 * d2 : Int) ≠ 0 by omega) w0 w6
  have E7 := prop_of (show (4 * d2 : Int) ≠ 0 by omega) w0 w7
  have E8 := prop_of (show (4 * d2 : Int) ≠ 0 by omega) w0 w8
  have E9 := prop_of (show (4 * d2 : Int) ≠ 0 by omega) w0 w9
  have E10 := prop_of (show (4 * d2 : Int) ≠ 0 by omega) w0 w10
  have E11 := prop_of (show (4 * d2 : Int) ≠ 0 by omega) w0 w11
  have E12 := prop_of (show (4 * d2 : Int) ≠ 0 by omega) w0 w12
  have E13 := prop_of (show (4 * d2 : Int) ≠ 0 by omega) w0 w13
  have E14 := prop_of (show (4 * d2 : Int) ≠ 0 by omega) w0 w14
  have E15 := prop_of (show (4 * d2 : Int) ≠ 0 by omega) w0 w15
  exact { b0 := b0, b1 := b1, b2 := b2, b3 := b3, b4 := b4, b5 := b5, b6 := b6, b7 := b7, npos := n0, mpos := hm, e0 := E0, l0 := bd0 j0 j1 j2 j3 j4 j5 j6 j7, e1 := E1, l1 := bd1 j0 j1 j2 j3 j4 j5 j6 j7, e2 := E2, l2 := bd2 j0 j1 j2 j3 j4 j5 j6 j7, e3 := E3, l3 := bd3 j0 j1 j2 j3 j4 j5 j6 j7, e4 := E4, l4 := bd4 j0 j1 j2 j3 j4 j5 j6 j7, e5 := E5, l5 := bd5 j0 j1 j2 j3 j4 j5 j6 j7, e6 := E6, l6 := bd6 j0 j1 j2 j3 j4 j5 j6 j7, e7 := E7, l7 := bd7 j0 j1 j2 j3 j4 j5 j6 j7, e8 := E8, l8 := bd8 j0 j1 j2 j3 j4 j5 j6 j7, e9 := E9, l9 := bd9 j0 j1 j2 j3 j4 j5 j6 j7, e10 := E10, l10 := bd10 j0 j1 j2 j3 j4 j5 j6 j7, e11 := E11, l11 := bd11 j0 j1 j2 j3 j4 j5 j6 j7, e12 := E12, l12 := bd12 j0 j1 j2 j3 j4 j5 j6 j7, e13 := E13, l13 := bd13 j0 j1 j2 j3 j4 j5 j6 j7, e14 := E14, l14 := bd14 j0 j1 j2 j3 j4 j5 j6 j7, e15 := E15, l15 := bd15 j0 j1 j2 j3 j4 j5 j6 j7 }
set_option maxHeartbeats 8000000 in
theorem comes3 {m0 m1 m2 m3 m4 m5 m6 m7 m8 m9 m10 m11 m12 m13 m14 m15 d0 d1 d2 d3 x01 y01 x02 y02 x03 y03 x12 y12 x13 y13 x23 y23 g j0 j1 j2 j3 j4 j5 j6 j7 : Int} (hd0 : d0 = (((m0 + m1) + m4) + m5)) (hx01 : x01 = (m2 + m6)) (hy01 : y01 = (m3 + m7)) (hx02 : x02 = (m8 + m9)) (hy02 : y02 = ((m12 * (-1)) + (m13 * (-1)))) (hx03 : x03 = (m10 + (0 - (m15 * (-1))))) (hy03 : y03 = (m11 + (m14 * (-1)))) (hd1 : d1 = (((m0 + (m1 * (-1))) + m4) + (m5 * (-1)))) (hx12 : x12 = (m10 + (0 - ((m15 * (-1)) * (-1))))) (hy12 : y12 = ((m11 * (-1)) + (m14 * (-1)))) (hx13 : x13 = (m8 + (m9 * (-1)))) (hy13 : y13 = ((m12 * (-1)) + ((m13 * (-1)) * (-1)))) (hd2 : d2 = (((m0 + m1) + (m4 * (-1))) + (m5 * (-1)))) (hx23 : x23 = (m2 + (m6 * (-1)))) (hy23 : y23 = (m3 + (m7 * (-1)))) (hd3 : d3 = (((m0 + (m1 * (-1))) + (m4 * (-1))) + ((m5 * (-1)) * (-1)))) (hp : Pure3 d0 d1 d2 d3 x01 y01 x02 y02 x03 y03 x12 y12 x13 y13 x23 y23) (hg : 0 < g) (c0 : x03 = g * j0) (c1 : y03 = g * j1) (c2 : x13 = g * j2) (c3 : y13 = g * j3) (c4 : x23 = g * j4) (c5 : y23 = g * j5) (c6 : d3 = g * j6) (c7 : 0 = g * j7) (b0 : -1000 ≤ j0 ∧ j0 ≤ 1000) (b1 : -1000 ≤ j1 ∧ j1 ≤ 1000) (b2 : -1000 ≤ j2 ∧ j2 ≤ 1000) (b3 : -1000 ≤ j3 ∧ j3 ≤ 1000) (b4 : -1000 ≤ j4 ∧ j4 ≤ 1000) (b5 : -1000 ≤ j5 ∧ j5 ≤ 1000) (b6 : -1000 ≤ j6 ∧ j6 ≤ 1000) (b7 : -1000 ≤ j7 ∧ j7 ≤ 1000)   : JBack m0 m1 m2 m3 m4 m5 m6 m7 m8 m9 m10 m11 m12 m13 m14 m15 j0 j1 j2 j3 j4 j5 j6 j7 := by
  have hpos := hp.pos
  have kd0 : d3 * d0 = g * g * (j0 * j0 + j1 * j1) := re_k hp.e0 c0 c1 c0 (by omega)
  have kx01 : d3 * x01 = g * g * (j0 * j2 + j1 * j3) := re_k hp.e2 c0 c1 c2 (by omega)
  have ky01 : d3 * y01 = g * g * (j1 * j2 - j0 * j3) := im_k hp.e3 c0 c1 c2 (by omega)
  have kx02 : d3 * x02 = g * g * (j0 * j4 + j1 * j5) := re_k hp.e4 c0 c1 c4 (by omega)
  have ky02 : d3 * y02 = g * g * (j1 * j4 - j0 * j5) := im_k hp.e5 c0 c1 c4 (by omega)
  have kx03 : d3 * x03 = g * g * (j0 * j6 + j1 * j7) := re_k hp.e6 c0 c1 c6 (by omega)
  have ky03 : d3 * y03 = g * g * (j1 * j6 - j0 * j7) := im_k hp.e7 c0 c1 c6 (by omega)
  have kd1 : d3 * d1 = g * g * (j2 * j2 + j3 * j3) := re_k hp.e10 c2 c3 c2 (by omega)
  have kx12 : d3 * x12 = g * g * (j2 * j4 + j3 * j5) := re_k hp.e12 c2 c3 c4 (by omega)
  have ky12 : d3 * y12 = g * g * (j3 * j4 - j2 * j5) := im_k hp.e13 c2 c3 c4 (by omega)
  have kx13 : d3 * x13 = g * g * (j2 * j6 + j3 * j7) := re_k hp.e14 c2 c3 c6 (by omega)
  have ky13 : d3 * y13 = g * g * (j3 * j6 - j2 * j7) := im_k hp.e15 c2 c3 c6 (by omega)
  have kd2 : d3 * d2 = g * g * (j4 * j4 + j5 * j5) := re_k hp.e20 c4 c5 c4 (by omega)
  have kx23 : d3 * x23 = g * g * (j4 * j6 + j5 * j7) := re_k hp.e22 c4 c5 c6 (by omega)
  have ky23 : d3 * y23 = g * g * (j5 * j6 - j4 * j7) := im_k hp.e23 c4 c5 c6 (by omega)
  have kd3 : d3 * d3 = g * g * (j6 * j6 + j7 * j7) := re_k hp.e30 c6 c7 c6 (by omega)
  have q0 : 4 * m0 = (1) * d0 + (1) * d1 + (1) * d2 + (1) * d3 := by omega
  have q1 : 4 * m1 = (1) * d0 + (-1) * d1 + (1) * d2 + (-1) * d3 := by omega
  have q2 : 4 * m2 = (2) * x01 + (2) * x23 := by omega
  have q3 : 4 * m3 = (2) * y01 + (2) * y23 := by omega
  have q4 : 4 * m4 = (1) * d0 + (1) * d1 + (-1) * d2 + (-1) * d3 := by omega
  have q5 : 4 * m5 = (1) * d0 + (-1) * d1 + (-1) * d2 + (1) * d3 := by omega
  have q6 : 4 * m6 = (2) * x01 + (-2) * x23 := by omega
  have q7 : 4 * m7 = (2) * y01 + (-2) * y23 := by omega
  have q8 : 4 * m8 = (2) * x02 + (2) * x13 := by omega
  have q9 : 4 * m9 = (2) * x02 + (-2) * x13 := by omega
  have q10 : 4 * m10 = (2) * x03 + (2) * x12 := by omega
  have q11 : 4 * m11 = (2) * y03 + (-2) * y12 := by omega
  have q12 : 4 * m12 = (-2) * y02 + (-2) * y13 := by omega
  have q13 : 4 * m13 = (-2) * y02 + (2) * y13 := by omega
  have q14 : 4 * m14 = (-2) * y03 + (-2) * y12 := by omega
  have q15 : 4 * m15 = (2) * x03 + (-2) * x12 := by omega
  clear hd0 hx01 hy01 hx02 hy02 hx03 hy03 hd1 hx12 hy12 hx13 hy13 hd2 hx23 hy23 hd3
  have w0 : 4 * d3 * m0 = g * g * ((1) * (j0 * j0 + j1 * j1) + (1) * (j2 * j2 + j3 * j3) + (1) * (j4 * j4 + j5 * j5) + (1) * (j6 * j6 + j7 * j7)) := lw4 q0 kd0 kd1 kd2 kd3
  have w1 : 4 * d3 * m1 = g * g * ((1) * (j0 * j0 + j1 * j1) + (-1) * (j2 * j2 + j3 * j3) + (1) * (j4 * j4 + j5 * j5) + (-1) * (j6 * j6 + j7 * j7)) := lw4 q1 kd0 kd1 kd2 kd3
  have w2 : 4 * d3 * m2 = g * g * ((2) * (j0 * j2 + j1 * j3) + (2) * (j4 * j6 + j5 * j7)) := lw2 q2 kx01 kx23
  have w3 : 4 * d3 * m3 = g * g * ((2) * (j1 * j2 - j0 * j3) + (2) * (j5 * j6 - j4 * j7)) := lw2 q3 ky01 ky23
  have w4 : 4 * d3 * m4 = g * g * ((1) * (j0 * j0 + j1 * j1) + (1) * (j2 * j2 + j3 * j3) + (-1) * (j4 * j4 + j5 * j5) + (-1) * (j6 * j6 + j7 * j7)) := lw4 q4 kd0 kd1 kd2 kd3
  have w5 : 4 * d3 * m5 = g * g * ((1) * (j0 * j0 + j1 * j1) + (-1) * (j2 * j2 + j3 * j3) + (-1) * (j4 * j4 + j5 * j5) + (1) * (j6 * j6 + j7 * j7)) := lw4 q5 kd0 kd1 kd2 kd3
  have w6 : 4 * d3 * m6 = g * g * ((2) * (j0 * j2 + j1 * j3) + (-2) * (j4 * j6 + j5 * j7)) := lw2 q6 kx01 kx23
  have w7 : 4 * d3 * m7 = g * g * ((2) * (j1 * j2 - j0 * j3) + (-2) * (j5 * j6 - j4 * j7)) := lw2 q7 ky01 ky23
  have w8 : 4 * d3 * m8 = g * g * ((2) * (j0 * j4 + j1 * j5) + (2) * (j2 * j6 + j3 * j7)) := lw2 q8 kx02 kx13
  have w9 : 4 * d3 * m9 = g * g * ((2) * (j0 * j4 + j1 * j5) + (-2) * (j2 * j6 + j3 * j7)) := lw2 q9 kx02 kx13
  have w10 : 4 * d3 * m10 = g * g * ((2) * (j0 * j6 + j1 * j7) + (2) * (j2 * j4 + j3 * j5)) := lw2 q10 kx03 kx12
  have w11 : 4 * d3 * m11 = g * g * ((2) * (j1 * j6 - j0 * j7) + (-2) * (j3 * j4 - j2 * j5)) := lw2 q11 ky03 ky12
  have w12 : 4 * d3 * m12 = g * g * ((-2) * (j1 * j4 - j0 * j5) + (-2) * (j3 * j6 - j2 * j7)) := lw2 q12 ky02 ky13
  have w13 : 4 * d3 * m13 = g * g * ((-2) * (j1 * j4 - j0 * j5) + (2) * (j3 * j6 - j2 * j7)) := lw2 q13 ky02 ky13
  have w14 : 4 * d3 * m14 = g * g * ((-2) * (j1 * j6 - j0 * j7) + (-2) * (j3 * j4 - j2 * j5)) := lw2 q14 ky03 ky12
  have w15 : 4 * d3 * m15 = g * g * ((2) * (j0 * j6 + j1 * j7) + (-2) * (j2 * j4 + j3 * j5)) := lw2 q15 kx03 kx12
  clear kd0 kx01 ky01 kx02 ky02 kx03 ky03 kd1 kx12 ky12 kx13 ky13 kd2 kx23 ky23 kd3 q0 q1 q2 q3 q4 q5 q6 q7 q8 q9 q10 q11 q12 q13 q14 q15
  have hj : j6 ≠ 0 := by intro h; rw [h, Int.mul_zero] at c6; omega
  have n0 : 0 < (1) * (j0 * j0 + j1 * j1) + (1) * (j2 * j2 + j3 * j3) + (1) * (j4 * j4 + j5 * j5) + (1) * (j6 * j6 + j7 * j7) := by
    have s0 := sqn j0
    have s1 := sqn j1
    have s2 := sqn j2
    have s3 := sqn j3
    have s4 := sqn j4
    have s5 := sqn j5
    have s6 := sqn j6
    have s7 := sqn j7
    have sp : 0 < j6 * j6 := by
      rcases Int.lt_or_gt_of_ne hj with h | h
      · have := Int.mul_pos (show 0 < -j6 by omega) (show 0 < -j6 by omega)
        rwa [Int.neg_mul_neg] at this
      · exact Int.mul_pos h h
    omega
  have gg : 0 < g * g := Int.mul_pos hg hg
  have hm : 0 < m0 := by
    have h1 := Int.mul_pos gg n0
    rw [← w0] at h1
    by_cases h : 0 < m0
    · exact h
    · have := Int.mul_nonneg (show 0 ≤ 4 * d3 by omega) (show 0 ≤ -m0 by omega)
      rw [Int.mul_neg] at this; omega
  have E0 := prop_of (show (4 * d3 : Int) ≠ 0 by omega) w0 w0
  have E1 := prop_of (show (4 * d3 : Int) ≠ 0 by omega) w0 w1
  have E2 := prop_of (show (4 * d3 : Int) ≠ 0 by omega) w0 w2
  have E3 := prop_of (show (4 * d3 : Int) ≠ 0 by omega) w0 w3
  have E4 := prop_of (show (4 * d3 : Int) ≠ 0 by omega) w0 w4
  have E5 := prop_of (show (4 * d3 : Int) ≠ 0 by omega) w0 w5
  have E6 := prop_of (show (4 * d3 : Int) ≠ 0 by omega) w0 w6
  have E7 := prop_of (show (4 * d3 : Int) ≠ 0 by omega) w0 w7
  have E8 := prop_of (show (4 * d3 : Int) ≠ 0 by omega) w0 w8
  have E9 := prop_of (show (4 * d3 : Int) ≠ 0 by omega) w0 w9
  have E10 := prop_of (show (4 * d3 : Int) ≠ 0 by omega) w0 w10
  have E11 := prop_of (show (4 * d3 : Int) ≠ 0 by omega) w0 w11
  have E12 := prop_of (show (4 * d3 : Int) ≠ 0 by omega) w0 w12
  have E13 := prop_of (show (4 * d3 : Int) ≠ 0 by omega) w0 w13
  have E14 := prop_of (show (4 * d3 : Int) ≠ 0 by omega) w0 w14
  have E15 := prop_of (show (4 * d3 : Int) ≠ 0 by omega) w0 w15
  exact { b0 := b0, b1 := b1, b2 := b2, b3 := b3, b4 := b4, b5 := b5, b6 := b6, b7 := b7, npos := n0, mpos := hm, e0 := E0, l0 := bd0 j0 j1 j2 j3 j4 j5 j6 j7, e1 := E1, l1 := bd1 j0 j1 j2 j3 j4 j5 j6 j7, e2 := E2, l2 := bd2 j0 j1 j2 j3 j4 j5 j6 j7, e3 := E3, l3 := bd3 j0 j1 j2 j3 j4 j5 j6 j7, e4 := E4, l4 := bd4 j0 j1 j2 j3 j4 j5 j6 j7, e5 := E5, l5 := bd5 j0 j1 j2 j3 j4 j5 j6 j7, e6 := E6, l6 := bd6 j0 j1 j2 j3 j4 j5 j6 j7, e7 := E7, l7 := bd7 j0 j1 j2 j3 j4 j5 j6 j7, e8 := E8, l8 := bd8 j0 j1 j2 j3 j4 j5 j6 j7, e9 := E9, l9 := bd9 j0 j1 j2 j3 j4 j5 j6 j7, e10 := E10, l10 := bd10 j0 j1 j2 j3 j4 j5 j6 j7, e11 := E11, l11 := bd11 j0 j1 j2 j3 j4 j5 j6 j7, e12 := E12, l12 := bd12 j0 j1 j2 j3 j4 j5 j6 j7, e13 := E13, l13 := bd13 j0 j1 j2 j3 j4 j5 j6 j7, e14 := E14, l14 := bd14 j0 j1 j2 j3 j4 j5 j6 j7, e15 := E15, l15 := bd15 j0 j1 j2 j3 j4 j5 j6 j7 }
end Go.Proofs.Ytipcoahafdolcaa.Ev
