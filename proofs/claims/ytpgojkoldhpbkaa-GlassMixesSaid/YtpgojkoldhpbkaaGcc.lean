/- Comparisons of quotients by whole parts and what is left. -/
import Derived.Test.YtpgojkoldhpbkaaGca
import Derived.Test.YtpgojkoldhpbkaaGmd
namespace Go.Proofs.Ytpgojkoldhpbkaa.Gm
set_option linter.unusedSimpArgs false
open Go Go.RowKit Go.Proofs.Ytpgojkoldhpbkaa Go.Proofs.Ytpgojkoldhpbkaa.Ev

theorem of_same {f : FuncId} {args : Array Value} {v : Value} (h : ∀ w, Calls Try.prog f args w fun e w' => e = .returned v ∧ w = w') : Ret f args v :=
  fun w => Calls.mono (h w) fun e w' ⟨he, hw⟩ => by subst hw; exact ⟨he, ⟨rfl, rfl, rfl, Nat.le_refl _, fun _ _ => rfl⟩⟩

theorem eq_f {a b : Int} (h : a ≠ b) : (a == b) = false := by simpa using h
theorem eq_t {a b : Int} (h : a = b) : (a == b) = true := by simpa using h

/-- n / d beside m / k. -/
def cmpv (n d m k : Int) : Int := if n * k < m * d then -1 else if m * d < n * k then 1 else 0
theorem cmpv_of {n d m k n' d' m' k' : Int} (h : n * k - m * d = n' * k' - m' * d') : cmpv n d m k = cmpv n' d' m' k' := by
  unfold cmpv
  by_cases h1 : n * k < m * d
  · rw [if_pos h1, if_pos (by omega)]
  · rw [if_neg h1, if_neg (show ¬ n' * k' < m' * d' by omega)]
    by_cases h2 : m * d < n * k
    · rw [if_pos h2, if_pos (by omega)]
    · rw [if_neg h2, if_neg (by omega)]
theorem cmpv_lt {n d m k : Int} (h : n * k < m * d) : cmpv n d m k = -1 := if_pos h
theorem cmpv_gt {n d m k : Int} (h : m * d < n * k) : cmpv n d m k = 1 := by
  unfold cmpv; rw [if_neg (by omega), if_pos h]
theorem cmpv_eq {n d m k : Int} (h : m * d = n * k) : cmpv n d m k = 0 := by
  unfold cmpv; rw [if_neg (by omega), if_neg (by omega)]

def CG (r : Int) (i : Int × Int × Int × Int) : Prop := (0 ≤ i.1 ∧ i.1 ≤ 4611686018427387904) ∧ (0 < i.2.1 ∧ i.2.1 ≤ 4611686018427387904) ∧ (0 ≤ i.2.2.1 ∧ i.2.2.1 ≤ 4611686018427387904) ∧ (0 < i.2.2.2 ∧ i.2.2.2 ≤ 4611686018427387904) ∧ cmpv i.1 i.2.1 i.2.2.1 i.2.2.2 = r

theorem CG.of {r a b c e : Int} (ha : 0 ≤ a ∧ a ≤ 4611686018427387904) (hb : 0 < b ∧ b ≤ 4611686018427387904) (hc : 0 ≤ c ∧ c ≤ 4611686018427387904) (he : 0 < e ∧ e ≤ 4611686018427387904) (h : cmpv a b c e = r) : CG r (a, b, c, e) := ⟨ha, hb, hc, he, h⟩

structure Quo (a b : Int) : Prop where
  e : IntKind.i64.wrap (a.tdiv b) = a / b
  r : a.tmod b = a % b
  m : IntKind.i64.wrap (a / b * b) = a / b * b
  s : IntKind.i64.wrap (a - a / b * b) = a % b
  q0 : 0 ≤ a / b
  r0 : 0 ≤ a % b
  r1 : a % b < b
  eq : a = b * (a / b) + a % b
theorem Quo.of {a b : Int} (ha : 0 ≤ a) (ha' : a ≤ 4611686018427387904) (hb : 0 < b) : Quo a b := by
  have e := Int.mul_ediv_add_emod a b
  have r0 := Int.emod_nonneg a (show b ≠ 0 by omega)
  have r1 := Int.emod_lt_of_pos a hb
  have q0 := Int.ediv_nonneg ha (Int.le_of_lt hb)
  have q1 := Int.ediv_le_self b ha
  have c : a / b * b = b * (a / b) := Int.mul_comm _ _
  have c0 : 0 ≤ b * (a / b) := Int.mul_nonneg (by omega) q0
  refine ⟨?_, Int.tmod_eq_emod_of_nonneg ha, IntWalk.i64_in _ (by omega), (IntWalk.i64_in _ (by omega)).trans (by omega), q0, r0, r1, e.symm⟩
  rw [Int.tdiv_eq_ediv_of_nonneg ha]
  exact IntWalk.i64_in _ (by omega)

theorem quo_lt {a b c e p q r s : Int} (hb : 0 < b) (he : 0 < e) (ha : a = b * p + r) (hc : c = e * q + s) (hr : r < b) (hs : 0 ≤ s) (hpq : p < q) : a * e < c * b := by
  have h1 : r * e < b * e := Int.mul_lt_mul_of_pos_right hr he
  have h2 : 0 ≤ s * b := Int.mul_nonneg hs (Int.le_of_lt hb)
  have hbe : 0 < b * e := Int.mul_pos hb he
  have h3 : b * e * 1 ≤ b * e * (q - p) := Int.mul_le_mul_of_nonneg_left (by omega) (Int.le_of_lt hbe)
  have e1 : a * e = b * e * p + r * e := by rw [ha]; grind
  have e2 : c * b = b * e * q + s * b := by rw [hc]; grind
  have e3 : b * e * (q - p) = b * e * q - b * e * p := by grind
  omega

set_option maxRecDepth 100000 in
theorem Compare_any {n d m k : Int} (hn : 0 ≤ n ∧ n ≤ 4611686018427387904) (hd : 0 < d ∧ d ≤ 4611686018427387904) (hm : 0 ≤ m ∧ m ≤ 4611686018427387904) (hk : 0 < k ∧ k ≤ 4611686018427387904) :
    Ret 54 #[.int .i64 n, .int .i64 d, .int .i64 m, .int .i64 k] (.int .i64 (cmpv n d m k)) := fun w => by
  refine Ev.Cmp (r0 := cmpv n d m k) ?_ w
  refine loopF_ok (l := CmpL) (ι := Int × Int × Int × Int) (env := fun i => lenv (n :: d :: m :: k :: i.1 :: i.2.1 :: i.2.2.1 :: i.2.2.2 :: [])) (good := CG (cmpv n d m k)) (fun i => (i.2.1 + i.2.2.2).toNat) (T := CmpT) (H := CmpH)
    (pr := [(.num (.var 0) (.var 4)), (.num (.var 1) (.var 5)), (.num (.var 2) (.var 6)), (.num (.var 3) (.var 7))]) (fun h => Ex.noConfusion h) (n, d, m, k) ⟨hn, hd, hm, hk, rfl⟩ (by kernel_rfl) (Cmp_in (rest := [cmpv n d m k]) (rest' := [])) ?_
  rintro ⟨a, b, c, e⟩ ⟨⟨a0, a1⟩, ⟨b0, b1⟩, ⟨c0, c1⟩, ⟨e0, e1⟩, hr⟩
  simp only at a0 a1 b0 b1 c0 c1 e0 e1 hr
  have Q := Quo.of a0 a1 b0
  have R := Quo.of c0 c1 e0
  have z1 := eq_f (show b ≠ 0 by omega)
  have z2 : decide (a % b < 0) = false := decide_eq_false (by have := Q.r0; omega)
  have z3 := eq_f (show e ≠ 0 by omega)
  have z4 : decide (c % e < 0) = false := decide_eq_false (by have := R.r0; omega)
  have red : a / b = c / e → a * e - c * b = (a % b) * e - (c % e) * b := by
    intro h
    have e1 : a * e = b * e * (a / b) + (a % b) * e := by rw [show a * e = (b * (a / b) + a % b) * e by rw [← Q.eq]]; grind
    have e2 : c * b = b * e * (c / e) + (c % e) * b := by rw [show c * b = (e * (c / e) + c % e) * b by rw [← R.eq]]; grind
    rw [e1, e2, h]; omega
  by_cases h1 : a / b < c / e
  · refine .inr ?_
    rw [← hr, cmpv_lt (quo_lt b0 e0 Q.eq R.eq Q.r1 R.r0 h1)]
    exact Cmp_1 (rest := []) (rest' := []) Q.e Q.r R.e R.r z1 z2 z3 z4 (decide_eq_true h1)
  by_cases h2 : c / e < a / b
  · refine .inr ?_
    rw [← hr, cmpv_gt (quo_lt e0 b0 R.eq Q.eq R.r1 Q.r0 h2)]
    exact Cmp_5 (rest := []) (rest' := []) Q.e Q.r R.e R.r z1 z2 z3 z4 (decide_eq_false h1) (decide_eq_true h2)
  have he := red (by omega)
  have nb : 0 ≤ (a % b) * e := Int.mul_nonneg Q.r0 (Int.le_of_lt e0)
  have nd : 0 ≤ (c % e) * b := Int.mul_nonneg R.r0 (Int.le_of_lt b0)
  have nb' : 0 < a % b → 0 < (a % b) * e := fun h => Int.mul_pos h e0
  have nd' : 0 < c % e → 0 < (c % e) * b := fun h => Int.mul_pos h b0
  have q0 := Q.r0; have q1 := Q.r1; have r0 := R.r0; have r1 := R.r1
  by_cases h3 : a % b = 0
  · have m3 : (a % b) * e = 0 := by rw [h3, Int.zero_mul]
    by_cases h4 : c % e = 0
    · refine .inr ?_
      have m4 : (c % e) * b = 0 := by rw [h4, Int.zero_mul]
      rw [← hr, cmpv_eq (by omega)]
      exact Cmp_2 (rest := []) (rest' := []) Q.e Q.r R.e R.r Q.m Q.s R.m R.s z1 z2 z3 z4 (decide_eq_false h1) (decide_eq_false h2) (eq_t h3) (eq_t h4)
    · refine .inr ?_
      have := nd' (by omega)
      rw [← hr, cmpv_lt (by omega)]
      exact Cmp_3 (rest := []) (rest' := []) Q.e Q.r R.e R.r Q.m Q.s R.m R.s z1 z2 z3 z4 (decide_eq_false h1) (decide_eq_false h2) (eq_t h3) (eq_f h4)
  · have p3 := nb' (by omega)
    by_cases h4 : c % e = 0
    · refine .inr ?_
      have m4 : (c % e) * b = 0 := by rw [h4, Int.zero_mul]
      rw [← hr, cmpv_gt (by omega)]
      exact Cmp_4 (rest := []) (rest' := []) Q.e Q.r R.e R.r Q.m Q.s R.m R.s z1 z2 z3 z4 (decide_eq_false h1) (decide_eq_false h2) (eq_f h3) (eq_t h4)
    · refine .inl ⟨(e, c % e, b, a % b), CG.of ⟨by omega, e1⟩ ⟨by omega, by omega⟩ ⟨by omega, b1⟩ ⟨by omega, by omega⟩ ?_, by simp only; omega, ?_⟩
      · rw [← hr]
        exact cmpv_of (by rw [Int.mul_comm e, Int.mul_comm b]; omega)
      · exact Cmp_0 (rest := []) (rest' := []) Q.e Q.r R.e R.r Q.m Q.s R.m R.s z1 z2 z3 z4 (decide_eq_false h1) (decide_eq_false h2) (eq_f h3) (eq_f h4)
end Go.Proofs.Ytpgojkoldhpbkaa.Gm
