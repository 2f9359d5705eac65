/- The divisions of a quotient are right. -/
import Derived.Test.YthkooiopiaakbaaQuot
import Derived.Test.YthkooiopiaakbaaDiv
namespace Go.Proofs.Ythkooiopiaakbaa
open Go.RowKit Go.Lib

theorem DivOk_gen {N d : Int} (h0 : 0 ≤ N) (hd : 0 < d) (hd' : d < 18446744073709551616) (hq : N / 18446744073709551616 < d) : DivOk N d := by
  by_cases hs : N < 18446744073709551616
  · exact DivOk_low h0 hs hd hd'
  intro w
  obtain ⟨n, rfl⟩ := Int.eq_ofNat_of_zero_le h0
  obtain ⟨y, rfl⟩ := Int.eq_ofNat_of_zero_le (Int.le_of_lt hd)
  have h := bits_Div64 (n / 18446744073709551616) (n % 18446744073709551616) y (by omega) (by omega) (by omega) (by omega) w
  have e : n / 18446744073709551616 * 18446744073709551616 + n % 18446744073709551616 = n := by omega
  rw [e] at h
  refine h.mono fun e' w' ⟨he, hw⟩ => ⟨by rw [he]; simp, 0, ?_⟩
  rw [← hw]; rfl

theorem DvIn_gen {x y d : Int} (hx : -4611686018427387904 ≤ x) (hx' : x ≤ 4611686018427387904) (hy : 0 ≤ y) (hy' : y ≤ 4611686018427387904) (hd : 0 < d) (hd' : d ≤ 4611686018427387904)
    (hp : (x.natAbs : Int) * y ≤ 4611686018427387904 * d) : DvIn x y d := by
  have h0 : 0 ≤ (x.natAbs : Int) * y := Int.mul_nonneg (by omega) hy
  have hq : (x.natAbs : Int) * y / d ≤ 4611686018427387904 := by
    have := Int.ediv_le_ediv hd hp
    rwa [Int.mul_ediv_cancel _ (by omega)] at this
  refine ⟨hx, hx', hy, hy', hd, hd', hq, DivOk_gen h0 hd (by omega) ?_⟩
  exact Int.ediv_lt_of_lt_mul (by decide) (by omega)

theorem natAbs_le {x M : Int} (h : Sm M x) : (x.natAbs : Int) ≤ M := by have := h.1; have := h.2; omega

theorem mul_sq {x u M : Int} (hM : 0 ≤ M) (hx : Sm M x) : Sm (M * (u * u)) (x * u) := by
  have h1 : u ≤ u * u ∧ -u ≤ u * u := by
    rcases Int.lt_trichotomy u 0 with h | h | h
    · have : 1 * (-u) ≤ (-u) * (-u) := Int.mul_le_mul_of_nonneg_right (by omega) (by omega)
      rw [Int.neg_mul_neg] at this
      omega
    · subst h; decide
    · have : 1 * u ≤ u * u := Int.mul_le_mul_of_nonneg_right (by omega) (by omega)
      omega
  have hs : 0 ≤ u * u := by omega
  have a : (x * u).natAbs = x.natAbs * u.natAbs := Int.natAbs_mul x u
  have b : ((x.natAbs * u.natAbs : Nat) : Int) ≤ M * (u * u) := by
    rw [Int.natCast_mul]
    exact Int.mul_le_mul (natAbs_le hx) (by omega) (by omega) hM
  rw [← a] at b
  constructor <;> omega

theorem sq2_nonneg (u v : Int) : 0 ≤ sq2 u v := by
  unfold sq2
  have a : 0 ≤ u * u := by rcases Int.le_total 0 u with h | h
                           · exact Int.mul_nonneg h h
                           · exact Int.mul_nonneg_of_nonpos_of_nonpos h h
  have b : 0 ≤ v * v := by rcases Int.le_total 0 v with h | h
                           · exact Int.mul_nonneg h h
                           · exact Int.mul_nonneg_of_nonpos_of_nonpos h h
  omega

theorem dn_spec {u v : Int} (hu : Sm 67108864 u) (hv : Sm 67108864 v) : dn u v * dn u v ≤ sq2 u v ∧ sq2 u v < (dn u v + 1) * (dn u v + 1) ∧ upw u v ≤ dn u v + 1 := by
  have b := sq2_bd (x := u) (y := v) ⟨by have := hu.1; omega, by have := hu.2; omega⟩ ⟨by have := hv.1; omega, by have := hv.2; omega⟩
  obtain ⟨h0, h1, h2, h3⟩ := rti_spec (sq2 u v) b.1 (by omega)
  refine ⟨h2, ?_, ?_⟩
  · show sq2 u v < (rti (sq2 u v) + 1) * (rti (sq2 u v) + 1)
    have : (rti (sq2 u v) + 1) * (rti (sq2 u v) + 1) = rti (sq2 u v) * rti (sq2 u v) + 2 * rti (sq2 u v) + 1 := by rw [Int.add_mul, Int.mul_add]; omega
    omega
  · show rtu (sq2 u v) ≤ rti (sq2 u v) + 1
    unfold rtu; split <;> omega

/-- The numbers of a quotient, in their bounds. -/
theorem quo_bd {x y u v r s : Int} (hx : Sm 67108864 x) (hy : Sm 67108864 y) (hu : Sm 67108864 u) (hv : Sm 67108864 v) (hr : 0 ≤ r ∧ r ≤ 67108864) (hs : 0 ≤ s ∧ s ≤ 67108864) (hz : ¬ dn u v - s ≤ 0) :
    0 < sq2 u v ∧ sq2 u v ≤ 9007199254740992 ∧ Sm (134217728 * sq2 u v) (quoN1 x y u v) ∧ Sm (134217728 * sq2 u v) (quoN2 x y u v) ∧ Sm 9007199254740992 (quoN1 x y u v) ∧ Sm 9007199254740992 (quoN2 x y u v) ∧
      0 < quoDen u v s ∧ quoDen u v s ≤ 18014398509481984 ∧ 0 ≤ quoSpread x y u v r s ∧ quoSpread x y u v r s ≤ 268435456 * quoDen u v s ∧ quoSpread x y u v r s ≤ 18014398509481984 := by
  obtain ⟨d1, d2, d3⟩ := dn_spec hu hv
  have d4 := dn_bd hu hv
  have bA := upw_bd hx hy
  have bB := upw_bd hu hv
  have hdn : 1 ≤ dn u v := by omega
  have hsq : 1 ≤ sq2 u v := by
    have : 1 * dn u v ≤ dn u v * dn u v := Int.mul_le_mul_of_nonneg_right hdn (by omega)
    omega
  have hsq2 : sq2 u v ≤ 9007199254740992 := by
    have h1 := mul_bd hu hu (by decide); have h2 := mul_bd hv hv (by decide)
    unfold sq2; omega
  have a1 := mul_sq (u := u) (by decide) hx
  have a2 := mul_sq (u := v) (by decide) hy
  have a3 := mul_sq (u := v) (by decide) hx
  have a4 := mul_sq (u := u) (by decide) hy
  have c1 := mul_bd hx hu (by decide); have c2 := mul_bd hy hv (by decide)
  have c3 := mul_bd hx hv (by decide); have c4 := mul_bd hy hu (by decide)
  have e1 : quoN1 x y u v = x * u + y * v := by unfold quoN1; rw [Int.mul_neg]; omega
  have e2 : quoN2 x y u v = y * u - x * v := by unfold quoN2; rw [Int.mul_neg]; omega
  have es : sq2 u v = u * u + v * v := rfl
  have m1 : dn u v ≤ quoDen u v s := by
    have : 1 * dn u v ≤ (dn u v - s) * dn u v := Int.mul_le_mul_of_nonneg_right (by omega) (by omega)
    unfold quoDen; omega
  have m2 : quoDen u v s ≤ 134217728 * 134217728 := by
    unfold quoDen; exact Int.mul_le_mul (by omega) (by omega) (by omega) (by decide)
  have s1 : 0 ≤ r * upw u v ∧ r * upw u v ≤ 67108864 * (dn u v + 1) := ⟨Int.mul_nonneg hr.1 bB.1, Int.mul_le_mul hr.2 d3 bB.1 (by decide)⟩
  have s2 : 0 ≤ upw x y * s ∧ upw x y * s ≤ 134217728 * dn u v := ⟨Int.mul_nonneg bA.1 hs.1, Int.mul_le_mul bA.2 (by omega) hs.1 (by decide)⟩
  have s3 := mul_bd0 hr.1 hr.2 bB.1 bB.2
  have s4 := mul_bd0 bA.1 bA.2 hs.1 hs.2
  obtain ⟨a1l, a1h⟩ := a1; obtain ⟨a2l, a2h⟩ := a2; obtain ⟨a3l, a3h⟩ := a3; obtain ⟨a4l, a4h⟩ := a4
  have esp : quoSpread x y u v r s = r * upw u v + upw x y * s := rfl
  have h64 : (67108864 : Int) * (u * u) + 67108864 * (v * v) = 67108864 * sq2 u v := by rw [es, Int.mul_add]
  rw [e1, e2, esp]
  refine ⟨by omega, hsq2, ⟨by omega, by omega⟩, ⟨by omega, by omega⟩, ⟨by omega, by omega⟩, ⟨by omega, by omega⟩, by omega, by omega, by omega, by omega, by omega⟩

theorem natAbs_mul_le {n M : Int} (h : Sm M n) : (n.natAbs : Int) * 1048576 ≤ 1048576 * M := by have := natAbs_le h; omega

theorem rdiv_sm {n d : Int} (hd : 0 < d) (h : Sm (134217728 * d) n) : InF (rdiv (n * 1048576) d) := by
  have e : n * 1048576 / d ≤ 140737488355328 ∧ -140737488355328 ≤ n * 1048576 / d := by
    have h1 := Int.ediv_le_ediv hd (show n * 1048576 ≤ 140737488355328 * d by have := h.2; omega)
    have h2 := Int.ediv_le_ediv hd (show (-140737488355328) * d ≤ n * 1048576 by have := h.1; omega)
    rw [Int.mul_ediv_cancel _ (by omega)] at h1 h2
    exact ⟨h1, h2⟩
  rw [rdiv_eq _ hd]
  split <;> constructor <;> omega

theorem QuoIn_all {x y u v r s : Int} (hx : Sm 67108864 x) (hy : Sm 67108864 y) (hu : Sm 67108864 u) (hv : Sm 67108864 v) (hr : 0 ≤ r ∧ r ≤ 67108864) (hs : 0 ≤ s ∧ s ≤ 67108864) (hz : ¬ dn u v - s ≤ 0) : QuoIn x y u v r s := by
  obtain ⟨b1, b2, n1, n2, f1, f2, g1, g2, g3, g4, g5⟩ := quo_bd hx hy hu hv hr hs hz
  have hc : 0 ≤ cdiv (quoSpread x y u v r s * 1048576) (quoDen u v s) ∧ cdiv (quoSpread x y u v r s * 1048576) (quoDen u v s) ≤ 4611686018427387904 := by
    have h1 := Int.ediv_le_ediv g1 (show quoSpread x y u v r s * 1048576 ≤ 281474976710656 * quoDen u v s by omega)
    rw [Int.mul_ediv_cancel _ (by omega)] at h1
    have h2 := Int.ediv_nonneg (show 0 ≤ quoSpread x y u v r s * 1048576 by omega) (Int.le_of_lt g1)
    rw [cdiv_eq _ g1]; split <;> omega
  have q1 := natAbs_mul_le n1
  have q2 := natAbs_mul_le n2
  refine ⟨DvIn_gen (by have := f1.1; omega) (by have := f1.2; omega) (by decide) (by decide) b1 (by omega) (by omega), DvIn_gen (by have := f2.1; omega) (by have := f2.2; omega) (by decide) (by decide) b1 (by omega) (by omega),
    DvIn_gen (by omega) (by omega) (by decide) (by decide) g1 (by omega) ?_, rdiv_sm b1 n1, rdiv_sm b1 n2, hc.1, hc.2⟩
  have : ((quoSpread x y u v r s).natAbs : Int) = quoSpread x y u v r s := by omega
  rw [this]; omega

/-- Quotient, for whole parts. -/
theorem Quotient_all {a b c d : Nat} {x y u v : Int} (r s : Int) (h : Cp a b x y) (hx : InF x) (hy : InF y) (g : Cp c d u v) (hu : InF u) (hv : InF v) (w : World) :
    Calls Try.prog 41 #[.agg #[.complex .f64 a b, .int .i64 r], .agg #[.complex .f64 c d, .int .i64 s]] w (Mem (if ckB x y r = 0 ∧ ckB u v s = 0 then quoV x y u v r s else balV 0 0 0 2) w) :=
  Quotient_any r s h hx hy g hu hv (fun h1 h2 hz => by
    obtain ⟨p1, p2, p3, p4⟩ := ckB_ok h1
    obtain ⟨q1, q2, q3, q4⟩ := ckB_ok h2
    exact QuoIn_all p1 p2 q1 q2 ⟨p3, p4⟩ ⟨q3, q4⟩ hz) w

end Go.Proofs.Ythkooiopiaakbaa
