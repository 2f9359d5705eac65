/- Divisions of two words are right. -/
import Derived.Test.YtgdhpgjfebinhaaDvb
namespace Go.Proofs.Ytgdhpgjfebinhaa.Gm
set_option linter.unusedSimpArgs false
open Go Go.RowKit Go.Lib Go.Proofs.Ytgdhpgjfebinhaa

theorem DivOk_gen {N d : Int} (h0 : 0 ≤ N) (hd : 0 < d) (hd' : d < 18446744073709551616) (hq : N / 18446744073709551616 < d) : DivOk N d := by
  by_cases hs : N < 18446744073709551616
  · exact DivOk_low h0 hs hd hd'
  intro w
  obtain ⟨n, rfl⟩ := Int.eq_ofNat_of_zero_le h0
  obtain ⟨y, rfl⟩ := Int.eq_ofNat_of_zero_le (Int.le_of_lt hd)
  have h := bits_Div64 (n / 18446744073709551616) (n % 18446744073709551616) y (by omega) (by omega) (by omega) (by omega) w
  have e : n / 18446744073709551616 * 18446744073709551616 + n % 18446744073709551616 = n := by omega
  rw [e] at h
  refine h.mono fun e' w' ⟨he, hw⟩ => ⟨by rw [he]; simp, 0, ?_⟩
  rw [← hw]; rfl

theorem DvIn_gen {x y d : Int} (hx : -4611686018427387904 ≤ x) (hx' : x ≤ 4611686018427387904) (hy : 0 ≤ y) (hy' : y ≤ 4611686018427387904) (hd : 0 < d) (hd' : d ≤ 4611686018427387904)
    (hp : (x.natAbs : Int) * y ≤ 4611686018427387904 * d) : DvIn x y d := by
  have h0 : 0 ≤ (x.natAbs : Int) * y := Int.mul_nonneg (by omega) hy
  have hq : (x.natAbs : Int) * y / d ≤ 4611686018427387904 := by
    have := Int.ediv_le_ediv hd hp
    rwa [Int.mul_ediv_cancel _ (by omega)] at this
  refine ⟨hx, hx', hy, hy', hd, hd', hq, DivOk_gen h0 hd (by omega) ?_⟩
  exact Int.ediv_lt_of_lt_mul (by decide) (by omega)

end Go.Proofs.Ytgdhpgjfebinhaa.Gm
