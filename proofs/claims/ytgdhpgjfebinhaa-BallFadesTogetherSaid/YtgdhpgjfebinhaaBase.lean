/- The contracts of the divisions of the reference's helpers. -/
import Derived.Test.YtgdhpgjfebinhaaRoots
namespace Go.Proofs.Ytgdhpgjfebinhaa
open Go.RowKit Go.Lib

set_option maxHeartbeats 400000 in
theorem Floor_any (n d : Int) (hn : -9223372036854775808 < n) (hn' : n < 9223372036854775808) (hd : 0 < d) (hd' : d < 9223372036854775808) (w : World) :
    Calls Try.prog 55 #[.int .i64 n, .int .i64 d] w fun e w' => e = .returned (.int .i64 (n / d)) ∧ w = w' := by
  by_cases h0 : 0 ≤ n
  · have q0 : 0 ≤ n / d := Int.ediv_nonneg h0 (by omega)
    have q1 : n / d ≤ n := Int.ediv_le_self _ h0
    have r0 : 0 ≤ n % d := Int.emod_nonneg _ (by omega)
    have r1 : n % d < d := Int.emod_lt_of_pos _ hd
    have hz : ¬ d = 0 := by omega
    have hr : ¬ n % d < 0 := by omega
    go_enter Try.func55, Try.ntmps55
    go_wp2
    go_ret
    exact ⟨rfl, rfl⟩
  · obtain ⟨m, rfl⟩ : ∃ m, n = -m := ⟨-n, by omega⟩
    have hm : 0 < m := by omega
    have q0 : 0 ≤ m / d := Int.ediv_nonneg (by omega) (by omega)
    have q1 : m / d ≤ m := Int.ediv_le_self _ (by omega)
    have r0 : 0 ≤ m % d := Int.emod_nonneg _ (by omega)
    have r1 : m % d < d := Int.emod_lt_of_pos _ hd
    have hz : ¬ d = 0 := by omega
    have e1 : (-m).tdiv d = -(m / d) := by rw [Int.neg_tdiv, Int.tdiv_eq_ediv_of_nonneg (by omega)]
    have e2 : (-m).tmod d = -(m % d) := by rw [Int.neg_tmod, Int.tmod_eq_emod_of_nonneg (by omega)]
    have e1' : m.tdiv d = m / d := Int.tdiv_eq_ediv_of_nonneg (by omega)
    have e2' : m.tmod d = m % d := Int.tmod_eq_emod_of_nonneg (by omega)
    have w1 : IntKind.i64.wrap (-(m / d)) = -(m / d) := IntWalk.i64_in _ (by omega)
    by_cases hr : m % d = 0
    · have HE := Lib.hid (neg_div0 hd hr).1
      have hl : ¬ -(m % d) < 0 := by omega
      have hl2 : ¬ 0 < m % d := by omega
      clear hr
      go_enter Try.func55, Try.ntmps55
      go_wp2
      go_ret
      rw [HE.out]
      exact ⟨rfl, rfl⟩
    · have HE := Lib.hid (neg_div1 hd hr).1
      have hl : -(m % d) < 0 := by omega
      have hl2 : 0 < m % d := by omega
      have w2 : IntKind.i64.wrap (-(m / d) - 1) = -(m / d) - 1 := IntWalk.i64_in _ (by omega)
      clear hr
      go_enter Try.func55, Try.ntmps55
      go_wp2
      go_ret
      rw [HE.out]
      exact ⟨rfl, rfl⟩

theorem ediv_abs {n d : Int} (hd : 0 < d) : -(n.natAbs : Int) ≤ n / d ∧ n / d ≤ (n.natAbs : Int) := by
  by_cases h0 : 0 ≤ n
  · have := Int.ediv_nonneg h0 (show 0 ≤ d by omega)
    have := Int.ediv_le_self d h0
    omega
  · obtain ⟨m, rfl⟩ : ∃ m, n = -m := ⟨-n, by omega⟩
    have q0 := Int.ediv_nonneg (show 0 ≤ m by omega) (show 0 ≤ d by omega)
    have q1 := Int.ediv_le_self d (show 0 ≤ m by omega)
    by_cases hr : m % d = 0
    · rw [(neg_div0 hd hr).1]; omega
    · rw [(neg_div1 hd hr).1]
      have e := Int.mul_ediv_add_emod m d
      have p0 := Int.emod_nonneg m (show d ≠ 0 by omega)
      have : 1 * (m / d) ≤ d * (m / d) := Int.mul_le_mul_of_nonneg_right (by omega) q0
      omega

set_option maxHeartbeats 400000 in
theorem Ceil_any (n d : Int) (hn : -9223372036854775808 < n) (hn' : n < 9223372036854775808) (hd : 0 < d) (hd' : d < 9223372036854775808) (w : World) :
    Calls Try.prog 95 #[.int .i64 n, .int .i64 d] w fun e w' => e = .returned (.int .i64 (cdiv n d)) ∧ w = w' := by
  have HF := Lib.hid (fun w => Floor_any (-n) d (by omega) (by omega) hd hd' w)
  have b := ediv_abs (n := -n) hd
  have b1 : -9223372036854775807 ≤ -n / d ∧ -n / d ≤ 9223372036854775807 := by omega
  have hc : Hid (cdiv n d = -(-n / d)) := rfl
  clear b
  generalize -n / d = q at *
  go_enter Try.func95, Try.ntmps95
  go_wp2_with fail
  refine (HF.out _).mono ?_
  rintro e w' ⟨rfl, rfl⟩
  go_wp2_with fail
  go_ret
  rw [hc.out]
  exact ⟨rfl, rfl⟩

end Go.Proofs.Ytgdhpgjfebinhaa
