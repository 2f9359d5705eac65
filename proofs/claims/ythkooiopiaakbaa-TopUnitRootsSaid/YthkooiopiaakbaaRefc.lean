/- The contracts of the reference's divisions of One times a number, and of its ball of a fraction. -/
import Derived.Test.YthkooiopiaakbaaRefa
namespace Go.Proofs.Ythkooiopiaakbaa
open Go.RowKit Go.Lib
attribute [local go_sem] run_store_float run_store_complex
set_option linter.unusedVariables false

set_option maxHeartbeats 1000000 in
theorem scaled_cut {n d : Int} (hn : -4611686018427387904 ≤ n ∧ n ≤ 4611686018427387904) (hd : 0 < d) (hd' : d ≤ 2305843009213693952) (h : n / d < -268435456 ∨ 268435456 < n / d) (w : World) :
    Calls Try.prog 139 #[.int .i64 n, .int .i64 d] w (fun e w' => e = .returned (.tuple #[.int .i64 (n / d), .int .i64 (n % d)]) ∧ w = w') := by
  have HF := Lib.hid (fun w => Floor_any n d (by omega) (by omega) hd (by omega) w)
  have e := Int.mul_ediv_add_emod n d
  have r0 := Int.emod_nonneg n (show d ≠ 0 by omega)
  have r1 := Int.emod_lt_of_pos n hd
  have hc : d * (n / d) = n / d * d := Int.mul_comm _ _
  generalize n / d = q at *
  generalize n % d = s at *
  have hw : IntKind.i64.wrap (q * d) = q * d := IntWalk.i64_in _ (by omega)
  have hs : Hid (n - q * d = s) := by show _ = _; omega
  have hb1 : q * d ≤ n := by omega
  have hb2 : n - q * d < d := by omega
  have hw2 : IntKind.i64.wrap (n - q * d) = n - q * d := IntWalk.i64_in _ (by omega)
  clear e hc
  by_cases h1 : 268435456 < q
  · clear h
    go_enter Try.func139, Try.ntmps139
    go_wp2_with fail
    refine (HF.out _).mono ?_
    rintro e w' ⟨rfl, rfl⟩
    go_wp2_with fail
    go_ret2
    exact ⟨by rw [hs.out]; rfl, rfl⟩
  · have h2 : q < -268435456 := by omega
    clear h
    go_enter Try.func139, Try.ntmps139
    go_wp2_with fail
    refine (HF.out _).mono ?_
    rintro e w' ⟨rfl, rfl⟩
    go_wp2_with fail
    go_ret2
    refine ⟨?_, rfl⟩
    rw [hs.out]; rfl

/-- What the loop keeps. -/
def ScIn (n d : Int) (j : Nat) (q s : Int) : Prop := q * d + s = n * 2 ^ j ∧ (0 ≤ s ∧ s < d) ∧ (-(268435456 * 2 ^ j) ≤ q ∧ q + 1 ≤ 268435457 * 2 ^ j)

theorem ScIn.hi {n d : Int} {j : Nat} {q s : Int} (h : ScIn n d j q s) (hd : d ≤ 2 * s) : ScIn n d (j + 1) (2 * q + 1) (2 * s - d) := by
  obtain ⟨h1, h2, h3⟩ := h
  unfold ScIn
  rw [Int.pow_succ]
  have e1 : (2 * q + 1) * d = 2 * (q * d) + d := by rw [Int.add_mul, Int.mul_assoc, Int.one_mul]
  have e2 : n * (2 ^ j * 2) = n * 2 ^ j * 2 := by rw [Int.mul_assoc]
  refine ⟨by rw [e1, e2]; omega, by omega, by omega⟩
theorem ScIn.lo {n d : Int} {j : Nat} {q s : Int} (h : ScIn n d j q s) (hd : ¬ d ≤ 2 * s) : ScIn n d (j + 1) (2 * q) (2 * s) := by
  obtain ⟨h1, h2, h3⟩ := h
  unfold ScIn
  rw [Int.pow_succ]
  have e1 : 2 * q * d = 2 * (q * d) := by rw [Int.mul_assoc]
  have e2 : n * (2 ^ j * 2) = n * 2 ^ j * 2 := by rw [Int.mul_assoc]
  refine ⟨by rw [e1, e2]; omega, by omega, by omega⟩
theorem ScIn.last {n d : Int} {q s : Int} (h : ScIn n d 20 q s) : q = n * 1048576 / d ∧ s = n * 1048576 % d := by
  obtain ⟨h1, h2, h3⟩ := h
  have e : n * 2 ^ 20 = n * 1048576 := by rw [show (2 : Int) ^ 20 = 1048576 by decide]
  rw [e] at h1
  have := (Int.ediv_emod_unique (a := n * 1048576) (b := d) (q := q) (r := s) (by omega)).2 ⟨by rw [Int.mul_comm d q]; omega, h2.1, h2.2⟩
  exact ⟨this.1.symm, this.2.symm⟩
theorem ScIn.bd {n d : Int} {j : Nat} {q s : Int} (h : ScIn n d j q s) (hj : j ≤ 20) : -281474976710656 ≤ q ∧ q ≤ 281476025286656 ∧ 0 ≤ s ∧ s < d := by
  obtain ⟨h1, h2, h3⟩ := h
  have p1 := Nat.pow_le_pow_right (n := 2) (i := j) (j := 20) (by decide) hj
  have e1 : ((2 ^ j : Nat) : Int) = 2 ^ j := by simp
  have p2 : (2 : Int) ^ j ≤ 1048576 := by rw [← e1]; omega
  have p3 : (0 : Int) ≤ 2 ^ j := by rw [← e1]; omega
  omega

set_option maxHeartbeats 1000000 in
theorem scaled_in {n d : Int} (hn : -4611686018427387904 ≤ n ∧ n ≤ 4611686018427387904) (hd : 0 < d) (hd' : d ≤ 2305843009213693952) (h : -268435456 ≤ n / d ∧ n / d ≤ 268435456) (w : World) :
    Calls Try.prog 139 #[.int .i64 n, .int .i64 d] w (fun e w' => e = .returned (.tuple #[.int .i64 (n * 1048576 / d), .int .i64 (n * 1048576 % d)]) ∧ w = w') := by
  have HF := Lib.hid (fun w => Floor_any n d (by omega) (by omega) hd (by omega) w)
  have e := Int.mul_ediv_add_emod n d
  have r0 := Int.emod_nonneg n (show d ≠ 0 by omega)
  have r1 := Int.emod_lt_of_pos n hd
  have hc : d * (n / d) = n / d * d := Int.mul_comm _ _
  have hst : Hid (ScIn n d 0 (n / d) (n - n / d * d)) := ⟨by simp; omega, by omega, by omega⟩
  generalize n / d = q at *
  generalize n % d = s at *
  have hw : IntKind.i64.wrap (q * d) = q * d := IntWalk.i64_in _ (by omega)
  have hb1 : q * d ≤ n := by omega
  have hb2 : n - q * d < d := by omega
  have hw2 : IntKind.i64.wrap (n - q * d) = n - q * d := IntWalk.i64_in _ (by omega)
  have h1 : ¬ 268435456 < q := by omega
  have h2 : ¬ q < -268435456 := by omega
  clear e hc r0 r1
  have hfin : Hid (∀ q s, ScIn n d 20 q s → q = n * 1048576 / d ∧ s = n * 1048576 % d) := fun _ _ h => h.last
  generalize n * 1048576 / d = Q at *
  generalize n * 1048576 % d = S at *
  go_enter Try.func139, Try.ntmps139
  go_wp2_with fail
  refine (HF.out _).mono ?_
  rintro e w' ⟨rfl, rfl⟩
  go_wp2_with fail
  go_loop [6, 7, 8] (fun a b i => ∃ (j : Nat) (q s : Int), j ≤ 20 ∧ i = .int .i64 j ∧ a = .int .i64 q ∧ b = .int .i64 s ∧ Hid (ScIn n d j q s)) (fun _ _ i => 20 - (intOf i).toNat)
  case atStart => exact ⟨0, q, n - q * d, by omega, rfl, rfl, rfl, hst⟩
  case round =>
    obtain ⟨j, q1, s1, hj, rfl, rfl, rfl, hin⟩ := hrel
    have hbd := hin.out.bd hj
    obtain ⟨k1, k2, k3, k4⟩ := hbd
    have hj0 : (0 : Int) ≤ (j : Int) := by omega
    have hj1 : (j : Int) ≤ 20 := by omega
    by_cases hlt : j < 20
    · by_cases hge : d ≤ 2 * s1
      · go_wp2_with fail
        go_round
        case rel => exact ⟨j + 1, 2 * q1 + 1, 2 * s1 - d, by omega, by go_num, rfl, rfl, hin.out.hi hge⟩
        case measure => simp [intOf]; omega
      · go_wp2_with fail
        go_round
        case rel => exact ⟨j + 1, 2 * q1, 2 * s1, by omega, by go_num, rfl, rfl, hin.out.lo hge⟩
        case measure => simp [intOf]; omega
    · obtain rfl : j = 20 := by omega
      obtain ⟨e1, e2⟩ := hfin.out _ _ hin.out
      subst e1 e2
      go_wp2_with fail
      go_ret2
      exact ⟨rfl, rfl⟩

set_option maxHeartbeats 1000000 in
theorem scaledRounded_of {n d q s : Int} (hq : -4611686018427387904 ≤ q ∧ q ≤ 4611686018427387904) (hs : 0 ≤ s) (hs' : s < d) (hd' : d ≤ 2305843009213693952) (b : Bool) (x : Int) (hb : b = decide (s ≠ 0)) (hx : x = q + (if d - s ≤ s then 1 else 0))
    (HS : Hid (∀ w, Calls Try.prog 139 #[.int .i64 n, .int .i64 d] w (fun e w' => e = .returned (.tuple #[.int .i64 q, .int .i64 s]) ∧ w = w'))) (w : World) :
    Calls Try.prog 81 #[.int .i64 n, .int .i64 d] w (fun e w' => e = .returned (.tuple #[.int .i64 x, .bool b]) ∧ w = w') := by
  by_cases h0 : s = 0
  · subst h0
    obtain rfl : b = false := by simpa using hb
    obtain rfl : x = q := by rw [hx, if_neg (by omega)]; omega
    clear hb hx
    go_enter Try.func81, Try.ntmps81
    go_wp2_with fail
    refine (HS.out _).mono ?_
    rintro e w' ⟨rfl, rfl⟩
    go_wp2_with fail
    go_ret2
    exact ⟨rfl, rfl⟩
  · have hn0 : (s != 0) = true := by simpa using h0
    have hn1 : (s == 0) = false := by simpa using h0
    obtain rfl : b = true := by simpa [h0] using hb
    by_cases hle : d - s ≤ s
    · obtain rfl : x = q + 1 := by rw [hx, if_pos hle]
      clear hb hx h0
      go_enter Try.func81, Try.ntmps81
      go_wp2_with fail
      refine (HS.out _).mono ?_
      rintro e w' ⟨rfl, rfl⟩
      go_wp2_with fail
      go_ret2
      exact ⟨rfl, rfl⟩
    · obtain rfl : x = q := by rw [hx, if_neg hle]; omega
      clear hb hx h0
      go_enter Try.func81, Try.ntmps81
      go_wp2_with fail
      refine (HS.out _).mono ?_
      rintro e w' ⟨rfl, rfl⟩
      go_wp2_with fail
      go_ret2
      exact ⟨by simp, rfl⟩

end Go.Proofs.Ythkooiopiaakbaa
