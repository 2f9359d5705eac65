/- The contracts of math/bits.Mul64 and Div64 (where the high word is 0), of divided, Lower and Upper of package whole, in this program's numbers. -/
import Derived.Test.YtafnplkablkepaaChecked
import Derived.Test.YtafnplkablkepaaRti
import Derived.WalkKit
import Derived.WalkLawsBesides
import Derived.Lib.Mul64
import Derived.Laws.Bits64b
import Derived.Deep.QuietTactic
import Derived.BigQuiet
import Derived.Lib.Hide
namespace Go.Proofs.Ytafnplkablkepaa
open Go.RowKit Go.Lib

theorem maskN (a : Nat) (ha : a < 18446744073709551616) : bits .and .u64 (a : Int) 4294967295 = ((a % 4294967296 : Nat) : Int) := by
  have h := bits_and_u64_nat a 4294967295 ha (by omega)
  have e : a &&& 4294967295 = a % 4294967296 := Nat.and_two_pow_sub_one_eq_mod a 32
  rw [e] at h
  exact h
theorem divN (a : Nat) : (a : Int) / 4294967296 = ((a / 4294967296 : Nat) : Int) := by omega
theorem mulN (a b : Nat) : (a : Int) * (b : Int) = ((a * b : Nat) : Int) := (Int.natCast_mul a b).symm
theorem addN (a b : Nat) : (a : Int) + (b : Int) = ((a + b : Nat) : Int) := (Int.natCast_add a b).symm
theorem wrapN (a : Nat) (ha : a < 18446744073709551616) : IntKind.u64.wrap (a : Int) = (a : Int) := by rw [IntKind.wrap_u64]; omega
theorem wrapM (a : Nat) : IntKind.u64.wrap (a : Int) = ((a % 18446744073709551616 : Nat) : Int) := by rw [IntKind.wrap_u64]; omega

set_option maxHeartbeats 1000000 in
theorem bits_Mul64 (x y : Nat) (hx : x < 18446744073709551616) (hy : y < 18446744073709551616) (w : World) :
    Calls Try.prog 83 #[.int .u64 x, .int .u64 y] w fun e w' => e = .returned (.tuple #[.int .u64 ((x * y / 18446744073709551616 : Nat) : Int), .int .u64 ((x * y % 18446744073709551616 : Nat) : Int)]) ∧ w = w' := by
  obtain ⟨bd, bt, bw, hhi⟩ := Lib.mul64_hi x y hx hy
  have ba := Lib.half_mul_le (a := x / 4294967296) (b := y / 4294967296) (by omega) (by omega)
  have bb := Lib.half_mul_le (a := x / 4294967296) (b := y % 4294967296) (by omega) (by omega)
  have bc := Lib.half_mul_le (a := x % 4294967296) (b := y / 4294967296) (by omega) (by omega)
  have ba' : x / 4294967296 * (y / 4294967296) < 18446744073709551616 := by omega
  have bb' : x / 4294967296 * (y % 4294967296) < 18446744073709551616 := by omega
  have bc' : x % 4294967296 * (y / 4294967296) < 18446744073709551616 := by omega
  have bh1 : x / 4294967296 * (y / 4294967296) + (x / 4294967296 * (y % 4294967296) + x % 4294967296 * (y % 4294967296) / 4294967296) / 4294967296 < 18446744073709551616 := by omega
  have bh : x / 4294967296 * (y / 4294967296) + (x / 4294967296 * (y % 4294967296) + x % 4294967296 * (y % 4294967296) / 4294967296) / 4294967296 + ((x / 4294967296 * (y % 4294967296) + x % 4294967296 * (y % 4294967296) / 4294967296) % 4294967296 + x % 4294967296 * (y / 4294967296)) / 4294967296 < 18446744073709551616 := by omega
  go_enter Try.func83, Try.ntmps83
  go_wp2
  simp only [maskN x hx, maskN y hy, divN, mulN, addN, wrapN _ bd, wrapN _ bb', wrapN _ bt, maskN _ bt, wrapN _ bc', wrapN _ bw, wrapN _ ba', wrapN _ bh1, wrapN _ bh, wrapM (x * y)]
  rw [hhi]
  go_ret2
  exact ⟨rfl, rfl⟩



theorem bits_Mul64_int (x y : Int) (hx0 : 0 ≤ x) (hx : x < 18446744073709551616) (hy0 : 0 ≤ y) (hy : y < 18446744073709551616) (w : World) :
    Calls Try.prog 83 #[.int .u64 x, .int .u64 y] w fun e w' => e = .returned (.tuple #[.int .u64 (x * y / 18446744073709551616), .int .u64 (x * y % 18446744073709551616)]) ∧ w = w' := by
  obtain ⟨a, rfl⟩ := Int.eq_ofNat_of_zero_le hx0
  obtain ⟨b, rfl⟩ := Int.eq_ofNat_of_zero_le hy0
  have h := bits_Mul64 a b (by omega) (by omega) w
  simpa [Int.natCast_mul] using h

/-- A call that only computes, perhaps drawing an order. -/
def Quiet (v : Value) (w : World) (e : Ending) (w' : World) : Prop := e = .returned v ∧ ∃ n, w' = w.drewN n

set_option maxHeartbeats 400000 in
theorem bits_Div64_low (lo y : Int) (hlo0 : 0 ≤ lo) (hlo : lo < 18446744073709551616) (hy0 : 0 < y) (hy : y < 18446744073709551616) (w : World) :
    Calls Try.prog 84 #[.int .u64 0, .int .u64 lo, .int .u64 y] w (Quiet (.tuple #[.int .u64 (lo / y), .int .u64 (lo % y)]) w) := by
  have h0 : (y == 0) = false := by simp; omega
  have h1 : ¬ y ≤ 0 := by omega
  have h2 : ¬ y = 0 := by omega
  have q0 : 0 ≤ lo / y := Int.ediv_nonneg hlo0 (by omega)
  have q1 : lo / y ≤ lo := Int.ediv_le_self _ hlo0
  have hw : IntKind.u64.wrap (lo / y) = lo / y := by rw [IntKind.wrap_u64]; omega
  go_enter Try.func84, Try.ntmps84
  go_wp2
  go_quiet (fail)
  go_wp2
  go_ret2
  exact ⟨rfl, _, rfl⟩

/-- What divided gives. -/
def dv (x y d : Int) : Value := .tuple #[.int .i64 (x * y / d), .int .i64 (x * y % d)]

/-- Div64's contract at the two words of a number N. -/
def DivOk (N d : Int) : Prop := ∀ w, Calls Try.prog 84 #[.int .u64 (N / 18446744073709551616), .int .u64 (N % 18446744073709551616), .int .u64 d] w (Quiet (.tuple #[.int .u64 (N / d), .int .u64 (N % d)]) w)

theorem DivOk_low {N d : Int} (h0 : 0 ≤ N) (h1 : N < 18446744073709551616) (hd : 0 < d) (hd' : d < 18446744073709551616) : DivOk N d := by
  intro w
  have e1 : N / 18446744073709551616 = 0 := by omega
  have e2 : N % 18446744073709551616 = N := by omega
  rw [e1, e2]
  exact bits_Div64_low N d h0 h1 hd hd' w

theorem neg_div0 {N d : Int} (hd : 0 < d) (h : N % d = 0) : -N / d = -(N / d) ∧ -N % d = 0 := by
  have e := Int.mul_ediv_add_emod N d
  rw [h, Int.add_zero] at e
  have e2 : -N = d * -(N / d) := by rw [Int.mul_neg, e]
  constructor
  · conv => lhs; rw [e2]
    rw [Int.mul_ediv_cancel_left _ (by omega)]
  · conv => lhs; rw [e2]
    exact Int.mul_emod_right _ _

theorem neg_div1 {N d : Int} (hd : 0 < d) (h : N % d ≠ 0) : -N / d = -(N / d) - 1 ∧ -N % d = d - N % d := by
  have e := Int.mul_ediv_add_emod N d
  have p0 := Int.emod_nonneg N (show d ≠ 0 by omega)
  have p1 := Int.emod_lt_of_pos N hd
  have e2 : -N = (d - N % d) + d * (-(N / d) - 1) := by
    rw [Int.mul_sub, Int.mul_neg, Int.mul_one]; omega
  have q0 : (d - N % d) / d = 0 := Int.ediv_eq_zero_of_lt (by omega) (by omega)
  have q1 : (d - N % d) % d = d - N % d := Int.emod_eq_of_lt (by omega) (by omega)
  constructor
  · conv => lhs; rw [e2]
    rw [Int.add_mul_ediv_left _ _ (by omega), q0, Int.zero_add]
  · conv => lhs; rw [e2]
    rw [Int.add_mul_emod_self_left, q1]

set_option maxHeartbeats 1000000 in
theorem divided_pos (x y d : Int) (hx : 0 ≤ x) (hx' : x < 9223372036854775808) (hy : 0 ≤ y) (hy' : y < 9223372036854775808) (hd : 0 < d) (hd' : d < 9223372036854775808)
    (hq : x * y / d < 9223372036854775808) (HD : Hid (DivOk (x * y) d)) (w : World) :
    Calls Try.prog 66 #[.int .i64 x, .int .i64 y, .int .i64 d] w (Quiet (dv x y d) w) := by
  have p0 : 0 ≤ x * y := Int.mul_nonneg hx hy
  have q0 : 0 ≤ x * y / d := Int.ediv_nonneg p0 (by omega)
  have r0 : 0 ≤ x * y % d := Int.emod_nonneg _ (by omega)
  have r1 : x * y % d < d := Int.emod_lt_of_pos _ hd
  have hn : ¬ x < 0 := by omega
  go_enter Try.func66, Try.ntmps66
  go_wp2_with fail
  refine (bits_Mul64_int x y hx (by omega) hy (by omega) _).mono ?_
  rintro e w' ⟨rfl, rfl⟩
  go_wp2_with fail
  refine (HD.out _).mono ?_
  rintro e w' ⟨rfl, n, rfl⟩
  go_wp2_with fail
  go_ret2
  exact ⟨rfl, _, rfl⟩

set_option maxHeartbeats 1000000 in
theorem divided_neg (x y d : Int) (hx : 0 < x) (hx' : x < 9223372036854775808) (hy : 0 ≤ y) (hy' : y < 9223372036854775808) (hd : 0 < d) (hd' : d < 9223372036854775808)
    (hq : x * y / d < 9223372036854775808) (HD : Hid (DivOk (x * y) d)) (w : World) :
    Calls Try.prog 66 #[.int .i64 (-x), .int .i64 y, .int .i64 d] w (Quiet (dv (-x) y d) w) := by
  have p0 : 0 ≤ x * y := Int.mul_nonneg (by omega) hy
  have q0 : 0 ≤ x * y / d := Int.ediv_nonneg p0 (by omega)
  have r0 : 0 ≤ x * y % d := Int.emod_nonneg _ (by omega)
  have r1 : x * y % d < d := Int.emod_lt_of_pos _ hd
  have hn : -x < 0 := by omega
  by_cases hr : x * y % d = 0
  · have hb : (x * y % d == 0) = true := by simp [hr]
    have HE : Hid (dv (-x) y d = .tuple #[.int .i64 (-(x * y / d)), .int .i64 0]) := by
      unfold dv Hid; rw [Int.neg_mul, (neg_div0 hd hr).1, (neg_div0 hd hr).2]
    have HR := Lib.hid hr
    clear hr
    go_enter Try.func66, Try.ntmps66
    go_wp2_with fail
    refine (bits_Mul64_int x y (by omega) (by omega) hy (by omega) _).mono ?_
    rintro e w' ⟨rfl, rfl⟩
    go_wp2_with fail
    refine (HD.out _).mono ?_
    rintro e w' ⟨rfl, n, rfl⟩
    go_wp2_with fail
    go_ret2
    rw [HE.out]
    exact ⟨rfl, _, rfl⟩
  · have hb : (x * y % d == 0) = false := by simp [hr]
    have HE : Hid (dv (-x) y d = .tuple #[.int .i64 (-(x * y / d) - 1), .int .i64 (d - x * y % d)]) := by
      unfold dv Hid; rw [Int.neg_mul, (neg_div1 hd hr).1, (neg_div1 hd hr).2]
    go_enter Try.func66, Try.ntmps66
    go_wp2_with fail
    refine (bits_Mul64_int x y (by omega) (by omega) hy (by omega) _).mono ?_
    rintro e w' ⟨rfl, rfl⟩
    go_wp2_with fail
    refine (HD.out _).mono ?_
    rintro e w' ⟨rfl, n, rfl⟩
    go_wp2_with fail
    go_ret2
    rw [HE.out]
    exact ⟨rfl, _, rfl⟩

/-- Arguments of divided at which it is right. -/
def DvIn (x y d : Int) : Prop := -4611686018427387904 ≤ x ∧ x ≤ 4611686018427387904 ∧ 0 ≤ y ∧ y ≤ 4611686018427387904 ∧ 0 < d ∧ d ≤ 4611686018427387904 ∧ (x.natAbs : Int) * y / d ≤ 4611686018427387904 ∧ DivOk ((x.natAbs : Int) * y) d

theorem DvIn_low {x y d : Int} (hx : -4611686018427387904 ≤ x) (hx' : x ≤ 4611686018427387904) (hy : 0 ≤ y) (hy' : y ≤ 4611686018427387904) (hd : 0 < d) (hd' : d ≤ 4611686018427387904)
    (hp : (x.natAbs : Int) * y ≤ 4611686018427387904) : DvIn x y d := by
  have h0 : 0 ≤ (x.natAbs : Int) * y := Int.mul_nonneg (by omega) hy
  exact ⟨hx, hx', hy, hy', hd, hd', Int.le_trans (Int.ediv_le_self _ h0) hp, DivOk_low h0 (by omega) hd (by omega)⟩

theorem DvIn_by {x y d X Y : Int} (hX : -X ≤ x) (hX' : x ≤ X) (hy : 0 ≤ y) (hY : y ≤ Y) (hd : 0 < d) (hd' : d ≤ 4611686018427387904) (hXY : X * Y ≤ 4611686018427387904) (hx1 : X ≤ 4611686018427387904) (hy1 : Y ≤ 4611686018427387904) : DvIn x y d := by
  refine DvIn_low (by omega) (by omega) hy (by omega) hd hd' ?_
  have : (x.natAbs : Int) * y ≤ X * Y := Int.mul_le_mul (by omega) hY hy (by omega)
  omega

theorem divided_any (x y d : Int) (h : Hid (DvIn x y d)) (w : World) : Calls Try.prog 66 #[.int .i64 x, .int .i64 y, .int .i64 d] w (Quiet (dv x y d) w) := by
  obtain ⟨h1, h2, h3, h4, h5, h6, h7, h8⟩ := h.out
  by_cases hn : x < 0
  · obtain ⟨z, rfl⟩ : ∃ z, x = -z := ⟨-x, by omega⟩
    have e : ((-z).natAbs : Int) = z := by omega
    rw [e] at h7 h8
    exact divided_neg z y d (by omega) (by omega) h3 (by omega) h5 (by omega) (by omega) h8 w
  · have e : (x.natAbs : Int) = x := by omega
    rw [e] at h7 h8
    exact divided_pos x y d (by omega) (by omega) h3 (by omega) h5 (by omega) (by omega) h8 w

def cdiv (n d : Int) : Int := -(-n / d)
def rdiv (n d : Int) : Int := (2 * n + d) / (2 * d)
def wholeB (n d : Int) : Bool := n % d == 0

theorem cdiv_eq (n : Int) {d : Int} (hd : 0 < d) : cdiv n d = n / d + (if n % d = 0 then 0 else 1) := by
  unfold cdiv
  by_cases h : n % d = 0
  · rw [(neg_div0 hd h).1, if_pos h]; omega
  · rw [(neg_div1 hd h).1, if_neg h]; omega

theorem rdiv_eq (n : Int) {d : Int} (hd : 0 < d) : rdiv n d = n / d + (if d - n % d ≤ n % d then 1 else 0) := by
  unfold rdiv
  have e := Int.mul_ediv_add_emod n d
  have p0 := Int.emod_nonneg n (show d ≠ 0 by omega)
  have p1 := Int.emod_lt_of_pos n hd
  by_cases h : d - n % d ≤ n % d
  · rw [if_pos h]
    have e2 : 2 * n + d = (2 * (n % d) - d) + (2 * d) * (n / d + 1) := by
      rw [Int.mul_add, Int.mul_assoc]; omega
    rw [e2, Int.add_mul_ediv_left _ _ (by omega), Int.ediv_eq_zero_of_lt (by omega) (by omega)]; omega
  · rw [if_neg h]
    have e2 : 2 * n + d = (2 * (n % d) + d) + (2 * d) * (n / d) := by
      rw [Int.mul_assoc]; omega
    rw [e2, Int.add_mul_ediv_left _ _ (by omega), Int.ediv_eq_zero_of_lt (by omega) (by omega)]; omega

theorem ediv_nonpos {N d : Int} (h : N ≤ 0) (hd : 0 < d) : N / d ≤ 0 := by
  have e := Int.mul_ediv_add_emod N d
  have p0 := Int.emod_nonneg N (show d ≠ 0 by omega)
  apply Int.le_of_not_gt
  intro hq
  have : d * 1 ≤ d * (N / d) := Int.mul_le_mul_of_nonneg_left (by omega) (by omega)
  omega

theorem div_bd {x y d : Int} (h : DvIn x y d) : -4611686018427387905 ≤ x * y / d ∧ x * y / d ≤ 4611686018427387904 ∧ 0 ≤ x * y % d ∧ x * y % d < d := by
  obtain ⟨h1, h2, h3, h4, h5, h6, h7, h8⟩ := h
  have r0 := Int.emod_nonneg (x * y) (show d ≠ 0 by omega)
  have r1 := Int.emod_lt_of_pos (x * y) h5
  refine ⟨?_, ?_, r0, r1⟩
  · by_cases hn : x < 0
    · obtain ⟨z, rfl⟩ : ∃ z, x = -z := ⟨-x, by omega⟩
      have e : ((-z).natAbs : Int) = z := by omega
      rw [e] at h7
      rw [Int.neg_mul]
      by_cases hr : z * y % d = 0
      · rw [(neg_div0 h5 hr).1]; omega
      · rw [(neg_div1 h5 hr).1]; omega
    · have := Int.ediv_nonneg (Int.mul_nonneg (show 0 ≤ x by omega) h3) (show 0 ≤ d by omega)
      omega
  · by_cases hn : x < 0
    · have : x * y ≤ 0 := Int.mul_nonpos_of_nonpos_of_nonneg (by omega) h3
      have := ediv_nonpos this h5
      omega
    · have e : (x.natAbs : Int) = x := by omega
      rw [e] at h7; exact h7

set_option maxHeartbeats 400000 in
theorem lower_any (x y d : Int) (h : Hid (DvIn x y d)) (w : World) : Calls Try.prog 89 #[.int .i64 x, .int .i64 y, .int .i64 d] w (Quiet (.int .i64 (x * y / d)) w) := by
  go_enter Try.func89, Try.ntmps89
  go_wp2_with fail
  refine (divided_any x y d h _).mono ?_
  rintro e w' ⟨rfl, n, rfl⟩
  unfold dv
  go_wp2_with fail
  go_ret
  exact ⟨rfl, _, rfl⟩

set_option maxHeartbeats 400000 in
theorem upper_any (x y d : Int) (h : Hid (DvIn x y d)) (w : World) : Calls Try.prog 90 #[.int .i64 x, .int .i64 y, .int .i64 d] w (Quiet (.int .i64 (cdiv (x * y) d)) w) := by
  obtain ⟨b1, b2, b3, b4⟩ := div_bd h.out
  have hd : 0 < d := h.out.2.2.2.2.1
  have HE := Lib.hid (cdiv_eq (x * y) hd)
  by_cases hr : x * y % d = 0
  · have HR := Lib.hid hr
    have hlt : ¬ 0 < x * y % d := by omega
    clear hr
    go_enter Try.func90, Try.ntmps90
    go_wp2_with fail
    refine (divided_any x y d h _).mono ?_
    rintro e w' ⟨rfl, n, rfl⟩
    unfold dv
    go_wp2_with fail
    go_ret
    rw [HE.out, if_pos HR.out]
    exact ⟨by simp, _, rfl⟩
  · have HR := Lib.hid hr
    have hlt : 0 < x * y % d := by omega
    clear hr
    go_enter Try.func90, Try.ntmps90
    go_wp2_with fail
    refine (divided_any x y d h _).mono ?_
    rintro e w' ⟨rfl, n, rfl⟩
    unfold dv
    go_wp2_with fail
    go_ret
    rw [HE.out, if_neg HR.out]
    exact ⟨rfl, _, rfl⟩

end Go.Proofs.Ytafnplkablkepaa
