/- The contract of math/bits.LeadingZeros64 in this program's numbers. -/
import Derived.Shelf.Small.Bits
import Derived.Shelf.Strconv.Itoa0
import Derived.Test.YtmodchmadbkfbaaProg
import Derived.Lib.Hide
import Derived.Test.YtmodchmadbkfbaaBita
import Derived.Lib.ItoaNum
import Derived.LoopTactic
import Derived.Deep.CutBlock

namespace Go.Proofs.Ytmodchmadbkfbaa
open Go.Shelf
def lays129_ren : Go.Shelf.Ren := ⟨fun | 129 => 67 | n => n, fun | 53 => 86 | 3 => 3 | 4 => 4 | 46 => 80 | 5 => 5 | 9 => 9 | n => n, fun | n => n⟩
def lays134_ren : Go.Shelf.Ren := ⟨fun | 134 => 57 | 129 => 67 | n => n, fun | 53 => 86 | 3 => 3 | 4 => 4 | 46 => 80 | 5 => 5 | 9 => 9 | n => n, fun | n => n⟩
theorem lays134 : Go.Proofs.Lays.n134 Try.prog lays134_ren := {
  mixed := by kernel_rfl
  f129 := Try.func67.trans (congrArg some (by kernel_rfl))
  f134 := Try.func57.trans (congrArg some (by kernel_rfl))
  t3 := Try.underlying3
  a3 := Try.isAgg3
  z3 := Try.sizeOf3
  v3 := Try.zeroValue3
  t4 := Try.underlying4
  a4 := Try.isAgg4
  z4 := Try.sizeOf4
  v4 := Try.zeroValue4
  t5 := Try.underlying5
  a5 := Try.isAgg5
  z5 := Try.sizeOf5
  v5 := Try.zeroValue5
  t9 := Try.underlying9
  a9 := Try.isAgg9
  z9 := Try.sizeOf9
  v9 := Try.zeroValue9
  t46 := Try.underlying80
  a46 := Try.isAgg80
  z46 := Try.sizeOf80
  v46 := Try.zeroValue80
  t53 := Try.underlying86
  a53 := Try.isAgg86
  z53 := Try.sizeOf86
  v53 := Try.zeroValue86 }
theorem bits_LeadingZeros64 (x : Int) (w : World) (h0 : 0 ≤ x) (h1 : x ≤ 18446744073709551615) :
    Calls Try.prog 57 #[.int .u64 x] w fun e w' => e = .returned (.int .i64 (64 - (Lib.bitLen x.toNat : Int))) ∧ w' = w := Any.bits_LeadingZeros64 lays134 x w h0 h1
end Go.Proofs.Ytmodchmadbkfbaa

/-! Long division by two digits of 32 bits: the plain mathematics. -/
namespace Go.Proofs.Ytmodchmadbkfbaa.Kn

/-- One digit of a long division: what a guess and its rest keep. -/
structure Dig (u d y1 y0 q Q R : Nat) : Prop where
  eq : u = Q * y1 + R
  le : q ≤ Q

variable {u d y1 y0 q Q R : Nat}

theorem mul_le_of_div {a b c : Nat} (hb : 0 < b) (h : c ≤ a / b) : c * b ≤ a := (Nat.le_div_iff_mul_le hb).mp h

theorem start (h1 : 0 < y1) (hd : d < 4294967296) (hq : q = (u * 4294967296 + d) / (y1 * 4294967296 + y0)) :
    Dig u d y1 y0 q (u / y1) (u % y1) := by
  refine ⟨by rw [Nat.mul_comm]; exact (Nat.div_add_mod u y1).symm, ?_⟩
  rw [Nat.le_div_iff_mul_le h1]
  have h : q * (y1 * 4294967296 + y0) ≤ u * 4294967296 + d := mul_le_of_div (by omega) (by omega)
  have e : q * (y1 * 4294967296 + y0) = q * y1 * 4294967296 + q * y0 := by rw [Nat.mul_add, Nat.mul_assoc]
  have := Nat.zero_le (q * y0)
  omega

theorem small (hu : u < y1 * 4294967296 + y0) (hd : d < 4294967296) (hq : q = (u * 4294967296 + d) / (y1 * 4294967296 + y0)) : q < 4294967296 := by
  rw [hq, Nat.div_lt_iff_lt_mul (by omega)]
  have : u + 1 ≤ y1 * 4294967296 + y0 := hu
  omega

theorem yes (h : Dig u d y1 y0 q Q R) (hs : q < 4294967296) (h1 : 0 < y1) (hq : q = (u * 4294967296 + d) / (y1 * 4294967296 + y0))
    (t : 4294967296 ≤ Q ∨ 4294967296 * R + d < Q * y0) : 1 ≤ Q ∧ Dig u d y1 y0 q (Q - 1) (R + y1) := by
  have hlt : q < Q := by
    rcases t with t | t
    · omega
    · rw [hq, Nat.div_lt_iff_lt_mul (by omega)]
      have e : Q * (y1 * 4294967296 + y0) = Q * y1 * 4294967296 + Q * y0 := by rw [Nat.mul_add, Nat.mul_assoc]
      have := h.eq
      omega
  refine ⟨by omega, ⟨?_, by omega⟩⟩
  obtain ⟨P, rfl⟩ : ∃ P, Q = P + 1 := ⟨Q - 1, by omega⟩
  have := h.eq
  rw [Nat.add_mul, Nat.one_mul] at this
  simp only [Nat.add_sub_cancel]
  omega

theorem no (h : Dig u d y1 y0 q Q R) (h1 : 0 < y1) (hq : q = (u * 4294967296 + d) / (y1 * 4294967296 + y0))
    (t : Q * y0 ≤ 4294967296 * R + d) : Q = q := by
  apply Nat.le_antisymm _ h.le
  rw [hq, Nat.le_div_iff_mul_le (by omega)]
  have e : Q * (y1 * 4294967296 + y0) = Q * y1 * 4294967296 + Q * y0 := by rw [Nat.mul_add, Nat.mul_assoc]
  have := h.eq
  omega

theorem far (h : Dig u d y1 y0 q Q R) (h1 : 0 < y1) (h0 : y0 < 4294967296) (hu : u < y1 * 4294967296 + y0) (hq : q = (u * 4294967296 + d) / (y1 * 4294967296 + y0))
    (t : 4294967296 ≤ R) : Q = q := by
  have hQ : Q < 4294967296 := by
    apply Nat.lt_of_not_le
    intro hc
    have := Nat.mul_le_mul_right y1 hc
    have := h.eq
    omega
  apply no h h1 hq
  have a : Q * y0 ≤ 4294967295 * 4294967295 := Nat.mul_le_mul (by omega) (by omega)
  omega

/-- The rest of one digit, kept in 64 bits. -/
theorem rest (hq : q = (u * 4294967296 + d) / (y1 * 4294967296 + y0)) (hy : 0 < y1) : ∃ r, u * 4294967296 + d = q * (y1 * 4294967296 + y0) + r ∧ r < y1 * 4294967296 + y0 ∧ r = (u * 4294967296 + d) % (y1 * 4294967296 + y0) := by
  refine ⟨_, ?_, Nat.mod_lt _ (by omega), rfl⟩
  have e := Nat.div_add_mod (u * 4294967296 + d) (y1 * 4294967296 + y0)
  rw [← hq, Nat.mul_comm] at e
  exact e.symm

/-- Two digits make the quotient. -/
theorem both {n0 y v : Nat} (hy : 0 < y) {u a b q1 q0 : Nat} (h1 : q1 = (u * 4294967296 + a) / y) (hv : v = (u * 4294967296 + a) % y) (h0 : q0 = (v * 4294967296 + b) / y) (hn : n0 = a * 4294967296 + b) :
    (u * 18446744073709551616 + n0) / y = q1 * 4294967296 + q0 ∧ (u * 18446744073709551616 + n0) % y = (v * 4294967296 + b) % y := by
  have e1 := Nat.div_add_mod (u * 4294967296 + a) y
  rw [← h1, ← hv] at e1
  have e2 : y * (q1 * 4294967296) = y * q1 * 4294967296 := (Nat.mul_assoc _ _ _).symm
  have e : u * 18446744073709551616 + n0 = v * 4294967296 + b + y * (q1 * 4294967296) := by
    rw [e2]; omega
  clear hn e1 e2
  constructor
  · rw [e, Nat.add_mul_div_left _ _ hy, ← h0, Nat.add_comm]
  · rw [e, Nat.add_mul_mod_self_left]

theorem scale {n y s : Nat} (hs : 0 < s) : (n * s) / (y * s) = n / y ∧ (n * s) % (y * s) = n % y * s := by
  constructor
  · exact Nat.mul_div_mul_right _ _ hs
  · rw [Nat.mul_mod_mul_right]

end Go.Proofs.Ytmodchmadbkfbaa.Kn

/-! math/bits.Div64 in general. -/
namespace Go.Proofs.Ytmodchmadbkfbaa
open Go.RowKit Go.Lib

theorem or_words {x y s : Nat} (hx : x % 2 ^ s = 0) (hy : y < 2 ^ s) (h : x + y < 18446744073709551616) : bits .or .u64 (x : Int) (y : Int) = ((x + y : Nat) : Int) := by
  have e := bits_or_u64_nat x y (by omega) (by omega)
  rw [e]
  congr 1
  have hd : x = 2 ^ s * (x / 2 ^ s) := by have := Nat.div_add_mod x (2 ^ s); omega
  rw [hd, Nat.two_pow_add_eq_or_of_lt hy]

/-- The two words of a shifted number. -/
theorem shift_words {hi lo y s Y : Nat} (hhy : hi < y) (hlo : lo < 18446744073709551616) (hY : Y = y * 2 ^ s) (hYl : Y < 18446744073709551616) (hs : s ≤ 63) :
    ∃ u L a b : Nat, bits .or .u64 (IntKind.u64.wrap ((hi : Int) * 2 ^ s)) ((lo : Int) / 2 ^ (64 - s)) = (u : Int) ∧ IntKind.u64.wrap ((lo : Int) * 2 ^ s) = (L : Int) ∧ L = a * 4294967296 + b ∧ a < 4294967296 ∧ b < 4294967296 ∧ u < Y ∧ (hi * 18446744073709551616 + lo) * 2 ^ s = u * 18446744073709551616 + L := by
  have hp : 0 < 2 ^ s := Nat.two_pow_pos s
  have hp' : 0 < 2 ^ (64 - s) := Nat.two_pow_pos _
  have hpp : 2 ^ (64 - s) * 2 ^ s = 18446744073709551616 := by
    rw [← Nat.pow_add, show 64 - s + s = 64 by omega]
  have c1 : ((hi : Int) * 2 ^ s) = ((hi * 2 ^ s : Nat) : Int) := by simp
  have c2 : ((lo : Int) * 2 ^ s) = ((lo * 2 ^ s : Nat) : Int) := by simp
  have c3 : ((lo : Int) / 2 ^ (64 - s)) = ((lo / 2 ^ (64 - s) : Nat) : Int) := by simp
  have l1 : (hi + 1) * 2 ^ s ≤ Y := by rw [hY]; exact Nat.mul_le_mul_right _ hhy
  rw [Nat.add_mul, Nat.one_mul] at l1
  have l2 : lo / 2 ^ (64 - s) < 2 ^ s := by
    rw [Nat.div_lt_iff_lt_mul hp', Nat.mul_comm, hpp]; exact hlo
  rw [c1, c2, c3, wrapN _ (by omega), wrapM, or_words (s := s) (Nat.mul_mod_left _ _) l2 (by omega)]
  have e := Nat.div_add_mod (lo * 2 ^ s) 18446744073709551616
  have e2 : lo * 2 ^ s / 18446744073709551616 = lo / 2 ^ (64 - s) := by
    rw [← hpp, Nat.mul_div_mul_right _ _ hp]
  rw [e2] at e
  refine ⟨_, _, lo * 2 ^ s % 18446744073709551616 / 4294967296, lo * 2 ^ s % 18446744073709551616 % 4294967296, rfl, rfl, ?_, ?_, Nat.mod_lt _ (by omega), ?_, ?_⟩
  · have := Nat.div_add_mod (lo * 2 ^ s % 18446744073709551616) 4294967296; omega
  · omega
  · omega
  · rw [Nat.add_mul, Nat.mul_assoc, Nat.mul_comm 18446744073709551616, ← Nat.mul_assoc]
    omega

theorem norm_words {y k s : Nat} (h1 : 2 ^ (k - 1) ≤ y) (h2 : y < 2 ^ k) (hk : 1 ≤ k) (hk' : k ≤ 64) (hs : 64 - k = s) :
    ∃ Y : Nat, IntKind.u64.wrap ((y : Int) * 2 ^ s) = (Y : Int) ∧ Y = y * 2 ^ s ∧ Y < 18446744073709551616 ∧ ∃ y1 y0, Y = y1 * 4294967296 + y0 ∧ 2147483648 ≤ y1 ∧ y1 < 4294967296 ∧ y0 < 4294967296 := by
  have c2 : ((y : Int) * 2 ^ s) = ((y * 2 ^ s : Nat) : Int) := by simp
  have p1 : 2 ^ (k - 1) * 2 ^ s = 9223372036854775808 := by
    rw [← Nat.pow_add, show k - 1 + s = 63 by omega]
  have p2 : 2 ^ k * 2 ^ s = 18446744073709551616 := by
    rw [← Nat.pow_add, show k + s = 64 by omega]
  have l1 : 9223372036854775808 ≤ y * 2 ^ s := by rw [← p1]; exact Nat.mul_le_mul_right _ h1
  have l2 : y * 2 ^ s < 18446744073709551616 := by rw [← p2]; exact Nat.mul_lt_mul_of_pos_right h2 (Nat.two_pow_pos s)
  refine ⟨_, by rw [c2, wrapN _ l2], rfl, l2, y * 2 ^ s / 4294967296, y * 2 ^ s % 4294967296, ?_, by omega, by omega, by omega⟩
  have := Nat.div_add_mod (y * 2 ^ s) 4294967296; omega

/-- What a digit's rest is, kept in 64 bits. -/
theorem rest_words {u a q Y v : Nat} (h : u * 4294967296 + a = q * Y + v) (hv : v < 18446744073709551616) :
    ∃ A1 A2 A3 : Nat, IntKind.u64.wrap ((u : Int) * 4294967296) = (A1 : Int) ∧ IntKind.u64.wrap ((A1 : Int) + (a : Int)) = (A2 : Int) ∧ IntKind.u64.wrap ((q : Int) * (Y : Int)) = (A3 : Int) ∧ IntKind.u64.wrap ((A2 : Int) - (A3 : Int)) = (v : Int) := by
  refine ⟨(u * 4294967296) % 18446744073709551616, ((u * 4294967296) % 18446744073709551616 + a) % 18446744073709551616, q * Y % 18446744073709551616, ?_, ?_, ?_, ?_⟩
  · rw [show (u : Int) * 4294967296 = ((u * 4294967296 : Nat) : Int) by simp, wrapM]
  · rw [addN, wrapM]
  · rw [mulN, wrapM]
  · rw [IntKind.wrap_u64]
    generalize q * Y = m at *
    omega

/-- The first guess of a digit. -/
theorem guess_words {u d y1 y0 q : Nat} (hu : u < y1 * 4294967296 + y0) (hd : d < 4294967296) (b1 : 2147483648 ≤ y1) (b1' : y1 < 4294967296) (b0 : y0 < 4294967296) (hq : q = (u * 4294967296 + d) / (y1 * 4294967296 + y0)) :
    ∃ Q R M : Nat, Kn.Dig u d y1 y0 q Q R ∧ R < 4294967296 ∧ Q ≤ 8589934592 ∧ (u : Int) / (y1 : Int) = (Q : Int) ∧ IntKind.u64.wrap (Q : Int) = (Q : Int) ∧ IntKind.u64.wrap ((Q : Int) * (y1 : Int)) = (M : Int) ∧ IntKind.u64.wrap ((u : Int) - (M : Int)) = (R : Int) := by
  have D := Kn.start (u := u) (d := d) (y1 := y1) (y0 := y0) (by omega) hd hq
  have hdm := Nat.div_add_mod u y1
  have hRl : u % y1 < y1 := Nat.mod_lt _ (by omega)
  rw [Nat.mul_comm] at hdm
  have hle : u / y1 ≤ u := Nat.div_le_self _ _
  have hQ : u / y1 ≤ 8589934592 := by
    have h : u / y1 * 2147483648 ≤ u / y1 * y1 := Nat.mul_le_mul_left _ b1
    omega
  refine ⟨u / y1, u % y1, u / y1 * y1, D, by omega, hQ, by rw [Int.natCast_ediv], wrapN _ (by omega), ?_, ?_⟩
  · rw [mulN]; exact wrapN _ (by omega)
  · rw [show (u : Int) - ((u / y1 * y1 : Nat) : Int) = ((u % y1 : Nat) : Int) by omega]; exact wrapN _ (by omega)

set_option maxHeartbeats 4000000 in
theorem bits_Div64 (hi lo y : Nat) (hh : 0 < hi) (hhy : hi < y) (hy : y < 18446744073709551616) (hlo : lo < 18446744073709551616) (w : World) :
    Calls Try.prog 43 #[.int .u64 hi, .int .u64 lo, .int .u64 y] w fun e w' => e = .returned (.tuple #[.int .u64 ((hi * 18446744073709551616 + lo) / y : Nat), .int .u64 ((hi * 18446744073709551616 + lo) % y : Nat)]) ∧ w = w' := by
  obtain ⟨k0, k1, k2⟩ := bitLenAux_bounds 64 y (by omega) (by omega)
  have k3 := bitLen_le y 64 (by omega) (by omega)
  have HL := Lib.hid (fun w => bits_LeadingZeros64 (y : Int) w (by omega) (by omega))
  obtain ⟨s, hs⟩ : ∃ s, 64 - Lib.bitLen y = s := ⟨_, rfl⟩
  have hs' : (64 - (Lib.bitLen y : Int)) = (s : Int) := by omega
  have hyn : (y : Int).toNat = y := rfl
  rw [hyn, hs'] at HL
  have hs63 : s ≤ 63 := by unfold Lib.bitLen at *; omega
  clear hyn hs'
  obtain ⟨Y, hY, hYn, hYl, y1, y0, hYe, b1, b1', b0⟩ := norm_words k1 k2 k0 (by unfold Lib.bitLen at *; omega) (by unfold Lib.bitLen at *; exact hs)
  obtain ⟨u, L, a, b, hU, hL, hLe, ha, hb, huY, hN⟩ := shift_words hhy hlo hYn hYl hs63
  have e1 : (Y : Int) / 4294967296 = (y1 : Int) := by omega
  have e0 := maskN Y (by omega)
  have e0' : Y % 4294967296 = y0 := by omega
  rw [e0'] at e0
  have f1 : (L : Int) / 4294967296 = (a : Int) := by omega
  have f0 := maskN L (by omega)
  have f0' : L % 4294967296 = b := by omega
  rw [f0'] at f0
  have c1 : ¬ (y1 : Int) ≤ 0 := by omega
  have c2 : ¬ (y1 : Int) = 0 := by omega
  -- the first digit, the second digit
  have zA : u < y1 * 4294967296 + y0 := by omega
  obtain ⟨q1, hq1⟩ : ∃ q, q = (u * 4294967296 + a) / (y1 * 4294967296 + y0) := ⟨_, rfl⟩
  obtain ⟨v, hvA, zB, hv⟩ := Kn.rest hq1 (by omega)
  rw [← hYe] at hvA
  have sA := Kn.small zA ha hq1
  obtain ⟨QA, RA, MA, D, rA, nA, uqA, uwA, umA, urA⟩ := guess_words zA ha b1 b1' b0 hq1
  have DA := Lib.hid D
  clear D
  obtain ⟨A1, A2, A3, hA1, hA2, hA3, hA4⟩ := rest_words hvA (by omega)
  obtain ⟨q0, hq0⟩ : ∃ q, q = (v * 4294967296 + b) / (y1 * 4294967296 + y0) := ⟨_, rfl⟩
  obtain ⟨r, hrB, zr, hr⟩ := Kn.rest hq0 (by omega)
  rw [← hYe] at hrB
  have sB := Kn.small zB hb hq0
  obtain ⟨QB, RB, MB, D, rB, nB, uqB, uwB, umB, urB⟩ := guess_words zB hb b1 b1' b0 hq0
  have DB := Lib.hid D
  clear D
  obtain ⟨B1, B2, B3, hB1, hB2, hB3, hB4⟩ := rest_words hrB (by omega)
  have hfin : (hi * 18446744073709551616 + lo) / y = q1 * 4294967296 + q0 ∧ (hi * 18446744073709551616 + lo) % y = r / 2 ^ s := by
    have hp : 0 < 2 ^ s := Nat.two_pow_pos s
    obtain ⟨g1, g2⟩ := Kn.both (y := y1 * 4294967296 + y0) (by omega) hq1 hv hq0 hLe
    obtain ⟨g3, g4⟩ := Kn.scale (n := hi * 18446744073709551616 + lo) (y := y) hp
    rw [hN, ← hYn, hYe] at g3 g4
    rw [g1] at g3
    rw [g2, ← hr] at g4
    exact ⟨g3.symm, by rw [g4, Nat.mul_div_cancel _ hp]⟩
  have HFA := Lib.hid hfin.1
  have HFB := Lib.hid hfin.2
  have HA := Lib.hid hq1
  have HB := Lib.hid hq0
  clear k0 k1 k2 k3 hs hYn hYe hq1 hq0 hv hr hN hLe e0' f0' hYl hvA hrB hfin zr huY
  go_enter Try.func43, Try.ntmps43
  go_upto_block 0 with (go_at_call 57; refine (HL.out _).mono ?_; rintro e w' ⟨rfl, rfl⟩)
  go_cut [15, 16] from 67 to 85 (fun sq sr wx => sq = .int .u64 (q1 : Int) ∧ w' = wx)
  case first =>
    go_wp2_with fail
    go_loop [15, 16] (fun sq sr => ∃ Q R : Nat, sq = .int .u64 (Q : Int) ∧ sr = .int .u64 (R : Int) ∧ Hid (Kn.Dig u a y1 y0 q1 Q R) ∧ R < 4294967296 ∧ Q ≤ 8589934592) (fun sq _ => (RowKit.intOf sq).toNat)
    case atStart => exact ⟨_, _, rfl, rfl, DA, rA, nA⟩
    case round =>
      obtain ⟨Q', R', rfl, rfl, D', r', n'⟩ := hrel
      clear uqA uwA umA urA DA rA nA
      have far (t : 4294967296 ≤ R' + y1) (ht : 4294967296 ≤ Q' ∨ 4294967296 * R' + a < Q' * y0) : Q' - 1 = q1 ∧ 1 ≤ Q' := ⟨Kn.far (Kn.yes D'.out sA (by omega) HA.out ht).2 (by omega) b0 zA HA.out t, (Kn.yes D'.out sA (by omega) HA.out ht).1⟩
      have near (ht : 4294967296 ≤ Q' ∨ 4294967296 * R' + a < Q' * y0) : 1 ≤ Q' ∧ Kn.Dig u a y1 y0 q1 (Q' - 1) (R' + y1) := Kn.yes D'.out sA (by omega) HA.out ht
      have no (ht : Q' * y0 ≤ 4294967296 * R' + a) : Q' = q1 := Kn.no D'.out (by omega) HA.out ht
      have FAR := Lib.hid far; have NEAR := Lib.hid near; have NO := Lib.hid no
      clear far near no
      by_cases t1 : 4294967296 ≤ Q'
      · have t1' : (4294967296 : Int) ≤ (Q' : Int) := by omega
        have g := NEAR.out (Or.inl t1)
        have g1 : (1 : Int) ≤ (Q' : Int) := by have := g.1; omega
        by_cases t2 : 4294967296 ≤ R' + y1
        · have t2' : (4294967296 : Int) ≤ (R' : Int) + (y1 : Int) := by omega
          have G := Lib.hid (FAR.out t2 (Or.inl t1)).1
          clear g t1 t2 NEAR NO FAR
          go_wp2_with fail
          go_meet
          exact ⟨by have := G.out; congr 1; omega, rfl⟩
        · have t2' : ¬ (4294967296 : Int) ≤ (R' : Int) + (y1 : Int) := by omega
          have G := Lib.hid g.2
          clear g t1 t2 NEAR NO FAR
          go_wp2_with fail
          go_round
          case rel => exact ⟨Q' - 1, R' + y1, by congr 1; omega, by congr 1, G, by omega, by omega⟩
          case measure => simp [RowKit.intOf]; omega
      · obtain ⟨P, hP⟩ : ∃ P, P = Q' * y0 := ⟨_, rfl⟩
        have hPw : IntKind.u64.wrap ((Q' : Int) * (y0 : Int)) = (P : Int) := by
          have hb : Q' * y0 ≤ 4294967295 * 4294967295 := Nat.mul_le_mul (by omega) (by omega)
          rw [mulN, ← hP]; exact wrapN _ (by omega)
        rw [← hP] at FAR NEAR NO
        have t1' : ¬ (4294967296 : Int) ≤ (Q' : Int) := by omega
        clear hP t1
        by_cases t3 : 4294967296 * R' + a < P
        · have t3' : 4294967296 * (R' : Int) + (a : Int) < (P : Int) := by omega
          have g := NEAR.out (Or.inr t3)
          have g1 : (1 : Int) ≤ (Q' : Int) := by have := g.1; omega
          by_cases t2 : 4294967296 ≤ R' + y1
          · have t2' : (4294967296 : Int) ≤ (R' : Int) + (y1 : Int) := by omega
            have G := Lib.hid (FAR.out t2 (Or.inr t3)).1
            clear g t3 t2 NEAR NO FAR
            go_wp2_with fail
            go_meet
            exact ⟨by have := G.out; congr 1; omega, rfl⟩
          · have t2' : ¬ (4294967296 : Int) ≤ (R' : Int) + (y1 : Int) := by omega
            have G := Lib.hid g.2
            clear g t3 t2 NEAR NO FAR
            go_wp2_with fail
            go_round
            case rel => exact ⟨Q' - 1, R' + y1, by congr 1; omega, by congr 1, G, by omega, by omega⟩
            case measure => simp [RowKit.intOf]; omega
        · have t3' : ¬ 4294967296 * (R' : Int) + (a : Int) < (P : Int) := by omega
          have G := Lib.hid (NO.out (by omega))
          clear t3 NEAR NO FAR
          go_wp2_with fail
          go_meet
          exact ⟨by rw [G.out], rfl⟩
  case rest =>
  obtain ⟨rfl, rfl⟩ := hcut
  clear uqA uwA umA urA DA rA nA
  go_upto_block 2 with (fail)
  go_cut [18, 16] from 102 to 120 (fun sq sr wx => sq = .int .u64 (q0 : Int) ∧ w' = wx)
  case first =>
    go_wp2_with fail
    go_loop [18, 16] (fun sq sr => ∃ Q R : Nat, sq = .int .u64 (Q : Int) ∧ sr = .int .u64 (R : Int) ∧ Hid (Kn.Dig v b y1 y0 q0 Q R) ∧ R < 4294967296 ∧ Q ≤ 8589934592) (fun sq _ => (RowKit.intOf sq).toNat)
    case atStart => exact ⟨_, _, rfl, rfl, DB, rB, nB⟩
    case round =>
      obtain ⟨Q', R', rfl, rfl, D', r', n'⟩ := hrel
      clear uqB uwB umB urB DB rB nB
      have far (t : 4294967296 ≤ R' + y1) (ht : 4294967296 ≤ Q' ∨ 4294967296 * R' + b < Q' * y0) : Q' - 1 = q0 ∧ 1 ≤ Q' := ⟨Kn.far (Kn.yes D'.out sB (by omega) HB.out ht).2 (by omega) b0 zB HB.out t, (Kn.yes D'.out sB (by omega) HB.out ht).1⟩
      have near (ht : 4294967296 ≤ Q' ∨ 4294967296 * R' + b < Q' * y0) : 1 ≤ Q' ∧ Kn.Dig v b y1 y0 q0 (Q' - 1) (R' + y1) := Kn.yes D'.out sB (by omega) HB.out ht
      have no (ht : Q' * y0 ≤ 4294967296 * R' + b) : Q' = q0 := Kn.no D'.out (by omega) HB.out ht
      have FAR := Lib.hid far; have NEAR := Lib.hid near; have NO := Lib.hid no
      clear far near no
      by_cases t1 : 4294967296 ≤ Q'
      · have t1' : (4294967296 : Int) ≤ (Q' : Int) := by omega
        have g := NEAR.out (Or.inl t1)
        have g1 : (1 : Int) ≤ (Q' : Int) := by have := g.1; omega
        by_cases t2 : 4294967296 ≤ R' + y1
        · have t2' : (4294967296 : Int) ≤ (R' : Int) + (y1 : Int) := by omega
          have G := Lib.hid (FAR.out t2 (Or.inl t1)).1
          clear g t1 t2 NEAR NO FAR
          go_wp2_with fail
          go_meet
          exact ⟨by have := G.out; congr 1; omega, rfl⟩
        · have t2' : ¬ (4294967296 : Int) ≤ (R' : Int) + (y1 : Int) := by omega
          have G := Lib.hid g.2
          clear g t1 t2 NEAR NO FAR
          go_wp2_with fail
          go_round
          case rel => exact ⟨Q' - 1, R' + y1, by congr 1; omega, by congr 1, G, by omega, by omega⟩
          case measure => simp [RowKit.intOf]; omega
      · obtain ⟨P, hP⟩ : ∃ P, P = Q' * y0 := ⟨_, rfl⟩
        have hPw : IntKind.u64.wrap ((Q' : Int) * (y0 : Int)) = (P : Int) := by
          have hb : Q' * y0 ≤ 4294967295 * 4294967295 := Nat.mul_le_mul (by omega) (by omega)
          rw [mulN, ← hP]; exact wrapN _ (by omega)
        rw [← hP] at FAR NEAR NO
        have t1' : ¬ (4294967296 : Int) ≤ (Q' : Int) := by omega
        clear hP t1
        by_cases t3 : 4294967296 * R' + b < P
        · have t3' : 4294967296 * (R' : Int) + (b : Int) < (P : Int) := by omega
          have g := NEAR.out (Or.inr t3)
          have g1 : (1 : Int) ≤ (Q' : Int) := by have := g.1; omega
          by_cases t2 : 4294967296 ≤ R' + y1
          · have t2' : (4294967296 : Int) ≤ (R' : Int) + (y1 : Int) := by omega
            have G := Lib.hid (FAR.out t2 (Or.inr t3)).1
            clear g t3 t2 NEAR NO FAR
            go_wp2_with fail
            go_meet
            exact ⟨by have := G.out; congr 1; omega, rfl⟩
          · have t2' : ¬ (4294967296 : Int) ≤ (R' : Int) + (y1 : Int) := by omega
            have G := Lib.hid g.2
            clear g t3 t2 NEAR NO FAR
            go_wp2_with fail
            go_round
            case rel => exact ⟨Q' - 1, R' + y1, by congr 1; omega, by congr 1, G, by omega, by omega⟩
            case measure => simp [RowKit.intOf]; omega
        · have t3' : ¬ 4294967296 * (R' : Int) + (b : Int) < (P : Int) := by omega
          have G := Lib.hid (NO.out (by omega))
          clear t3 NEAR NO FAR
          go_wp2_with fail
          go_meet
          exact ⟨by rw [G.out], rfl⟩
  case rest =>
  obtain ⟨rfl, rfl⟩ := hcut
  clear uqB uwB umB urB DB rB nB
  go_wp2_with fail
  go_ret2
  exact ⟨by rw [HFA.out, HFB.out]; rfl, rfl⟩
end Go.Proofs.Ytmodchmadbkfbaa

/-! Divisions of two words are right. -/
namespace Go.Proofs.Ytmodchmadbkfbaa.Gm
set_option linter.unusedSimpArgs false
open Go Go.RowKit Go.Lib Go.Proofs.Ytmodchmadbkfbaa

theorem DivOk_gen {N d : Int} (h0 : 0 ≤ N) (hd : 0 < d) (hd' : d < 18446744073709551616) (hq : N / 18446744073709551616 < d) : DivOk N d := by
  by_cases hs : N < 18446744073709551616
  · exact DivOk_low h0 hs hd hd'
  intro w
  obtain ⟨n, rfl⟩ := Int.eq_ofNat_of_zero_le h0
  obtain ⟨y, rfl⟩ := Int.eq_ofNat_of_zero_le (Int.le_of_lt hd)
  have h := bits_Div64 (n / 18446744073709551616) (n % 18446744073709551616) y (by omega) (by omega) (by omega) (by omega) w
  have e : n / 18446744073709551616 * 18446744073709551616 + n % 18446744073709551616 = n := by omega
  rw [e] at h
  refine h.mono fun e' w' ⟨he, hw⟩ => ⟨by rw [he]; simp, 0, ?_⟩
  rw [← hw]; rfl

theorem DvIn_gen {x y d : Int} (hx : -4611686018427387904 ≤ x) (hx' : x ≤ 4611686018427387904) (hy : 0 ≤ y) (hy' : y ≤ 4611686018427387904) (hd : 0 < d) (hd' : d ≤ 4611686018427387904)
    (hp : (x.natAbs : Int) * y ≤ 4611686018427387904 * d) : DvIn x y d := by
  have h0 : 0 ≤ (x.natAbs : Int) * y := Int.mul_nonneg (by omega) hy
  have hq : (x.natAbs : Int) * y / d ≤ 4611686018427387904 := by
    have := Int.ediv_le_ediv hd hp
    rwa [Int.mul_ediv_cancel _ (by omega)] at this
  refine ⟨hx, hx', hy, hy', hd, hd', hq, DivOk_gen h0 hd (by omega) ?_⟩
  exact Int.ediv_lt_of_lt_mul (by decide) (by omega)

end Go.Proofs.Ytmodchmadbkfbaa.Gm
