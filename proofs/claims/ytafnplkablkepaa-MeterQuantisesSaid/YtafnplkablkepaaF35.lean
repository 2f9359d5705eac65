/- Whole numbers as floats of single precision. -/
import Derived.Test.YtafnplkablkepaaF34
namespace Go.Proofs.Ytafnplkablkepaa
open Go Ieee
set_option linter.unusedVariables false
set_option linter.unusedSimpArgs false
def top32 (K : Nat) : Nat := K * 2 ^ (23 - K.log2)
def rung32 (K : Nat) : Nat := (K.log2 + 126) * 8388608 + top32 K
theorem log32 {K : Nat} (h0 : 0 < K) (h : K ≤ 65535) : K.log2 ≤ 15 := by
  have : K.log2 < 16 := (Nat.log2_lt (by omega)).2 (by omega)
  omega
theorem top32_bd {K : Nat} (h0 : 0 < K) (h : K ≤ 65535) : 8388608 ≤ top32 K ∧ top32 K < 16777216 := by
  have e := log32 h0 h
  unfold top32
  have a := Nat.log2_self_le (n := K) (by omega)
  have b := Nat.lt_log2_self (n := K)
  have e1 : (8388608 : Nat) = 2 ^ K.log2 * 2 ^ (23 - K.log2) := by
    rw [← Nat.pow_add, show K.log2 + (23 - K.log2) = 23 from by omega]
  have e2 : (16777216 : Nat) = 2 ^ (K.log2 + 1) * 2 ^ (23 - K.log2) := by
    rw [← Nat.pow_add, show K.log2 + 1 + (23 - K.log2) = 24 from by omega]
  rw [e1, e2]
  exact ⟨Nat.mul_le_mul_right _ a, Nat.mul_lt_mul_of_pos_right b (Nat.two_pow_pos _)⟩
theorem near32 {K : Nat} (h0 : 0 < K) (h : K ≤ 65535) : single.nearest false K 0 = single.word false (rung32 K) := by
  have e := log32 h0 h
  have hb := top32_bd h0 h
  have hlast : max ((0 : Int) + (K.log2 : Int) - (single.fractionBits : Int)) single.leastPlace = (K.log2 : Int) - 23 := by
    rw [s_least, show single.fractionBits = 23 from rfl]; omega
  unfold Format.nearest
  rw [if_neg (by omega)]
  simp only [hlast]
  have e2 : ((K.log2 : Int) - 23 - 0).toNat = 0 := by omega
  have e3 : ((0 : Int) - ((K.log2 : Int) - 23)).toNat = 23 - K.log2 := by omega
  rw [e2, e3]
  have e4 : Toward.even.cut false (K <<< (23 - K.log2)) 0 = top32 K := cut_exact _ _ _ _ _ (by rw [Nat.shiftLeft_eq]; unfold top32; simp)
  rw [e4, s_least, s_binade, s_inf]
  have e5 : ((K.log2 : Int) - 23 - -149).toNat = K.log2 + 126 := by omega
  rw [e5]
  have : min ((K.log2 + 126) * 8388608 + top32 K) 2139095040 = rung32 K := by unfold rung32; omega
  rw [this]
theorem read32 {K : Nat} (h0 : 0 < K) (h : K ≤ 65535) : single.read (single.word false (rung32 K)) = .number false (top32 K) ((K.log2 : Int) - 23) := by
  have e := log32 h0 h
  have hb := top32_bd h0 h
  have hr : 8388608 ≤ rung32 K ∧ rung32 K < 2139095040 := by unfold rung32; omega
  have e3 : 8388608 + rung32 K % 8388608 = top32 K := by unfold rung32; omega
  have e4 : rung32 K / 8388608 - 1 = K.log2 + 126 := by unfold rung32; omega
  have e6 : (-149 : Int) + ((K.log2 + 126 : Nat) : Int) = (K.log2 : Int) - 23 := by omega
  unfold Format.read Format.word
  simp only [Bool.false_eq_true, if_false, s_sign, s_binade, s_inf, s_least]
  have e1 : rung32 K / 2147483648 % 2 = 0 := by omega
  have e2 : rung32 K % 2147483648 = rung32 K := by omega
  rw [e1, e2, if_neg (by omega), if_pos hr.2, e3, e4, e6]
  rfl
/-- The bits of a whole number of at most 65535, read. -/
theorem int32 {n : Int} (h : 0 ≤ n ∧ n ≤ 65535) : ∃ s m e, single.read (FloatKind.f32.nearest n) = .number s m e ∧ Mi (signed s m 0) e n := by
  by_cases h0 : n = 0
  · subst h0
    exact ⟨false, 0, -149, by decide +kernel, by unfold Mi; rw [show signed false 0 0 = 0 from rfl, Int.zero_mul, Int.zero_mul]⟩
  · obtain ⟨K, rfl⟩ : ∃ K : Nat, n = (K : Int) := ⟨n.toNat, by omega⟩
    have hK : 0 < K ∧ K ≤ 65535 := by omega
    have e : FloatKind.f32.nearest (K : Int) = single.nearest (decide ((K : Int) < 0)) (K : Int).natAbs 0 := rfl
    rw [e, show decide ((K : Int) < 0) = false from decide_eq_false (by omega), Int.natAbs_natCast, near32 hK.1 hK.2, read32 hK.1 hK.2]
    refine ⟨_, _, _, rfl, ?_⟩
    have hl := log32 hK.1 hK.2
    have hm : Mi ((top32 K : Nat) : Int) ((K.log2 : Int) - 23) (K : Int) := by
      unfold Mi top32
      rw [show ((K.log2 : Int) - 23).toNat = 0 by omega, show (-((K.log2 : Int) - 23)).toNat = 23 - K.log2 by omega]
      push_cast
      rw [Int.mul_one]
    have := Mi_signed (K := K) false hm
    simpa using this
/-- All that a check asks of it. -/
theorem int32_all {n : Int} (h : 0 ≤ n ∧ n ≤ 65535) : (single.order (FloatKind.f32.nearest n) (FloatKind.f32.nearest n) != some .eq) = false ∧ whB (widen (FloatKind.f32.nearest n)) = true ∧
    (single.order (FloatKind.f32.nearest n) 0 == some .lt) = false ∧ cutF32 (FloatKind.f32.nearest n) = some n := by
  obtain ⟨s, m, e, hr, hm⟩ := int32 h
  have c (x : Int) : compare x x = Ordering.eq := by simp [compare, compareOfLessAndEq]
  refine ⟨?_, ?_, ?_, cut_of hr hm (by omega)⟩
  · rw [order_of hr hr hm hm, c]; rfl
  · obtain ⟨s', m', e', r, g⟩ := wide_same hr hm
    have hb : widen (FloatKind.f32.nearest n) < 18446744073709551616 := Ieee.Format.write_lt Ieee.double _
    have hk : InF n := ⟨by omega, by omega⟩
    rcases read_cases hb with ⟨_, _, h⟩ | ⟨_, h, _⟩ | ⟨s2, m2, e2, nb⟩
    · rw [h] at r; cases r
    · rw [h] at r; cases r
    · have r' := r
      rw [nb.read] at r'
      obtain ⟨rfl, rfl, rfl⟩ := Datum.number.inj r'
      rw [← nb.trunc, show trB (widen (FloatKind.f32.nearest n)) = widen (FloatKind.f32.nearest n) from trunc_rp (nb.rp g hk) hk, show double.order (widen (FloatKind.f32.nearest n)) (widen (FloatKind.f32.nearest n)) = some (compare n n) from order_ofD nb.read nb.read g g, c]
      rfl
  · have h0 : Mi (signed false 0 0) (-149) 0 := by unfold Mi; rw [show signed false 0 0 = 0 from rfl, Int.zero_mul, Int.zero_mul]
    rw [order_of hr read_0 hm h0]
    by_cases g : n = 0
    · subst g; decide
    · have h1 : ¬ n < 0 := by omega
      have : compare n 0 = Ordering.gt := by simp [compare, compareOfLessAndEq, h1, g]
      rw [this]; rfl
end Go.Proofs.Ytafnplkablkepaa
