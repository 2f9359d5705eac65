/- Long division by two digits of 32 bits: the plain mathematics. -/
import Derived.Lib.Hide
namespace Go.Proofs.Ytgdhpgjfebinhaa.Kn

/-- One digit of a long division: what a guess and its rest keep. -/
structure Dig (u d y1 y0 q Q R : Nat) : Prop where
  eq : u = Q * y1 + R
  le : q ≤ Q

variable {u d y1 y0 q Q R : Nat}

theorem mul_le_of_div {a b c : Nat} (hb : 0 < b) (h : c ≤ a / b) : c * b ≤ a := (Nat.le_div_iff_mul_le hb).mp h

theorem start (h1 : 0 < y1) (hd : d < 4294967296) (hq : q = (u * 4294967296 + d) / (y1 * 4294967296 + y0)) :
    Dig u d y1 y0 q (u / y1) (u % y1) := by
  refine ⟨by rw [Nat.mul_comm]; exact (Nat.div_add_mod u y1).symm, ?_⟩
  rw [Nat.le_div_iff_mul_le h1]
  have h : q * (y1 * 4294967296 + y0) ≤ u * 4294967296 + d := mul_le_of_div (by omega) (by omega)
  have e : q * (y1 * 4294967296 + y0) = q * y1 * 4294967296 + q * y0 := by rw [Nat.mul_add, Nat.mul_assoc]
  have := Nat.zero_le (q * y0)
  omega

theorem small (hu : u < y1 * 4294967296 + y0) (hd : d < 4294967296) (hq : q = (u * 4294967296 + d) / (y1 * 4294967296 + y0)) : q < 4294967296 := by
  rw [hq, Nat.div_lt_iff_lt_mul (by omega)]
  have : u + 1 ≤ y1 * 4294967296 + y0 := hu
  omega

theorem yes (h : Dig u d y1 y0 q Q R) (hs : q < 4294967296) (h1 : 0 < y1) (hq : q = (u * 4294967296 + d) / (y1 * 4294967296 + y0))
    (t : 4294967296 ≤ Q ∨ 4294967296 * R + d < Q * y0) : 1 ≤ Q ∧ Dig u d y1 y0 q (Q - 1) (R + y1) := by
  have hlt : q < Q := by
    rcases t with t | t
    · omega
    · rw [hq, Nat.div_lt_iff_lt_mul (by omega)]
      have e : Q * (y1 * 4294967296 + y0) = Q * y1 * 4294967296 + Q * y0 := by rw [Nat.mul_add, Nat.mul_assoc]
      have := h.eq
      omega
  refine ⟨by omega, ⟨?_, by omega⟩⟩
  obtain ⟨P, rfl⟩ : ∃ P, Q = P + 1 := ⟨Q - 1, by omega⟩
  have := h.eq
  rw [Nat.add_mul, Nat.one_mul] at this
  simp only [Nat.add_sub_cancel]
  omega

theorem no (h : Dig u d y1 y0 q Q R) (h1 : 0 < y1) (hq : q = (u * 4294967296 + d) / (y1 * 4294967296 + y0))
    (t : Q * y0 ≤ 4294967296 * R + d) : Q = q := by
  apply Nat.le_antisymm _ h.le
  rw [hq, Nat.le_div_iff_mul_le (by omega)]
  have e : Q * (y1 * 4294967296 + y0) = Q * y1 * 4294967296 + Q * y0 := by rw [Nat.mul_add, Nat.mul_assoc]
  have := h.eq
  omega

theorem far (h : Dig u d y1 y0 q Q R) (h1 : 0 < y1) (h0 : y0 < 4294967296) (hu : u < y1 * 4294967296 + y0) (hq : q = (u * 4294967296 + d) / (y1 * 4294967296 + y0))
    (t : 4294967296 ≤ R) : Q = q := by
  have hQ : Q < 4294967296 := by
    apply Nat.lt_of_not_le
    intro hc
    have := Nat.mul_le_mul_right y1 hc
    have := h.eq
    omega
  apply no h h1 hq
  have a : Q * y0 ≤ 4294967295 * 4294967295 := Nat.mul_le_mul (by omega) (by omega)
  omega

/-- The rest of one digit, kept in 64 bits. -/
theorem rest (hq : q = (u * 4294967296 + d) / (y1 * 4294967296 + y0)) (hy : 0 < y1) : ∃ r, u * 4294967296 + d = q * (y1 * 4294967296 + y0) + r ∧ r < y1 * 4294967296 + y0 ∧ r = (u * 4294967296 + d) % (y1 * 4294967296 + y0) := by
  refine ⟨_, ?_, Nat.mod_lt _ (by omega), rfl⟩
  have e := Nat.div_add_mod (u * 4294967296 + d) (y1 * 4294967296 + y0)
  rw [← hq, Nat.mul_comm] at e
  exact e.symm

/-- Two digits make the quotient. -/
theorem both {n0 y v : Nat} (hy : 0 < y) {u a b q1 q0 : Nat} (h1 : q1 = (u * 4294967296 + a) / y) (hv : v = (u * 4294967296 + a) % y) (h0 : q0 = (v * 4294967296 + b) / y) (hn : n0 = a * 4294967296 + b) :
    (u * 18446744073709551616 + n0) / y = q1 * 4294967296 + q0 ∧ (u * 18446744073709551616 + n0) % y = (v * 4294967296 + b) % y := by
  have e1 := Nat.div_add_mod (u * 4294967296 + a) y
  rw [← h1, ← hv] at e1
  have e2 : y * (q1 * 4294967296) = y * q1 * 4294967296 := (Nat.mul_assoc _ _ _).symm
  have e : u * 18446744073709551616 + n0 = v * 4294967296 + b + y * (q1 * 4294967296) := by
    rw [e2]; omega
  clear hn e1 e2
  constructor
  · rw [e, Nat.add_mul_div_left _ _ hy, ← h0, Nat.add_comm]
  · rw [e, Nat.add_mul_mod_self_left]

theorem scale {n y s : Nat} (hs : 0 < s) : (n * s) / (y * s) = n / y ∧ (n * s) % (y * s) = n % y * s := by
  constructor
  · exact Nat.mul_div_mul_right _ _ hs
  · rw [Nat.mul_mod_mul_right]

end Go.Proofs.Ytgdhpgjfebinhaa.Kn
