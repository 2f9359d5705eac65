/- Greatest common divisors by remainders, in plain numbers: the loop that finds them, and what they divide. -/
import Derived.Test.YtfgdockgdbdoiaaGreatFvw0
namespace Go.Proofs.YtfgdockgdbdoiaaGreat.Ev
open Go Go.RowKit
set_option linter.unusedVariables false

/-- A loop that takes remainders until nothing is left ends with a greatest common divisor, but for its sign. -/
theorem gcd_loop {d n : Int} (hd : (-9223372036854775808) ≤ d ∧ d ≤ 9223372036854775807) (hn : (-9223372036854775808) ≤ n ∧ n ≤ 9223372036854775807) {K : Int → Prop}
    (h : ∀ g : Int, g.natAbs = Nat.gcd d.natAbs n.natAbs → ((-9223372036854775808) ≤ g ∧ g ≤ 9223372036854775807) → K g) :
    ∃ (I : Int → Int → Prop) (rk : Int → Int → Nat), I d n ∧
      (∀ x : Int, ∀ y : Int, I x y → (((-9223372036854775808) ≤ (x : Int) ∧ (x : Int) ≤ 9223372036854775807) ∧ (((-9223372036854775808) ≤ (y : Int) ∧ (y : Int) ≤ 9223372036854775807) ∧ ((((y : Int) == 0) = true → (((-9223372036854775808) ≤ ((x) : Int) ∧ ((x) : Int) ≤ 9223372036854775807) ∧ K x)) ∧
        (((y : Int) == 0) = false → (I y ((x : Int).tmod y) ∧ rk y ((x : Int).tmod y) < rk x y)))))) := by
  refine ⟨fun x y => ((-9223372036854775808) ≤ x ∧ x ≤ 9223372036854775807) ∧ ((-9223372036854775808) ≤ y ∧ y ≤ 9223372036854775807) ∧ Nat.gcd x.natAbs y.natAbs = Nat.gcd d.natAbs n.natAbs, fun _ y => y.natAbs, ⟨hd, hn, rfl⟩, ?_⟩
  rintro x y ⟨hx, hy, hg⟩
  refine ⟨hx, hy, fun e => ⟨hx, h x ?_ hx⟩, fun e => ?_⟩
  · have e : y = 0 := by simpa using e
    subst e
    rw [← hg]; simp
  · have e : y ≠ 0 := by simpa using e
    have e1 : (x.tmod y).natAbs = x.natAbs % y.natAbs := Int.natAbs_tmod x y
    have e2 : x.natAbs % y.natAbs < y.natAbs := Nat.mod_lt _ (by omega)
    refine ⟨⟨hy, by omega, ?_⟩, by dsimp only; omega⟩
    rw [e1, ← hg, Nat.gcd_comm x.natAbs y.natAbs, Nat.gcd_rec y.natAbs x.natAbs, Nat.gcd_comm]
theorem gcd_le {a b M : Nat} (ha : a ≤ M) (hb : b ≤ M) : Nat.gcd a b ≤ M := by
  rcases Nat.eq_zero_or_pos b with h | h
  · subst h; simpa using ha
  · exact Nat.le_trans (Nat.le_of_dvd h (Nat.gcd_dvd_right a b)) hb
/-- The size, as the program says it. -/
theorem size_ite {g : Int} (h : (-4611686018427387904) ≤ g ∧ g ≤ 4611686018427387904) : (if IntKind.i64.wrap (0 - g) > g then IntKind.i64.wrap (0 - g) else g) = (g.natAbs : Int) := by
  have w : IntKind.i64.wrap (0 - g) = 0 - g := by rw [IntKind.wrap_i64]; omega
  rw [w]; split <;> omega
/-- The greatest common divisor of ten numbers. -/
def g9 (x0 x1 x2 x3 x4 x5 x6 x7 x8 : Int) : Nat := Nat.gcd (Nat.gcd (Nat.gcd (Nat.gcd (Nat.gcd (Nat.gcd (Nat.gcd (Nat.gcd (Nat.gcd 0 x0.natAbs) x1.natAbs) x2.natAbs) x3.natAbs) x4.natAbs) x5.natAbs) x6.natAbs) x7.natAbs) x8.natAbs
def g10 (x0 x1 x2 x3 x4 x5 x6 x7 x8 x9 : Int) : Nat := Nat.gcd (Nat.gcd 0 (g9 x0 x1 x2 x3 x4 x5 x6 x7 x8)) x9.natAbs
theorem g10_pos {x0 x1 x2 x3 x4 x5 x6 x7 x8 x9 : Int} (h : 1 ≤ x9) : 1 ≤ g10 x0 x1 x2 x3 x4 x5 x6 x7 x8 x9 := by
  unfold g10; exact Nat.gcd_pos_of_pos_right _ (by omega)
theorem tdiv_dvd {x : Int} {k : Nat} (hk : 1 ≤ k) (h : k ∣ x.natAbs) : (k : Int) * x.tdiv (k : Int) = x := by
  have h1 : (k : Int) ∣ x := Int.ofNat_dvd_left.2 h
  exact Int.mul_tdiv_cancel' h1
theorem g10_dvd (x0 x1 x2 x3 x4 x5 x6 x7 x8 x9 : Int) : g10 x0 x1 x2 x3 x4 x5 x6 x7 x8 x9 ∣ x0.natAbs ∧ g10 x0 x1 x2 x3 x4 x5 x6 x7 x8 x9 ∣ x1.natAbs ∧ g10 x0 x1 x2 x3 x4 x5 x6 x7 x8 x9 ∣ x2.natAbs ∧ g10 x0 x1 x2 x3 x4 x5 x6 x7 x8 x9 ∣ x3.natAbs ∧ g10 x0 x1 x2 x3 x4 x5 x6 x7 x8 x9 ∣ x4.natAbs ∧ g10 x0 x1 x2 x3 x4 x5 x6 x7 x8 x9 ∣ x5.natAbs ∧ g10 x0 x1 x2 x3 x4 x5 x6 x7 x8 x9 ∣ x6.natAbs ∧ g10 x0 x1 x2 x3 x4 x5 x6 x7 x8 x9 ∣ x7.natAbs ∧ g10 x0 x1 x2 x3 x4 x5 x6 x7 x8 x9 ∣ x8.natAbs ∧ g10 x0 x1 x2 x3 x4 x5 x6 x7 x8 x9 ∣ x9.natAbs := by
  have L : ∀ a b : Nat, Nat.gcd a b ∣ a := fun a b => Nat.gcd_dvd_left a b
  have R : ∀ a b : Nat, Nat.gcd a b ∣ b := fun a b => Nat.gcd_dvd_right a b
  unfold g10
  have q : ∀ n : Nat, g9 x0 x1 x2 x3 x4 x5 x6 x7 x8 ∣ n → Nat.gcd (Nat.gcd 0 (g9 x0 x1 x2 x3 x4 x5 x6 x7 x8)) x9.natAbs ∣ n := fun n h => Nat.dvd_trans (Nat.dvd_trans (L _ _) (R _ _)) h
  refine ⟨q _ ?_, q _ ?_, q _ ?_, q _ ?_, q _ ?_, q _ ?_, q _ ?_, q _ ?_, q _ ?_, R _ _⟩
  all_goals unfold g9
  all_goals (repeat (first | exact R _ _ | refine Nat.dvd_trans (L _ _) ?_))
end Go.Proofs.YtfgdockgdbdoiaaGreat.Ev
