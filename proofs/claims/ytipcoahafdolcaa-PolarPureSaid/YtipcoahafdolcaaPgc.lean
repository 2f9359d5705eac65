/- The greatest common divisor of the reference. -/
import Derived.Test.YtipcoahafdolcaaEvw1
namespace Go.Proofs.Ytipcoahafdolcaa.Ev
set_option linter.unusedSimpArgs false
open Go Go.RowKit
set_option maxRecDepth 100000
def gc_t : Tr :=
  (.loop ⟨136, [0, 0, 1], [(.int .i64 (.var 0)), (.int .i64 (.var 1)), (.tuple []), (.tuple []), (.int .i64 (.lit 0)), (.tuple []), (.tuple []), (.tuple []), (.tuple []), (.tuple []), (.tuple []), (.tuple []), (.tuple [])], [], [(.int .i64 (.var 2)), (.int .i64 (.var 3)), (.tuple []), (.tuple []), (.int .i64 (.lit 0)), (.any 5), (.any 6), (.any 7), (.any 8), (.any 9), (.any 10), (.tuple []), (.tuple [])], [], [], 2, 0, [(.var 0), (.var 1)], []⟩
  (.rng 2 (-9223372036854775808) 9223372036854775807 (.rng 3 (-9223372036854775808) 9223372036854775807 (.ite (.icmp .eql (.var 3) (.lit 0))
   (.out 0 [(.var 2)] [])
   (.next [(.var 3), (.bin .remK (.var 2) (.var 3))] []))))
  (.ex ((.exit 0), [(.int .i64 (.var 2)), (.any 1), (.tuple []), (.tuple []), (.int .i64 (.lit 0)), (.any 5), (.any 6), (.any 7), (.any 8), (.any 9), (.any 10), (.tuple []), (.tuple [])], [], []) 1 0
  (.rng 2 (-9223372036854775808) 9223372036854775807 (.leaf (.int .i64 (.bin .maxI (.var 2) (.bin (.subW .i64) (.lit 0) (.var 2))))))
  .nil))
theorem gc {a b : Int} (r0 : (-9223372036854775808) ≤ a ∧ a ≤ 9223372036854775807) (r1 : (-9223372036854775808) ≤ b ∧ b ≤ 9223372036854775807) {Q : Value → Prop} (H :
  (∃ (I2 : Int → Int → Prop) (rk2 : Int → Int → Nat), I2 (a) (b) ∧
   (∀ x2 x3 : Int, I2 (x2) (x3) → (((-9223372036854775808) ≤ x2 ∧ x2 ≤ 9223372036854775807) ∧ (((-9223372036854775808) ≤ x3 ∧ x3 ≤ 9223372036854775807) ∧ ((((x3 : Int) == 0) = true → (((-9223372036854775808) ≤ (x2) ∧ (x2) ≤ 9223372036854775807) ∧ Q (.int .i64 ((if (IntKind.i64.wrap (0 - (x2)) : Int) > (x2) then IntKind.i64.wrap (0 - (x2)) else (x2)))))) ∧
    (((x3 : Int) == 0) = false → (I2 (x3) ((x2 : Int).tmod x3) ∧ rk2 (x3) ((x2 : Int).tmod x3) < rk2 (x2) (x3))))))))) :
    ∃ v, Q v ∧ ∀ w, Calls Try.prog 136 #[.int .i64 (a), .int .i64 (b)] w fun e w' => e = .returned v ∧ Below w.heap.size w w' :=
  tree_at mixed names S1_ok (S := S1 Try.prog) (lf := 100000) (d := 60) (args := [(.int .i64 (.var 0)), (.int .i64 (.var 1))]) gc_t { ivs := [(0, (-9223372036854775808), 9223372036854775807), (1, (-9223372036854775808), 9223372036854775807)], whs := [] } [a, b] [] 2 0 rfl rfl (by kernel_rfl) (by kernel_rfl) (by kernel_rfl)
    ⟨(fc r0 (fc r1 fz)), fz⟩ H
theorem tmod_gcd (x y : Int) : Int.gcd y (x.tmod y) = Int.gcd x y := by
  unfold Int.gcd
  rw [Int.natAbs_tmod, Nat.gcd_comm, ← Nat.gcd_rec, Nat.gcd_comm]
theorem base_gcd {a b : Int} (ha : -9223372036854775807 ≤ a ∧ a ≤ 9223372036854775807) (hb : -9223372036854775807 ≤ b ∧ b ≤ 9223372036854775807) (w : World) :
    Calls Try.prog 136 #[.int .i64 a, .int .i64 b] w fun e w' => e = .returned (.int .i64 (Int.gcd a b)) ∧ Below w.heap.size w w' := by
  refine one_val (gc (Q := (· = _)) (by omega) (by omega) ⟨fun x y => Int.gcd x y = Int.gcd a b ∧ (-9223372036854775807 ≤ x ∧ x ≤ 9223372036854775807) ∧ (-9223372036854775807 ≤ y ∧ y ≤ 9223372036854775807), fun _ y => y.natAbs, ⟨rfl, ha, hb⟩, fun x y ⟨hg, hx, hy⟩ => ⟨by omega, by omega, fun h => ⟨by omega, ?_⟩, fun h => ⟨⟨?_, hy, ?_⟩, ?_⟩⟩⟩) w
  · have h0 : y = 0 := by simpa using h
    subst h0
    rw [← hg, Int.gcd_zero_right, IntWalk.i64_in _ (by omega)]
    congr 1
    split <;> omega
  · rw [tmod_gcd]; exact hg
  · have h0 : y ≠ 0 := by simpa using h
    have := Int.natAbs_tmod x y
    have := Nat.mod_lt x.natAbs (show 0 < y.natAbs by omega)
    omega
  · have h0 : y ≠ 0 := by simpa using h
    have := Int.natAbs_tmod x y
    have := Nat.mod_lt x.natAbs (show 0 < y.natAbs by omega)
    show (x.tmod y).natAbs < y.natAbs
    omega
end Go.Proofs.Ytipcoahafdolcaa.Ev
