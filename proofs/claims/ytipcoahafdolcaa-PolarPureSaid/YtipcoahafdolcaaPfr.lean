/- Fractions in lowest terms. -/
import Derived.Test.YtipcoahafdolcaaPgc
namespace Go.Proofs.Ytipcoahafdolcaa.Ev
set_option linter.unusedSimpArgs false
open Go Go.RowKit
set_option maxRecDepth 100000
/-- A greatest common divisor on its way. -/
structure Gd (g : Nat) (x y : Int) : Prop where
  gcd : Int.gcd x y = g
  x0 : 0 ≤ x ∧ x ≤ 9223372036854775807
  y0 : 0 ≤ y ∧ y ≤ 9223372036854775807
theorem Gd.next {g : Nat} {x y : Int} (h : Gd g x y) (hy : ((y : Int) == 0) = false) : Gd g y (x.tmod y) ∧ (x.tmod y).natAbs < y.natAbs := by
  have h0 : y ≠ 0 := by simpa using hy
  have h1 := Int.natAbs_tmod x y
  have h2 := Nat.mod_lt x.natAbs (show 0 < y.natAbs by omega)
  have h3 := h.x0; have h4 := h.y0
  have h5 : 0 ≤ x.tmod y := Int.tmod_nonneg _ h3.1
  exact ⟨⟨by rw [tmod_gcd]; exact h.gcd, h4, h5, by omega⟩, by omega⟩
theorem Gd.last {g : Nat} {x y : Int} (h : Gd g x y) (hy : ((y : Int) == 0) = true) : x = g := by
  have h0 : y = 0 := by simpa using hy
  have := h.gcd
  rw [h0, Int.gcd_zero_right] at this
  have := h.x0; omega
theorem Gd.max {x : Int} (h : 0 ≤ x ∧ x ≤ 9223372036854775807) : (if (IntKind.i64.wrap (0 - x) : Int) > x then IntKind.i64.wrap (0 - x) else x) = x := by
  rw [IntWalk.i64_in _ (by omega), if_neg (by omega)]
def fl_t : Tr :=
  (.loop ⟨133, [0, 1, 0, 0, 1, 1, 0, 0, 1, 0, 1, 1], [(.slice (some ⟨1, 0, none⟩) 2 2), (.tuple []), (.int .i64 (.lit 0)), (.int .i64 (.lit 0)), (.tuple []), (.int .i64 (.var 0)), (.slice (some ⟨1, 0, none⟩) 2 2), (.int .i64 (.lit 2)), (.int .i64 (.lit 0)), (.bool (.lit true)), (.ptr (some ⟨1, 0, none⟩)), (.int .i64 (.var 0)), (.tuple []), (.tuple []), (.tuple []), (.tuple []), (.tuple []), (.tuple []), (.tuple []), (.tuple []), (.tuple []), (.tuple []), (.tuple [])], [(some ⟨[(.int .i64 (.lit 0)), (.int .i64 (.lit 0))], 82, false, false⟩), (some ⟨[(.int .i64 (.var 0)), (.int .i64 (.var 1))], 3, false, false⟩)], [(.slice (some ⟨1, 0, none⟩) 2 2), (.tuple []), (.int .i64 (.lit 0)), (.int .i64 (.var 2)), (.tuple []), (.int .i64 (.var 3)), (.slice (some ⟨1, 0, none⟩) 2 2), (.int .i64 (.lit 2)), (.int .i64 (.lit 0)), (.bool (.lit true)), (.ptr (some ⟨1, 0, none⟩)), (.int .i64 (.var 0)), (.any 12), (.any 13), (.any 14), (.any 15), (.any 16), (.any 17), (.tuple []), (.tuple []), (.tuple []), (.tuple []), (.tuple [])], [(some ⟨[(.int .i64 (.lit 0)), (.int .i64 (.lit 0))], 82, false, false⟩), (some ⟨[(.int .i64 (.var 0)), (.int .i64 (.var 1))], 3, false, false⟩)], [], 2, 0, [(.lit 0), (.var 0)], []⟩
  (.rng 2 (-9223372036854775808) 9223372036854775807 (.rng 3 (-9223372036854775808) 9223372036854775807 (.ite (.icmp .eql (.var 3) (.lit 0))
   (.out 0 [(.var 2)] [])
   (.next [(.var 3), (.bin .remK (.var 2) (.var 3))] []))))
  (.ex ((.exit 2), [(.slice (some ⟨1, 0, none⟩) 2 2), (.tuple []), (.int .i64 (.lit 0)), (.int .i64 (.var 2)), (.tuple []), (.any 5), (.slice (some ⟨1, 0, none⟩) 2 2), (.int .i64 (.lit 2)), (.int .i64 (.lit 0)), (.bool (.lit true)), (.ptr (some ⟨1, 0, none⟩)), (.int .i64 (.var 0)), (.any 12), (.any 13), (.any 14), (.any 15), (.any 16), (.any 17), (.tuple []), (.tuple []), (.tuple []), (.tuple []), (.tuple [])], [(some ⟨[(.int .i64 (.lit 0)), (.int .i64 (.lit 0))], 82, false, false⟩), (some ⟨[(.int .i64 (.var 0)), (.int .i64 (.var 1))], 3, false, false⟩)], []) 1 0
  (.rng 2 (-9223372036854775808) 9223372036854775807 (.loop ⟨133, [0, 1, 0, 0, 1, 1, 0, 0, 1, 0, 1, 1], [(.slice (some ⟨1, 0, none⟩) 2 2), (.tuple []), (.int .i64 (.lit 0)), (.int .i64 (.var 2)), (.tuple []), (.int .i64 (.var 1)), (.slice (some ⟨1, 0, none⟩) 2 2), (.int .i64 (.lit 2)), (.int .i64 (.lit 1)), (.bool (.lit true)), (.ptr (some ⟨1, 1, none⟩)), (.int .i64 (.var 1)), (.any 12), (.any 13), (.any 14), (.any 15), (.any 16), (.any 17), (.int .i64 (.lit 1)), (.tuple []), (.tuple []), (.tuple []), (.tuple [])], [(some ⟨[(.int .i64 (.lit 0)), (.int .i64 (.lit 0))], 82, false, false⟩), (some ⟨[(.int .i64 (.var 0)), (.int .i64 (.var 1))], 3, false, false⟩)], [(.slice (some ⟨1, 0, none⟩) 2 2), (.tuple []), (.int .i64 (.lit 0)), (.int .i64 (.var 3)), (.tuple []), (.int .i64 (.var 4)), (.slice (some ⟨1, 0, none⟩) 2 2), (.int .i64 (.lit 2)), (.int .i64 (.lit 1)), (.bool (.lit true)), (.ptr (some ⟨1, 1, none⟩)), (.int .i64 (.var 1)), (.any 12), (.any 13), (.any 14), (.any 15), (.any 16), (.any 17), (.int .i64 (.lit 1)), (.tuple []), (.tuple []), (.tuple []), (.tuple [])], [(some ⟨[(.int .i64 (.lit 0)), (.int .i64 (.lit 0))], 82, false, false⟩), (some ⟨[(.int .i64 (.var 0)), (.int .i64 (.var 1))], 3, false, false⟩)], [], 2, 0, [(.var 2), (.var 1)], []⟩
   (.rng 3 (-9223372036854775808) 9223372036854775807 (.rng 4 (-9223372036854775808) 9223372036854775807 (.ite (.icmp .eql (.var 4) (.lit 0))
    (.out 0 [(.var 3)] [])
    (.next [(.var 4), (.bin .remK (.var 3) (.var 4))] []))))
   (.ex ((.exit 2), [(.slice (some ⟨1, 0, none⟩) 2 2), (.tuple []), (.int .i64 (.lit 0)), (.int .i64 (.var 3)), (.tuple []), (.any 5), (.slice (some ⟨1, 0, none⟩) 2 2), (.int .i64 (.lit 2)), (.int .i64 (.lit 1)), (.bool (.lit true)), (.ptr (some ⟨1, 1, none⟩)), (.int .i64 (.var 1)), (.any 12), (.any 13), (.any 14), (.any 15), (.any 16), (.any 17), (.int .i64 (.lit 1)), (.tuple []), (.tuple []), (.tuple []), (.tuple [])], [(some ⟨[(.int .i64 (.lit 0)), (.int .i64 (.lit 0))], 82, false, false⟩), (some ⟨[(.int .i64 (.var 0)), (.int .i64 (.var 1))], 3, false, false⟩)], []) 1 0
   (.rng 3 (-9223372036854775808) 9223372036854775807 (.ite (.icmp .eql (.bin .maxI (.var 3) (.bin (.subW .i64) (.lit 0) (.var 3))) (.lit 0))
    .nil
    (.leaf (.agg [(.int .i64 (.bin (.quoW .i64) (.var 0) (.bin .maxI (.var 3) (.bin (.subW .i64) (.lit 0) (.var 3))))), (.int .i64 (.bin (.quoW .i64) (.var 1) (.bin .maxI (.var 3) (.bin (.subW .i64) (.lit 0) (.var 3)))))]))))
   .nil)))
  .nil))
theorem fl {n d : Int} (r0 : 0 ≤ n ∧ n ≤ 9223372036854775807) (r1 : 1 ≤ d ∧ d ≤ 9223372036854775807) {Q : Value → Prop} (H :
  (∃ (I2 : Int → Int → Prop) (rk2 : Int → Int → Nat), I2 (0) (n) ∧
   (∀ x2 x3 : Int, I2 (x2) (x3) → (((-9223372036854775808) ≤ x2 ∧ x2 ≤ 9223372036854775807) ∧ (((-9223372036854775808) ≤ x3 ∧ x3 ≤ 9223372036854775807) ∧ ((((x3 : Int) == 0) = true → (((-9223372036854775808) ≤ (x2) ∧ (x2) ≤ 9223372036854775807) ∧ (∃ (I3 : Int → Int → Prop) (rk3 : Int → Int → Nat), I3 ((x2)) (d) ∧
    (∀ x3 x4 : Int, I3 (x3) (x4) → (((-9223372036854775808) ≤ x3 ∧ x3 ≤ 9223372036854775807) ∧ (((-9223372036854775808) ≤ x4 ∧ x4 ≤ 9223372036854775807) ∧ ((((x4 : Int) == 0) = true → (((-9223372036854775808) ≤ (x3) ∧ (x3) ≤ 9223372036854775807) ∧ (((((if (IntKind.i64.wrap (0 - (x3)) : Int) > (x3) then IntKind.i64.wrap (0 - (x3)) else (x3)) : Int) == 0) = true → False) ∧
     ((((if (IntKind.i64.wrap (0 - (x3)) : Int) > (x3) then IntKind.i64.wrap (0 - (x3)) else (x3)) : Int) == 0) = false → Q (.agg #[.int .i64 (IntKind.i64.wrap ((n : Int).tdiv (if (IntKind.i64.wrap (0 - (x3)) : Int) > (x3) then IntKind.i64.wrap (0 - (x3)) else (x3)))), .int .i64 (IntKind.i64.wrap ((d : Int).tdiv (if (IntKind.i64.wrap (0 - (x3)) : Int) > (x3) then IntKind.i64.wrap (0 - (x3)) else (x3))))]))))) ∧
     (((x4 : Int) == 0) = false → (I3 (x4) ((x3 : Int).tmod x4) ∧ rk3 (x4) ((x3 : Int).tmod x4) < rk3 (x3) (x4)))))))))) ∧
    (((x3 : Int) == 0) = false → (I2 (x3) ((x2 : Int).tmod x3) ∧ rk2 (x3) ((x2 : Int).tmod x3) < rk2 (x2) (x3))))))))) :
    ∃ v, Q v ∧ ∀ w, Calls Try.prog 145 #[.int .i64 (n), .int .i64 (d)] w fun e w' => e = .returned v ∧ Below w.heap.size w w' :=
  tree_at mixed names S1_ok (S := S1 Try.prog) (lf := 100000) (d := 60) (args := [(.int .i64 (.var 0)), (.int .i64 (.var 1))]) fl_t { ivs := [(0, 0, 9223372036854775807), (1, 1, 9223372036854775807)], whs := [] } [n, d] [] 2 0 rfl rfl (by kernel_rfl) (by kernel_rfl) (by kernel_rfl)
    ⟨(fc r0 (fc r1 fz)), fz⟩ H
def bl_t : Tr :=
  (.call 136 [(.int .i64 (.var 0)), (.int .i64 (.var 1))] (.int .i64 (.var 2)) 1 0
  (.ite (.icmp .eql (.var 2) (.lit 0))
  .nil
  (.leaf (.agg [(.int .i64 (.bin (.quoW .i64) (.var 0) (.var 2))), (.int .i64 (.bin (.quoW .i64) (.var 1) (.var 2)))]))))
theorem bl {n d : Int} (r0 : 0 ≤ n ∧ n ≤ 9223372036854775807) (r1 : 1 ≤ d ∧ d ≤ 9223372036854775807) {Q : Value → Prop} (H :
  (∃ v2 : Int, (∀ w, Calls Try.prog 136 #[.int .i64 (n), .int .i64 (d)] w fun e w' => e = .returned (.int .i64 (v2)) ∧ Below w.heap.size w w') ∧
   ((((v2 : Int) == 0) = true → False) ∧
   (((v2 : Int) == 0) = false → Q (.agg #[.int .i64 (IntKind.i64.wrap ((n : Int).tdiv v2)), .int .i64 (IntKind.i64.wrap ((d : Int).tdiv v2))]))))) :
    ∃ v, Q v ∧ ∀ w, Calls Try.prog 135 #[.int .i64 (n), .int .i64 (d)] w fun e w' => e = .returned v ∧ Below w.heap.size w w' :=
  tree_at mixed names S1_ok (S := S1 Try.prog) (lf := 100000) (d := 60) (args := [(.int .i64 (.var 0)), (.int .i64 (.var 1))]) bl_t { ivs := [(0, 0, 9223372036854775807), (1, 1, 9223372036854775807)], whs := [] } [n, d] [] 2 0 rfl rfl (by kernel_rfl) (by kernel_rfl) (by kernel_rfl)
    ⟨(fc r0 (fc r1 fz)), fz⟩ H
theorem gcd_pos {n d : Int} (hd : 1 ≤ d) : 0 < Int.gcd n d := Int.gcd_pos_of_ne_zero_right _ (by omega)
theorem gcd_le {n d : Int} (hd : 1 ≤ d) : (Int.gcd n d : Int) ≤ d := by
  have := Int.gcd_dvd_right n d
  exact Int.le_of_dvd (by omega) this
theorem tdiv_in {n g : Int} (hn : 0 ≤ n ∧ n ≤ 9223372036854775807) (hg : 1 ≤ g) : IntKind.i64.wrap (n.tdiv g) = n / g := by
  exact IntWalk.i64_quo n g ⟨hn.1, hn.2, hg⟩
theorem frac_lowest {n d : Int} (r0 : 0 ≤ n ∧ n ≤ 9223372036854775807) (r1 : 1 ≤ d ∧ d ≤ 9223372036854775807) (w : World) : Calls Try.prog 145 #[.int .i64 n, .int .i64 d] w fun e w' => e = .returned (.agg #[.int .i64 (n / Int.gcd n d), .int .i64 (d / Int.gcd n d)]) ∧ Below w.heap.size w w' := by
  have hg := gcd_pos (n := n) r1.1
  refine one_val (fl r0 r1 (Q := (· = _)) ⟨Gd n.natAbs, fun _ y => y.natAbs, ⟨by simp [Int.gcd_zero_left], by omega, r0⟩, fun x y hI => ⟨by have := hI.x0; omega, by have := hI.y0; omega, fun h => ⟨by have := hI.x0; omega, ?_⟩, fun h => hI.next h⟩⟩) w
  have e1 := hI.last h
  refine ⟨Gd (Int.gcd n d), fun _ y => y.natAbs, ⟨?_, by omega, ⟨by omega, r1.2⟩⟩, fun x y hI => ⟨by have := hI.x0; omega, by have := hI.y0; omega, fun h => ⟨by have := hI.x0; omega, fun h0 => ?_, fun h0 => ?_⟩, fun h => hI.next h⟩⟩
  · rw [e1]; have := r0; congr 1; omega
  · exfalso
    rw [Gd.max hI.x0, hI.last h] at h0
    have : ((Int.gcd n d : Nat) : Int) = 0 := by simpa using h0
    omega
  · rw [Gd.max hI.x0, hI.last h, tdiv_in r0 (by omega), tdiv_in ⟨by omega, r1.2⟩ (by omega)]
theorem base_lowest {n d : Int} (r0 : 0 ≤ n ∧ n ≤ 9223372036854775807) (r1 : 1 ≤ d ∧ d ≤ 9223372036854775807) (w : World) : Calls Try.prog 135 #[.int .i64 n, .int .i64 d] w fun e w' => e = .returned (.agg #[.int .i64 (n / Int.gcd n d), .int .i64 (d / Int.gcd n d)]) ∧ Below w.heap.size w w' := by
  have hg := gcd_pos (n := n) r1.1
  refine one_val (bl r0 r1 (Q := (· = _)) ⟨Int.gcd n d, fun w => base_gcd (by omega) (by omega) w, fun h0 => ?_, fun h0 => ?_⟩) w
  · have : ((Int.gcd n d : Nat) : Int) = 0 := by simpa using h0
    omega
  · rw [tdiv_in r0 (by omega), tdiv_in ⟨by omega, r1.2⟩ (by omega)]
end Go.Proofs.Ytipcoahafdolcaa.Ev
