/- Roots, comparisons; mixtures and shares of the reference. -/
import Derived.Test.YtmodchmadbkfbaaGreatFgma
namespace Go.Proofs.YtmodchmadbkfbaaGreat.Ev
set_option linter.unusedSimpArgs false
open Go Go.RowKit
set_option linter.unusedVariables false
set_option maxRecDepth 100000
open Go.Proofs.YtmodchmadbkfbaaGreat.Gm

def etalonbase_Root_s : Sig := ⟨25, ⟨1, 0, 0⟩, ⟨1, 0, 0⟩, [(.int .i64 (.var 0))], [], (.int .i64 (.var 1)), []⟩
def etalonbase_Compare_s : Sig := ⟨24, ⟨4, 0, 0⟩, ⟨1, 0, 0⟩, [(.int .i64 (.var 0)), (.int .i64 (.var 1)), (.int .i64 (.var 2)), (.int .i64 (.var 3))], [], (.int .i64 (.var 4)), []⟩
def etalonref02_MixedBetween_s : Sig := ⟨7, ⟨3, 0, 0⟩, ⟨3, 0, 0⟩, [(.int .i64 (.var 0)), (.int .i64 (.var 1)), (.int .i64 (.var 2))], [], (.tuple [(.agg [(.int .i64 (.var 3)), (.int .i64 (.var 4))]), (.int .i64 (.var 5))]), []⟩
def etalonref02_ShareFor_s : Sig := ⟨8, ⟨3, 0, 0⟩, ⟨3, 0, 0⟩, [(.int .i64 (.var 0)), (.int .i64 (.var 1)), (.int .i64 (.var 2))], [], (.tuple [(.agg [(.int .i64 (.var 3)), (.int .i64 (.var 4))]), (.int .i64 (.var 5))]), []⟩

def rro_t : Tr :=
  (.loop ⟨25, [0, 0, 1, 1], [(.int .i64 (.var 0)), (.tuple []), (.int .i64 (.lit 0)), (.int .i64 (.lit 0)), (.int .i64 (.lit 1073741824)), (.tuple []), (.tuple []), (.tuple []), (.tuple []), (.tuple []), (.tuple []), (.tuple []), (.tuple []), (.tuple []), (.tuple []), (.tuple []), (.tuple []), (.tuple []), (.tuple []), (.tuple []), (.tuple []), (.tuple [])], [], [], [(.int .i64 (.var 0)), (.tuple []), (.int .i64 (.lit 0)), (.int .i64 (.var 2)), (.int .i64 (.var 1)), (.any 5), (.any 6), (.any 7), (.any 8), (.any 9), (.any 10), (.any 11), (.any 12), (.any 13), (.any 14), (.any 15), (.any 16), (.any 17), (.any 18), (.any 19), (.any 20), (.tuple [])], [], [], ⟨2, 0, 0⟩, ⟨[(.lit 1073741824), (.lit 0)], [], []⟩, []⟩
  (.rng 1 0 1073741824 (.rng 2 0 1073741824 (.ite (.icmp .leq (.var 1) (.lit 0))
   (.out 0 ⟨[(.var 2)], [], []⟩ [])
   (.ite (.icmp .leq (.bin .mulI (.bin .addI (.var 2) (.var 1)) (.bin .addI (.var 2) (.var 1))) (.var 0))
    (.next ⟨[(.bin .quoI (.var 1) (.lit 2)), (.bin .addI (.var 2) (.var 1))], [], []⟩ [])
    (.next ⟨[(.bin .quoI (.var 1) (.lit 2)), (.var 2)], [], []⟩ [])))))
  (.ex ((.exit 0), [(.int .i64 (.var 0)), (.tuple []), (.int .i64 (.lit 0)), (.int .i64 (.var 1)), (.any 4), (.any 5), (.any 6), (.any 7), (.any 8), (.any 9), (.any 10), (.any 11), (.any 12), (.any 13), (.any 14), (.any 15), (.any 16), (.any 17), (.any 18), (.any 19), (.any 20), (.tuple [])], [], []) ⟨1, 0, 0⟩
  (.rng 1 (-9223372036854775808) 9223372036854775807 (.ret ⟨[(.var 1)], [], []⟩ []))
  .nil))
theorem rro {x0 : Int} (r0 : 0 ≤ x0 ∧ x0 ≤ 1152921504606846975) {R : Int → Prop}
  (H : (∃ (I1 : Int → Int → Prop) (rk1 : Int → Int → Nat), I1 (1073741824) (0) ∧
   (∀ x1 : Int, ∀ x2 : Int, I1 x1 x2 → ((0 ≤ (x1 : Int) ∧ (x1 : Int) ≤ 1073741824) ∧ ((0 ≤ (x2 : Int) ∧ (x2 : Int) ≤ 1073741824) ∧ ((decide ((x1 : Int) ≤ 0) = true → (((-9223372036854775808) ≤ ((x2) : Int) ∧ ((x2) : Int) ≤ 9223372036854775807) ∧ R ((x2)))) ∧
    (decide ((x1 : Int) ≤ 0) = false → ((decide ((((x2 + x1) * (x2 + x1)) : Int) ≤ x0) = true → (I1 (((x1 : Int).tdiv 2)) ((x2 + x1)) ∧ rk1 (((x1 : Int).tdiv 2)) ((x2 + x1)) < rk1 x1 x2)) ∧
     (decide ((((x2 + x1) * (x2 + x1)) : Int) ≤ x0) = false → (I1 (((x1 : Int).tdiv 2)) (x2) ∧ rk1 (((x1 : Int).tdiv 2)) (x2) < rk1 x1 x2)))))))))) :
    ∃ v0 : Int, R v0 ∧ Spec Tryz.prog etalonbase_Root_s ⟨[x0], [], []⟩ [v0] [] [] :=
  Eq.mp (by kernel_rfl) (exV_of (K := fun d => app3 etalonbase_Root_s.out R d ∧ Spec Tryz.prog etalonbase_Root_s ⟨[x0], [], []⟩ d.1 d.2.1 d.2.2) (tree_at mixed names S1_ok (S := S1 Tryz.prog) (lf := 100000) (d := 60) etalonbase_Root_s rro_t { ivs := [(0, 0, 1152921504606846975)], aivs := [] } ⟨[x0], [], []⟩ rfl (by kernel_rfl) (by kernel_rfl) (by kernel_rfl) ⟨(fc r0 fz), fz, fz, fz⟩ (R := fun d => app3 etalonbase_Root_s.out R d) (Eq.mp (by kernel_rfl) H)))

def cmp_t : Tr :=
  (.loop ⟨24, [0, 1], [(.int .i64 (.var 0)), (.int .i64 (.var 1)), (.int .i64 (.var 2)), (.int .i64 (.var 3)), (.tuple []), (.tuple []), (.tuple []), (.tuple []), (.int .i64 (.lit 0)), (.tuple []), (.tuple []), (.tuple []), (.tuple []), (.tuple []), (.tuple []), (.tuple []), (.tuple []), (.tuple []), (.tuple []), (.tuple []), (.tuple []), (.tuple []), (.tuple []), (.tuple []), (.tuple []), (.tuple []), (.tuple []), (.tuple []), (.tuple []), (.tuple []), (.tuple []), (.tuple []), (.tuple []), (.tuple []), (.tuple []), (.tuple []), (.tuple []), (.tuple []), (.tuple []), (.tuple []), (.tuple []), (.tuple []), (.tuple []), (.tuple []), (.tuple []), (.tuple []), (.tuple [])], [], [], [(.int .i64 (.var 4)), (.int .i64 (.var 5)), (.int .i64 (.var 6)), (.int .i64 (.var 7)), (.tuple []), (.tuple []), (.tuple []), (.tuple []), (.int .i64 (.lit 0)), (.any 9), (.any 10), (.any 11), (.any 12), (.any 13), (.any 14), (.any 15), (.any 16), (.any 17), (.any 18), (.any 19), (.any 20), (.any 21), (.any 22), (.any 23), (.any 24), (.any 25), (.any 26), (.any 27), (.any 28), (.any 29), (.any 30), (.any 31), (.any 32), (.any 33), (.any 34), (.any 35), (.tuple []), (.tuple []), (.any 38), (.any 39), (.any 40), (.any 41), (.any 42), (.any 43), (.any 44), (.any 45), (.any 46)], [], [], ⟨4, 0, 0⟩, ⟨[(.var 0), (.var 1), (.var 2), (.var 3)], [], []⟩, []⟩
  (.rng 4 0 100000000000000 (.rng 5 1 100000000000000 (.rng 6 0 100000000000000 (.rng 7 1 100000000000000 (.call etalonbase_Floor_s ⟨[(.var 4), (.var 5)], [], []⟩ ⟨[(.var 4), (.var 5), (.var 8)], [], []⟩ ⟨26, [(.int .i64 (.var 4)), (.int .i64 (.var 5))], [], [], (.int .i64 (.var 8)), []⟩
   (.call etalonbase_Floor_s ⟨[(.var 6), (.var 7)], [], []⟩ ⟨[(.var 6), (.var 7), (.var 9)], [], []⟩ ⟨26, [(.int .i64 (.var 6)), (.int .i64 (.var 7))], [], [], (.int .i64 (.var 9)), []⟩
   (.ite (.icmp .leq (.var 9) (.var 8))
   (.ite (.icmp .leq (.var 8) (.var 9))
    (.ite (.icmp .eql (.bin (.subW .i64) (.var 4) (.bin (.mulW .i64) (.var 8) (.var 5))) (.lit 0))
     (.ite (.icmp .eql (.bin (.subW .i64) (.var 6) (.bin (.mulW .i64) (.var 9) (.var 7))) (.lit 0))
      (.out 0 ⟨[(.lit 0)], [], []⟩ [])
      (.out 0 ⟨[(.lit (-1))], [], []⟩ []))
     (.ite (.icmp .eql (.bin (.subW .i64) (.var 6) (.bin (.mulW .i64) (.var 9) (.var 7))) (.lit 0))
      (.out 0 ⟨[(.lit 1)], [], []⟩ [])
      (.next ⟨[(.var 7), (.bin (.subW .i64) (.var 6) (.bin (.mulW .i64) (.var 9) (.var 7))), (.var 5), (.bin (.subW .i64) (.var 4) (.bin (.mulW .i64) (.var 8) (.var 5)))], [], []⟩ [])))
    (.out 0 ⟨[(.lit 1)], [], []⟩ []))
   (.out 0 ⟨[(.lit (-1))], [], []⟩ []))))))))
  (.ex (.ret, [(.any 0), (.any 1), (.any 2), (.any 3), (.tuple []), (.tuple []), (.tuple []), (.tuple []), (.int .i64 (.var 4)), (.any 9), (.any 10), (.any 11), (.any 12), (.any 13), (.any 14), (.any 15), (.any 16), (.any 17), (.any 18), (.any 19), (.any 20), (.any 21), (.any 22), (.any 23), (.any 24), (.any 25), (.any 26), (.any 27), (.any 28), (.any 29), (.any 30), (.any 31), (.any 32), (.any 33), (.any 34), (.any 35), (.any 36), (.any 37), (.any 38), (.any 39), (.any 40), (.any 41), (.any 42), (.any 43), (.any 44), (.any 45), (.any 46)], [], []) ⟨1, 0, 0⟩
  (.rng 4 (-9223372036854775808) 9223372036854775807 (.ret ⟨[(.var 4)], [], []⟩ []))
  .nil))
theorem cmp {x0 x1 x2 x3 : Int} (r0 : 0 ≤ x0 ∧ x0 ≤ 100000000000000) (r1 : 1 ≤ x1 ∧ x1 ≤ 100000000000000) (r2 : 0 ≤ x2 ∧ x2 ≤ 100000000000000) (r3 : 1 ≤ x3 ∧ x3 ≤ 100000000000000) {R : Int → Prop}
  (H : (∃ (I4 : Int → Int → Int → Int → Prop) (rk4 : Int → Int → Int → Int → Nat), I4 (x0) (x1) (x2) (x3) ∧
   (∀ x4 : Int, ∀ x5 : Int, ∀ x6 : Int, ∀ x7 : Int, I4 x4 x5 x6 x7 → ((0 ≤ (x4 : Int) ∧ (x4 : Int) ≤ 100000000000000) ∧ ((1 ≤ (x5 : Int) ∧ (x5 : Int) ≤ 100000000000000) ∧ ((0 ≤ (x6 : Int) ∧ (x6 : Int) ≤ 100000000000000) ∧ ((1 ≤ (x7 : Int) ∧ (x7 : Int) ≤ 100000000000000) ∧ (∃ v8 : Int, Spec Tryz.prog etalonbase_Floor_s ⟨[x4, x5], [], []⟩ [v8] [] [] ∧
    (∃ v9 : Int, Spec Tryz.prog etalonbase_Floor_s ⟨[x6, x7], [], []⟩ [v9] [] [] ∧
    ((decide ((v9 : Int) ≤ v8) = true → ((decide ((v8 : Int) ≤ v9) = true → ((((IntKind.i64.wrap (x4 - IntKind.i64.wrap (v8 * x5)) : Int) == 0) = true → ((((IntKind.i64.wrap (x6 - IntKind.i64.wrap (v9 * x7)) : Int) == 0) = true → (((-9223372036854775808) ≤ ((0) : Int) ∧ ((0) : Int) ≤ 9223372036854775807) ∧ R ((0)))) ∧
       (((IntKind.i64.wrap (x6 - IntKind.i64.wrap (v9 * x7)) : Int) == 0) = false → (((-9223372036854775808) ≤ (((-1)) : Int) ∧ (((-1)) : Int) ≤ 9223372036854775807) ∧ R (((-1))))))) ∧
      (((IntKind.i64.wrap (x4 - IntKind.i64.wrap (v8 * x5)) : Int) == 0) = false → ((((IntKind.i64.wrap (x6 - IntKind.i64.wrap (v9 * x7)) : Int) == 0) = true → (((-9223372036854775808) ≤ ((1) : Int) ∧ ((1) : Int) ≤ 9223372036854775807) ∧ R ((1)))) ∧
       (((IntKind.i64.wrap (x6 - IntKind.i64.wrap (v9 * x7)) : Int) == 0) = false → (I4 (x7) (IntKind.i64.wrap (x6 - IntKind.i64.wrap (v9 * x7))) (x5) (IntKind.i64.wrap (x4 - IntKind.i64.wrap (v8 * x5))) ∧ rk4 (x7) (IntKind.i64.wrap (x6 - IntKind.i64.wrap (v9 * x7))) (x5) (IntKind.i64.wrap (x4 - IntKind.i64.wrap (v8 * x5))) < rk4 x4 x5 x6 x7)))))) ∧
     (decide ((v8 : Int) ≤ v9) = false → (((-9223372036854775808) ≤ ((1) : Int) ∧ ((1) : Int) ≤ 9223372036854775807) ∧ R ((1)))))) ∧
    (decide ((v9 : Int) ≤ v8) = false → (((-9223372036854775808) ≤ (((-1)) : Int) ∧ (((-1)) : Int) ≤ 9223372036854775807) ∧ R (((-1))))))))))))))) :
    ∃ v0 : Int, R v0 ∧ Spec Tryz.prog etalonbase_Compare_s ⟨[x0, x1, x2, x3], [], []⟩ [v0] [] [] :=
  Eq.mp (by kernel_rfl) (exV_of (K := fun d => app3 etalonbase_Compare_s.out R d ∧ Spec Tryz.prog etalonbase_Compare_s ⟨[x0, x1, x2, x3], [], []⟩ d.1 d.2.1 d.2.2) (tree_at mixed names S1_ok (S := S1 Tryz.prog) (lf := 100000) (d := 60) etalonbase_Compare_s cmp_t { ivs := [(0, 0, 100000000000000), (1, 1, 100000000000000), (2, 0, 100000000000000), (3, 1, 100000000000000)], aivs := [] } ⟨[x0, x1, x2, x3], [], []⟩ rfl (by kernel_rfl) (by kernel_rfl) (by kernel_rfl) ⟨(fc r0 (fc r1 (fc r2 (fc r3 fz)))), fz, fz, fz⟩ (R := fun d => app3 etalonbase_Compare_s.out R d) (Eq.mp (by kernel_rfl) H)))

def rmb_t : Tr :=
  (.loop ⟨7, [0, 0, 1, 1, 1, 1, 1], [(.int .i64 (.var 0)), (.int .i64 (.var 1)), (.int .i64 (.var 2)), (.tuple []), (.tuple []), (.tuple []), (.ptr (some ⟨0, 0, none⟩)), (.int .i64 (.lit 0)), (.int .i64 (.bin .addI (.bin .mulI (.bin .mulI (.var 2) (.var 0)) (.var 0)) (.bin .mulI (.bin .mulI (.bin .subI (.lit 10000) (.var 2)) (.var 1)) (.var 1)))), (.int .i64 (.bin .addI (.bin .mulI (.bin .mulI (.var 2) (.var 1)) (.var 1)) (.bin .mulI (.bin .mulI (.bin .subI (.lit 10000) (.var 2)) (.var 0)) (.var 0)))), (.int .i64 (.lit 0)), (.int .i64 (.lit 80001)), (.tuple []), (.tuple []), (.int .i64 (.var 0)), (.bool (.icmp .leq (.var 0) (.lit 80000))), (.bool (.not (.icmp .leq (.var 0) (.lit 80000)))), (.bool (.not (.icmp .leq (.var 0) (.lit 80000)))), (.int .i64 (.var 1)), (.bool (.icmp .leq (.var 1) (.lit 80000))), (.bool (.not (.icmp .leq (.var 1) (.lit 80000)))), (.bool (.not (.icmp .leq (.var 1) (.lit 80000)))), (.bool (.not (.icmp .leq (.var 1) (.lit 80000)))), (.int .i64 (.var 2)), (.bool (.icmp .leq (.var 2) (.lit 10000))), (.bool (.not (.icmp .leq (.var 2) (.lit 10000)))), (.bool (.not (.icmp .leq (.var 2) (.lit 10000)))), (.tuple []), (.int .i64 (.var 2)), (.int .i64 (.var 0)), (.int .i64 (.bin .mulI (.var 2) (.var 0))), (.int .i64 (.var 0)), (.int .i64 (.bin .mulI (.bin .mulI (.var 2) (.var 0)) (.var 0))), (.int .i64 (.var 2)), (.int .i64 (.bin .subI (.lit 10000) (.var 2))), (.int .i64 (.var 1)), (.int .i64 (.bin .mulI (.bin .subI (.lit 10000) (.var 2)) (.var 1))), (.int .i64 (.var 1)), (.int .i64 (.bin .mulI (.bin .mulI (.bin .subI (.lit 10000) (.var 2)) (.var 1)) (.var 1))), (.int .i64 (.bin .addI (.bin .mulI (.bin .mulI (.var 2) (.var 0)) (.var 0)) (.bin .mulI (.bin .mulI (.bin .subI (.lit 10000) (.var 2)) (.var 1)) (.var 1)))), (.int .i64 (.var 2)), (.int .i64 (.var 1)), (.int .i64 (.bin .mulI (.var 2) (.var 1))), (.int .i64 (.var 1)), (.int .i64 (.bin .mulI (.bin .mulI (.var 2) (.var 1)) (.var 1))), (.int .i64 (.var 2)), (.int .i64 (.bin .subI (.lit 10000) (.var 2))), (.int .i64 (.var 0)), (.int .i64 (.bin .mulI (.bin .subI (.lit 10000) (.var 2)) (.var 0))), (.int .i64 (.var 0)), (.int .i64 (.bin .mulI (.bin .mulI (.bin .subI (.lit 10000) (.var 2)) (.var 0)) (.var 0))), (.int .i64 (.bin .addI (.bin .mulI (.bin .mulI (.var 2) (.var 1)) (.var 1)) (.bin .mulI (.bin .mulI (.bin .subI (.lit 10000) (.var 2)) (.var 0)) (.var 0)))), (.tuple []), (.tuple []), (.tuple []), (.tuple []), (.tuple []), (.tuple []), (.tuple []), (.tuple []), (.tuple []), (.tuple []), (.tuple []), (.tuple []), (.tuple []), (.tuple []), (.tuple []), (.tuple []), (.tuple []), (.tuple []), (.tuple []), (.tuple []), (.tuple []), (.tuple []), (.tuple []), (.tuple []), (.tuple []), (.tuple []), (.tuple []), (.tuple []), (.tuple []), (.tuple []), (.tuple []), (.tuple []), (.tuple []), (.tuple []), (.tuple []), (.tuple []), (.tuple [])], [(some ⟨[(.int .i64 (.lit 0)), (.int .i64 (.lit 0))], 25, false, false, none⟩)], [], [(.int .i64 (.var 0)), (.int .i64 (.var 1)), (.int .i64 (.var 2)), (.tuple []), (.tuple []), (.tuple []), (.ptr (some ⟨0, 0, none⟩)), (.int .i64 (.lit 0)), (.int .i64 (.bin .addI (.bin .mulI (.bin .mulI (.var 2) (.var 0)) (.var 0)) (.bin .mulI (.bin .mulI (.bin .subI (.lit 10000) (.var 2)) (.var 1)) (.var 1)))), (.int .i64 (.bin .addI (.bin .mulI (.bin .mulI (.var 2) (.var 1)) (.var 1)) (.bin .mulI (.bin .mulI (.bin .subI (.lit 10000) (.var 2)) (.var 0)) (.var 0)))), (.int .i64 (.var 3)), (.int .i64 (.var 4)), (.any 12), (.tuple []), (.int .i64 (.var 0)), (.bool (.icmp .leq (.var 0) (.lit 80000))), (.bool (.not (.icmp .leq (.var 0) (.lit 80000)))), (.bool (.not (.icmp .leq (.var 0) (.lit 80000)))), (.int .i64 (.var 1)), (.bool (.icmp .leq (.var 1) (.lit 80000))), (.bool (.not (.icmp .leq (.var 1) (.lit 80000)))), (.bool (.not (.icmp .leq (.var 1) (.lit 80000)))), (.bool (.not (.icmp .leq (.var 1) (.lit 80000)))), (.int .i64 (.var 2)), (.bool (.icmp .leq (.var 2) (.lit 10000))), (.bool (.not (.icmp .leq (.var 2) (.lit 10000)))), (.bool (.not (.icmp .leq (.var 2) (.lit 10000)))), (.tuple []), (.int .i64 (.var 2)), (.int .i64 (.var 0)), (.int .i64 (.bin .mulI (.var 2) (.var 0))), (.int .i64 (.var 0)), (.int .i64 (.bin .mulI (.bin .mulI (.var 2) (.var 0)) (.var 0))), (.int .i64 (.var 2)), (.int .i64 (.bin .subI (.lit 10000) (.var 2))), (.int .i64 (.var 1)), (.int .i64 (.bin .mulI (.bin .subI (.lit 10000) (.var 2)) (.var 1))), (.int .i64 (.var 1)), (.int .i64 (.bin .mulI (.bin .mulI (.bin .subI (.lit 10000) (.var 2)) (.var 1)) (.var 1))), (.int .i64 (.bin .addI (.bin .mulI (.bin .mulI (.var 2) (.var 0)) (.var 0)) (.bin .mulI (.bin .mulI (.bin .subI (.lit 10000) (.var 2)) (.var 1)) (.var 1)))), (.int .i64 (.var 2)), (.int .i64 (.var 1)), (.int .i64 (.bin .mulI (.var 2) (.var 1))), (.int .i64 (.var 1)), (.int .i64 (.bin .mulI (.bin .mulI (.var 2) (.var 1)) (.var 1))), (.int .i64 (.var 2)), (.int .i64 (.bin .subI (.lit 10000) (.var 2))), (.int .i64 (.var 0)), (.int .i64 (.bin .mulI (.bin .subI (.lit 10000) (.var 2)) (.var 0))), (.int .i64 (.var 0)), (.int .i64 (.bin .mulI (.bin .mulI (.bin .subI (.lit 10000) (.var 2)) (.var 0)) (.var 0))), (.int .i64 (.bin .addI (.bin .mulI (.bin .mulI (.var 2) (.var 1)) (.var 1)) (.bin .mulI (.bin .mulI (.bin .subI (.lit 10000) (.var 2)) (.var 0)) (.var 0)))), (.any 52), (.any 53), (.any 54), (.any 55), (.any 56), (.any 57), (.any 58), (.any 59), (.any 60), (.any 61), (.any 62), (.any 63), (.any 64), (.any 65), (.any 66), (.any 67), (.any 68), (.any 69), (.any 70), (.any 71), (.any 72), (.any 73), (.any 74), (.tuple []), (.tuple []), (.tuple []), (.tuple []), (.tuple []), (.tuple []), (.tuple []), (.tuple []), (.tuple []), (.tuple []), (.tuple []), (.tuple []), (.tuple []), (.tuple [])], [(some ⟨[(.int .i64 (.lit 0)), (.int .i64 (.lit 0))], 25, false, false, none⟩)], [], ⟨2, 0, 0⟩, ⟨[(.lit 0), (.lit 80001)], [], []⟩, []⟩
  (.rng 3 0 80001 (.rng 4 0 80001 (.ite (.icmp .leq (.bin .subI (.var 4) (.var 3)) (.lit 1))
   (.out 0 ⟨[(.var 3)], [], []⟩ [])
   (.call etalonbase_Compare_s ⟨[(.bin .mulI (.bin .quoI (.bin .addI (.var 3) (.var 4)) (.lit 2)) (.bin .quoI (.bin .addI (.var 3) (.var 4)) (.lit 2))), (.bin .mulI (.var 1) (.var 1)), (.bin .mulI (.bin .mulI (.lit 10000) (.var 0)) (.var 0)), (.bin .addI (.bin .mulI (.bin .mulI (.var 2) (.var 1)) (.var 1)) (.bin .mulI (.bin .mulI (.bin .subI (.lit 10000) (.var 2)) (.var 0)) (.var 0)))], [], []⟩ ⟨[(.bin .mulI (.bin .quoI (.bin .addI (.var 3) (.var 4)) (.lit 2)) (.bin .quoI (.bin .addI (.var 3) (.var 4)) (.lit 2))), (.bin .mulI (.var 1) (.var 1)), (.bin .mulI (.bin .mulI (.lit 10000) (.var 0)) (.var 0)), (.bin .addI (.bin .mulI (.bin .mulI (.var 2) (.var 1)) (.var 1)) (.bin .mulI (.bin .mulI (.bin .subI (.lit 10000) (.var 2)) (.var 0)) (.var 0))), (.var 5)], [], []⟩ ⟨24, [(.int .i64 (.bin .mulI (.bin .quoI (.bin .addI (.var 3) (.var 4)) (.lit 2)) (.bin .quoI (.bin .addI (.var 3) (.var 4)) (.lit 2)))), (.int .i64 (.bin .mulI (.var 1) (.var 1))), (.int .i64 (.bin .mulI (.bin .mulI (.lit 10000) (.var 0)) (.var 0))), (.int .i64 (.bin .addI (.bin .mulI (.bin .mulI (.var 2) (.var 1)) (.var 1)) (.bin .mulI (.bin .mulI (.bin .subI (.lit 10000) (.var 2)) (.var 0)) (.var 0))))], [], [none], (.int .i64 (.var 5)), []⟩
    (.ite (.icmp .leq (.var 5) (.lit 0))
    (.next ⟨[(.bin .quoI (.bin .addI (.var 3) (.var 4)) (.lit 2)), (.var 4)], [], []⟩ [])
    (.next ⟨[(.var 3), (.bin .quoI (.bin .addI (.var 3) (.var 4)) (.lit 2))], [], []⟩ []))))))
  (.ex ((.exit 0), [(.int .i64 (.var 0)), (.int .i64 (.var 1)), (.int .i64 (.var 2)), (.tuple []), (.tuple []), (.tuple []), (.ptr (some ⟨0, 0, none⟩)), (.int .i64 (.lit 0)), (.int .i64 (.bin .addI (.bin .mulI (.bin .mulI (.var 2) (.var 0)) (.var 0)) (.bin .mulI (.bin .mulI (.bin .subI (.lit 10000) (.var 2)) (.var 1)) (.var 1)))), (.int .i64 (.bin .addI (.bin .mulI (.bin .mulI (.var 2) (.var 1)) (.var 1)) (.bin .mulI (.bin .mulI (.bin .subI (.lit 10000) (.var 2)) (.var 0)) (.var 0)))), (.int .i64 (.var 3)), (.any 11), (.any 12), (.tuple []), (.int .i64 (.var 0)), (.bool (.icmp .leq (.var 0) (.lit 80000))), (.bool (.not (.icmp .leq (.var 0) (.lit 80000)))), (.bool (.not (.icmp .leq (.var 0) (.lit 80000)))), (.int .i64 (.var 1)), (.bool (.icmp .leq (.var 1) (.lit 80000))), (.bool (.not (.icmp .leq (.var 1) (.lit 80000)))), (.bool (.not (.icmp .leq (.var 1) (.lit 80000)))), (.bool (.not (.icmp .leq (.var 1) (.lit 80000)))), (.int .i64 (.var 2)), (.bool (.icmp .leq (.var 2) (.lit 10000))), (.bool (.not (.icmp .leq (.var 2) (.lit 10000)))), (.bool (.not (.icmp .leq (.var 2) (.lit 10000)))), (.tuple []), (.int .i64 (.var 2)), (.int .i64 (.var 0)), (.int .i64 (.bin .mulI (.var 2) (.var 0))), (.int .i64 (.var 0)), (.int .i64 (.bin .mulI (.bin .mulI (.var 2) (.var 0)) (.var 0))), (.int .i64 (.var 2)), (.int .i64 (.bin .subI (.lit 10000) (.var 2))), (.int .i64 (.var 1)), (.int .i64 (.bin .mulI (.bin .subI (.lit 10000) (.var 2)) (.var 1))), (.int .i64 (.var 1)), (.int .i64 (.bin .mulI (.bin .mulI (.bin .subI (.lit 10000) (.var 2)) (.var 1)) (.var 1))), (.int .i64 (.bin .addI (.bin .mulI (.bin .mulI (.var 2) (.var 0)) (.var 0)) (.bin .mulI (.bin .mulI (.bin .subI (.lit 10000) (.var 2)) (.var 1)) (.var 1)))), (.int .i64 (.var 2)), (.int .i64 (.var 1)), (.int .i64 (.bin .mulI (.var 2) (.var 1))), (.int .i64 (.var 1)), (.int .i64 (.bin .mulI (.bin .mulI (.var 2) (.var 1)) (.var 1))), (.int .i64 (.var 2)), (.int .i64 (.bin .subI (.lit 10000) (.var 2))), (.int .i64 (.var 0)), (.int .i64 (.bin .mulI (.bin .subI (.lit 10000) (.var 2)) (.var 0))), (.int .i64 (.var 0)), (.int .i64 (.bin .mulI (.bin .mulI (.bin .subI (.lit 10000) (.var 2)) (.var 0)) (.var 0))), (.int .i64 (.bin .addI (.bin .mulI (.bin .mulI (.var 2) (.var 1)) (.var 1)) (.bin .mulI (.bin .mulI (.bin .subI (.lit 10000) (.var 2)) (.var 0)) (.var 0)))), (.any 52), (.any 53), (.any 54), (.any 55), (.any 56), (.any 57), (.any 58), (.any 59), (.any 60), (.any 61), (.any 62), (.any 63), (.any 64), (.any 65), (.any 66), (.any 67), (.any 68), (.any 69), (.any 70), (.any 71), (.any 72), (.any 73), (.any 74), (.tuple []), (.tuple []), (.tuple []), (.tuple []), (.tuple []), (.tuple []), (.tuple []), (.tuple []), (.tuple []), (.tuple []), (.tuple []), (.tuple []), (.tuple []), (.tuple [])], [(some ⟨[(.int .i64 (.lit 0)), (.int .i64 (.lit 0))], 25, false, false, none⟩)], []) ⟨1, 0, 0⟩
  (.rng 3 (-9223372036854775808) 9223372036854775807 (.call etalonbase_Floor_s ⟨[(.bin .addI (.bin .mulI (.bin .mulI (.var 2) (.var 0)) (.var 0)) (.bin .mulI (.bin .mulI (.bin .subI (.lit 10000) (.var 2)) (.var 1)) (.var 1))), (.lit 10000)], [], []⟩ ⟨[(.bin .addI (.bin .mulI (.bin .mulI (.var 2) (.var 0)) (.var 0)) (.bin .mulI (.bin .mulI (.bin .subI (.lit 10000) (.var 2)) (.var 1)) (.var 1))), (.lit 10000), (.var 4)], [], []⟩ ⟨26, [(.int .i64 (.bin .addI (.bin .mulI (.bin .mulI (.var 2) (.var 0)) (.var 0)) (.bin .mulI (.bin .mulI (.bin .subI (.lit 10000) (.var 2)) (.var 1)) (.var 1)))), (.int .i64 (.lit 10000))], [], [none], (.int .i64 (.var 4)), []⟩
   (.call etalonbase_Root_s ⟨[(.var 4)], [], []⟩ ⟨[(.var 4), (.var 5)], [], []⟩ ⟨25, [(.int .i64 (.var 4))], [], [none], (.int .i64 (.var 5)), []⟩
   (.rng 5 0 80001 (.ite (.icmp .leq (.bin .addI (.bin .mulI (.bin .mulI (.var 2) (.var 0)) (.var 0)) (.bin .mulI (.bin .mulI (.bin .subI (.lit 10000) (.var 2)) (.var 1)) (.var 1))) (.bin .mulI (.bin .mulI (.var 5) (.var 5)) (.lit 10000)))
   (.ret ⟨[(.var 3), (.var 5), (.lit 0)], [], []⟩ [])
   (.ret ⟨[(.var 3), (.bin .addI (.var 5) (.lit 1)), (.lit 0)], [], []⟩ []))))))
  .nil))
theorem rmb {x0 x1 x2 : Int} (r0 : 5000 ≤ x0 ∧ x0 ≤ 80000) (r1 : 5000 ≤ x1 ∧ x1 ≤ 80000) (r2 : 0 ≤ x2 ∧ x2 ≤ 10000) {R : Int → Int → Int → Prop}
  (H : (∃ (I3 : Int → Int → Prop) (rk3 : Int → Int → Nat), I3 (0) (80001) ∧
   (∀ x3 : Int, ∀ x4 : Int, I3 x3 x4 → ((0 ≤ (x3 : Int) ∧ (x3 : Int) ≤ 80001) ∧ ((0 ≤ (x4 : Int) ∧ (x4 : Int) ≤ 80001) ∧ ((decide (((x4 - x3) : Int) ≤ 1) = true → (((-9223372036854775808) ≤ ((x3) : Int) ∧ ((x3) : Int) ≤ 9223372036854775807) ∧ (∃ v4' : Int, Spec Tryz.prog etalonbase_Floor_s ⟨[(((x2 * x0) * x0) + (((10000 - x2) * x1) * x1)), 10000], [], []⟩ [v4'] [] [] ∧
    (∃ v5' : Int, Spec Tryz.prog etalonbase_Root_s ⟨[v4'], [], []⟩ [v5'] [] [] ∧
    ((0 ≤ (v5' : Int) ∧ (v5' : Int) ≤ 80001) ∧ ((decide (((((x2 * x0) * x0) + (((10000 - x2) * x1) * x1)) : Int) ≤ ((v5' * v5') * 10000)) = true → R ((x3)) (v5') (0)) ∧
    (decide (((((x2 * x0) * x0) + (((10000 - x2) * x1) * x1)) : Int) ≤ ((v5' * v5') * 10000)) = false → R ((x3)) ((v5' + 1)) (0)))))))) ∧
    (decide (((x4 - x3) : Int) ≤ 1) = false → (∃ v5 : Int, Spec Tryz.prog etalonbase_Compare_s ⟨[((((x3 + x4) : Int).tdiv 2) * (((x3 + x4) : Int).tdiv 2)), (x1 * x1), ((10000 * x0) * x0), (((x2 * x1) * x1) + (((10000 - x2) * x0) * x0))], [], []⟩ [v5] [] [] ∧
     ((decide ((v5 : Int) ≤ 0) = true → (I3 ((((x3 + x4) : Int).tdiv 2)) (x4) ∧ rk3 ((((x3 + x4) : Int).tdiv 2)) (x4) < rk3 x3 x4)) ∧
     (decide ((v5 : Int) ≤ 0) = false → (I3 (x3) ((((x3 + x4) : Int).tdiv 2)) ∧ rk3 (x3) ((((x3 + x4) : Int).tdiv 2)) < rk3 x3 x4))))))))))) :
    ∃ v0 : Int, ∃ v1 : Int, ∃ v2 : Int, R v0 v1 v2 ∧ Spec Tryz.prog etalonref02_MixedBetween_s ⟨[x0, x1, x2], [], []⟩ [v0, v1, v2] [] [] :=
  Eq.mp (by kernel_rfl) (exV_of (K := fun d => app3 etalonref02_MixedBetween_s.out R d ∧ Spec Tryz.prog etalonref02_MixedBetween_s ⟨[x0, x1, x2], [], []⟩ d.1 d.2.1 d.2.2) (tree_at mixed names S1_ok (S := S1 Tryz.prog) (lf := 100000) (d := 60) etalonref02_MixedBetween_s rmb_t { ivs := [(0, 5000, 80000), (1, 5000, 80000), (2, 0, 10000)], aivs := [] } ⟨[x0, x1, x2], [], []⟩ rfl (by kernel_rfl) (by kernel_rfl) (by kernel_rfl) ⟨(fc r0 (fc r1 (fc r2 fz))), fz, fz, fz⟩ (R := fun d => app3 etalonref02_MixedBetween_s.out R d) (Eq.mp (by kernel_rfl) H)))

def rmbn_t : Tr :=
  (.ite (.icmp .leq (.lit 5000) (.var 0))
  (.ite (.icmp .leq (.var 0) (.lit 80000))
   (.ite (.icmp .leq (.lit 5000) (.var 1))
    (.ite (.icmp .leq (.var 1) (.lit 80000))
     (.ite (.icmp .leq (.lit 0) (.var 2))
      (.ite (.icmp .leq (.var 2) (.lit 10000))
       (.loop ⟨7, [0, 0, 1, 1, 1, 1, 1], [(.int .i64 (.var 0)), (.int .i64 (.var 1)), (.int .i64 (.var 2)), (.tuple []), (.tuple []), (.tuple []), (.ptr (some ⟨0, 0, none⟩)), (.int .i64 (.lit 0)), (.int .i64 (.bin .addI (.bin .mulI (.bin .mulI (.var 2) (.var 0)) (.var 0)) (.bin .mulI (.bin .mulI (.bin .subI (.lit 10000) (.var 2)) (.var 1)) (.var 1)))), (.int .i64 (.bin .addI (.bin .mulI (.bin .mulI (.var 2) (.var 1)) (.var 1)) (.bin .mulI (.bin .mulI (.bin .subI (.lit 10000) (.var 2)) (.var 0)) (.var 0)))), (.int .i64 (.lit 0)), (.int .i64 (.lit 80001)), (.tuple []), (.tuple []), (.int .i64 (.var 0)), (.bool (.icmp .leq (.var 0) (.lit 80000))), (.bool (.not (.icmp .leq (.var 0) (.lit 80000)))), (.bool (.not (.icmp .leq (.var 0) (.lit 80000)))), (.int .i64 (.var 1)), (.bool (.icmp .leq (.var 1) (.lit 80000))), (.bool (.not (.icmp .leq (.var 1) (.lit 80000)))), (.bool (.not (.icmp .leq (.var 1) (.lit 80000)))), (.bool (.not (.icmp .leq (.var 1) (.lit 80000)))), (.int .i64 (.var 2)), (.bool (.icmp .leq (.var 2) (.lit 10000))), (.bool (.not (.icmp .leq (.var 2) (.lit 10000)))), (.bool (.not (.icmp .leq (.var 2) (.lit 10000)))), (.tuple []), (.int .i64 (.var 2)), (.int .i64 (.var 0)), (.int .i64 (.bin .mulI (.var 2) (.var 0))), (.int .i64 (.var 0)), (.int .i64 (.bin .mulI (.bin .mulI (.var 2) (.var 0)) (.var 0))), (.int .i64 (.var 2)), (.int .i64 (.bin .subI (.lit 10000) (.var 2))), (.int .i64 (.var 1)), (.int .i64 (.bin .mulI (.bin .subI (.lit 10000) (.var 2)) (.var 1))), (.int .i64 (.var 1)), (.int .i64 (.bin .mulI (.bin .mulI (.bin .subI (.lit 10000) (.var 2)) (.var 1)) (.var 1))), (.int .i64 (.bin .addI (.bin .mulI (.bin .mulI (.var 2) (.var 0)) (.var 0)) (.bin .mulI (.bin .mulI (.bin .subI (.lit 10000) (.var 2)) (.var 1)) (.var 1)))), (.int .i64 (.var 2)), (.int .i64 (.var 1)), (.int .i64 (.bin .mulI (.var 2) (.var 1))), (.int .i64 (.var 1)), (.int .i64 (.bin .mulI (.bin .mulI (.var 2) (.var 1)) (.var 1))), (.int .i64 (.var 2)), (.int .i64 (.bin .subI (.lit 10000) (.var 2))), (.int .i64 (.var 0)), (.int .i64 (.bin .mulI (.bin .subI (.lit 10000) (.var 2)) (.var 0))), (.int .i64 (.var 0)), (.int .i64 (.bin .mulI (.bin .mulI (.bin .subI (.lit 10000) (.var 2)) (.var 0)) (.var 0))), (.int .i64 (.bin .addI (.bin .mulI (.bin .mulI (.var 2) (.var 1)) (.var 1)) (.bin .mulI (.bin .mulI (.bin .subI (.lit 10000) (.var 2)) (.var 0)) (.var 0)))), (.tuple []), (.tuple []), (.tuple []), (.tuple []), (.tuple []), (.tuple []), (.tuple []), (.tuple []), (.tuple []), (.tuple []), (.tuple []), (.tuple []), (.tuple []), (.tuple []), (.tuple []), (.tuple []), (.tuple []), (.tuple []), (.tuple []), (.tuple []), (.tuple []), (.tuple []), (.tuple []), (.tuple []), (.tuple []), (.tuple []), (.tuple []), (.tuple []), (.tuple []), (.tuple []), (.tuple []), (.tuple []), (.tuple []), (.tuple []), (.tuple []), (.tuple []), (.tuple [])], [(some ⟨[(.int .i64 (.lit 0)), (.int .i64 (.lit 0))], 25, false, false, none⟩)], [], [(.int .i64 (.var 0)), (.int .i64 (.var 1)), (.int .i64 (.var 2)), (.tuple []), (.tuple []), (.tuple []), (.ptr (some ⟨0, 0, none⟩)), (.int .i64 (.lit 0)), (.int .i64 (.bin .addI (.bin .mulI (.bin .mulI (.var 2) (.var 0)) (.var 0)) (.bin .mulI (.bin .mulI (.bin .subI (.lit 10000) (.var 2)) (.var 1)) (.var 1)))), (.int .i64 (.bin .addI (.bin .mulI (.bin .mulI (.var 2) (.var 1)) (.var 1)) (.bin .mulI (.bin .mulI (.bin .subI (.lit 10000) (.var 2)) (.var 0)) (.var 0)))), (.int .i64 (.lit 0)), (.int .i64 (.lit 80001)), (.tuple []), (.tuple []), (.int .i64 (.var 0)), (.bool (.icmp .leq (.var 0) (.lit 80000))), (.bool (.not (.icmp .leq (.var 0) (.lit 80000)))), (.bool (.not (.icmp .leq (.var 0) (.lit 80000)))), (.int .i64 (.var 1)), (.bool (.icmp .leq (.var 1) (.lit 80000))), (.bool (.not (.icmp .leq (.var 1) (.lit 80000)))), (.bool (.not (.icmp .leq (.var 1) (.lit 80000)))), (.bool (.not (.icmp .leq (.var 1) (.lit 80000)))), (.int .i64 (.var 2)), (.bool (.icmp .leq (.var 2) (.lit 10000))), (.bool (.not (.icmp .leq (.var 2) (.lit 10000)))), (.bool (.not (.icmp .leq (.var 2) (.lit 10000)))), (.tuple []), (.int .i64 (.var 2)), (.int .i64 (.var 0)), (.int .i64 (.bin .mulI (.var 2) (.var 0))), (.int .i64 (.var 0)), (.int .i64 (.bin .mulI (.bin .mulI (.var 2) (.var 0)) (.var 0))), (.int .i64 (.var 2)), (.int .i64 (.bin .subI (.lit 10000) (.var 2))), (.int .i64 (.var 1)), (.int .i64 (.bin .mulI (.bin .subI (.lit 10000) (.var 2)) (.var 1))), (.int .i64 (.var 1)), (.int .i64 (.bin .mulI (.bin .mulI (.bin .subI (.lit 10000) (.var 2)) (.var 1)) (.var 1))), (.int .i64 (.bin .addI (.bin .mulI (.bin .mulI (.var 2) (.var 0)) (.var 0)) (.bin .mulI (.bin .mulI (.bin .subI (.lit 10000) (.var 2)) (.var 1)) (.var 1)))), (.int .i64 (.var 2)), (.int .i64 (.var 1)), (.int .i64 (.bin .mulI (.var 2) (.var 1))), (.int .i64 (.var 1)), (.int .i64 (.bin .mulI (.bin .mulI (.var 2) (.var 1)) (.var 1))), (.int .i64 (.var 2)), (.int .i64 (.bin .subI (.lit 10000) (.var 2))), (.int .i64 (.var 0)), (.int .i64 (.bin .mulI (.bin .subI (.lit 10000) (.var 2)) (.var 0))), (.int .i64 (.var 0)), (.int .i64 (.bin .mulI (.bin .mulI (.bin .subI (.lit 10000) (.var 2)) (.var 0)) (.var 0))), (.int .i64 (.bin .addI (.bin .mulI (.bin .mulI (.var 2) (.var 1)) (.var 1)) (.bin .mulI (.bin .mulI (.bin .subI (.lit 10000) (.var 2)) (.var 0)) (.var 0)))), (.tuple []), (.tuple []), (.tuple []), (.tuple []), (.tuple []), (.tuple []), (.tuple []), (.tuple []), (.tuple []), (.tuple []), (.tuple []), (.tuple []), (.tuple []), (.tuple []), (.tuple []), (.tuple []), (.tuple []), (.tuple []), (.tuple []), (.tuple []), (.tuple []), (.tuple []), (.tuple []), (.tuple []), (.tuple []), (.tuple []), (.tuple []), (.tuple []), (.tuple []), (.tuple []), (.tuple []), (.tuple []), (.tuple []), (.tuple []), (.tuple []), (.tuple []), (.tuple [])], [(some ⟨[(.int .i64 (.lit 0)), (.int .i64 (.lit 0))], 25, false, false, none⟩)], [], ⟨0, 0, 0⟩, ⟨[], [], []⟩, []⟩
        .nil
        .nil)
       (.ret ⟨[(.lit 0), (.lit 0), (.lit 2)], [], []⟩ []))
      (.ret ⟨[(.lit 0), (.lit 0), (.lit 2)], [], []⟩ []))
     (.ret ⟨[(.lit 0), (.lit 0), (.lit 2)], [], []⟩ []))
    (.ret ⟨[(.lit 0), (.lit 0), (.lit 2)], [], []⟩ []))
   (.ret ⟨[(.lit 0), (.lit 0), (.lit 2)], [], []⟩ []))
  (.ret ⟨[(.lit 0), (.lit 0), (.lit 2)], [], []⟩ []))
theorem rmbn {x0 x1 x2 : Int} (r0 : (-9223372036854775808) ≤ x0 ∧ x0 ≤ 9223372036854775807) (r1 : (-9223372036854775808) ≤ x1 ∧ x1 ≤ 9223372036854775807) (r2 : (-9223372036854775808) ≤ x2 ∧ x2 ≤ 9223372036854775807) {R : Int → Int → Int → Prop}
  (H : ((decide ((5000 : Int) ≤ x0) = true → ((decide ((x0 : Int) ≤ 80000) = true → ((decide ((5000 : Int) ≤ x1) = true → ((decide ((x1 : Int) ≤ 80000) = true → ((decide ((0 : Int) ≤ x2) = true → ((decide ((x2 : Int) ≤ 10000) = true → (∃ (I3 : Prop) (rk3 : Nat), I3 ∧
         (I3 → False))) ∧
        (decide ((x2 : Int) ≤ 10000) = false → R (0) (0) (2)))) ∧
       (decide ((0 : Int) ≤ x2) = false → R (0) (0) (2)))) ∧
      (decide ((x1 : Int) ≤ 80000) = false → R (0) (0) (2)))) ∧
     (decide ((5000 : Int) ≤ x1) = false → R (0) (0) (2)))) ∧
    (decide ((x0 : Int) ≤ 80000) = false → R (0) (0) (2)))) ∧
   (decide ((5000 : Int) ≤ x0) = false → R (0) (0) (2)))) :
    ∃ v0 : Int, ∃ v1 : Int, ∃ v2 : Int, R v0 v1 v2 ∧ Spec Tryz.prog etalonref02_MixedBetween_s ⟨[x0, x1, x2], [], []⟩ [v0, v1, v2] [] [] :=
  Eq.mp (by kernel_rfl) (exV_of (K := fun d => app3 etalonref02_MixedBetween_s.out R d ∧ Spec Tryz.prog etalonref02_MixedBetween_s ⟨[x0, x1, x2], [], []⟩ d.1 d.2.1 d.2.2) (tree_at mixed names S1_ok (S := S1 Tryz.prog) (lf := 100000) (d := 60) etalonref02_MixedBetween_s rmbn_t { ivs := [(0, (-9223372036854775808), 9223372036854775807), (1, (-9223372036854775808), 9223372036854775807), (2, (-9223372036854775808), 9223372036854775807)], aivs := [] } ⟨[x0, x1, x2], [], []⟩ rfl (by kernel_rfl) (by kernel_rfl) (by kernel_rfl) ⟨(fc r0 (fc r1 (fc r2 fz))), fz, fz, fz⟩ (R := fun d => app3 etalonref02_MixedBetween_s.out R d) (Eq.mp (by kernel_rfl) H)))

def rsh_t : Tr :=
  (.ite (.icmp .leq (.lit 5000) (.var 0))
  (.ite (.icmp .leq (.var 0) (.lit 80000))
   (.ite (.icmp .leq (.lit 5000) (.var 1))
    (.ite (.icmp .leq (.var 1) (.lit 80000))
     (.ite (.icmp .leq (.lit 5000) (.var 2))
      (.ite (.icmp .leq (.var 2) (.lit 80000))
       (.ite (.icmp .eql (.var 0) (.var 1))
        (.ret ⟨[(.lit 0), (.lit 0), (.lit 9)], [], []⟩ [])
        (.ite (.icmp .leq (.bin .minI (.var 0) (.var 1)) (.var 2))
         (.ite (.icmp .leq (.var 2) (.bin .maxI (.var 0) (.var 1)))
          (.ite (.icmp .leq (.lit 0) (.bin .subI (.bin .mulI (.var 0) (.var 0)) (.bin .mulI (.var 1) (.var 1))))
           (.call etalonbase_Floor_s ⟨[(.bin .mulI (.lit 10000) (.bin .subI (.bin .mulI (.var 2) (.var 2)) (.bin .mulI (.var 1) (.var 1)))), (.bin .subI (.bin .mulI (.var 0) (.var 0)) (.bin .mulI (.var 1) (.var 1)))], [], []⟩ ⟨[(.bin .mulI (.lit 10000) (.bin .subI (.bin .mulI (.var 2) (.var 2)) (.bin .mulI (.var 1) (.var 1)))), (.bin .subI (.bin .mulI (.var 0) (.var 0)) (.bin .mulI (.var 1) (.var 1))), (.var 3)], [], []⟩ ⟨26, [(.int .i64 (.bin .mulI (.lit 10000) (.bin .subI (.bin .mulI (.var 2) (.var 2)) (.bin .mulI (.var 1) (.var 1))))), (.int .i64 (.bin .subI (.bin .mulI (.var 0) (.var 0)) (.bin .mulI (.var 1) (.var 1))))], [], [none], (.int .i64 (.var 3)), []⟩
            (.call etalonbase_Ceil_s ⟨[(.bin .mulI (.lit 10000) (.bin .subI (.bin .mulI (.var 2) (.var 2)) (.bin .mulI (.var 1) (.var 1)))), (.bin .subI (.bin .mulI (.var 0) (.var 0)) (.bin .mulI (.var 1) (.var 1)))], [], []⟩ ⟨[(.bin .mulI (.lit 10000) (.bin .subI (.bin .mulI (.var 2) (.var 2)) (.bin .mulI (.var 1) (.var 1)))), (.bin .subI (.bin .mulI (.var 0) (.var 0)) (.bin .mulI (.var 1) (.var 1))), (.var 4)], [], []⟩ ⟨27, [(.int .i64 (.bin .mulI (.lit 10000) (.bin .subI (.bin .mulI (.var 2) (.var 2)) (.bin .mulI (.var 1) (.var 1))))), (.int .i64 (.bin .subI (.bin .mulI (.var 0) (.var 0)) (.bin .mulI (.var 1) (.var 1))))], [], [none], (.int .i64 (.var 4)), []⟩
            (.ret ⟨[(.var 3), (.var 4), (.lit 0)], [], []⟩ [])))
           (.call etalonbase_Floor_s ⟨[(.bin .subI (.lit 0) (.bin .mulI (.lit 10000) (.bin .subI (.bin .mulI (.var 2) (.var 2)) (.bin .mulI (.var 1) (.var 1))))), (.bin .subI (.lit 0) (.bin .subI (.bin .mulI (.var 0) (.var 0)) (.bin .mulI (.var 1) (.var 1))))], [], []⟩ ⟨[(.bin .subI (.lit 0) (.bin .mulI (.lit 10000) (.bin .subI (.bin .mulI (.var 2) (.var 2)) (.bin .mulI (.var 1) (.var 1))))), (.bin .subI (.lit 0) (.bin .subI (.bin .mulI (.var 0) (.var 0)) (.bin .mulI (.var 1) (.var 1)))), (.var 3)], [], []⟩ ⟨26, [(.int .i64 (.bin .subI (.lit 0) (.bin .mulI (.lit 10000) (.bin .subI (.bin .mulI (.var 2) (.var 2)) (.bin .mulI (.var 1) (.var 1)))))), (.int .i64 (.bin .subI (.lit 0) (.bin .subI (.bin .mulI (.var 0) (.var 0)) (.bin .mulI (.var 1) (.var 1)))))], [], [none], (.int .i64 (.var 3)), []⟩
            (.call etalonbase_Ceil_s ⟨[(.bin .subI (.lit 0) (.bin .mulI (.lit 10000) (.bin .subI (.bin .mulI (.var 2) (.var 2)) (.bin .mulI (.var 1) (.var 1))))), (.bin .subI (.lit 0) (.bin .subI (.bin .mulI (.var 0) (.var 0)) (.bin .mulI (.var 1) (.var 1))))], [], []⟩ ⟨[(.bin .subI (.lit 0) (.bin .mulI (.lit 10000) (.bin .subI (.bin .mulI (.var 2) (.var 2)) (.bin .mulI (.var 1) (.var 1))))), (.bin .subI (.lit 0) (.bin .subI (.bin .mulI (.var 0) (.var 0)) (.bin .mulI (.var 1) (.var 1)))), (.var 4)], [], []⟩ ⟨27, [(.int .i64 (.bin .subI (.lit 0) (.bin .mulI (.lit 10000) (.bin .subI (.bin .mulI (.var 2) (.var 2)) (.bin .mulI (.var 1) (.var 1)))))), (.int .i64 (.bin .subI (.lit 0) (.bin .subI (.bin .mulI (.var 0) (.var 0)) (.bin .mulI (.var 1) (.var 1)))))], [], [none], (.int .i64 (.var 4)), []⟩
            (.ret ⟨[(.var 3), (.var 4), (.lit 0)], [], []⟩ []))))
          (.ret ⟨[(.lit 0), (.lit 0), (.lit 24)], [], []⟩ []))
         (.ret ⟨[(.lit 0), (.lit 0), (.lit 24)], [], []⟩ [])))
       (.ret ⟨[(.lit 0), (.lit 0), (.lit 2)], [], []⟩ []))
      (.ret ⟨[(.lit 0), (.lit 0), (.lit 2)], [], []⟩ []))
     (.ret ⟨[(.lit 0), (.lit 0), (.lit 2)], [], []⟩ []))
    (.ret ⟨[(.lit 0), (.lit 0), (.lit 2)], [], []⟩ []))
   (.ret ⟨[(.lit 0), (.lit 0), (.lit 2)], [], []⟩ []))
  (.ret ⟨[(.lit 0), (.lit 0), (.lit 2)], [], []⟩ []))
theorem rsh {x0 x1 x2 : Int} (r0 : (-9223372036854775808) ≤ x0 ∧ x0 ≤ 9223372036854775807) (r1 : (-9223372036854775808) ≤ x1 ∧ x1 ≤ 9223372036854775807) (r2 : (-9223372036854775808) ≤ x2 ∧ x2 ≤ 9223372036854775807) {R : Int → Int → Int → Prop}
  (H : ((decide ((5000 : Int) ≤ x0) = true → ((decide ((x0 : Int) ≤ 80000) = true → ((decide ((5000 : Int) ≤ x1) = true → ((decide ((x1 : Int) ≤ 80000) = true → ((decide ((5000 : Int) ≤ x2) = true → ((decide ((x2 : Int) ≤ 80000) = true → ((((x0 : Int) == x1) = true → R (0) (0) (9)) ∧
         (((x0 : Int) == x1) = false → ((decide (((if (x1 : Int) < x0 then x1 else x0) : Int) ≤ x2) = true → ((decide ((x2 : Int) ≤ (if (x1 : Int) > x0 then x1 else x0)) = true → ((decide ((0 : Int) ≤ ((x0 * x0) - (x1 * x1))) = true → (∃ v3 : Int, Spec Tryz.prog etalonbase_Floor_s ⟨[(10000 * ((x2 * x2) - (x1 * x1))), ((x0 * x0) - (x1 * x1))], [], []⟩ [v3] [] [] ∧
             (∃ v4 : Int, Spec Tryz.prog etalonbase_Ceil_s ⟨[(10000 * ((x2 * x2) - (x1 * x1))), ((x0 * x0) - (x1 * x1))], [], []⟩ [v4] [] [] ∧
             R (v3) (v4) (0)))) ∧
            (decide ((0 : Int) ≤ ((x0 * x0) - (x1 * x1))) = false → (∃ v3 : Int, Spec Tryz.prog etalonbase_Floor_s ⟨[(0 - (10000 * ((x2 * x2) - (x1 * x1)))), (0 - ((x0 * x0) - (x1 * x1)))], [], []⟩ [v3] [] [] ∧
             (∃ v4 : Int, Spec Tryz.prog etalonbase_Ceil_s ⟨[(0 - (10000 * ((x2 * x2) - (x1 * x1)))), (0 - ((x0 * x0) - (x1 * x1)))], [], []⟩ [v4] [] [] ∧
             R (v3) (v4) (0)))))) ∧
           (decide ((x2 : Int) ≤ (if (x1 : Int) > x0 then x1 else x0)) = false → R (0) (0) (24)))) ∧
          (decide (((if (x1 : Int) < x0 then x1 else x0) : Int) ≤ x2) = false → R (0) (0) (24)))))) ∧
        (decide ((x2 : Int) ≤ 80000) = false → R (0) (0) (2)))) ∧
       (decide ((5000 : Int) ≤ x2) = false → R (0) (0) (2)))) ∧
      (decide ((x1 : Int) ≤ 80000) = false → R (0) (0) (2)))) ∧
     (decide ((5000 : Int) ≤ x1) = false → R (0) (0) (2)))) ∧
    (decide ((x0 : Int) ≤ 80000) = false → R (0) (0) (2)))) ∧
   (decide ((5000 : Int) ≤ x0) = false → R (0) (0) (2)))) :
    ∃ v0 : Int, ∃ v1 : Int, ∃ v2 : Int, R v0 v1 v2 ∧ Spec Tryz.prog etalonref02_ShareFor_s ⟨[x0, x1, x2], [], []⟩ [v0, v1, v2] [] [] :=
  Eq.mp (by kernel_rfl) (exV_of (K := fun d => app3 etalonref02_ShareFor_s.out R d ∧ Spec Tryz.prog etalonref02_ShareFor_s ⟨[x0, x1, x2], [], []⟩ d.1 d.2.1 d.2.2) (tree_at mixed names S1_ok (S := S1 Tryz.prog) (lf := 100000) (d := 60) etalonref02_ShareFor_s rsh_t { ivs := [(0, (-9223372036854775808), 9223372036854775807), (1, (-9223372036854775808), 9223372036854775807), (2, (-9223372036854775808), 9223372036854775807)], aivs := [] } ⟨[x0, x1, x2], [], []⟩ rfl (by kernel_rfl) (by kernel_rfl) (by kernel_rfl) ⟨(fc r0 (fc r1 (fc r2 fz))), fz, fz, fz⟩ (R := fun d => app3 etalonref02_ShareFor_s.out R d) (Eq.mp (by kernel_rfl) H)))

/-- Where the reference's root is under way. -/

def RtI (n b r : Int) : Prop := 0 ≤ r ∧ r * r ≤ n ∧ ((b = 0 ∧ n < (r + 1) * (r + 1)) ∨ ∃ k : Nat, k ≤ 30 ∧ b = 2 ^ k ∧ n < (r + 2 * b) * (r + 2 * b))

theorem RtI.bd {n b r : Int} (h : RtI n b r) (h' : n < 1152921504606846976) : (0 ≤ b ∧ b ≤ 1073741824) ∧ 0 ≤ r ∧ r ≤ 1073741824 := by

  obtain ⟨h0, h1, h2⟩ := h

  have hr : r ≤ 1073741824 := by

    rcases Int.lt_or_le 1073741824 r with g | g

    · have : 1073741824 * 1073741824 ≤ r * r := Int.mul_le_mul (by omega) (by omega) (by omega) (by omega)

      omega

    · exact g

  rcases h2 with ⟨rfl, _⟩ | ⟨k, hk, rfl, _⟩

  · omega

  · have p := pow_pos k

    have : (2 : Int) ^ k ≤ 2 ^ 30 := by exact_mod_cast Nat.pow_le_pow_right (n := 2) (by decide) hk

    omega

theorem RtI.step {n b r : Int} (h : RtI n b r) (hb : ¬ b ≤ 0) : (b.tdiv 2).toNat < b.toNat ∧ ((r + b) * (r + b) ≤ n → RtI n (b.tdiv 2) (r + b)) ∧ (¬ (r + b) * (r + b) ≤ n → RtI n (b.tdiv 2) r) := by

  obtain ⟨h0, h1, h2⟩ := h

  rcases h2 with ⟨rfl, _⟩ | ⟨k, hk, e, h3⟩

  · omega

  have e2 : b.tdiv 2 = b / 2 := Int.tdiv_eq_ediv_of_nonneg (by omega)

  rw [e2]

  cases k with

  | zero =>

    have e1 : b = 1 := by rw [e]; rfl

    subst e1

    refine ⟨by decide, fun g => ⟨by omega, g, .inl ⟨rfl, ?_⟩⟩, fun g => ⟨h0, h1, .inl ⟨rfl, by omega⟩⟩⟩

    rw [show r + 1 + 1 = r + 2 * 1 by omega]; exact h3

  | succ k =>

    have e1 : b = 2 * 2 ^ k := by rw [e, Int.pow_succ]; omega

    have e3 : b / 2 = 2 ^ k := by omega

    have p := pow_pos k

    refine ⟨by omega, fun g => ⟨by omega, g, .inr ⟨k, by omega, e3, ?_⟩⟩, fun g => ⟨h0, h1, .inr ⟨k, by omega, e3, ?_⟩⟩⟩

    · rw [show r + b + 2 * (b / 2) = r + 2 * b by omega]; exact h3

    · rw [show r + 2 * (b / 2) = r + b by omega]; omega

theorem rroot_s {n : Int} (h : 0 ≤ n) (h2 : n < 72057594037927936) : Spec Tryz.prog etalonbase_Root_s ⟨[n], [], []⟩ [rti n] [] [] := by

  have h' : n < 1152921504606846976 := by omega

  obtain ⟨v, rfl, hs⟩ := rro (x0 := n) (by omega) (R := (· = rti n)) ⟨fun b r => RtI n b r, fun b _ => b.toNat, ⟨by omega, by omega, .inr ⟨30, by omega, rfl, by omega⟩⟩, fun b r hI => by

    have hb := hI.bd h'

    refine ⟨hb.1, hb.2, fun h9 => ⟨by omega, ?_⟩, fun h9 => ?_⟩

    · obtain ⟨h0, h1, h3⟩ := hI

      rcases h3 with ⟨_, h3⟩ | ⟨k, hk, e, _⟩

      · symm; exact Gm.rti_uniq h h2 h0 h1 h3

      · have p := pow_pos k

        simp only [decide_eq_true_eq] at h9; omega

    · obtain ⟨s1, s2, s3⟩ := hI.step (by simpa using h9)

      exact ⟨fun g => ⟨s2 (by simpa using g), s1⟩, fun g => ⟨s3 (by simpa using g), s1⟩⟩⟩

  exact hs

theorem compare_s {n d m k : Int} (hn : 0 ≤ n ∧ n ≤ 100000000000000) (hd : 1 ≤ d ∧ d ≤ 100000000000000) (hm : 0 ≤ m ∧ m ≤ 100000000000000) (hk : 1 ≤ k ∧ k ≤ 100000000000000) :

    ∃ c : Int, (c ≤ 0 ↔ n * k ≤ m * d) ∧ Spec Tryz.prog etalonbase_Compare_s ⟨[n, d, m, k], [], []⟩ [c] [] [] := by

  refine cmp hn hd hm hk ⟨fun a b c e => (0 ≤ a ∧ a ≤ 100000000000000) ∧ (1 ≤ b ∧ b ≤ 100000000000000) ∧ (0 ≤ c ∧ c ≤ 100000000000000) ∧ (1 ≤ e ∧ e ≤ 100000000000000) ∧ a * e - c * b = n * k - m * d, fun _ b _ e => (b + e).toNat, ⟨hn, hd, hm, hk, rfl⟩, ?_⟩

  rintro a b c e ⟨ha, hb, hc, he, hI⟩

  refine ⟨ha, hb, hc, he, _, floor_s (by omega) (by omega), _, floor_s (by omega) (by omega), ?_⟩

  have e1 := Int.mul_ediv_add_emod a b

  have e2 := Int.mul_ediv_add_emod c e

  have p1 := Int.emod_nonneg a (show b ≠ 0 by omega)

  have p2 := Int.emod_lt_of_pos a (show 0 < b by omega)

  have p3 := Int.emod_nonneg c (show e ≠ 0 by omega)

  have p4 := Int.emod_lt_of_pos c (show 0 < e by omega)

  have q1 := Int.ediv_nonneg (a := a) (b := b) ha.1 (by omega)

  have q2 := Int.ediv_nonneg (a := c) (b := e) hc.1 (by omega)

  generalize a / b = p at *

  generalize c / e = q at *

  generalize a % b = r at *

  generalize c % e = s at *

  have g1 : 0 ≤ b * p := Int.mul_nonneg (by omega) q1

  have g2 : 0 ≤ e * q := Int.mul_nonneg (by omega) q2

  have m1 : p * b = b * p := Int.mul_comm _ _

  have m2 : q * e = e * q := Int.mul_comm _ _

  have w1 : IntKind.i64.wrap (a - IntKind.i64.wrap (p * b)) = r := by

    rw [wrapS (x := p * b) (by omega), wrapS (x := a - p * b) (by omega)]; omega

  have w2 : IntKind.i64.wrap (c - IntKind.i64.wrap (q * e)) = s := by

    rw [wrapS (x := q * e) (by omega), wrapS (x := c - q * e) (by omega)]; omega

  rw [w1, w2]

  have k1 : a * e = b * p * e + r * e := by rw [← e1, Int.add_mul]

  have k2 : c * b = e * q * b + s * b := by rw [← e2, Int.add_mul]

  have k3 : b * p * e = b * e * p := by rw [Int.mul_assoc, Int.mul_comm p e, ← Int.mul_assoc]

  have k4 : e * q * b = b * e * q := by rw [Int.mul_assoc, Int.mul_comm q b, ← Int.mul_assoc, Int.mul_comm e b]

  have f1 : 0 ≤ r * e := Int.mul_nonneg p1 (by omega)

  have f2 : 0 ≤ s * b := Int.mul_nonneg p3 (by omega)

  have f3 : r * e < b * e := Int.mul_lt_mul_of_pos_right p2 (by omega)

  have f4 : s * b < e * b := Int.mul_lt_mul_of_pos_right p4 (by omega)

  have f5 : e * b = b * e := Int.mul_comm _ _

  simp only [decide_eq_true_eq, decide_eq_false_iff_not, beq_iff_eq, beq_eq_false_iff_ne]

  refine ⟨fun h1 => ⟨fun h2 => ?_, fun h2 => ?_⟩, fun h1 => ?_⟩

  · have hpq : p = q := by omega

    subst hpq

    refine ⟨fun hr => ⟨fun hs => ?_, fun hs => ?_⟩, fun hr => ⟨fun hs => ?_, fun hs => ?_⟩⟩

    · subst hr; subst hs; simp only [Int.zero_mul] at *; omega

    · subst hr; simp only [Int.zero_mul] at *; omega

    · subst hs

      have : 0 < r * e := Int.mul_pos (by omega) (by omega)

      simp only [Int.zero_mul] at *; omega

    · have c1 : e * r = r * e := Int.mul_comm _ _

      have c2 : b * s = s * b := Int.mul_comm _ _

      refine ⟨⟨by omega, by omega, by omega, by omega, by omega⟩, by omega⟩

  · have h3 : b * e * (q + 1) ≤ b * e * p := Int.mul_le_mul_of_nonneg_left (by omega) (by omega)

    have h4 : b * e * (q + 1) = b * e * q + b * e := by rw [Int.mul_add, Int.mul_one]

    omega

  · have h3 : b * e * (p + 1) ≤ b * e * q := Int.mul_le_mul_of_nonneg_left (by omega) (by omega)

    have h4 : b * e * (p + 1) = b * e * p + b * e := by rw [Int.mul_add, Int.mul_one]

    omega

/-- The upper root by the whole part. -/

theorem rtu_by {p : Int} (h0 : 0 ≤ p) (h1 : p ≤ 64000000000000) : rtu (cdiv p 10000) = if p ≤ rti (p / 10000) * rti (p / 10000) * 10000 then rti (p / 10000) else rti (p / 10000) + 1 := by

  have c := cdiv_spec p (d := 10000) (by omega)

  obtain ⟨k0, k1, k2, k3⟩ := rti_spec (p / 10000) (by omega) (by omega)

  generalize hr : rti (p / 10000) = r at *

  have er : (r + 1) * (r + 1) = r * r + 2 * r + 1 := by grind

  split

  · rename_i h

    have e : cdiv p 10000 = r * r := by omega

    have e2 : p / 10000 = r * r := by omega

    rw [e]; unfold rtu; rw [show rti (r * r) = r by rw [← e2]; exact hr, if_neg (by omega)]

  · rename_i h

    exact Gm.rtu_uniq (by omega) k0 (by omega) (by omega)

theorem rmixed_s {a b s : Int} (ha : 5000 ≤ a ∧ a ≤ 80000) (hb : 5000 ≤ b ∧ b ≤ 80000) (hs : 0 ≤ s ∧ s ≤ 10000) :

    Spec Tryz.prog etalonref02_MixedBetween_s ⟨[a, b, s], [], []⟩ [mixL a b s, mixH a b s, 0] [] [] := by

  obtain ⟨k1, k2, k3, k4, k5, k6, k7, k8, k9, k10, k11⟩ := mixed_any ha hb hs

  have ea := sq_le (x := 5000) (y := a) (by omega) ha.1

  have ea' := sq_le (x := a) (y := 80000) (by omega) ha.2

  have eb := sq_le (x := 5000) (y := b) (by omega) hb.1

  have eb' := sq_le (x := b) (y := 80000) (by omega) hb.2

  have e1 : 10000 * a * a = 10000 * (a * a) := Int.mul_assoc _ _ _

  have hN : 0 ≤ 10000 * a * a * (b * b) := Int.mul_nonneg (by omega) (by omega)

  have hL : mixL a b s = rti (10000 * a * a * (b * b) / ser a b s) := rfl

  have hq := Int.mul_ediv_add_emod (10000 * a * a * (b * b)) (ser a b s)

  have hq0 := Int.emod_nonneg (10000 * a * a * (b * b)) (show ser a b s ≠ 0 by omega)

  have hq1 := Int.emod_lt_of_pos (10000 * a * a * (b * b)) (show 0 < ser a b s by omega)

  have hr := rti_spec _ k4 k5

  rw [← hL] at hr

  have hpar : par a b s = s * a * a + (10000 - s) * b * b := rfl

  have hser : s * b * b + (10000 - s) * a * a = ser a b s := rfl

  have hup := rtu_by (p := par a b s) (by omega) (by omega)

  obtain ⟨v0, v1, v2, ⟨rfl, rfl, rfl⟩, h⟩ := rmb ha hb hs (R := fun x y z => x = mixL a b s ∧ y = mixH a b s ∧ z = 0) (by

  refine ⟨fun lo be => 0 ≤ lo ∧ lo < be ∧ be ≤ 80001 ∧ lo * lo * ser a b s ≤ 10000 * a * a * (b * b) ∧ 10000 * a * a * (b * b) < be * be * ser a b s, fun lo be => (be - lo).toNat, ?_, ?_⟩

  · refine ⟨by omega, by omega, by omega, by simpa using hN, ?_⟩

    have m1 := sq_le (x := mixL a b s + 1) (y := 80001) (by omega) (by omega)

    have m2 : (mixL a b s + 1) * (mixL a b s + 1) = mixL a b s * mixL a b s + 2 * mixL a b s + 1 := by grind

    have m3 : ser a b s * (10000 * a * a * (b * b) / ser a b s + 1) ≤ ser a b s * (80001 * 80001) := Int.mul_le_mul_of_nonneg_left (by omega) (by omega)

    rw [Int.mul_add, Int.mul_one] at m3

    have m4 : ser a b s * (80001 * 80001) = 80001 * 80001 * ser a b s := Int.mul_comm _ _

    omega

  · rintro lo be ⟨h0, h1, h2, h3, h4⟩

    refine ⟨by omega, by omega, fun h5 => ⟨by omega, ?_⟩, fun h5 => ?_⟩

    · simp only [decide_eq_true_eq] at h5

      have hbe : be = lo + 1 := by omega

      subst hbe

      have el : lo = mixL a b s := by

        rw [hL]; symm

        refine Gm.rti_uniq k4 k5 h0 (Int.le_ediv_of_mul_le (by omega) h3) (Int.ediv_lt_of_lt_mul (by omega) h4)

      refine ⟨_, floor_s (by omega) (by omega), _, rroot_s (by omega) (by omega), ?_⟩

      rw [← hpar]

      obtain ⟨j0, j1, j2, j3⟩ := rti_spec (par a b s / 10000) (by omega) (by omega)

      have jb : rti (par a b s / 10000) ≤ 80001 := Gm.le_of_sq (x := rti (par a b s / 10000)) (y := 80001) (by omega) (by omega)

      have hH : mixH a b s = rtu (cdiv (par a b s) 10000) := rfl

      rw [hup] at hH

      rw [hH, ← el]

      refine ⟨by omega, fun h6 => ?_, fun h6 => ?_⟩

      · simp only [decide_eq_true_eq] at h6

        rw [if_pos h6]; exact ⟨rfl, rfl, rfl⟩

      · simp only [decide_eq_false_iff_not] at h6

        rw [if_neg h6]; exact ⟨rfl, rfl, rfl⟩

    · simp only [decide_eq_false_iff_not] at h5

      have et : (lo + be).tdiv 2 = (lo + be) / 2 := Int.tdiv_eq_ediv_of_nonneg (by omega)

      rw [et]

      have eg1 : lo < (lo + be) / 2 := by omega

      have eg2 : (lo + be) / 2 < be := by omega

      generalize (lo + be) / 2 = mid at *

      have em := sq_le (x := mid) (y := 80001) (by omega) (by omega)

      have em0 : 0 ≤ mid * mid := Int.mul_nonneg (by omega) (by omega)

      rw [hser]

      obtain ⟨c, hc, hcs⟩ := compare_s (n := mid * mid) (d := b * b) (m := 10000 * a * a) (k := ser a b s) (by omega) (by omega) (by omega) (by omega)

      refine ⟨c, hcs, fun h6 => ⟨⟨by omega, eg2, h2, ?_, h4⟩, (by omega : (be - mid).toNat < (be - lo).toNat)⟩, fun h6 => ⟨⟨h0, eg1, by omega, h3, ?_⟩, (by omega : (mid - lo).toNat < (be - lo).toNat)⟩⟩

      · simp only [decide_eq_true_eq] at h6; exact hc.1 h6

      · simp only [decide_eq_false_iff_not] at h6

        have := mt hc.2 h6; omega)

  exact h

theorem rmixed_no {a b s : Int} (ra : (-9223372036854775808) ≤ a ∧ a ≤ 9223372036854775807) (rb : (-9223372036854775808) ≤ b ∧ b ≤ 9223372036854775807) (rs : (-9223372036854775808) ≤ s ∧ s ≤ 9223372036854775807)

    (hn : ¬ ((5000 ≤ a ∧ a ≤ 80000) ∧ (5000 ≤ b ∧ b ≤ 80000) ∧ 0 ≤ s ∧ s ≤ 10000)) : Spec Tryz.prog etalonref02_MixedBetween_s ⟨[a, b, s], [], []⟩ [0, 0, 2] [] [] := by

  obtain ⟨v0, v1, v2, ⟨rfl, rfl, rfl⟩, h⟩ := rmbn ra rb rs (R := fun x y z => x = 0 ∧ y = 0 ∧ z = 2) (by

    simp only [decide_eq_true_eq, decide_eq_false_iff_not]

    refine ⟨fun h1 => ⟨fun h2 => ⟨fun h3 => ⟨fun h4 => ⟨fun h5 => ⟨fun h6 => absurd ⟨⟨h1, h2⟩, ⟨h3, h4⟩, h5, h6⟩ hn, ?_⟩, ?_⟩, ?_⟩, ?_⟩, ?_⟩, ?_⟩ <;> exact fun _ => by simp)

  exact h

theorem rshare_s {a b m : Int} (ra : (-9223372036854775808) ≤ a ∧ a ≤ 9223372036854775807) (rb : (-9223372036854775808) ≤ b ∧ b ≤ 9223372036854775807) (rm : (-9223372036854775808) ≤ m ∧ m ≤ 9223372036854775807) :

    Spec Tryz.prog etalonref02_ShareFor_s ⟨[a, b, m], [], []⟩ [shL a b m, shH a b m, shE a b m] [] [] := by

  obtain ⟨v0, v1, v2, ⟨rfl, rfl, rfl⟩, h⟩ := rsh ra rb rm (R := fun x y z => x = shL a b m ∧ y = shH a b m ∧ z = shE a b m) (by

    simp only [decide_eq_true_eq, decide_eq_false_iff_not, beq_iff_eq, beq_eq_false_iff_ne, min_ite, max_ite]

    have no {e : Int} (he : shE a b m = e) (h : e ≠ 0) : 0 = shL a b m ∧ 0 = shH a b m ∧ e = shE a b m := by

      subst he; unfold shL shH; rw [if_pos h, if_pos h]; exact ⟨rfl, rfl, rfl⟩

    have e2 (h : ¬ ((5000 ≤ a ∧ a ≤ 80000) ∧ (5000 ≤ b ∧ b ≤ 80000) ∧ 5000 ≤ m ∧ m ≤ 80000)) : shE a b m = 2 := by unfold shE; rw [if_pos h]

    refine ⟨fun h1 => ⟨fun h2 => ⟨fun h3 => ⟨fun h4 => ⟨fun h5 => ⟨fun h6 => ⟨fun h7 => ?_, fun h7 => ⟨fun h8 => ⟨fun h9 => ?_, fun h9 => ?_⟩, fun h8 => ?_⟩⟩, ?_⟩, ?_⟩, ?_⟩, ?_⟩, ?_⟩, ?_⟩

    · refine no ?_ (by decide); unfold shE; rw [if_neg (by omega), if_pos h7]

    · have e0 : shE a b m = 0 := by unfold shE; rw [if_neg (by omega), if_neg h7, if_neg (by omega)]

      have qa := sq_le (x := a) (y := 80000) (by omega) h2

      have qb := sq_le (x := b) (y := 80000) (by omega) h4

      have qm := sq_le (x := m) (y := 80000) (by omega) h6

      have pa := sq_le (x := 5000) (y := a) (by omega) h1

      have pb := sq_le (x := 5000) (y := b) (by omega) h3

      have pm := sq_le (x := 5000) (y := m) (by omega) h5

      have hne : a * a - b * b ≠ 0 := by

        rcases Int.lt_or_gt_of_ne h7 with g | g

        · have := sq_lt (x := a) (y := b) (by omega) g; omega

        · have := sq_lt (x := b) (y := a) (by omega) g; omega

      have R0 : shL a b m = if 0 ≤ a * a - b * b then 10000 * (m * m - b * b) / (a * a - b * b) else 10000 * (0 - (m * m - b * b)) / (0 - (a * a - b * b)) := by unfold shL; rw [if_neg (by omega)]

      have R1 : shH a b m = if 0 ≤ a * a - b * b then cdiv (10000 * (m * m - b * b)) (a * a - b * b) else cdiv (10000 * (0 - (m * m - b * b))) (0 - (a * a - b * b)) := by unfold shH; rw [if_neg (by omega)]

      refine ⟨fun k1 => ?_, fun k1 => ?_⟩

      · rw [R0, R1, if_pos k1, if_pos k1]

        exact ⟨_, floor_s (by omega) (by omega), _, ceil_s (by omega) (by omega), rfl, rfl, e0.symm⟩

      · rw [R0, R1, if_neg k1, if_neg k1, show 10000 * (0 - (m * m - b * b)) = 0 - 10000 * (m * m - b * b) by omega]

        exact ⟨_, floor_s (by omega) (by omega), _, ceil_s (by omega) (by omega), rfl, rfl, e0.symm⟩

    · refine no ?_ (by decide); unfold shE; rw [if_neg (by omega), if_neg h7, if_pos (by omega)]

    · refine no ?_ (by decide); unfold shE; rw [if_neg (by omega), if_neg h7, if_pos (by omega)]

    all_goals exact fun h9 => no (e2 (by omega)) (by decide))

  exact h

end Go.Proofs.YtmodchmadbkfbaaGreat.Ev
