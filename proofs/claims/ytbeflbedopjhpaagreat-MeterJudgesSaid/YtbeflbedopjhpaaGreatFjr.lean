/- Unit numbers for psi, and psi, of the reference. -/
import Derived.Test.YtbeflbedopjhpaaGreatFpsi
import Derived.Test.YtbeflbedopjhpaaGreatGmn
namespace Go.Proofs.YtbeflbedopjhpaaGreat.Ev
set_option linter.unusedSimpArgs false
open Go Go.RowKit
set_option linter.unusedVariables false
set_option maxRecDepth 100000
def etalonbase_Root_s : Sig := ⟨96, ⟨1, 0, 0⟩, ⟨1, 0, 0⟩, [(.int .i64 (.var 0))], [], (.int .i64 (.var 1)), []⟩
def etalonbase_Mod_s : Sig := ⟨85, ⟨2, 0, 0⟩, ⟨1, 0, 0⟩, [(.int .i64 (.var 0)), (.int .i64 (.var 1))], [], (.int .i64 (.var 2)), []⟩
def etalonref01_Direction_s : Sig := ⟨83, ⟨1, 0, 0⟩, ⟨2, 0, 0⟩, [(.int .i64 (.var 0))], [], (.agg [(.int .i64 (.var 1)), (.int .i64 (.var 2))]), []⟩
def etalonref01_rounded_s : Sig := ⟨84, ⟨2, 0, 0⟩, ⟨1, 1, 0⟩, [(.int .i64 (.var 0)), (.int .i64 (.var 1))], [], (.tuple [(.int .i64 (.var 2)), (.bool (.var 0))]), []⟩
def _etalonref01_B__Checked_s : Sig := ⟨86, ⟨3, 0, 0⟩, ⟨4, 0, 0⟩, [(.agg [(.int .i64 (.var 0)), (.int .i64 (.var 1)), (.int .i64 (.var 2))])], [], (.tuple [(.agg [(.int .i64 (.var 3)), (.int .i64 (.var 4)), (.int .i64 (.var 5))]), (.int .i64 (.var 6))]), []⟩
def etalonref01_Arc_s : Sig := ⟨74, ⟨2, 0, 0⟩, ⟨4, 0, 0⟩, [(.agg [(.int .i64 (.var 0)), (.int .i64 (.var 1))])], [], (.tuple [(.agg [(.int .i64 (.var 2)), (.int .i64 (.var 3)), (.int .i64 (.var 4))]), (.int .i64 (.var 5))]), []⟩
def etalonref01_arcOf_s : Sig := ⟨58, ⟨2, 0, 0⟩, ⟨4, 0, 0⟩, [(.int .i64 (.var 0)), (.int .i64 (.var 1))], [], (.tuple [(.agg [(.int .i64 (.var 2)), (.int .i64 (.var 3)), (.int .i64 (.var 4))]), (.int .i64 (.var 5))]), []⟩
def etalonref01_Unit_s : Sig := ⟨34, ⟨2, 0, 0⟩, ⟨4, 0, 0⟩, [(.int .i64 (.var 0)), (.int .i64 (.var 1))], [], (.tuple [(.agg [(.int .i64 (.var 2)), (.int .i64 (.var 3)), (.int .i64 (.var 4))]), (.int .i64 (.var 5))]), []⟩
def etalonref01_PartsOf_s : Sig := ⟨35, ⟨3, 0, 0⟩, ⟨4, 0, 0⟩, [(.agg [(.int .i64 (.var 0)), (.int .i64 (.var 1)), (.int .i64 (.var 2))])], [], (.agg [(.int .i64 (.var 3)), (.int .i64 (.var 4)), (.int .i64 (.var 5)), (.int .i64 (.var 6))]), []⟩
def etalonref06_PsiOf_s : Sig := ⟨12, ⟨10, 0, 0⟩, ⟨2, 0, 0⟩, [(.agg [(.strn (.var 0)), (.int .i64 (.var 1)), (.int .i64 (.var 2)), (.int .i64 (.var 3)), (.int .i64 (.var 4)), (.int .i64 (.var 5)), (.int .i64 (.var 6)), (.int .i64 (.var 7)), (.int .i64 (.var 8)), (.int .i64 (.var 9))])], [], (.agg [(.int .i64 (.var 10)), (.int .i64 (.var 11))]), []⟩

def rro_t : Tr :=
  (.loop ⟨96, [0, 0, 1, 1], [(.int .i64 (.var 0)), (.tuple []), (.int .i64 (.lit 0)), (.int .i64 (.lit 0)), (.int .i64 (.lit 1073741824)), (.tuple []), (.tuple []), (.tuple []), (.tuple []), (.tuple []), (.tuple []), (.tuple []), (.tuple []), (.tuple []), (.tuple []), (.tuple []), (.tuple []), (.tuple []), (.tuple []), (.tuple []), (.tuple []), (.tuple [])], [], [], [(.int .i64 (.var 0)), (.tuple []), (.int .i64 (.lit 0)), (.int .i64 (.var 2)), (.int .i64 (.var 1)), (.any 5), (.any 6), (.any 7), (.any 8), (.any 9), (.any 10), (.any 11), (.any 12), (.any 13), (.any 14), (.any 15), (.any 16), (.any 17), (.any 18), (.any 19), (.any 20), (.tuple [])], [], [], ⟨2, 0, 0⟩, ⟨[(.lit 1073741824), (.lit 0)], [], []⟩, []⟩
  (.rng 1 0 1073741824 (.rng 2 0 1073741824 (.ite (.icmp .leq (.var 1) (.lit 0))
   (.out 0 ⟨[(.var 2)], [], []⟩ [])
   (.ite (.icmp .leq (.bin .mulI (.bin .addI (.var 2) (.var 1)) (.bin .addI (.var 2) (.var 1))) (.var 0))
    (.next ⟨[(.bin .quoI (.var 1) (.lit 2)), (.bin .addI (.var 2) (.var 1))], [], []⟩ [])
    (.next ⟨[(.bin .quoI (.var 1) (.lit 2)), (.var 2)], [], []⟩ [])))))
  (.ex ((.exit 0), [(.int .i64 (.var 0)), (.tuple []), (.int .i64 (.lit 0)), (.int .i64 (.var 1)), (.any 4), (.any 5), (.any 6), (.any 7), (.any 8), (.any 9), (.any 10), (.any 11), (.any 12), (.any 13), (.any 14), (.any 15), (.any 16), (.any 17), (.any 18), (.any 19), (.any 20), (.tuple [])], [], []) ⟨1, 0, 0⟩
  (.rng 1 (-9223372036854775808) 9223372036854775807 (.ret ⟨[(.var 1)], [], []⟩ []))
  .nil))
theorem rro {x0 : Int} (r0 : 0 ≤ x0 ∧ x0 ≤ 1152921504606846975) {R : Int → Prop}
  (H : (∃ (I1 : Int → Int → Prop) (rk1 : Int → Int → Nat), I1 (1073741824) (0) ∧
   (∀ x1 : Int, ∀ x2 : Int, I1 x1 x2 → ((0 ≤ (x1 : Int) ∧ (x1 : Int) ≤ 1073741824) ∧ ((0 ≤ (x2 : Int) ∧ (x2 : Int) ≤ 1073741824) ∧ ((decide ((x1 : Int) ≤ 0) = true → (((-9223372036854775808) ≤ ((x2) : Int) ∧ ((x2) : Int) ≤ 9223372036854775807) ∧ R ((x2)))) ∧
    (decide ((x1 : Int) ≤ 0) = false → ((decide ((((x2 + x1) * (x2 + x1)) : Int) ≤ x0) = true → (I1 (((x1 : Int).tdiv 2)) ((x2 + x1)) ∧ rk1 (((x1 : Int).tdiv 2)) ((x2 + x1)) < rk1 x1 x2)) ∧
     (decide ((((x2 + x1) * (x2 + x1)) : Int) ≤ x0) = false → (I1 (((x1 : Int).tdiv 2)) (x2) ∧ rk1 (((x1 : Int).tdiv 2)) (x2) < rk1 x1 x2)))))))))) :
    ∃ v0 : Int, R v0 ∧ Spec Tryz.prog etalonbase_Root_s ⟨[x0], [], []⟩ [v0] [] [] :=
  Eq.mp (by kernel_rfl) (exV_of (K := fun d => app3 etalonbase_Root_s.out R d ∧ Spec Tryz.prog etalonbase_Root_s ⟨[x0], [], []⟩ d.1 d.2.1 d.2.2) (tree_at mixed names S1_ok (S := S1 Tryz.prog) (lf := 100000) (d := 60) etalonbase_Root_s rro_t { ivs := [(0, 0, 1152921504606846975)], aivs := [] } ⟨[x0], [], []⟩ rfl (by kernel_rfl) (by kernel_rfl) (by kernel_rfl) ⟨(fc r0 fz), fz, fz, fz⟩ (R := fun d => app3 etalonbase_Root_s.out R d) (Eq.mp (by kernel_rfl) H)))

def rmo_t : Tr :=
  (.ret ⟨[(.bin .remK (.var 0) (.var 1))], [], []⟩ [])
theorem rmo {x0 x1 : Int} (r0 : 0 ≤ x0 ∧ x0 ≤ 2097152) (r1 : 1048576 ≤ x1 ∧ x1 ≤ 1048576) {R : Int → Prop}
  (H : R (((x0 : Int).tmod x1))) :
    ∃ v0 : Int, R v0 ∧ Spec Tryz.prog etalonbase_Mod_s ⟨[x0, x1], [], []⟩ [v0] [] [] :=
  Eq.mp (by kernel_rfl) (exV_of (K := fun d => app3 etalonbase_Mod_s.out R d ∧ Spec Tryz.prog etalonbase_Mod_s ⟨[x0, x1], [], []⟩ d.1 d.2.1 d.2.2) (tree_at mixed names S1_ok (S := S1 Tryz.prog) (lf := 100000) (d := 60) etalonbase_Mod_s rmo_t { ivs := [(0, 0, 2097152), (1, 1048576, 1048576)], aivs := [] } ⟨[x0, x1], [], []⟩ rfl (by kernel_rfl) (by kernel_rfl) (by kernel_rfl) ⟨(fc r0 (fc r1 fz)), fz, fz, fz⟩ (R := fun d => app3 etalonbase_Mod_s.out R d) (Eq.mp (by kernel_rfl) H)))

def rdr_t : Tr :=
  (.ite (.icmp .leq (.lit 2097152) (.bin .remK (.var 0) (.lit 4194304)))
  (.call etalonref01_Direction_s ⟨[(.bin .subI (.bin .remK (.var 0) (.lit 4194304)) (.lit 2097152))], [], []⟩ ⟨[(.bin .subI (.bin .remK (.var 0) (.lit 4194304)) (.lit 2097152)), (.var 1), (.var 2)], [], []⟩ ⟨83, [(.int .i64 (.bin .subI (.bin .remK (.var 0) (.lit 4194304)) (.lit 2097152)))], [], [none], (.agg [(.int .i64 (.var 1)), (.int .i64 (.var 2))]), []⟩
   (.rng 1 (-67108864) 67108864 (.rng 2 (-67108864) 67108864 (.ret ⟨[(.bin .subI (.lit 0) (.var 1)), (.bin .subI (.lit 0) (.var 2))], [], []⟩ []))))
  (.ite (.icmp .leq (.lit 1048576) (.bin .remK (.var 0) (.lit 4194304)))
   (.call etalonref01_Direction_s ⟨[(.bin .subI (.bin .remK (.var 0) (.lit 4194304)) (.lit 1048576))], [], []⟩ ⟨[(.bin .subI (.bin .remK (.var 0) (.lit 4194304)) (.lit 1048576)), (.var 1), (.var 2)], [], []⟩ ⟨83, [(.int .i64 (.bin .subI (.bin .remK (.var 0) (.lit 4194304)) (.lit 1048576)))], [], [none], (.agg [(.int .i64 (.var 1)), (.int .i64 (.var 2))]), []⟩
    (.rng 1 (-67108864) 67108864 (.rng 2 (-67108864) 67108864 (.ret ⟨[(.bin .subI (.lit 0) (.var 2)), (.var 1)], [], []⟩ []))))
   (.ite (.icmp .leq (.bin .remK (.var 0) (.lit 4194304)) (.lit 524288))
    (.call etalonbase_Root_s ⟨[(.lit 2251799813685248)], [], []⟩ ⟨[(.lit 2251799813685248), (.var 1)], [], []⟩ ⟨96, [(.int .i64 (.lit 2251799813685248))], [], [none], (.int .i64 (.var 1)), []⟩
     (.rng 1 0 268435456 (.ite (.icmp .eql (.bin .remK (.var 0) (.lit 4194304)) (.lit 0))
     (.ret ⟨[(.lit 67108864), (.lit 0)], [], []⟩ [])
     (.loop ⟨83, [0, 0, 1, 1, 1, 1, 1, 1, 1, 1, 1], [(.int .i64 (.bin .remK (.var 0) (.lit 4194304))), (.tuple []), (.ptr (some ⟨0, 0, none⟩)), (.tuple []), (.tuple []), (.tuple []), (.int .i64 (.var 1)), (.int .i64 (.lit 0)), (.int .i64 (.lit 524288)), (.ptr (some ⟨1, 0, none⟩)), (.ptr (some ⟨2, 0, none⟩)), (.tuple []), (.tuple []), (.tuple []), (.tuple []), (.tuple []), (.int .i64 (.var 0)), (.int .i64 (.bin .remK (.var 0) (.lit 4194304))), (.int .i64 (.bin .remK (.var 0) (.lit 4194304))), (.bool (.icmp .geq (.bin .remK (.var 0) (.lit 4194304)) (.lit 2097152))), (.tuple []), (.tuple []), (.tuple []), (.tuple []), (.tuple []), (.tuple []), (.tuple []), (.tuple []), (.tuple []), (.tuple []), (.int .i64 (.bin .remK (.var 0) (.lit 4194304))), (.bool (.icmp .geq (.bin .remK (.var 0) (.lit 4194304)) (.lit 1048576))), (.tuple []), (.tuple []), (.tuple []), (.tuple []), (.tuple []), (.tuple []), (.tuple []), (.tuple []), (.tuple []), (.int .i64 (.bin .remK (.var 0) (.lit 4194304))), (.bool (.icmp .gtr (.bin .remK (.var 0) (.lit 4194304)) (.lit 524288))), (.tuple []), (.tuple []), (.tuple []), (.tuple []), (.tuple []), (.tuple []), (.tuple []), (.tuple []), (.int .i64 (.var 1)), (.agg [(.int .i64 (.lit 67108864)), (.int .i64 (.lit 0))]), (.int .i64 (.var 1)), (.int .i64 (.var 1)), (.agg [(.int .i64 (.var 1)), (.int .i64 (.var 1))]), (.int .i64 (.bin .remK (.var 0) (.lit 4194304))), (.bool (.icmp .eql (.bin .remK (.var 0) (.lit 4194304)) (.lit 0))), (.tuple []), (.tuple []), (.tuple []), (.tuple []), (.tuple []), (.tuple []), (.tuple []), (.tuple []), (.tuple []), (.tuple []), (.tuple []), (.tuple []), (.tuple []), (.tuple []), (.tuple []), (.tuple []), (.tuple []), (.tuple []), (.tuple []), (.tuple []), (.tuple []), (.tuple []), (.tuple []), (.tuple []), (.tuple []), (.tuple []), (.tuple []), (.tuple []), (.tuple []), (.tuple []), (.tuple []), (.tuple []), (.tuple []), (.tuple []), (.tuple []), (.tuple []), (.tuple []), (.tuple []), (.tuple []), (.tuple []), (.tuple []), (.tuple []), (.tuple []), (.tuple []), (.tuple []), (.tuple []), (.tuple [])], [(some ⟨[(.int .i64 (.lit 0)), (.int .i64 (.lit 0))], 135, false, false, none⟩), (some ⟨[(.int .i64 (.lit 67108864)), (.int .i64 (.lit 0))], 135, false, false, none⟩), (some ⟨[(.int .i64 (.var 1)), (.int .i64 (.var 1))], 135, false, false, none⟩)], [], [(.int .i64 (.bin .remK (.var 0) (.lit 4194304))), (.tuple []), (.ptr (some ⟨0, 0, none⟩)), (.tuple []), (.tuple []), (.tuple []), (.int .i64 (.var 1)), (.int .i64 (.var 2)), (.int .i64 (.var 3)), (.ptr (some ⟨1, 0, none⟩)), (.ptr (some ⟨2, 0, none⟩)), (.any 11), (.any 12), (.any 13), (.any 14), (.any 15), (.int .i64 (.var 0)), (.int .i64 (.bin .remK (.var 0) (.lit 4194304))), (.int .i64 (.bin .remK (.var 0) (.lit 4194304))), (.bool (.icmp .geq (.bin .remK (.var 0) (.lit 4194304)) (.lit 2097152))), (.tuple []), (.tuple []), (.tuple []), (.tuple []), (.tuple []), (.tuple []), (.tuple []), (.tuple []), (.tuple []), (.tuple []), (.int .i64 (.bin .remK (.var 0) (.lit 4194304))), (.bool (.icmp .geq (.bin .remK (.var 0) (.lit 4194304)) (.lit 1048576))), (.tuple []), (.tuple []), (.tuple []), (.tuple []), (.tuple []), (.tuple []), (.tuple []), (.tuple []), (.tuple []), (.int .i64 (.bin .remK (.var 0) (.lit 4194304))), (.bool (.icmp .gtr (.bin .remK (.var 0) (.lit 4194304)) (.lit 524288))), (.tuple []), (.tuple []), (.tuple []), (.tuple []), (.tuple []), (.tuple []), (.tuple []), (.tuple []), (.int .i64 (.var 1)), (.agg [(.int .i64 (.lit 67108864)), (.int .i64 (.lit 0))]), (.int .i64 (.var 1)), (.int .i64 (.var 1)), (.agg [(.int .i64 (.var 1)), (.int .i64 (.var 1))]), (.int .i64 (.bin .remK (.var 0) (.lit 4194304))), (.bool (.icmp .eql (.bin .remK (.var 0) (.lit 4194304)) (.lit 0))), (.tuple []), (.any 59), (.any 60), (.any 61), (.any 62), (.any 63), (.any 64), (.any 65), (.any 66), (.any 67), (.any 68), (.any 69), (.any 70), (.any 71), (.any 72), (.any 73), (.any 74), (.any 75), (.any 76), (.any 77), (.any 78), (.any 79), (.any 80), (.any 81), (.any 82), (.any 83), (.any 84), (.any 85), (.any 86), (.any 87), (.any 88), (.any 89), (.any 90), (.any 91), (.any 92), (.any 93), (.any 94), (.any 95), (.tuple []), (.any 97), (.any 98), (.any 99), (.any 100), (.any 101), (.any 102), (.any 103), (.tuple [])], [(some ⟨[(.int .i64 (.lit 0)), (.int .i64 (.lit 0))], 135, false, false, none⟩), (some ⟨[(.int .i64 (.var 4)), (.int .i64 (.var 5))], 135, false, false, none⟩), (some ⟨[(.int .i64 (.var 6)), (.int .i64 (.var 7))], 135, false, false, none⟩)], [1, 2, 0], ⟨6, 0, 0⟩, ⟨[(.lit 0), (.lit 524288), (.lit 67108864), (.lit 0), (.var 1), (.var 1)], [], []⟩, []⟩
      (.rng 2 0 524288 (.rng 3 0 524288 (.rng 4 0 67108864 (.rng 5 0 67108864 (.rng 6 0 67108864 (.rng 7 0 67108864 (.ite (.icmp .eql (.bin .remK (.var 0) (.lit 4194304)) (.var 3))
       (.out 1 ⟨[(.var 4), (.var 5), (.var 6), (.var 7)], [], []⟩ [])
       (.call etalonbase_Root_s ⟨[(.bin .addI (.bin .mulI (.bin .addI (.var 4) (.var 6)) (.bin .addI (.var 4) (.var 6))) (.bin .mulI (.bin .addI (.var 5) (.var 7)) (.bin .addI (.var 5) (.var 7))))], [], []⟩ ⟨[(.bin .addI (.bin .mulI (.bin .addI (.var 4) (.var 6)) (.bin .addI (.var 4) (.var 6))) (.bin .mulI (.bin .addI (.var 5) (.var 7)) (.bin .addI (.var 5) (.var 7)))), (.var 8)], [], []⟩ ⟨96, [(.int .i64 (.bin .addI (.bin .mulI (.bin .addI (.var 4) (.var 6)) (.bin .addI (.var 4) (.var 6))) (.bin .mulI (.bin .addI (.var 5) (.var 7)) (.bin .addI (.var 5) (.var 7)))))], [], [none, none, none], (.int .i64 (.var 8)), []⟩
        (.rng 8 0 268435456 (.ite (.icmp .eql (.var 8) (.lit 0))
        .nil
        (.ite (.icmp .eql (.bin .quoI (.bin .addI (.var 2) (.var 3)) (.lit 2)) (.bin .remK (.var 0) (.lit 4194304)))
         (.out 0 ⟨[(.bin .quoI (.bin .mulI (.bin .addI (.var 4) (.var 6)) (.lit 67108864)) (.var 8)), (.bin .quoI (.bin .mulI (.bin .addI (.var 5) (.var 7)) (.lit 67108864)) (.var 8)), (.var 4), (.var 5), (.var 6), (.var 7)], [], []⟩ [])
         (.ite (.icmp .leq (.bin .remK (.var 0) (.lit 4194304)) (.bin .quoI (.bin .addI (.var 2) (.var 3)) (.lit 2)))
          (.next ⟨[(.var 2), (.bin .quoI (.bin .addI (.var 2) (.var 3)) (.lit 2)), (.var 4), (.var 5), (.bin .quoI (.bin .mulI (.bin .addI (.var 4) (.var 6)) (.lit 67108864)) (.var 8)), (.bin .quoI (.bin .mulI (.bin .addI (.var 5) (.var 7)) (.lit 67108864)) (.var 8))], [], []⟩ [])
          (.next ⟨[(.bin .quoI (.bin .addI (.var 2) (.var 3)) (.lit 2)), (.var 3), (.bin .quoI (.bin .mulI (.bin .addI (.var 4) (.var 6)) (.lit 67108864)) (.var 8)), (.bin .quoI (.bin .mulI (.bin .addI (.var 5) (.var 7)) (.lit 67108864)) (.var 8)), (.var 6), (.var 7)], [], []⟩ [])))))))))))))
      (.ex (.ret, [(.int .i64 (.bin .remK (.var 0) (.lit 4194304))), (.tuple []), (.ptr (some ⟨0, 0, none⟩)), (.tuple []), (.tuple []), (.tuple []), (.int .i64 (.var 1)), (.any 7), (.any 8), (.ptr (some ⟨1, 0, none⟩)), (.ptr (some ⟨2, 0, none⟩)), (.any 11), (.any 12), (.any 13), (.any 14), (.any 15), (.int .i64 (.var 0)), (.int .i64 (.bin .remK (.var 0) (.lit 4194304))), (.int .i64 (.bin .remK (.var 0) (.lit 4194304))), (.bool (.icmp .geq (.bin .remK (.var 0) (.lit 4194304)) (.lit 2097152))), (.tuple []), (.tuple []), (.tuple []), (.tuple []), (.tuple []), (.tuple []), (.tuple []), (.tuple []), (.tuple []), (.tuple []), (.int .i64 (.bin .remK (.var 0) (.lit 4194304))), (.bool (.icmp .geq (.bin .remK (.var 0) (.lit 4194304)) (.lit 1048576))), (.tuple []), (.tuple []), (.tuple []), (.tuple []), (.tuple []), (.tuple []), (.tuple []), (.tuple []), (.tuple []), (.int .i64 (.bin .remK (.var 0) (.lit 4194304))), (.bool (.icmp .gtr (.bin .remK (.var 0) (.lit 4194304)) (.lit 524288))), (.tuple []), (.tuple []), (.tuple []), (.tuple []), (.tuple []), (.tuple []), (.tuple []), (.tuple []), (.int .i64 (.var 1)), (.agg [(.int .i64 (.lit 67108864)), (.int .i64 (.lit 0))]), (.int .i64 (.var 1)), (.int .i64 (.var 1)), (.agg [(.int .i64 (.var 1)), (.int .i64 (.var 1))]), (.int .i64 (.bin .remK (.var 0) (.lit 4194304))), (.bool (.icmp .eql (.bin .remK (.var 0) (.lit 4194304)) (.lit 0))), (.tuple []), (.any 59), (.any 60), (.any 61), (.any 62), (.any 63), (.any 64), (.any 65), (.any 66), (.any 67), (.any 68), (.any 69), (.any 70), (.any 71), (.any 72), (.any 73), (.any 74), (.any 75), (.any 76), (.any 77), (.any 78), (.any 79), (.any 80), (.any 81), (.any 82), (.any 83), (.any 84), (.any 85), (.any 86), (.any 87), (.any 88), (.any 89), (.any 90), (.any 91), (.any 92), (.any 93), (.any 94), (.any 95), (.any 96), (.any 97), (.any 98), (.any 99), (.any 100), (.any 101), (.any 102), (.any 103), (.tuple [])], [(some ⟨[(.int .i64 (.var 2)), (.int .i64 (.var 3))], 135, false, false, none⟩), (some ⟨[(.int .i64 (.var 4)), (.int .i64 (.var 5))], 135, false, false, none⟩), (some ⟨[(.int .i64 (.var 6)), (.int .i64 (.var 7))], 135, false, false, none⟩)], [1, 2, 0]) ⟨6, 0, 0⟩
      (.rng 2 (-9223372036854775808) 9223372036854775807 (.rng 3 (-9223372036854775808) 9223372036854775807 (.rng 4 (-9223372036854775808) 9223372036854775807 (.rng 5 (-9223372036854775808) 9223372036854775807 (.rng 6 (-9223372036854775808) 9223372036854775807 (.rng 7 (-9223372036854775808) 9223372036854775807 (.ret ⟨[(.var 2), (.var 3)], [], []⟩ [])))))))
      (.ex ((.exit 0), [(.int .i64 (.bin .remK (.var 0) (.lit 4194304))), (.tuple []), (.ptr (some ⟨0, 0, none⟩)), (.tuple []), (.tuple []), (.tuple []), (.int .i64 (.var 1)), (.any 7), (.any 8), (.ptr (some ⟨1, 0, none⟩)), (.ptr (some ⟨2, 0, none⟩)), (.any 11), (.any 12), (.any 13), (.any 14), (.any 15), (.int .i64 (.var 0)), (.int .i64 (.bin .remK (.var 0) (.lit 4194304))), (.int .i64 (.bin .remK (.var 0) (.lit 4194304))), (.bool (.icmp .geq (.bin .remK (.var 0) (.lit 4194304)) (.lit 2097152))), (.tuple []), (.tuple []), (.tuple []), (.tuple []), (.tuple []), (.tuple []), (.tuple []), (.tuple []), (.tuple []), (.tuple []), (.int .i64 (.bin .remK (.var 0) (.lit 4194304))), (.bool (.icmp .geq (.bin .remK (.var 0) (.lit 4194304)) (.lit 1048576))), (.tuple []), (.tuple []), (.tuple []), (.tuple []), (.tuple []), (.tuple []), (.tuple []), (.tuple []), (.tuple []), (.int .i64 (.bin .remK (.var 0) (.lit 4194304))), (.bool (.icmp .gtr (.bin .remK (.var 0) (.lit 4194304)) (.lit 524288))), (.tuple []), (.tuple []), (.tuple []), (.tuple []), (.tuple []), (.tuple []), (.tuple []), (.tuple []), (.int .i64 (.var 1)), (.agg [(.int .i64 (.lit 67108864)), (.int .i64 (.lit 0))]), (.int .i64 (.var 1)), (.int .i64 (.var 1)), (.agg [(.int .i64 (.var 1)), (.int .i64 (.var 1))]), (.int .i64 (.bin .remK (.var 0) (.lit 4194304))), (.bool (.icmp .eql (.bin .remK (.var 0) (.lit 4194304)) (.lit 0))), (.tuple []), (.any 59), (.any 60), (.any 61), (.any 62), (.any 63), (.any 64), (.any 65), (.any 66), (.any 67), (.any 68), (.any 69), (.any 70), (.any 71), (.any 72), (.any 73), (.any 74), (.any 75), (.any 76), (.any 77), (.any 78), (.any 79), (.any 80), (.any 81), (.any 82), (.any 83), (.any 84), (.any 85), (.any 86), (.any 87), (.any 88), (.any 89), (.any 90), (.any 91), (.any 92), (.any 93), (.any 94), (.any 95), (.tuple []), (.any 97), (.any 98), (.any 99), (.any 100), (.any 101), (.any 102), (.any 103), (.tuple [])], [(some ⟨[(.int .i64 (.lit 0)), (.int .i64 (.lit 0))], 135, false, false, none⟩), (some ⟨[(.int .i64 (.var 2)), (.int .i64 (.var 3))], 135, false, false, none⟩), (some ⟨[(.int .i64 (.var 4)), (.int .i64 (.var 5))], 135, false, false, none⟩)], [1, 2, 0]) ⟨4, 0, 0⟩
      (.rng 2 (-9223372036854775808) 9223372036854775807 (.rng 3 (-9223372036854775808) 9223372036854775807 (.rng 4 (-9223372036854775808) 9223372036854775807 (.rng 5 (-9223372036854775808) 9223372036854775807 (.ret ⟨[(.var 4), (.var 5)], [], []⟩ [])))))
      .nil))))))
    (.call etalonref01_Direction_s ⟨[(.bin .subI (.lit 1048576) (.bin .remK (.var 0) (.lit 4194304)))], [], []⟩ ⟨[(.bin .subI (.lit 1048576) (.bin .remK (.var 0) (.lit 4194304))), (.var 1), (.var 2)], [], []⟩ ⟨83, [(.int .i64 (.bin .subI (.lit 1048576) (.bin .remK (.var 0) (.lit 4194304))))], [], [none], (.agg [(.int .i64 (.var 1)), (.int .i64 (.var 2))]), []⟩
     (.rng 1 (-67108864) 67108864 (.rng 2 (-67108864) 67108864 (.ret ⟨[(.var 2), (.var 1)], [], []⟩ [])))))))
theorem rdr {x0 : Int} (r0 : 0 ≤ x0 ∧ x0 ≤ 2097152) {R : Int → Int → Prop}
  (H : ((decide ((2097152 : Int) ≤ ((x0 : Int).tmod 4194304)) = true → (∃ v1 : Int, ∃ v2 : Int, Spec Tryz.prog etalonref01_Direction_s ⟨[(((x0 : Int).tmod 4194304) - 2097152)], [], []⟩ [v1, v2] [] [] ∧
    (((-67108864) ≤ (v1 : Int) ∧ (v1 : Int) ≤ 67108864) ∧ (((-67108864) ≤ (v2 : Int) ∧ (v2 : Int) ≤ 67108864) ∧ R ((0 - v1)) ((0 - v2)))))) ∧
   (decide ((2097152 : Int) ≤ ((x0 : Int).tmod 4194304)) = false → ((decide ((1048576 : Int) ≤ ((x0 : Int).tmod 4194304)) = true → (∃ v1 : Int, ∃ v2 : Int, Spec Tryz.prog etalonref01_Direction_s ⟨[(((x0 : Int).tmod 4194304) - 1048576)], [], []⟩ [v1, v2] [] [] ∧
     (((-67108864) ≤ (v1 : Int) ∧ (v1 : Int) ≤ 67108864) ∧ (((-67108864) ≤ (v2 : Int) ∧ (v2 : Int) ≤ 67108864) ∧ R ((0 - v2)) (v1))))) ∧
    (decide ((1048576 : Int) ≤ ((x0 : Int).tmod 4194304)) = false → ((decide ((((x0 : Int).tmod 4194304) : Int) ≤ 524288) = true → (∃ v1 : Int, Spec Tryz.prog etalonbase_Root_s ⟨[2251799813685248], [], []⟩ [v1] [] [] ∧
      ((0 ≤ (v1 : Int) ∧ (v1 : Int) ≤ 268435456) ∧ ((((((x0 : Int).tmod 4194304) : Int) == 0) = true → R (67108864) (0)) ∧
      (((((x0 : Int).tmod 4194304) : Int) == 0) = false → (∃ (I2 : Int → Int → Int → Int → Int → Int → Prop) (rk2 : Int → Int → Int → Int → Int → Int → Nat), I2 (0) (524288) (67108864) (0) (v1) (v1) ∧
       (∀ x2 : Int, ∀ x3 : Int, ∀ x4 : Int, ∀ x5 : Int, ∀ x6 : Int, ∀ x7 : Int, I2 x2 x3 x4 x5 x6 x7 → ((0 ≤ (x2 : Int) ∧ (x2 : Int) ≤ 524288) ∧ ((0 ≤ (x3 : Int) ∧ (x3 : Int) ≤ 524288) ∧ ((0 ≤ (x4 : Int) ∧ (x4 : Int) ≤ 67108864) ∧ ((0 ≤ (x5 : Int) ∧ (x5 : Int) ≤ 67108864) ∧ ((0 ≤ (x6 : Int) ∧ (x6 : Int) ≤ 67108864) ∧ ((0 ≤ (x7 : Int) ∧ (x7 : Int) ≤ 67108864) ∧ ((((((x0 : Int).tmod 4194304) : Int) == x3) = true → (((-9223372036854775808) ≤ ((x4) : Int) ∧ ((x4) : Int) ≤ 9223372036854775807) ∧ (((-9223372036854775808) ≤ ((x5) : Int) ∧ ((x5) : Int) ≤ 9223372036854775807) ∧ (((-9223372036854775808) ≤ ((x6) : Int) ∧ ((x6) : Int) ≤ 9223372036854775807) ∧ (((-9223372036854775808) ≤ ((x7) : Int) ∧ ((x7) : Int) ≤ 9223372036854775807) ∧ R ((x6)) ((x7))))))) ∧
        (((((x0 : Int).tmod 4194304) : Int) == x3) = false → (∃ v8 : Int, Spec Tryz.prog etalonbase_Root_s ⟨[(((x4 + x6) * (x4 + x6)) + ((x5 + x7) * (x5 + x7)))], [], []⟩ [v8] [] [] ∧
         ((0 ≤ (v8 : Int) ∧ (v8 : Int) ≤ 268435456) ∧ ((((v8 : Int) == 0) = true → False) ∧
         (((v8 : Int) == 0) = false → (((((((x2 + x3) : Int).tdiv 2) : Int) == ((x0 : Int).tmod 4194304)) = true → (((-9223372036854775808) ≤ ((((((x4 + x6) * 67108864) : Int).tdiv v8)) : Int) ∧ ((((((x4 + x6) * 67108864) : Int).tdiv v8)) : Int) ≤ 9223372036854775807) ∧ (((-9223372036854775808) ≤ ((((((x5 + x7) * 67108864) : Int).tdiv v8)) : Int) ∧ ((((((x5 + x7) * 67108864) : Int).tdiv v8)) : Int) ≤ 9223372036854775807) ∧ (((-9223372036854775808) ≤ ((x4) : Int) ∧ ((x4) : Int) ≤ 9223372036854775807) ∧ (((-9223372036854775808) ≤ ((x5) : Int) ∧ ((x5) : Int) ≤ 9223372036854775807) ∧ (((-9223372036854775808) ≤ ((x6) : Int) ∧ ((x6) : Int) ≤ 9223372036854775807) ∧ (((-9223372036854775808) ≤ ((x7) : Int) ∧ ((x7) : Int) ≤ 9223372036854775807) ∧ R ((((((x4 + x6) * 67108864) : Int).tdiv v8))) ((((((x5 + x7) * 67108864) : Int).tdiv v8)))))))))) ∧
          ((((((x2 + x3) : Int).tdiv 2) : Int) == ((x0 : Int).tmod 4194304)) = false → ((decide ((((x0 : Int).tmod 4194304) : Int) ≤ (((x2 + x3) : Int).tdiv 2)) = true → (I2 (x2) ((((x2 + x3) : Int).tdiv 2)) (x4) (x5) (((((x4 + x6) * 67108864) : Int).tdiv v8)) (((((x5 + x7) * 67108864) : Int).tdiv v8)) ∧ rk2 (x2) ((((x2 + x3) : Int).tdiv 2)) (x4) (x5) (((((x4 + x6) * 67108864) : Int).tdiv v8)) (((((x5 + x7) * 67108864) : Int).tdiv v8)) < rk2 x2 x3 x4 x5 x6 x7)) ∧
           (decide ((((x0 : Int).tmod 4194304) : Int) ≤ (((x2 + x3) : Int).tdiv 2)) = false → (I2 ((((x2 + x3) : Int).tdiv 2)) (x3) (((((x4 + x6) * 67108864) : Int).tdiv v8)) (((((x5 + x7) * 67108864) : Int).tdiv v8)) (x6) (x7) ∧ rk2 ((((x2 + x3) : Int).tdiv 2)) (x3) (((((x4 + x6) * 67108864) : Int).tdiv v8)) (((((x5 + x7) * 67108864) : Int).tdiv v8)) (x6) (x7) < rk2 x2 x3 x4 x5 x6 x7)))))))))))))))))))))))) ∧
     (decide ((((x0 : Int).tmod 4194304) : Int) ≤ 524288) = false → (∃ v1 : Int, ∃ v2 : Int, Spec Tryz.prog etalonref01_Direction_s ⟨[(1048576 - ((x0 : Int).tmod 4194304))], [], []⟩ [v1, v2] [] [] ∧
      (((-67108864) ≤ (v1 : Int) ∧ (v1 : Int) ≤ 67108864) ∧ (((-67108864) ≤ (v2 : Int) ∧ (v2 : Int) ≤ 67108864) ∧ R (v2) (v1))))))))))) :
    ∃ v0 : Int, ∃ v1 : Int, R v0 v1 ∧ Spec Tryz.prog etalonref01_Direction_s ⟨[x0], [], []⟩ [v0, v1] [] [] :=
  Eq.mp (by kernel_rfl) (exV_of (K := fun d => app3 etalonref01_Direction_s.out R d ∧ Spec Tryz.prog etalonref01_Direction_s ⟨[x0], [], []⟩ d.1 d.2.1 d.2.2) (tree_at mixed names S1_ok (S := S1 Tryz.prog) (lf := 100000) (d := 60) etalonref01_Direction_s rdr_t { ivs := [(0, 0, 2097152)], aivs := [] } ⟨[x0], [], []⟩ rfl (by kernel_rfl) (by kernel_rfl) (by kernel_rfl) ⟨(fc r0 fz), fz, fz, fz⟩ (R := fun d => app3 etalonref01_Direction_s.out R d) (Eq.mp (by kernel_rfl) H)))

def rnd_t : Tr :=
  (.call etalonbase_Floor_s ⟨[(.var 0), (.var 1)], [], []⟩ ⟨[(.var 0), (.var 1), (.var 2)], [], []⟩ ⟨32, [(.int .i64 (.var 0)), (.int .i64 (.var 1))], [], [], (.int .i64 (.var 2)), []⟩
  (.rng 2 (-1048576) 1048576 (.ite (.icmp .leq (.bin .subI (.var 1) (.bin .subI (.var 0) (.bin .mulI (.var 2) (.var 1)))) (.bin .subI (.var 0) (.bin .mulI (.var 2) (.var 1))))
  (.ret ⟨[(.bin .addI (.var 2) (.lit 1))], [(.lit true)], []⟩ [])
  (.ret ⟨[(.var 2)], [(.icmp .neq (.bin .subI (.var 0) (.bin .mulI (.var 2) (.var 1))) (.lit 0))], []⟩ []))))
theorem rnd {x0 x1 : Int} (r0 : (-67108864) ≤ x0 ∧ x0 ≤ 67108864) (r1 : 64 ≤ x1 ∧ x1 ≤ 64) {R : Int → Bool → Prop}
  (H : (∃ v2 : Int, Spec Tryz.prog etalonbase_Floor_s ⟨[x0, x1], [], []⟩ [v2] [] [] ∧
   (((-1048576) ≤ (v2 : Int) ∧ (v2 : Int) ≤ 1048576) ∧ ((decide (((x1 - (x0 - (v2 * x1))) : Int) ≤ (x0 - (v2 * x1))) = true → R ((v2 + 1)) (true)) ∧
   (decide (((x1 - (x0 - (v2 * x1))) : Int) ≤ (x0 - (v2 * x1))) = false → R (v2) ((((x0 - (v2 * x1)) : Int) != 0))))))) :
    ∃ v0 : Int, ∃ u0 : Bool, R v0 u0 ∧ Spec Tryz.prog etalonref01_rounded_s ⟨[x0, x1], [], []⟩ [v0] [u0] [] :=
  Eq.mp (by kernel_rfl) (exV_of (K := fun d => app3 etalonref01_rounded_s.out R d ∧ Spec Tryz.prog etalonref01_rounded_s ⟨[x0, x1], [], []⟩ d.1 d.2.1 d.2.2) (tree_at mixed names S1_ok (S := S1 Tryz.prog) (lf := 100000) (d := 60) etalonref01_rounded_s rnd_t { ivs := [(0, (-67108864), 67108864), (1, 64, 64)], aivs := [] } ⟨[x0, x1], [], []⟩ rfl (by kernel_rfl) (by kernel_rfl) (by kernel_rfl) ⟨(fc r0 (fc r1 fz)), fz, fz, fz⟩ (R := fun d => app3 etalonref01_rounded_s.out R d) (Eq.mp (by kernel_rfl) H)))

def rck_t : Tr :=
  (.ite (.icmp .leq (.lit (-67108864)) (.var 0))
  (.ite (.icmp .leq (.var 0) (.lit 67108864))
   (.ite (.icmp .leq (.lit (-67108864)) (.var 1))
    (.ite (.icmp .leq (.var 1) (.lit 67108864))
     (.ite (.icmp .leq (.lit 0) (.var 2))
      (.ite (.icmp .leq (.var 2) (.lit 67108864))
       (.ret ⟨[(.var 0), (.var 1), (.var 2), (.lit 0)], [], []⟩ [])
       (.ret ⟨[(.lit 0), (.lit 0), (.lit 0), (.lit 8)], [], []⟩ []))
      (.ret ⟨[(.lit 0), (.lit 0), (.lit 0), (.lit 8)], [], []⟩ []))
     (.ret ⟨[(.lit 0), (.lit 0), (.lit 0), (.lit 8)], [], []⟩ []))
    (.ret ⟨[(.lit 0), (.lit 0), (.lit 0), (.lit 8)], [], []⟩ []))
   (.ret ⟨[(.lit 0), (.lit 0), (.lit 0), (.lit 8)], [], []⟩ []))
  (.ret ⟨[(.lit 0), (.lit 0), (.lit 0), (.lit 8)], [], []⟩ []))
theorem rck {x0 x1 x2 : Int} (r0 : (-9223372036854775808) ≤ x0 ∧ x0 ≤ 9223372036854775807) (r1 : (-9223372036854775808) ≤ x1 ∧ x1 ≤ 9223372036854775807) (r2 : (-9223372036854775808) ≤ x2 ∧ x2 ≤ 9223372036854775807) {R : Int → Int → Int → Int → Prop}
  (H : ((decide (((-67108864) : Int) ≤ x0) = true → ((decide ((x0 : Int) ≤ 67108864) = true → ((decide (((-67108864) : Int) ≤ x1) = true → ((decide ((x1 : Int) ≤ 67108864) = true → ((decide ((0 : Int) ≤ x2) = true → ((decide ((x2 : Int) ≤ 67108864) = true → R (x0) (x1) (x2) (0)) ∧
        (decide ((x2 : Int) ≤ 67108864) = false → R (0) (0) (0) (8)))) ∧
       (decide ((0 : Int) ≤ x2) = false → R (0) (0) (0) (8)))) ∧
      (decide ((x1 : Int) ≤ 67108864) = false → R (0) (0) (0) (8)))) ∧
     (decide (((-67108864) : Int) ≤ x1) = false → R (0) (0) (0) (8)))) ∧
    (decide ((x0 : Int) ≤ 67108864) = false → R (0) (0) (0) (8)))) ∧
   (decide (((-67108864) : Int) ≤ x0) = false → R (0) (0) (0) (8)))) :
    ∃ v0 : Int, ∃ v1 : Int, ∃ v2 : Int, ∃ v3 : Int, R v0 v1 v2 v3 ∧ Spec Tryz.prog _etalonref01_B__Checked_s ⟨[x0, x1, x2], [], []⟩ [v0, v1, v2, v3] [] [] :=
  Eq.mp (by kernel_rfl) (exV_of (K := fun d => app3 _etalonref01_B__Checked_s.out R d ∧ Spec Tryz.prog _etalonref01_B__Checked_s ⟨[x0, x1, x2], [], []⟩ d.1 d.2.1 d.2.2) (tree_at mixed names S1_ok (S := S1 Tryz.prog) (lf := 100000) (d := 60) _etalonref01_B__Checked_s rck_t { ivs := [(0, (-9223372036854775808), 9223372036854775807), (1, (-9223372036854775808), 9223372036854775807), (2, (-9223372036854775808), 9223372036854775807)], aivs := [] } ⟨[x0, x1, x2], [], []⟩ rfl (by kernel_rfl) (by kernel_rfl) (by kernel_rfl) ⟨(fc r0 (fc r1 (fc r2 fz))), fz, fz, fz⟩ (R := fun d => app3 _etalonref01_B__Checked_s.out R d) (Eq.mp (by kernel_rfl) H)))

def rar_t : Tr :=
  (.ite (.icmp .leq (.var 0) (.var 1))
  (.call etalonbase_Floor_s ⟨[(.bin .addI (.var 0) (.var 1)), (.lit 2)], [], []⟩ ⟨[(.bin .addI (.var 0) (.var 1)), (.lit 2), (.var 2)], [], []⟩ ⟨32, [(.int .i64 (.bin .addI (.var 0) (.var 1))), (.int .i64 (.lit 2))], [], [none, none], (.int .i64 (.var 2)), []⟩
   (.rng 2 0 2097152 (.call etalonref01_Direction_s ⟨[(.var 2)], [], []⟩ ⟨[(.var 2), (.var 3), (.var 4)], [], []⟩ ⟨83, [(.int .i64 (.var 2))], [], [none, none], (.agg [(.int .i64 (.var 3)), (.int .i64 (.var 4))]), []⟩
   (.call etalonref01_rounded_s ⟨[(.var 3), (.lit 64)], [], []⟩ ⟨[(.var 3), (.lit 64), (.var 5)], [(.var 0)], []⟩ ⟨84, [(.int .i64 (.var 3)), (.int .i64 (.lit 64))], [], [none, none, none], (.tuple [(.int .i64 (.var 5)), (.bool (.var 0))]), []⟩
   (.call etalonref01_rounded_s ⟨[(.var 4), (.lit 64)], [], []⟩ ⟨[(.var 4), (.lit 64), (.var 6)], [(.var 1)], []⟩ ⟨84, [(.int .i64 (.var 4)), (.int .i64 (.lit 64))], [], [none, none, none], (.tuple [(.int .i64 (.var 6)), (.bool (.var 1))]), []⟩
   (.call etalonbase_Ceil_s ⟨[(.bin .mulI (.lit 11) (.bin .subI (.var 1) (.var 2))), (.lit 7)], [], []⟩ ⟨[(.bin .mulI (.lit 11) (.bin .subI (.var 1) (.var 2))), (.lit 7), (.var 7)], [], []⟩ ⟨33, [(.int .i64 (.bin .mulI (.lit 11) (.bin .subI (.var 1) (.var 2)))), (.int .i64 (.lit 7))], [], [none, none, none], (.int .i64 (.var 7)), []⟩
   (.rng 7 0 8000000 (.ite (.icmp .eql (.var 0) (.var 1))
   (.call etalonbase_Mod_s ⟨[(.var 2), (.lit 1048576)], [], []⟩ ⟨[(.var 2), (.lit 1048576), (.var 8)], [], []⟩ ⟨85, [(.int .i64 (.var 2)), (.int .i64 (.lit 1048576))], [], [none, none, none, none], (.int .i64 (.var 8)), []⟩
    (.ite (.icmp .eql (.var 8) (.lit 0))
    (.call _etalonref01_B__Checked_s ⟨[(.var 5), (.var 6), (.lit 0)], [], []⟩ ⟨[(.var 5), (.var 6), (.lit 0), (.var 9), (.var 10), (.var 11), (.var 12)], [], []⟩ ⟨86, [(.agg [(.int .i64 (.var 5)), (.int .i64 (.var 6)), (.int .i64 (.lit 0))])], [], [none, none, none, none], (.tuple [(.agg [(.int .i64 (.var 9)), (.int .i64 (.var 10)), (.int .i64 (.var 11))]), (.int .i64 (.var 12))]), []⟩
     (.ret ⟨[(.var 9), (.var 10), (.var 11), (.var 12)], [], []⟩ []))
    (.call _etalonref01_B__Checked_s ⟨[(.var 5), (.var 6), (.bin .addI (.lit 2) (.var 7))], [], []⟩ ⟨[(.var 5), (.var 6), (.bin .addI (.lit 2) (.var 7)), (.var 9), (.var 10), (.var 11), (.var 12)], [], []⟩ ⟨86, [(.agg [(.int .i64 (.var 5)), (.int .i64 (.var 6)), (.int .i64 (.bin .addI (.lit 2) (.var 7)))])], [], [none, none, none, none], (.tuple [(.agg [(.int .i64 (.var 9)), (.int .i64 (.var 10)), (.int .i64 (.var 11))]), (.int .i64 (.var 12))]), []⟩
     (.ret ⟨[(.var 9), (.var 10), (.var 11), (.var 12)], [], []⟩ []))))
   (.call _etalonref01_B__Checked_s ⟨[(.var 5), (.var 6), (.bin .addI (.lit 2) (.var 7))], [], []⟩ ⟨[(.var 5), (.var 6), (.bin .addI (.lit 2) (.var 7)), (.var 8), (.var 9), (.var 10), (.var 11)], [], []⟩ ⟨86, [(.agg [(.int .i64 (.var 5)), (.int .i64 (.var 6)), (.int .i64 (.bin .addI (.lit 2) (.var 7)))])], [], [none, none, none, none], (.tuple [(.agg [(.int .i64 (.var 8)), (.int .i64 (.var 9)), (.int .i64 (.var 10))]), (.int .i64 (.var 11))]), []⟩
    (.ret ⟨[(.var 8), (.var 9), (.var 10), (.var 11)], [], []⟩ []))))))))))
  (.ret ⟨[(.lit 0), (.lit 0), (.lit 0), (.lit 10)], [], []⟩ []))
theorem rar {x0 x1 : Int} (r0 : 0 ≤ x0 ∧ x0 ≤ 2097152) (r1 : 0 ≤ x1 ∧ x1 ≤ 2097152) {R : Int → Int → Int → Int → Prop}
  (H : ((decide ((x0 : Int) ≤ x1) = true → (∃ v2 : Int, Spec Tryz.prog etalonbase_Floor_s ⟨[(x0 + x1), 2], [], []⟩ [v2] [] [] ∧
    ((0 ≤ (v2 : Int) ∧ (v2 : Int) ≤ 2097152) ∧ (∃ v3 : Int, ∃ v4 : Int, Spec Tryz.prog etalonref01_Direction_s ⟨[v2], [], []⟩ [v3, v4] [] [] ∧
    (∃ v5 : Int, ∃ u0 : Bool, Spec Tryz.prog etalonref01_rounded_s ⟨[v3, 64], [], []⟩ [v5] [u0] [] ∧
    (∃ v6 : Int, ∃ u1 : Bool, Spec Tryz.prog etalonref01_rounded_s ⟨[v4, 64], [], []⟩ [v6] [u1] [] ∧
    (∃ v7 : Int, Spec Tryz.prog etalonbase_Ceil_s ⟨[(11 * (x1 - v2)), 7], [], []⟩ [v7] [] [] ∧
    ((0 ≤ (v7 : Int) ∧ (v7 : Int) ≤ 8000000) ∧ ((((x0 : Int) == x1) = true → (∃ v8 : Int, Spec Tryz.prog etalonbase_Mod_s ⟨[v2, 1048576], [], []⟩ [v8] [] [] ∧
     ((((v8 : Int) == 0) = true → (∃ v9 : Int, ∃ v10 : Int, ∃ v11 : Int, ∃ v12 : Int, Spec Tryz.prog _etalonref01_B__Checked_s ⟨[v5, v6, 0], [], []⟩ [v9, v10, v11, v12] [] [] ∧
      R (v9) (v10) (v11) (v12))) ∧
     (((v8 : Int) == 0) = false → (∃ v9 : Int, ∃ v10 : Int, ∃ v11 : Int, ∃ v12 : Int, Spec Tryz.prog _etalonref01_B__Checked_s ⟨[v5, v6, (2 + v7)], [], []⟩ [v9, v10, v11, v12] [] [] ∧
      R (v9) (v10) (v11) (v12)))))) ∧
    (((x0 : Int) == x1) = false → (∃ v8 : Int, ∃ v9 : Int, ∃ v10 : Int, ∃ v11 : Int, Spec Tryz.prog _etalonref01_B__Checked_s ⟨[v5, v6, (2 + v7)], [], []⟩ [v8, v9, v10, v11] [] [] ∧
     R (v8) (v9) (v10) (v11)))))))))))) ∧
   (decide ((x0 : Int) ≤ x1) = false → R (0) (0) (0) (10)))) :
    ∃ v0 : Int, ∃ v1 : Int, ∃ v2 : Int, ∃ v3 : Int, R v0 v1 v2 v3 ∧ Spec Tryz.prog etalonref01_Arc_s ⟨[x0, x1], [], []⟩ [v0, v1, v2, v3] [] [] :=
  Eq.mp (by kernel_rfl) (exV_of (K := fun d => app3 etalonref01_Arc_s.out R d ∧ Spec Tryz.prog etalonref01_Arc_s ⟨[x0, x1], [], []⟩ d.1 d.2.1 d.2.2) (tree_at mixed names S1_ok (S := S1 Tryz.prog) (lf := 100000) (d := 60) etalonref01_Arc_s rar_t { ivs := [(0, 0, 2097152), (1, 0, 2097152)], aivs := [] } ⟨[x0, x1], [], []⟩ rfl (by kernel_rfl) (by kernel_rfl) (by kernel_rfl) ⟨(fc r0 (fc r1 fz)), fz, fz, fz⟩ (R := fun d => app3 etalonref01_Arc_s.out R d) (Eq.mp (by kernel_rfl) H)))

def rao_t : Tr :=
  (.call etalonbase_Floor_s ⟨[(.bin .mulI (.var 0) (.lit 4194304)), (.var 1)], [], []⟩ ⟨[(.bin .mulI (.var 0) (.lit 4194304)), (.var 1), (.var 2)], [], []⟩ ⟨32, [(.int .i64 (.bin .mulI (.var 0) (.lit 4194304))), (.int .i64 (.var 1))], [], [none], (.int .i64 (.var 2)), []⟩
  (.call etalonbase_Ceil_s ⟨[(.bin .mulI (.var 0) (.lit 4194304)), (.var 1)], [], []⟩ ⟨[(.bin .mulI (.var 0) (.lit 4194304)), (.var 1), (.var 3)], [], []⟩ ⟨33, [(.int .i64 (.bin .mulI (.var 0) (.lit 4194304))), (.int .i64 (.var 1))], [], [none], (.int .i64 (.var 3)), []⟩
  (.call etalonbase_Floor_s ⟨[(.var 2), (.lit 4194304)], [], []⟩ ⟨[(.var 2), (.lit 4194304), (.var 4)], [], []⟩ ⟨32, [(.int .i64 (.var 2)), (.int .i64 (.lit 4194304))], [], [none, none], (.int .i64 (.var 4)), []⟩
  (.call etalonref01_Arc_s ⟨[(.bin (.subW .i64) (.var 2) (.bin (.mulW .i64) (.var 4) (.lit 4194304))), (.bin (.subW .i64) (.var 3) (.bin (.mulW .i64) (.var 4) (.lit 4194304)))], [], []⟩ ⟨[(.bin (.subW .i64) (.var 2) (.bin (.mulW .i64) (.var 4) (.lit 4194304))), (.bin (.subW .i64) (.var 3) (.bin (.mulW .i64) (.var 4) (.lit 4194304))), (.var 5), (.var 6), (.var 7), (.var 8)], [], []⟩ ⟨74, [(.agg [(.int .i64 (.bin (.subW .i64) (.var 2) (.bin (.mulW .i64) (.var 4) (.lit 4194304)))), (.int .i64 (.bin (.subW .i64) (.var 3) (.bin (.mulW .i64) (.var 4) (.lit 4194304))))])], [], [none, none], (.tuple [(.agg [(.int .i64 (.var 5)), (.int .i64 (.var 6)), (.int .i64 (.var 7))]), (.int .i64 (.var 8))]), []⟩
  (.ret ⟨[(.var 5), (.var 6), (.var 7), (.var 8)], [], []⟩ [])))))
theorem rao {x0 x1 : Int} (r0 : 0 ≤ x0 ∧ x0 ≤ 1024) (r1 : 2048 ≤ x1 ∧ x1 ≤ 2048) {R : Int → Int → Int → Int → Prop}
  (H : (∃ v2 : Int, Spec Tryz.prog etalonbase_Floor_s ⟨[(x0 * 4194304), x1], [], []⟩ [v2] [] [] ∧
   (∃ v3 : Int, Spec Tryz.prog etalonbase_Ceil_s ⟨[(x0 * 4194304), x1], [], []⟩ [v3] [] [] ∧
   (∃ v4 : Int, Spec Tryz.prog etalonbase_Floor_s ⟨[v2, 4194304], [], []⟩ [v4] [] [] ∧
   (∃ v5 : Int, ∃ v6 : Int, ∃ v7 : Int, ∃ v8 : Int, Spec Tryz.prog etalonref01_Arc_s ⟨[IntKind.i64.wrap (v2 - IntKind.i64.wrap (v4 * 4194304)), IntKind.i64.wrap (v3 - IntKind.i64.wrap (v4 * 4194304))], [], []⟩ [v5, v6, v7, v8] [] [] ∧
   R (v5) (v6) (v7) (v8)))))) :
    ∃ v0 : Int, ∃ v1 : Int, ∃ v2 : Int, ∃ v3 : Int, R v0 v1 v2 v3 ∧ Spec Tryz.prog etalonref01_arcOf_s ⟨[x0, x1], [], []⟩ [v0, v1, v2, v3] [] [] :=
  Eq.mp (by kernel_rfl) (exV_of (K := fun d => app3 etalonref01_arcOf_s.out R d ∧ Spec Tryz.prog etalonref01_arcOf_s ⟨[x0, x1], [], []⟩ d.1 d.2.1 d.2.2) (tree_at mixed names S1_ok (S := S1 Tryz.prog) (lf := 100000) (d := 60) etalonref01_arcOf_s rao_t { ivs := [(0, 0, 1024), (1, 2048, 2048)], aivs := [] } ⟨[x0, x1], [], []⟩ rfl (by kernel_rfl) (by kernel_rfl) (by kernel_rfl) ⟨(fc r0 (fc r1 fz)), fz, fz, fz⟩ (R := fun d => app3 etalonref01_arcOf_s.out R d) (Eq.mp (by kernel_rfl) H)))

def run_t : Tr :=
  (.call etalonref01_arcOf_s ⟨[(.var 0), (.var 1)], [], []⟩ ⟨[(.var 0), (.var 1), (.var 2), (.var 3), (.var 4), (.var 5)], [], []⟩ ⟨58, [(.int .i64 (.var 0)), (.int .i64 (.var 1))], [], [none], (.tuple [(.agg [(.int .i64 (.var 2)), (.int .i64 (.var 3)), (.int .i64 (.var 4))]), (.int .i64 (.var 5))]), []⟩
  (.ret ⟨[(.var 2), (.var 3), (.var 4), (.var 5)], [], []⟩ []))
theorem run {x0 x1 : Int} (r0 : 0 ≤ x0 ∧ x0 ≤ 1024) (r1 : 2048 ≤ x1 ∧ x1 ≤ 2048) {R : Int → Int → Int → Int → Prop}
  (H : (∃ v2 : Int, ∃ v3 : Int, ∃ v4 : Int, ∃ v5 : Int, Spec Tryz.prog etalonref01_arcOf_s ⟨[x0, x1], [], []⟩ [v2, v3, v4, v5] [] [] ∧
   R (v2) (v3) (v4) (v5))) :
    ∃ v0 : Int, ∃ v1 : Int, ∃ v2 : Int, ∃ v3 : Int, R v0 v1 v2 v3 ∧ Spec Tryz.prog etalonref01_Unit_s ⟨[x0, x1], [], []⟩ [v0, v1, v2, v3] [] [] :=
  Eq.mp (by kernel_rfl) (exV_of (K := fun d => app3 etalonref01_Unit_s.out R d ∧ Spec Tryz.prog etalonref01_Unit_s ⟨[x0, x1], [], []⟩ d.1 d.2.1 d.2.2) (tree_at mixed names S1_ok (S := S1 Tryz.prog) (lf := 100000) (d := 60) etalonref01_Unit_s run_t { ivs := [(0, 0, 1024), (1, 2048, 2048)], aivs := [] } ⟨[x0, x1], [], []⟩ rfl (by kernel_rfl) (by kernel_rfl) (by kernel_rfl) ⟨(fc r0 (fc r1 fz)), fz, fz, fz⟩ (R := fun d => app3 etalonref01_Unit_s.out R d) (Eq.mp (by kernel_rfl) H)))

def rpo_t : Tr :=
  (.ret ⟨[(.bin .subI (.var 0) (.var 2)), (.bin .addI (.var 0) (.var 2)), (.bin .subI (.var 1) (.var 2)), (.bin .addI (.var 1) (.var 2))], [], []⟩ [])
theorem rpo {x0 x1 x2 : Int} (r0 : (-67108864) ≤ x0 ∧ x0 ≤ 67108864) (r1 : (-67108864) ≤ x1 ∧ x1 ≤ 67108864) (r2 : 0 ≤ x2 ∧ x2 ≤ 67108864) {R : Int → Int → Int → Int → Prop}
  (H : R ((x0 - x2)) ((x0 + x2)) ((x1 - x2)) ((x1 + x2))) :
    ∃ v0 : Int, ∃ v1 : Int, ∃ v2 : Int, ∃ v3 : Int, R v0 v1 v2 v3 ∧ Spec Tryz.prog etalonref01_PartsOf_s ⟨[x0, x1, x2], [], []⟩ [v0, v1, v2, v3] [] [] :=
  Eq.mp (by kernel_rfl) (exV_of (K := fun d => app3 etalonref01_PartsOf_s.out R d ∧ Spec Tryz.prog etalonref01_PartsOf_s ⟨[x0, x1, x2], [], []⟩ d.1 d.2.1 d.2.2) (tree_at mixed names S1_ok (S := S1 Tryz.prog) (lf := 100000) (d := 60) etalonref01_PartsOf_s rpo_t { ivs := [(0, (-67108864), 67108864), (1, (-67108864), 67108864), (2, 0, 67108864)], aivs := [] } ⟨[x0, x1, x2], [], []⟩ rfl (by kernel_rfl) (by kernel_rfl) (by kernel_rfl) ⟨(fc r0 (fc r1 (fc r2 fz))), fz, fz, fz⟩ (R := fun d => app3 etalonref01_PartsOf_s.out R d) (Eq.mp (by kernel_rfl) H)))

def rps_t : Tr :=
  (.loop ⟨12, [0, 1, 0, 1, 1], [(.agg [(.strn (.var 0)), (.int .i64 (.var 1)), (.int .i64 (.var 2)), (.int .i64 (.var 3)), (.int .i64 (.var 4)), (.int .i64 (.var 5)), (.int .i64 (.var 6)), (.int .i64 (.var 7)), (.int .i64 (.var 8)), (.int .i64 (.var 9))]), (.ptr (some ⟨0, 0, none⟩)), (.ptr (some ⟨1, 0, none⟩)), (.ptr (some ⟨2, 0, none⟩)), (.int .i64 (.lit 0)), (.tuple []), (.tuple []), (.tuple []), (.tuple []), (.tuple []), (.tuple []), (.tuple []), (.agg [(.int .i64 (.lit 0)), (.int .i64 (.lit 1024))]), (.tuple []), (.tuple []), (.tuple []), (.tuple []), (.tuple []), (.tuple []), (.tuple []), (.tuple []), (.tuple []), (.tuple []), (.tuple []), (.tuple []), (.tuple []), (.tuple []), (.tuple []), (.tuple []), (.tuple []), (.tuple []), (.tuple []), (.tuple []), (.tuple []), (.tuple []), (.tuple []), (.tuple []), (.tuple []), (.tuple []), (.tuple []), (.tuple []), (.tuple []), (.tuple []), (.tuple []), (.tuple []), (.tuple []), (.tuple []), (.tuple []), (.tuple []), (.tuple []), (.tuple []), (.tuple []), (.tuple []), (.tuple [])], [(some ⟨[(.strn (.var 0)), (.int .i64 (.var 1)), (.int .i64 (.var 2)), (.int .i64 (.var 3)), (.int .i64 (.var 4)), (.int .i64 (.var 5)), (.int .i64 (.var 6)), (.int .i64 (.var 7)), (.int .i64 (.var 8)), (.int .i64 (.var 9))], 27, false, false, none⟩), (some ⟨[(.int .i64 (.lit 0)), (.int .i64 (.lit 0))], 25, false, false, none⟩), (some ⟨[(.int .i64 (.lit 0)), (.int .i64 (.lit 1024))], 25, false, false, none⟩)], [], [(.agg [(.strn (.var 0)), (.int .i64 (.var 1)), (.int .i64 (.var 2)), (.int .i64 (.var 3)), (.int .i64 (.var 4)), (.int .i64 (.var 5)), (.int .i64 (.var 6)), (.int .i64 (.var 7)), (.int .i64 (.var 8)), (.int .i64 (.var 9))]), (.ptr (some ⟨0, 0, none⟩)), (.ptr (some ⟨1, 0, none⟩)), (.ptr (some ⟨2, 0, none⟩)), (.int .i64 (.var 10)), (.any 5), (.any 6), (.any 7), (.tuple []), (.tuple []), (.tuple []), (.tuple []), (.agg [(.int .i64 (.lit 0)), (.int .i64 (.lit 1024))]), (.any 13), (.any 14), (.any 15), (.any 16), (.any 17), (.any 18), (.any 19), (.any 20), (.any 21), (.any 22), (.any 23), (.any 24), (.any 25), (.any 26), (.any 27), (.any 28), (.any 29), (.any 30), (.any 31), (.any 32), (.tuple []), (.tuple []), (.tuple []), (.tuple []), (.tuple []), (.tuple []), (.tuple []), (.tuple []), (.tuple []), (.tuple []), (.tuple []), (.tuple []), (.tuple []), (.tuple []), (.tuple []), (.tuple []), (.tuple []), (.tuple []), (.tuple []), (.tuple []), (.tuple [])], [(some ⟨[(.strn (.var 0)), (.int .i64 (.var 1)), (.int .i64 (.var 2)), (.int .i64 (.var 3)), (.int .i64 (.var 4)), (.int .i64 (.var 5)), (.int .i64 (.var 6)), (.int .i64 (.var 7)), (.int .i64 (.var 8)), (.int .i64 (.var 9))], 27, false, false, none⟩), (some ⟨[(.int .i64 (.lit 0)), (.int .i64 (.lit 0))], 25, false, false, none⟩), (some ⟨[(.int .i64 (.var 11)), (.int .i64 (.lit 1024))], 25, false, false, none⟩)], [2], ⟨2, 0, 0⟩, ⟨[(.lit 0), (.lit 0)], [], []⟩, []⟩
  (.rng 10 0 1025 (.rng 11 (-9223372036854775808) 9223372036854775807 (.ite (.icmp .leq (.var 10) (.lit 1024))
   (.call etalonref01_Unit_s ⟨[(.var 10), (.lit 2048)], [], []⟩ ⟨[(.var 10), (.lit 2048), (.var 12), (.var 13), (.var 14), (.var 15)], [], []⟩ ⟨34, [(.int .i64 (.var 10)), (.int .i64 (.lit 2048))], [], [none, none, none], (.tuple [(.agg [(.int .i64 (.var 12)), (.int .i64 (.var 13)), (.int .i64 (.var 14))]), (.int .i64 (.var 15))]), []⟩
    (.call etalonref01_PartsOf_s ⟨[(.var 12), (.var 13), (.var 14)], [], []⟩ ⟨[(.var 12), (.var 13), (.var 14), (.var 16), (.var 17), (.var 18), (.var 19)], [], []⟩ ⟨35, [(.agg [(.int .i64 (.var 12)), (.int .i64 (.var 13)), (.int .i64 (.var 14))])], [], [none, none, none, none], (.agg [(.int .i64 (.var 16)), (.int .i64 (.var 17)), (.int .i64 (.var 18)), (.int .i64 (.var 19))]), []⟩
    (.ite (.icmp .leq (.var 5) (.var 16))
    (.next ⟨[(.bin .addI (.var 10) (.lit 1)), (.var 10)], [], []⟩ [])
    (.next ⟨[(.bin .addI (.var 10) (.lit 1)), (.var 11)], [], []⟩ []))))
   (.out 0 ⟨[(.var 11)], [], []⟩ []))))
  (.ex ((.exit 0), [(.agg [(.strn (.var 0)), (.int .i64 (.var 1)), (.int .i64 (.var 2)), (.int .i64 (.var 3)), (.int .i64 (.var 4)), (.int .i64 (.var 5)), (.int .i64 (.var 6)), (.int .i64 (.var 7)), (.int .i64 (.var 8)), (.int .i64 (.var 9))]), (.ptr (some ⟨0, 0, none⟩)), (.ptr (some ⟨1, 0, none⟩)), (.ptr (some ⟨2, 0, none⟩)), (.any 4), (.any 5), (.any 6), (.any 7), (.tuple []), (.tuple []), (.tuple []), (.tuple []), (.agg [(.int .i64 (.lit 0)), (.int .i64 (.lit 1024))]), (.any 13), (.any 14), (.any 15), (.any 16), (.any 17), (.any 18), (.any 19), (.any 20), (.any 21), (.any 22), (.any 23), (.any 24), (.any 25), (.any 26), (.any 27), (.any 28), (.any 29), (.any 30), (.any 31), (.any 32), (.tuple []), (.tuple []), (.tuple []), (.tuple []), (.tuple []), (.tuple []), (.tuple []), (.tuple []), (.tuple []), (.tuple []), (.tuple []), (.tuple []), (.tuple []), (.tuple []), (.tuple []), (.tuple []), (.tuple []), (.tuple []), (.tuple []), (.tuple []), (.tuple [])], [(some ⟨[(.strn (.var 0)), (.int .i64 (.var 1)), (.int .i64 (.var 2)), (.int .i64 (.var 3)), (.int .i64 (.var 4)), (.int .i64 (.var 5)), (.int .i64 (.var 6)), (.int .i64 (.var 7)), (.int .i64 (.var 8)), (.int .i64 (.var 9))], 27, false, false, none⟩), (some ⟨[(.int .i64 (.lit 0)), (.int .i64 (.lit 0))], 25, false, false, none⟩), (some ⟨[(.int .i64 (.var 10)), (.int .i64 (.lit 1024))], 25, false, false, none⟩)], [2]) ⟨1, 0, 0⟩
  (.rng 10 (-9223372036854775808) 9223372036854775807 (.loop ⟨12, [0, 1, 0, 1, 1, 1], [(.agg [(.strn (.var 0)), (.int .i64 (.var 1)), (.int .i64 (.var 2)), (.int .i64 (.var 3)), (.int .i64 (.var 4)), (.int .i64 (.var 5)), (.int .i64 (.var 6)), (.int .i64 (.var 7)), (.int .i64 (.var 8)), (.int .i64 (.var 9))]), (.ptr (some ⟨0, 0, none⟩)), (.ptr (some ⟨1, 0, none⟩)), (.ptr (some ⟨2, 0, none⟩)), (.any 4), (.any 5), (.any 6), (.any 7), (.int .i64 (.lit 1024)), (.tuple []), (.tuple []), (.tuple []), (.agg [(.int .i64 (.lit 0)), (.int .i64 (.lit 1024))]), (.any 13), (.any 14), (.any 15), (.any 16), (.any 17), (.any 18), (.any 19), (.any 20), (.any 21), (.any 22), (.any 23), (.any 24), (.any 25), (.any 26), (.any 27), (.any 28), (.any 29), (.any 30), (.any 31), (.any 32), (.tuple []), (.tuple []), (.tuple []), (.tuple []), (.tuple []), (.tuple []), (.tuple []), (.tuple []), (.tuple []), (.tuple []), (.tuple []), (.tuple []), (.tuple []), (.tuple []), (.tuple []), (.tuple []), (.tuple []), (.tuple []), (.tuple []), (.tuple []), (.tuple [])], [(some ⟨[(.strn (.var 0)), (.int .i64 (.var 1)), (.int .i64 (.var 2)), (.int .i64 (.var 3)), (.int .i64 (.var 4)), (.int .i64 (.var 5)), (.int .i64 (.var 6)), (.int .i64 (.var 7)), (.int .i64 (.var 8)), (.int .i64 (.var 9))], 27, false, false, none⟩), (some ⟨[(.int .i64 (.lit 0)), (.int .i64 (.lit 0))], 25, false, false, none⟩), (some ⟨[(.int .i64 (.var 10)), (.int .i64 (.lit 1024))], 25, false, false, none⟩)], [], [(.agg [(.strn (.var 0)), (.int .i64 (.var 1)), (.int .i64 (.var 2)), (.int .i64 (.var 3)), (.int .i64 (.var 4)), (.int .i64 (.var 5)), (.int .i64 (.var 6)), (.int .i64 (.var 7)), (.int .i64 (.var 8)), (.int .i64 (.var 9))]), (.ptr (some ⟨0, 0, none⟩)), (.ptr (some ⟨1, 0, none⟩)), (.ptr (some ⟨2, 0, none⟩)), (.any 4), (.any 5), (.any 6), (.any 7), (.int .i64 (.var 11)), (.any 9), (.any 10), (.any 11), (.agg [(.int .i64 (.lit 0)), (.int .i64 (.lit 1024))]), (.any 13), (.any 14), (.any 15), (.any 16), (.any 17), (.any 18), (.any 19), (.any 20), (.any 21), (.any 22), (.any 23), (.any 24), (.any 25), (.any 26), (.any 27), (.any 28), (.any 29), (.any 30), (.any 31), (.any 32), (.any 33), (.any 34), (.any 35), (.any 36), (.any 37), (.any 38), (.any 39), (.any 40), (.any 41), (.any 42), (.any 43), (.any 44), (.any 45), (.any 46), (.any 47), (.any 48), (.any 49), (.any 50), (.any 51), (.any 52), (.tuple [])], [(some ⟨[(.strn (.var 0)), (.int .i64 (.var 1)), (.int .i64 (.var 2)), (.int .i64 (.var 3)), (.int .i64 (.var 4)), (.int .i64 (.var 5)), (.int .i64 (.var 6)), (.int .i64 (.var 7)), (.int .i64 (.var 8)), (.int .i64 (.var 9))], 27, false, false, none⟩), (some ⟨[(.int .i64 (.lit 0)), (.int .i64 (.lit 0))], 25, false, false, none⟩), (some ⟨[(.int .i64 (.var 10)), (.int .i64 (.var 12))], 25, false, false, none⟩)], [2], ⟨2, 0, 0⟩, ⟨[(.lit 1024), (.lit 1024)], [], []⟩, []⟩
   (.rng 11 (-1) 1024 (.rng 12 (-9223372036854775808) 9223372036854775807 (.ite (.icmp .leq (.lit 0) (.var 11))
    (.call etalonref01_Unit_s ⟨[(.var 11), (.lit 2048)], [], []⟩ ⟨[(.var 11), (.lit 2048), (.var 13), (.var 14), (.var 15), (.var 16)], [], []⟩ ⟨34, [(.int .i64 (.var 11)), (.int .i64 (.lit 2048))], [], [none, none, none], (.tuple [(.agg [(.int .i64 (.var 13)), (.int .i64 (.var 14)), (.int .i64 (.var 15))]), (.int .i64 (.var 16))]), []⟩
     (.call etalonref01_PartsOf_s ⟨[(.var 13), (.var 14), (.var 15)], [], []⟩ ⟨[(.var 13), (.var 14), (.var 15), (.var 17), (.var 18), (.var 19), (.var 20)], [], []⟩ ⟨35, [(.agg [(.int .i64 (.var 13)), (.int .i64 (.var 14)), (.int .i64 (.var 15))])], [], [none, none, none, none], (.agg [(.int .i64 (.var 17)), (.int .i64 (.var 18)), (.int .i64 (.var 19)), (.int .i64 (.var 20))]), []⟩
     (.ite (.icmp .leq (.var 18) (.var 4))
     (.next ⟨[(.bin .subI (.var 11) (.lit 1)), (.var 11)], [], []⟩ [])
     (.next ⟨[(.bin .subI (.var 11) (.lit 1)), (.var 12)], [], []⟩ []))))
    (.out 0 ⟨[(.var 12)], [], []⟩ []))))
   (.ex ((.exit 2), [(.agg [(.strn (.var 0)), (.int .i64 (.var 1)), (.int .i64 (.var 2)), (.int .i64 (.var 3)), (.int .i64 (.var 4)), (.int .i64 (.var 5)), (.int .i64 (.var 6)), (.int .i64 (.var 7)), (.int .i64 (.var 8)), (.int .i64 (.var 9))]), (.ptr (some ⟨0, 0, none⟩)), (.ptr (some ⟨1, 0, none⟩)), (.ptr (some ⟨2, 0, none⟩)), (.any 4), (.any 5), (.any 6), (.any 7), (.any 8), (.any 9), (.any 10), (.any 11), (.agg [(.int .i64 (.lit 0)), (.int .i64 (.lit 1024))]), (.any 13), (.any 14), (.any 15), (.any 16), (.any 17), (.any 18), (.any 19), (.any 20), (.any 21), (.any 22), (.any 23), (.any 24), (.any 25), (.any 26), (.any 27), (.any 28), (.any 29), (.any 30), (.any 31), (.any 32), (.any 33), (.any 34), (.any 35), (.any 36), (.any 37), (.any 38), (.any 39), (.any 40), (.any 41), (.any 42), (.any 43), (.any 44), (.any 45), (.any 46), (.any 47), (.any 48), (.any 49), (.any 50), (.any 51), (.any 52), (.tuple [])], [(some ⟨[(.strn (.var 0)), (.int .i64 (.var 1)), (.int .i64 (.var 2)), (.int .i64 (.var 3)), (.int .i64 (.var 4)), (.int .i64 (.var 5)), (.int .i64 (.var 6)), (.int .i64 (.var 7)), (.int .i64 (.var 8)), (.int .i64 (.var 9))], 27, false, false, none⟩), (some ⟨[(.int .i64 (.lit 0)), (.int .i64 (.lit 0))], 25, false, false, none⟩), (some ⟨[(.int .i64 (.var 10)), (.int .i64 (.var 11))], 25, false, false, none⟩)], [2]) ⟨1, 0, 0⟩
   (.rng 11 (-9223372036854775808) 9223372036854775807 (.ret ⟨[(.var 10), (.var 11)], [], []⟩ []))
   .nil)))
  .nil))
theorem rps {x0 x1 x2 x3 x4 x5 x6 x7 x8 x9 : Int} (r1 : (-9223372036854775808) ≤ x1 ∧ x1 ≤ 9223372036854775807) (r2 : (-9223372036854775808) ≤ x2 ∧ x2 ≤ 9223372036854775807) (r3 : (-9223372036854775808) ≤ x3 ∧ x3 ≤ 9223372036854775807) (r4 : (-9223372036854775808) ≤ x4 ∧ x4 ≤ 9223372036854775807) (r5 : (-9223372036854775808) ≤ x5 ∧ x5 ≤ 9223372036854775807) (r6 : (-9223372036854775808) ≤ x6 ∧ x6 ≤ 9223372036854775807) (r7 : (-9223372036854775808) ≤ x7 ∧ x7 ≤ 9223372036854775807) (r8 : (-9223372036854775808) ≤ x8 ∧ x8 ≤ 9223372036854775807) (r9 : (-9223372036854775808) ≤ x9 ∧ x9 ≤ 9223372036854775807) {R : Int → Int → Prop}
  (H : (∃ (I10 : Int → Int → Prop) (rk10 : Int → Int → Nat), I10 (0) (0) ∧
   (∀ x10 : Int, ∀ x11 : Int, I10 x10 x11 → ((0 ≤ (x10 : Int) ∧ (x10 : Int) ≤ 1025) ∧ (((-9223372036854775808) ≤ (x11 : Int) ∧ (x11 : Int) ≤ 9223372036854775807) ∧ ((decide ((x10 : Int) ≤ 1024) = true → (∃ v12 : Int, ∃ v13 : Int, ∃ v14 : Int, ∃ v15 : Int, Spec Tryz.prog etalonref01_Unit_s ⟨[x10, 2048], [], []⟩ [v12, v13, v14, v15] [] [] ∧
     (∃ v16 : Int, ∃ v17 : Int, ∃ v18 : Int, ∃ v19 : Int, Spec Tryz.prog etalonref01_PartsOf_s ⟨[v12, v13, v14], [], []⟩ [v16, v17, v18, v19] [] [] ∧
     ((decide ((x5 : Int) ≤ v16) = true → (I10 ((x10 + 1)) (x10) ∧ rk10 ((x10 + 1)) (x10) < rk10 x10 x11)) ∧
     (decide ((x5 : Int) ≤ v16) = false → (I10 ((x10 + 1)) (x11) ∧ rk10 ((x10 + 1)) (x11) < rk10 x10 x11)))))) ∧
    (decide ((x10 : Int) ≤ 1024) = false → (((-9223372036854775808) ≤ ((x11) : Int) ∧ ((x11) : Int) ≤ 9223372036854775807) ∧ (∃ (I11' : Int → Int → Prop) (rk11' : Int → Int → Nat), I11' (1024) (1024) ∧
    (∀ x11' : Int, ∀ x12' : Int, I11' x11' x12' → (((-1) ≤ (x11' : Int) ∧ (x11' : Int) ≤ 1024) ∧ (((-9223372036854775808) ≤ (x12' : Int) ∧ (x12' : Int) ≤ 9223372036854775807) ∧ ((decide ((0 : Int) ≤ x11') = true → (∃ v13' : Int, ∃ v14' : Int, ∃ v15' : Int, ∃ v16' : Int, Spec Tryz.prog etalonref01_Unit_s ⟨[x11', 2048], [], []⟩ [v13', v14', v15', v16'] [] [] ∧
      (∃ v17' : Int, ∃ v18' : Int, ∃ v19' : Int, ∃ v20' : Int, Spec Tryz.prog etalonref01_PartsOf_s ⟨[v13', v14', v15'], [], []⟩ [v17', v18', v19', v20'] [] [] ∧
      ((decide ((v18' : Int) ≤ x4) = true → (I11' ((x11' - 1)) (x11') ∧ rk11' ((x11' - 1)) (x11') < rk11' x11' x12')) ∧
      (decide ((v18' : Int) ≤ x4) = false → (I11' ((x11' - 1)) (x12') ∧ rk11' ((x11' - 1)) (x12') < rk11' x11' x12')))))) ∧
     (decide ((0 : Int) ≤ x11') = false → (((-9223372036854775808) ≤ ((x12') : Int) ∧ ((x12') : Int) ≤ 9223372036854775807) ∧ R ((x11)) ((x12'))))))))))))))))) :
    ∃ v0 : Int, ∃ v1 : Int, R v0 v1 ∧ Spec Tryz.prog etalonref06_PsiOf_s ⟨[x0, x1, x2, x3, x4, x5, x6, x7, x8, x9], [], []⟩ [v0, v1] [] [] :=
  Eq.mp (by kernel_rfl) (exV_of (K := fun d => app3 etalonref06_PsiOf_s.out R d ∧ Spec Tryz.prog etalonref06_PsiOf_s ⟨[x0, x1, x2, x3, x4, x5, x6, x7, x8, x9], [], []⟩ d.1 d.2.1 d.2.2) (tree_at mixed names S1_ok (S := S1 Tryz.prog) (lf := 100000) (d := 60) etalonref06_PsiOf_s rps_t { ivs := [(1, (-9223372036854775808), 9223372036854775807), (2, (-9223372036854775808), 9223372036854775807), (3, (-9223372036854775808), 9223372036854775807), (4, (-9223372036854775808), 9223372036854775807), (5, (-9223372036854775808), 9223372036854775807), (6, (-9223372036854775808), 9223372036854775807), (7, (-9223372036854775808), 9223372036854775807), (8, (-9223372036854775808), 9223372036854775807), (9, (-9223372036854775808), 9223372036854775807)], aivs := [] } ⟨[x0, x1, x2, x3, x4, x5, x6, x7, x8, x9], [], []⟩ rfl (by kernel_rfl) (by kernel_rfl) (by kernel_rfl) ⟨(fc r1 (fc r2 (fc r3 (fc r4 (fc r5 (fc r6 (fc r7 (fc r8 (fc r9 fz))))))))), fz, fz, fz⟩ (R := fun d => app3 etalonref06_PsiOf_s.out R d) (Eq.mp (by kernel_rfl) H)))

theorem Gm.rti_uniq {n r : Int} (hn : 0 ≤ n) (h' : n < 72057594037927936) (h0 : 0 ≤ r) (h1 : r * r ≤ n) (h2 : n < (r + 1) * (r + 1)) : rti n = r := by

  obtain ⟨k0, k1, k2, k3⟩ := rti_spec n hn h'

  have e : (rti n + 1) * (rti n + 1) = rti n * rti n + 2 * rti n + 1 := by grind

  have a1 : r < rti n + 1 := by

    by_cases hc : r < rti n + 1

    · exact hc

    · have := Gm.sq_le (x := rti n + 1) (y := r) (by omega) (by omega); omega

  have a2 : rti n < r + 1 := by

    by_cases hc : rti n < r + 1

    · exact hc

    · have := Gm.sq_le (x := r + 1) (y := rti n) (by omega) (by omega); omega

  omega

/-- Where the reference's root is under way. -/

def RtI (n b r : Int) : Prop := 0 ≤ r ∧ r * r ≤ n ∧ ((b = 0 ∧ n < (r + 1) * (r + 1)) ∨ ∃ k : Nat, k ≤ 30 ∧ b = 2 ^ k ∧ n < (r + 2 * b) * (r + 2 * b))

theorem RtI.bd {n b r : Int} (h : RtI n b r) (h' : n < 1152921504606846976) : (0 ≤ b ∧ b ≤ 1073741824) ∧ 0 ≤ r ∧ r ≤ 1073741824 := by

  obtain ⟨h0, h1, h2⟩ := h

  have hr : r ≤ 1073741824 := by

    rcases Int.lt_or_le 1073741824 r with g | g

    · have : 1073741824 * 1073741824 ≤ r * r := Int.mul_le_mul (by omega) (by omega) (by omega) (by omega)

      omega

    · exact g

  rcases h2 with ⟨rfl, _⟩ | ⟨k, hk, rfl, _⟩

  · omega

  · have p := pow_pos k

    have : (2 : Int) ^ k ≤ 2 ^ 30 := by exact_mod_cast Nat.pow_le_pow_right (n := 2) (by decide) hk

    omega

theorem RtI.step {n b r : Int} (h : RtI n b r) (hb : ¬ b ≤ 0) : (b.tdiv 2).toNat < b.toNat ∧ ((r + b) * (r + b) ≤ n → RtI n (b.tdiv 2) (r + b)) ∧ (¬ (r + b) * (r + b) ≤ n → RtI n (b.tdiv 2) r) := by

  obtain ⟨h0, h1, h2⟩ := h

  rcases h2 with ⟨rfl, _⟩ | ⟨k, hk, e, h3⟩

  · omega

  have e2 : b.tdiv 2 = b / 2 := Int.tdiv_eq_ediv_of_nonneg (by omega)

  rw [e2]

  cases k with

  | zero =>

    have e1 : b = 1 := by rw [e]; rfl

    subst e1

    refine ⟨by decide, fun g => ⟨by omega, g, .inl ⟨rfl, ?_⟩⟩, fun g => ⟨h0, h1, .inl ⟨rfl, by omega⟩⟩⟩

    rw [show r + 1 + 1 = r + 2 * 1 by omega]; exact h3

  | succ k =>

    have e1 : b = 2 * 2 ^ k := by rw [e, Int.pow_succ]; omega

    have e3 : b / 2 = 2 ^ k := by omega

    have p := pow_pos k

    refine ⟨by omega, fun g => ⟨by omega, g, .inr ⟨k, by omega, e3, ?_⟩⟩, fun g => ⟨h0, h1, .inr ⟨k, by omega, e3, ?_⟩⟩⟩

    · rw [show r + b + 2 * (b / 2) = r + 2 * b by omega]; exact h3

    · rw [show r + 2 * (b / 2) = r + b by omega]; omega

theorem rroot_s {n : Int} (h : 0 ≤ n) (h2 : n < 72057594037927936) : Spec Tryz.prog etalonbase_Root_s ⟨[n], [], []⟩ [rti n] [] [] := by

  have h' : n < 1152921504606846976 := by omega

  obtain ⟨v, rfl, hs⟩ := rro (x0 := n) (by omega) (R := (· = rti n)) ⟨fun b r => RtI n b r, fun b _ => b.toNat, ⟨by omega, by omega, .inr ⟨30, by omega, rfl, by omega⟩⟩, fun b r hI => by

    have hb := hI.bd h'

    refine ⟨hb.1, hb.2, fun h9 => ⟨by omega, ?_⟩, fun h9 => ?_⟩

    · obtain ⟨h0, h1, h3⟩ := hI

      rcases h3 with ⟨_, h3⟩ | ⟨k, hk, e, _⟩

      · symm; exact Gm.rti_uniq h h2 h0 h1 h3

      · have p := pow_pos k

        simp only [decide_eq_true_eq] at h9; omega

    · obtain ⟨s1, s2, s3⟩ := hI.step (by simpa using h9)

      exact ⟨fun g => ⟨s2 (by simpa using g), s1⟩, fun g => ⟨s3 (by simpa using g), s1⟩⟩⟩

  exact hs

/-- The direction of m: in the first eighth. -/

def oct (m : Int) : Int × Int := if m < 524288 then hvP m else (47453132, 47453132)

/-- The reference's loop over halves. -/

theorem rloop {k : Int} {R : Int → Int → Prop} (hk : 0 < k ∧ k ≤ 524288) (hR : R (oct k).1 (oct k).2) : (∃ (I2 : Int → Int → Int → Int → Int → Int → Prop) (rk2 : Int → Int → Int → Int → Int → Int → Nat), I2 (0) (524288) (67108864) (0) (47453132) (47453132) ∧ (∀ x2 : Int, ∀ x3 : Int, ∀ x4 : Int, ∀ x5 : Int, ∀ x6 : Int, ∀ x7 : Int, I2 x2 x3 x4 x5 x6 x7 → ((0 ≤ (x2 : Int) ∧ (x2 : Int) ≤ 524288) ∧ ((0 ≤ (x3 : Int) ∧ (x3 : Int) ≤ 524288) ∧ ((0 ≤ (x4 : Int) ∧ (x4 : Int) ≤ 67108864) ∧ ((0 ≤ (x5 : Int) ∧ (x5 : Int) ≤ 67108864) ∧ ((0 ≤ (x6 : Int) ∧ (x6 : Int) ≤ 67108864) ∧ ((0 ≤ (x7 : Int) ∧ (x7 : Int) ≤ 67108864) ∧ ((((k : Int) == x3) = true → (((-9223372036854775808) ≤ ((x4) : Int) ∧ ((x4) : Int) ≤ 9223372036854775807) ∧ (((-9223372036854775808) ≤ ((x5) : Int) ∧ ((x5) : Int) ≤ 9223372036854775807) ∧ (((-9223372036854775808) ≤ ((x6) : Int) ∧ ((x6) : Int) ≤ 9223372036854775807) ∧ (((-9223372036854775808) ≤ ((x7) : Int) ∧ ((x7) : Int) ≤ 9223372036854775807) ∧ R ((x6)) ((x7))))))) ∧ (((k : Int) == x3) = false → (∃ v8 : Int, Spec Tryz.prog etalonbase_Root_s ⟨[(((x4 + x6) * (x4 + x6)) + ((x5 + x7) * (x5 + x7)))], [], []⟩ [v8] [] [] ∧ ((0 ≤ (v8 : Int) ∧ (v8 : Int) ≤ 268435456) ∧ ((((v8 : Int) == 0) = true → False) ∧ (((v8 : Int) == 0) = false → (((((((x2 + x3) : Int).tdiv 2) : Int) == k) = true → (((-9223372036854775808) ≤ ((((((x4 + x6) * 67108864) : Int).tdiv v8)) : Int) ∧ ((((((x4 + x6) * 67108864) : Int).tdiv v8)) : Int) ≤ 9223372036854775807) ∧ (((-9223372036854775808) ≤ ((((((x5 + x7) * 67108864) : Int).tdiv v8)) : Int) ∧ ((((((x5 + x7) * 67108864) : Int).tdiv v8)) : Int) ≤ 9223372036854775807) ∧ (((-9223372036854775808) ≤ ((x4) : Int) ∧ ((x4) : Int) ≤ 9223372036854775807) ∧ (((-9223372036854775808) ≤ ((x5) : Int) ∧ ((x5) : Int) ≤ 9223372036854775807) ∧ (((-9223372036854775808) ≤ ((x6) : Int) ∧ ((x6) : Int) ≤ 9223372036854775807) ∧ (((-9223372036854775808) ≤ ((x7) : Int) ∧ ((x7) : Int) ≤ 9223372036854775807) ∧ R ((((((x4 + x6) * 67108864) : Int).tdiv v8))) ((((((x5 + x7) * 67108864) : Int).tdiv v8)))))))))) ∧ ((((((x2 + x3) : Int).tdiv 2) : Int) == k) = false → ((decide ((k : Int) ≤ (((x2 + x3) : Int).tdiv 2)) = true → (I2 (x2) ((((x2 + x3) : Int).tdiv 2)) (x4) (x5) (((((x4 + x6) * 67108864) : Int).tdiv v8)) (((((x5 + x7) * 67108864) : Int).tdiv v8)) ∧ rk2 (x2) ((((x2 + x3) : Int).tdiv 2)) (x4) (x5) (((((x4 + x6) * 67108864) : Int).tdiv v8)) (((((x5 + x7) * 67108864) : Int).tdiv v8)) < rk2 x2 x3 x4 x5 x6 x7)) ∧ (decide ((k : Int) ≤ (((x2 + x3) : Int).tdiv 2)) = false → (I2 ((((x2 + x3) : Int).tdiv 2)) (x3) (((((x4 + x6) * 67108864) : Int).tdiv v8)) (((((x5 + x7) * 67108864) : Int).tdiv v8)) (x6) (x7) ∧ rk2 ((((x2 + x3) : Int).tdiv 2)) (x3) (((((x4 + x6) * 67108864) : Int).tdiv v8)) (((((x5 + x7) * 67108864) : Int).tdiv v8)) (x6) (x7) < rk2 x2 x3 x4 x5 x6 x7))))))))))))))))))) := by

  refine ⟨fun lo hi a b c d => (k = 524288 ∧ lo = 0 ∧ hi = 524288 ∧ a = 67108864 ∧ b = 0 ∧ c = 47453132 ∧ d = 47453132) ∨ (k < 524288 ∧ lo < k ∧ HvAt k (hvP k) lo hi a b c d), fun lo hi _ _ _ _ => (hi - lo).toNat, ?_, ?_⟩

  · by_cases h : k = 524288

    · exact .inl ⟨h, rfl, rfl, rfl, rfl, rfl, rfl⟩

    · exact .inr ⟨by omega, hk.1, hvAt_start (by omega) (by omega)⟩

  · intro lo hi a b c d hI

    rcases hI with ⟨rfl, rfl, rfl, rfl, rfl, rfl, rfl⟩ | ⟨hlt, hlo, hA⟩

    · exact ⟨by decide, by decide, by decide, by decide, by decide, by decide, fun _ => ⟨by decide, by decide, by decide, by decide, hR⟩, fun h => by simp at h⟩

    · obtain ⟨q0, q1, q2, q3, qa, qc, kk, qk⟩ := id hA

      have oR : oct k = hvP k := if_pos hlt

      rw [oR] at hR

      obtain ⟨s1, s2, s3, s4, s5, s6, s7, s8⟩ := sizeD qa qc

      have hr := rroot_s (n := sqD a b c d) s1 (by omega)

      have ob := okD_bis qa qc

      have ex : ((a + c) * 67108864).tdiv (rti (sqD a b c d)) = bisX a b c d := Int.tdiv_eq_ediv_of_nonneg (by omega)

      have ey : ((b + d) * 67108864).tdiv (rti (sqD a b c d)) = bisY a b c d := Int.tdiv_eq_ediv_of_nonneg (by omega)

      have em : (lo + hi).tdiv 2 = (lo + hi) / 2 := Int.tdiv_eq_ediv_of_nonneg (by omega)

      obtain ⟨t1, t2, t3, t4, t5⟩ := hvAt_step hA (by omega)

      have rb : rti (sqD a b c d) ≤ 268435456 := by omega

      obtain ⟨a1, a2, a3, a4⟩ := id qa

      obtain ⟨c1, c2, c3, c4⟩ := id qc

      obtain ⟨b1, b2, b3, b4⟩ := id ob

      refine ⟨by omega, by omega, by omega, by omega, by omega, by omega, fun h => ?_, fun _ => ⟨_, hr, ⟨by omega, rb⟩, fun h => ?_, fun _ => ?_⟩⟩

      · simp only [beq_iff_eq] at h; omega

      · simp only [beq_iff_eq] at h; omega

      · rw [ex, ey, em]

        simp only [beq_iff_eq, beq_eq_false_iff_ne, ne_eq, decide_eq_true_eq, decide_eq_false_iff_not]

        refine ⟨fun h => ⟨by omega, by omega, by omega, by omega, by omega, by omega, ?_⟩, fun h => ⟨fun g => ⟨.inr ⟨hlt, hlo, t5 (by omega)⟩, by omega⟩, fun g => ⟨.inr ⟨hlt, by omega, t4 (by omega)⟩, by omega⟩⟩⟩

        have := hvAt_fin (t4 (by omega)) h

        rw [this.1] at hR

        exact hR

theorem oct_zero : oct 0 = (67108864, 0) := by decide +kernel

theorem rti_h : rti 2251799813685248 = 47453132 := Gm.rti_uniq (by decide) (by decide) (by decide) (by decide) (by decide)

theorem drP_low {m : Int} (h : m ≤ 524288) : drP m = oct m := by

  unfold drP oct

  by_cases g : m < 524288

  · rw [if_pos g, if_pos g]

  · rw [if_neg g, if_neg g, if_pos (by omega)]

theorem drP_up {m : Int} (h : 524288 < m ∧ m < 1048576) : drP m = ((oct (1048576 - m)).2, (oct (1048576 - m)).1) := by

  unfold drP oct

  rw [if_neg (by omega), if_neg (by omega), if_pos (by omega), if_pos (by omega)]

theorem rdr_core {m : Int} (hm : 0 ≤ m ∧ m ≤ 2097152) {R : Int → Int → Prop}

    (h1 : 2097152 ≤ m → ∃ v1 : Int, ∃ v2 : Int, Spec Tryz.prog etalonref01_Direction_s ⟨[m - 2097152], [], []⟩ [v1, v2] [] [] ∧ (((-67108864) ≤ v1 ∧ v1 ≤ 67108864) ∧ (((-67108864) ≤ v2 ∧ v2 ≤ 67108864) ∧ R (0 - v1) (0 - v2))))

    (h2 : m < 2097152 → 1048576 ≤ m → ∃ v1 : Int, ∃ v2 : Int, Spec Tryz.prog etalonref01_Direction_s ⟨[m - 1048576], [], []⟩ [v1, v2] [] [] ∧ (((-67108864) ≤ v1 ∧ v1 ≤ 67108864) ∧ (((-67108864) ≤ v2 ∧ v2 ≤ 67108864) ∧ R (0 - v2) v1)))

    (h3 : m ≤ 524288 → R (oct m).1 (oct m).2)

    (h4 : 524288 < m → m < 1048576 → ∃ v1 : Int, ∃ v2 : Int, Spec Tryz.prog etalonref01_Direction_s ⟨[1048576 - m], [], []⟩ [v1, v2] [] [] ∧ (((-67108864) ≤ v1 ∧ v1 ≤ 67108864) ∧ (((-67108864) ≤ v2 ∧ v2 ≤ 67108864) ∧ R v2 v1))) :

    ∃ x y : Int, R x y ∧ Spec Tryz.prog etalonref01_Direction_s ⟨[m], [], []⟩ [x, y] [] [] := by

  have hr := rroot_s (n := 2251799813685248) (by decide) (by decide)

  rw [rti_h] at hr

  have e : m.tmod 4194304 = m := Int.tmod_eq_of_lt hm.1 (by omega)

  refine rdr hm (R := R) ?_

  rw [e]

  refine ⟨fun a => h1 (of_decide_eq_true a), fun a => ⟨fun b => h2 (by have := of_decide_eq_false a; omega) (of_decide_eq_true b), fun b => ⟨fun c => ⟨_, hr, by decide, fun z => ?_, fun z => ?_⟩, fun c => h4 (by have := of_decide_eq_false c; omega) (by have := of_decide_eq_false b; omega)⟩⟩⟩

  · have := h3 (of_decide_eq_true c)

    have z : m = 0 := by simpa using z

    rw [z, oct_zero] at this

    exact this

  · have z : ¬ m = 0 := by simpa using z

    exact rloop ⟨by omega, of_decide_eq_true c⟩ (h3 (of_decide_eq_true c))

theorem drP_bd {m : Int} (h : 0 ≤ m ∧ m ≤ 2097152) : ((-67108864) ≤ (drP m).1 ∧ (drP m).1 ≤ 67108864) ∧ ((-67108864) ≤ (drP m).2 ∧ (drP m).2 ≤ 67108864) := by

  obtain ⟨_, _, _, _, hb, _⟩ := direction_s h

  exact hb

theorem two_of {x y : Int} {V : Vs} {S : Sig} (h : ∃ a b : Int, (a = x ∧ b = y) ∧ Spec Tryz.prog S V [a, b] [] []) : Spec Tryz.prog S V [x, y] [] [] := by

  obtain ⟨a, b, ⟨rfl, rfl⟩, h⟩ := h; exact h

theorem rdr_low {m : Int} (h : 0 ≤ m ∧ m ≤ 524288) : Spec Tryz.prog etalonref01_Direction_s ⟨[m], [], []⟩ [(drP m).1, (drP m).2] [] [] := by

  rw [drP_low h.2]

  exact two_of (rdr_core (m := m) (by omega) (R := fun x y => x = (oct m).1 ∧ y = (oct m).2) (fun g => by omega) (fun _ g => by omega) (fun _ => ⟨rfl, rfl⟩) (fun g => by omega))

theorem rdr_quad {m : Int} (h : 0 ≤ m ∧ m < 1048576) : Spec Tryz.prog etalonref01_Direction_s ⟨[m], [], []⟩ [(drP m).1, (drP m).2] [] [] := by

  by_cases g : m ≤ 524288

  · exact rdr_low ⟨h.1, g⟩

  · have q := rdr_low (m := 1048576 - m) (by omega)

    have b := drP_bd (m := 1048576 - m) (by omega)

    rw [drP_low (by omega)] at q b

    rw [drP_up (by omega)]

    exact two_of (rdr_core (m := m) (by omega) (R := fun x y => x = (oct (1048576 - m)).2 ∧ y = (oct (1048576 - m)).1) (fun g => by omega) (fun _ g => by omega) (fun g => by omega) (fun _ _ => ⟨_, _, q, b.1, b.2, rfl, rfl⟩))

theorem rdirection_s {m : Int} (h : 0 ≤ m ∧ m ≤ 2097152) : Spec Tryz.prog etalonref01_Direction_s ⟨[m], [], []⟩ [(drP m).1, (drP m).2] [] [] := by

  by_cases g : m < 1048576

  · exact rdr_quad ⟨h.1, g⟩

  · by_cases g2 : m < 2097152

    · have q := rdr_quad (m := m - 1048576) (by omega)

      have b := drP_bd (m := m - 1048576) (by omega)

      rw [drP_mid (by omega)]

      exact two_of (rdr_core (m := m) (by omega) (R := fun x y => x = -(drP (m - 1048576)).2 ∧ y = (drP (m - 1048576)).1) (fun g => by omega) (fun _ _ => ⟨_, _, q, b.1, b.2, by omega, rfl⟩) (fun g => by omega) (fun _ g => by omega))

    · obtain rfl : m = 2097152 := by omega

      have q := rdr_quad (m := 0) (by omega)

      have b := drP_bd (m := 0) (by omega)

      have hm : drP 2097152 = (-(drP 0).1, -(drP 0).2) := rfl

      rw [hm]

      exact two_of (rdr_core (m := 2097152) (by omega) (R := fun x y => x = -(drP 0).1 ∧ y = -(drP 0).2) (fun _ => ⟨_, _, q, b.1, b.2, by omega, by omega⟩) (fun g => by omega) (fun g => by omega) (fun _ g => by omega))

theorem rounded_r {n : Int} (h : (-67108864) ≤ n ∧ n ≤ 67108864) : ∃ u : Bool, Spec Tryz.prog etalonref01_rounded_s ⟨[n, 64], [], []⟩ [rdiv (n * 1) 64] [u] [] := by

  obtain ⟨v, u, rfl, hs⟩ := rnd h (by decide : (64 : Int) ≤ 64 ∧ (64 : Int) ≤ 64) (R := fun v _ => v = rdiv (n * 1) 64) ⟨_, floor_s (by omega) (by decide), by omega, fun g => by

    have g := of_decide_eq_true g

    unfold rdiv; omega, fun g => by

    have g := of_decide_eq_false g

    unfold rdiv; omega⟩

  exact ⟨u, hs⟩

theorem checked_r {x y r : Int} (hx : (-67108864) ≤ x ∧ x ≤ 67108864) (hy : (-67108864) ≤ y ∧ y ≤ 67108864) (hr : 0 ≤ r ∧ r ≤ 67108864) : Spec Tryz.prog _etalonref01_B__Checked_s ⟨[x, y, r], [], []⟩ [x, y, r, 0] [] [] := by

  obtain ⟨a, b, c, d, ⟨rfl, rfl, rfl, rfl⟩, hs⟩ := rck (x0 := x) (x1 := y) (x2 := r) (by omega) (by omega) (by omega) (R := fun a b c d => a = x ∧ b = y ∧ c = r ∧ d = 0) (by

    simp only [decide_eq_true_eq, decide_eq_false_iff_not]

    refine ⟨fun _ => ⟨fun _ => ⟨fun _ => ⟨fun _ => ⟨fun _ => ⟨fun _ => by simp, fun g => ?_⟩, fun g => ?_⟩, fun g => ?_⟩, fun g => ?_⟩, fun g => ?_⟩, fun g => ?_⟩ <;> exfalso <;> omega)

  exact hs

theorem rmod_s {n : Int} (h : 0 ≤ n ∧ n ≤ 2097152) : Spec Tryz.prog etalonbase_Mod_s ⟨[n, 1048576], [], []⟩ [n % 1048576] [] [] := by

  have e : n.tmod 1048576 = n % 1048576 := Int.tmod_eq_emod_of_nonneg h.1

  obtain ⟨v, rfl, hs⟩ := rmo h (by decide : (1048576 : Int) ≤ 1048576 ∧ (1048576 : Int) ≤ 1048576) (R := (· = n % 1048576)) (by

    first

    | exact e

    | exact ⟨fun _ => e, fun g => by simp at g; omega⟩

    | exact ⟨fun g => by simp at g; omega, fun _ => e⟩)

  exact hs

theorem runit_s {psi : Int} (h : 0 ≤ psi ∧ psi ≤ 1024) : Spec Tryz.prog etalonref01_Unit_s ⟨[psi, 2048], [], []⟩ [uX psi, uY psi, uR psi, 0] [] [] := by

  have hb := drP_bd (m := 2048 * psi) (by omega)

  have bx := rdiv_bd hb.1

  have bY := rdiv_bd hb.2

  have hd := rdirection_s (m := 2048 * psi) (by omega)

  obtain ⟨w1, n1⟩ := rounded_r hb.1

  obtain ⟨w2, n2⟩ := rounded_r hb.2

  have e1 : (2048 * psi + 2048 * psi) / 2 = 2048 * psi := by omega

  have f1 := floor_s (n := 2048 * psi + 2048 * psi) (d := 2) (by omega) (by decide)

  rw [e1] at f1

  have c1 := ceil_s (n := 11 * (2048 * psi - 2048 * psi)) (d := 7) (by omega) (by decide)

  have e2 : cdiv (11 * (2048 * psi - 2048 * psi)) 7 = 0 := by rw [Int.sub_self]; decide

  rw [e2] at c1

  have em : (2048 * psi).tmod 1048576 = 2048 * psi % 1048576 := Int.tmod_eq_emod_of_nonneg (by omega)

  have hA : Spec Tryz.prog etalonref01_Arc_s ⟨[2048 * psi, 2048 * psi], [], []⟩ [uX psi, uY psi, uR psi, 0] [] [] := by

    obtain ⟨a, b, c, d, ⟨rfl, rfl, rfl, rfl⟩, hs⟩ := rar (x0 := 2048 * psi) (x1 := 2048 * psi) (by omega) (by omega) (R := fun a b c d => a = uX psi ∧ b = uY psi ∧ c = uR psi ∧ d = 0)

      (by

        refine ⟨fun _ => ⟨_, f1, by omega, _, _, hd, _, _, n1, _, _, n2, _, c1, by decide, fun _ => ⟨_, rmod_s (by omega), fun g => ?_, fun g => ?_⟩, fun g => by simp at g⟩, fun g => by simp at g⟩

        · refine ⟨_, _, _, _, checked_r (by omega) (by omega) (by decide), rfl, rfl, ?_, rfl⟩

          unfold uR; rw [em, if_pos (by simpa using g)]

        · refine ⟨_, _, _, _, checked_r (by omega) (by omega) (by decide), rfl, rfl, ?_, rfl⟩

          unfold uR; rw [em, if_neg (by simpa using g)]; rfl)

    exact hs

  have g1 := floor_s (n := psi * 4194304) (d := 2048) (by omega) (by decide)

  have g2 := ceil_s (n := psi * 4194304) (d := 2048) (by omega) (by decide)

  have e3 : psi * 4194304 / 2048 = 2048 * psi := by omega

  have e4 : cdiv (psi * 4194304) 2048 = 2048 * psi := by unfold cdiv; omega

  have g3 := floor_s (n := 2048 * psi) (d := 4194304) (by omega) (by decide)

  have e5 : 2048 * psi / 4194304 = 0 := by omega

  rw [e3] at g1

  rw [e4] at g2

  rw [e5] at g3

  have w : IntKind.i64.wrap (2048 * psi - IntKind.i64.wrap (0 * 4194304)) = 2048 * psi := by

    rw [show IntKind.i64.wrap (0 * 4194304) = 0 by decide, Int.sub_zero]; exact wrapI (by omega)

  have hO : Spec Tryz.prog etalonref01_arcOf_s ⟨[psi, 2048], [], []⟩ [uX psi, uY psi, uR psi, 0] [] [] := by

    obtain ⟨a, b, c, d, ⟨rfl, rfl, rfl, rfl⟩, hs⟩ := rao h (by decide : (2048 : Int) ≤ 2048 ∧ (2048 : Int) ≤ 2048) (R := fun a b c d => a = uX psi ∧ b = uY psi ∧ c = uR psi ∧ d = 0)

      ⟨_, g1, _, g2, _, g3, by rw [w]; exact ⟨_, _, _, _, hA, rfl, rfl, rfl, rfl⟩⟩

    exact hs

  obtain ⟨a, b, c, d, ⟨rfl, rfl, rfl, rfl⟩, hs⟩ := run h (by decide : (2048 : Int) ≤ 2048 ∧ (2048 : Int) ≤ 2048) (R := fun a b c d => a = uX psi ∧ b = uY psi ∧ c = uR psi ∧ d = 0) ⟨_, _, _, _, hO, rfl, rfl, rfl, rfl⟩

  exact hs

theorem rparts_s {x y r : Int} (hx : (-67108864) ≤ x ∧ x ≤ 67108864) (hy : (-67108864) ≤ y ∧ y ≤ 67108864) (hr : 0 ≤ r ∧ r ≤ 67108864) : Spec Tryz.prog etalonref01_PartsOf_s ⟨[x, y, r], [], []⟩ [x - r, x + r, y - r, y + r] [] [] := by

  obtain ⟨v0, v1, v2, v3, ⟨rfl, rfl, rfl, rfl⟩, hs⟩ := rpo hx hy hr (R := fun a b c d => a = x - r ∧ b = x + r ∧ c = y - r ∧ d = y + r) (by simp)

  exact hs

end Go.Proofs.YtbeflbedopjhpaaGreat.Ev
